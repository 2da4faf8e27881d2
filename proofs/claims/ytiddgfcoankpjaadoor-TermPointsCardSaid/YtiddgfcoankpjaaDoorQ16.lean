/- Texts of this proof, joined: SpRest, FiRow, FiRowB. -/
import Derived.Test.YtiddgfcoankpjaaDoorQ3
import Derived.Test.YtiddgfcoankpjaaDoorQ4
import Derived.Test.YtiddgfcoankpjaaDoorQ12
import Derived.Deep.RegionHeld3
import Derived.Deep.AppendLies
import Derived.IntWalk
/- The walks of ref.Count, ref.Nth, ref.At and ref.Move. -/
namespace Go.Proofs.YtiddgfcoankpjaaDoor.Sp
set_option maxRecDepth 100000
open Go Go.RowKit

end Go.Proofs.YtiddgfcoankpjaaDoor.Sp
/- A row of sets that lie elsewhere, and beside it an own row of spans: what the loops of term.joint keep. -/
namespace Go.Proofs.YtiddgfcoankpjaaDoor.Fi
set_option maxRecDepth 100000
open Go Go.RowKit Go.Proofs.YtiddgfcoankpjaaDoor.Sp Go.Proofs.YtiddgfcoankpjaaDoor.Pa Go.Proofs.YtiddgfcoankpjaaDoor.Te Go.Proofs.YtiddgfcoankpjaaDoor.Mi

theorem infoSet : (Tryd.prog.info? 30).map (fun i => (i.zero, i.size, i.bytes)) = some (some (.slice none 0 0), 1, 24) := by kernel_rfl
theorem rs_grown {w w' : World} {A : Option Addr} {n : Nat} {l : List Span} {r : Option Nat} (h : RS w w.heap.size A n l) (hg : w.grownBy w' r) (hne : ∀ b off, A = some ⟨b, off, none⟩ → r ≠ some b) : RS w' w'.heap.size A n l :=
  ⟨h.1, fun hn => by
    obtain ⟨b, off, e, hb, hc⟩ := h.2 hn
    have hk : ∀ i, w'.cell? ⟨b, i, none⟩ = w.cell? ⟨b, i, none⟩ := fun i => World.cell?_of_block (a := ⟨b, i, none⟩) (hg.block b hb (fun e2 => hne b off e e2.symm))
    exact ⟨b, off, e, by have := hg.size; omega, fun j hj => ⟨(hk _).trans (hc j hj).1, (hk _).trans (hc j hj).2⟩⟩⟩
/-- v is an own row of the sets L, which lie elsewhere; o is an own row of the spans X; all apart. -/
def LowOut (w : World) (base : Nat) (v o : Value) (L : List (List Span)) (X : List Span) : Prop :=
  ∃ vs : List Value, w.ownsRow base 30 1 v L.length vs ∧
    (∀ (j : Nat) (h : j < L.length), ∃ A c, vs[j]? = some (.slice A L[j].length c) ∧ RS w w.heap.size A L[j].length L[j] ∧ L[j].length ≤ c ∧ (A = none → L[j] = [] ∧ c = 0) ∧ ∀ b off, A = some ⟨b, off, none⟩ → b < w.heap.size ∧ v.ownBlock ≠ some b ∧ o.ownBlock ≠ some b) ∧
    OwnsL w base o X ∧ (∀ b, v.ownBlock = some b → o.ownBlock ≠ some b)
section
variable {w w' : World} {base : Nat} {v o : Value} {L : List (List Span)} {X : List Span}
theorem row_keep {w w' : World} {base : Nat} {e : TypeId} {size : Nat} {v : Value} {n : Nat} {xs : List Value} (h : w.ownsRow base e size v n xs) (hk : ∀ g, v.ownBlock = some g → w'.heap[g]? = w.heap[g]?) : w'.ownsRow base e size v n xs := by
  refine ⟨h.1, ?_⟩
  rcases h.2 with h2 | ⟨g, cap, cur, rfl, hg, hr, hrest⟩
  · exact .inl h2
  · exact .inr ⟨g, cap, cur, rfl, hg, (hk g rfl).trans hr, hrest⟩
theorem row_unique {w : World} {base : Nat} {e : TypeId} {size : Nat} {v : Value} {n : Nat} {xs ys : List Value} (h : w.ownsRow base e size v n xs) (h' : w.ownsRow base e size v n ys) : xs = ys := by
  obtain ⟨a1, h2⟩ := h
  obtain ⟨a2, h2'⟩ := h'
  rcases h2 with ⟨rfl, h0⟩ | ⟨g, cap, cur, rfl, _, hh, _, _, _, ht⟩
  · subst h0
    rw [Nat.zero_mul] at a1 a2
    rw [List.eq_nil_of_length_eq_zero a1, List.eq_nil_of_length_eq_zero a2]
  · rcases h2' with ⟨hv, _⟩ | ⟨g', cap', cur', hv, _, hh', _, _, _, ht'⟩
    · cases hv
    · simp only [Value.slice.injEq, Option.some.injEq, Addr.mk.injEq] at hv
      obtain ⟨⟨rfl, _⟩, _, _⟩ := hv
      rw [hh] at hh'
      simp only [Option.some.injEq, Obj.cells.injEq] at hh'
      obtain ⟨rfl, _⟩ := hh'
      rw [← ht, ← ht']
theorem LowOut.below (h : LowOut w base v o L X) (hb : Below w.heap.size w w') : LowOut w' base v o L X := by
  obtain ⟨vs, h1, h2, h3, h4⟩ := h
  refine ⟨vs, row_keep h1 fun g e => hb.block g (World.ownsRow.lt h1 g e).2, fun j hj => ?_, row_keep h3 fun g e => hb.block g (World.ownsRow.lt h3 g e).2, h4⟩
  obtain ⟨A, c, q1, q2, q3, q4, q5⟩ := h2 j hj
  exact ⟨A, c, q1, q2.belowM hb, q3, q4, fun b off e => ⟨Nat.lt_of_lt_of_le (q5 b off e).1 hb.size, (q5 b off e).2⟩⟩
/-- One of the sets, and its cell. -/
theorem LowOut.at_ (h : LowOut w base v o L X) {j : Nat} (hj : j < L.length) : ∃ g cap A c, v = .slice (some ⟨g, 0, none⟩) L.length cap ∧ base ≤ g ∧ g < w.heap.size ∧ w.cell? ⟨g, j, none⟩ = some (.slice A L[j].length c) ∧ RS w w.heap.size A L[j].length L[j] ∧ L[j].length ≤ c ∧ (A = none → L[j] = [] ∧ c = 0) := by
  obtain ⟨vs, h1, h2, h3, h4⟩ := h
  obtain ⟨g, cap, e, hb, hlt⟩ := World.ownsRow.form h1 (by omega)
  obtain ⟨A, c, q1, q2, q3, q4, q5⟩ := h2 j hj
  subst e
  exact ⟨g, cap, A, c, rfl, hb, hlt, by rw [World.ownsRow.cellAt h1 j (by omega), q1], q2, q3, q4⟩
theorem LowOut.row (h : LowOut w base v o L X) : ∃ vs : List Value, w.ownsRow base 30 1 v L.length vs := ⟨h.choose, h.choose_spec.1⟩
theorem LowOut.out (h : LowOut w base v o L X) : OwnsL w base o X := h.choose_spec.2.2.1
/-- A set more. -/
theorem LowOut.more {vs : List Value} {l : List Span} {A : Option Addr} {c g cap H : Nat} (h : LowOut w base v o L X) (hvs : w.ownsRow base 30 1 v L.length vs) (hr : RS w w.heap.size A l.length l) (hc : l.length ≤ c) (hA : A = none → l = [] ∧ c = 0)
    (hne : ∀ b off, A = some ⟨b, off, none⟩ → b < w.heap.size ∧ v.ownBlock ≠ some b ∧ o.ownBlock ≠ some b)
    (hg : w.grownBy w' v.ownBlock) (ho : w'.ownsRow base 30 1 (.slice (some ⟨g, 0, none⟩) (L.length + 1) cap) (L.length + 1) (vs ++ [.slice A l.length c])) (hat : v.ownBlock = some g ∨ g = H) (hH : w.heap.size ≤ H) : LowOut w' base (.slice (some ⟨g, 0, none⟩) (L.length + 1) cap) o (L ++ [l]) X := by
  obtain ⟨vs', h1, h2, h3, h4⟩ := h
  obtain rfl : vs' = vs := row_unique h1 hvs
  have hvl : vs'.length = L.length := by have := h1.1; omega
  have hnew : ∀ b, b < w.heap.size ∧ v.ownBlock ≠ some b ∧ o.ownBlock ≠ some b → b < w'.heap.size ∧ (Value.slice (some ⟨g, 0, none⟩) (L.length + 1) cap).ownBlock ≠ some b ∧ o.ownBlock ≠ some b := fun b ⟨q1, q2, q3⟩ => by
    refine ⟨by have := hg.size; omega, fun e => ?_, q3⟩
    have e : g = b := by simpa [Value.ownBlock] using e
    rcases hat with k | k
    · exact q2 (by rw [k, e])
    · omega
  refine ⟨vs' ++ [.slice A l.length c], by rw [List.length_append, List.length_singleton]; exact ho, fun j hj => ?_, ?_, fun b e => ?_⟩
  · by_cases k : j < L.length
    · obtain ⟨Aj, cj, q1, q2, q3, q4, q5⟩ := h2 j k
      rw [List.getElem_append_left k]
      exact ⟨Aj, cj, by rw [List.getElem?_append_left (by omega)]; exact q1, rs_grown q2 hg (fun b off e => (q5 b off e).2.1), q3, q4, fun b off e => hnew b (q5 b off e)⟩
    · obtain rfl : j = L.length := by simp at hj; omega
      rw [List.getElem_append_right (by omega)]
      simp only [Nat.sub_self, List.getElem_singleton]
      exact ⟨A, c, by rw [List.getElem?_append_right (by omega)]; simp [hvl], rs_grown hr hg (fun b off e => (hne b off e).2.1), hc, hA, fun b off e => hnew b (hne b off e)⟩
  · refine World.ownsRow.kept h3 hg ?_
    cases e : o.ownBlock with
    | none => exact .inl rfl
    | some b => exact .inr fun k => h4 b k.symm e
  · have e : g = b := by simpa [Value.ownBlock] using e
    subst e
    rcases hat with k | k
    · exact h4 _ k
    · exact fun e2 => by have := (World.ownsRow.lt h3 g e2).2; omega
/-- Spans more. -/
theorem LowOut.longer {Y : List Span} {g cap H : Nat} (h : LowOut w base v o L X) (hg : w.grownBy w' o.ownBlock) (ho : OwnsL w' base (.slice (some ⟨g, 0, none⟩) (X.length + Y.length) cap) (X ++ Y)) (hat : o.ownBlock = some g ∨ g = H) (hH : w.heap.size ≤ H) : LowOut w' base v (.slice (some ⟨g, 0, none⟩) (X.length + Y.length) cap) L (X ++ Y) := by
  obtain ⟨vs, h1, h2, h3, h4⟩ := h
  have hnew : ∀ b, b < w.heap.size → o.ownBlock ≠ some b → (Value.slice (some ⟨g, 0, none⟩) (X.length + Y.length) cap).ownBlock ≠ some b := fun b q1 q2 e => by
    have e : g = b := by simpa [Value.ownBlock] using e
    rcases hat with k | k
    · exact q2 (by rw [k, e])
    · omega
  refine ⟨vs, World.ownsRow.kept h1 hg ?_, fun j hj => ?_, ho, fun b e => hnew b (World.ownsRow.lt h1 b e).2 (h4 b e)⟩
  · cases e : v.ownBlock with
    | none => exact .inl rfl
    | some b => exact .inr fun k => h4 b e k.symm
  · obtain ⟨A, c, q1, q2, q3, q4, q5⟩ := h2 j hj
    exact ⟨A, c, q1, rs_grown q2 hg (fun b off e => (q5 b off e).2.2), q3, q4, fun b off e => ⟨by have := hg.size; have := (q5 b off e).1; omega, (q5 b off e).2.1, hnew b (q5 b off e).1 (q5 b off e).2.2⟩⟩
end
/-- A plain list that tells no more than so many numbers is no longer. -/
theorem plain_few {p : List Span} (hp : Plain p) {N : Nat} (F : Nat → Int) (h : ∀ y, mem p y → ∃ i, i < N ∧ F i = y) : p.length ≤ N := by
  have := spans_few p ((List.range N).map fun i => (F i, F i)) hp (fun x hx => by
    obtain ⟨i, hi, e⟩ := h x hx
    exact ⟨(F i, F i), List.mem_map.2 ⟨i, List.mem_range.2 hi, rfl⟩, by show F i ≤ x; omega, by show x ≤ F i; omega⟩) (fun q hq x y z a1 a2 a3 a4 hx hz => by
    obtain ⟨i, _, rfl⟩ := List.mem_map.1 hq
    simp only at a1 a4
    obtain rfl : y = x := by omega
    exact hx)
  simpa using this
end Go.Proofs.YtiddgfcoankpjaaDoor.Fi
/- A row of sets that lie behind it, in blocks of the call's own. -/
namespace Go.Proofs.YtiddgfcoankpjaaDoor.Fi
set_option maxRecDepth 100000
open Go Go.RowKit Go.Proofs.YtiddgfcoankpjaaDoor.Sp Go.Proofs.YtiddgfcoankpjaaDoor.Pa Go.Proofs.YtiddgfcoankpjaaDoor.Te Go.Proofs.YtiddgfcoankpjaaDoor.Mi

/-- v is an own row of the sets L, which lie in other blocks from base on. -/
def RowB (w : World) (base : Nat) (v : Value) (L : List (List Span)) : Prop :=
  ∃ vs : List Value, w.ownsRow base 30 1 v L.length vs ∧
    (∀ (j : Nat) (h : j < L.length), ∃ A c, vs[j]? = some (.slice A L[j].length c) ∧ RS w w.heap.size A L[j].length L[j] ∧ L[j].length ≤ c ∧ (A = none → L[j] = [] ∧ c = 0) ∧ ∀ b off, A = some ⟨b, off, none⟩ → base ≤ b ∧ b < w.heap.size ∧ v.ownBlock ≠ some b)
section
variable {w w' : World} {base : Nat} {v : Value} {L : List (List Span)}
theorem RowB.nil_ (w : World) (base : Nat) : RowB w base (.slice none 0 0) [] := ⟨[], World.ownsRow_nil _ _ _ _, fun j h => by simp at h⟩
theorem RowB.keep (h : RowB w base v L) (hs : w.heap.size ≤ w'.heap.size) (hk : ∀ g, base ≤ g → g < w.heap.size → w'.heap[g]? = w.heap[g]?) : RowB w' base v L := by
  obtain ⟨vs, h1, h2⟩ := h
  refine ⟨vs, row_keep h1 fun g e => hk g (World.ownsRow.lt h1 g e).1 (World.ownsRow.lt h1 g e).2, fun j hj => ?_⟩
  obtain ⟨A, c, q1, q2, q3, q4, q5⟩ := h2 j hj
  refine ⟨A, c, q1, ⟨q2.1, fun hn => ?_⟩, q3, q4, fun b off e => ⟨(q5 b off e).1, Nat.lt_of_lt_of_le (q5 b off e).2.1 hs, (q5 b off e).2.2⟩⟩
  obtain ⟨b, off, e, hb, hc⟩ := q2.2 hn
  have hkk : ∀ i, w'.cell? ⟨b, i, none⟩ = w.cell? ⟨b, i, none⟩ := fun i => World.cell?_of_block (a := ⟨b, i, none⟩) (hk b (q5 b off e).1 hb)
  exact ⟨b, off, e, by omega, fun j hj => ⟨(hkk _).trans (hc j hj).1, (hkk _).trans (hc j hj).2⟩⟩
theorem RowB.below (h : RowB w base v L) (hb : Below w.heap.size w w') : RowB w' base v L := h.keep hb.size fun g _ hg => hb.block g hg
theorem RowB.set_ (h : RowB w base v L) {E : Nat} (hE : E < base) (u : Value) : RowB (w.setCell ⟨E, 0, none⟩ u) base v L := h.keep (by simp) fun g hg _ => heap_setCell_other w ⟨E, 0, none⟩ g u (fun e => by simp at e; omega)
theorem RowB.at_ (h : RowB w base v L) {j : Nat} (hj : j < L.length) : ∃ g cap A c, v = .slice (some ⟨g, 0, none⟩) L.length cap ∧ base ≤ g ∧ g < w.heap.size ∧ w.cell? ⟨g, j, none⟩ = some (.slice A L[j].length c) ∧ RS w w.heap.size A L[j].length L[j] ∧ L[j].length ≤ c ∧ (A = none → L[j] = [] ∧ c = 0) := by
  obtain ⟨vs, h1, h2⟩ := h
  obtain ⟨g, cap, e, hb, hlt⟩ := World.ownsRow.form h1 (by omega)
  obtain ⟨A, c, q1, q2, q3, q4, q5⟩ := h2 j hj
  subst e
  exact ⟨g, cap, A, c, rfl, hb, hlt, by rw [World.ownsRow.cellAt h1 j (by omega), q1], q2, q3, q4⟩
theorem RowB.row (h : RowB w base v L) : ∃ vs : List Value, w.ownsRow base 30 1 v L.length vs := ⟨h.choose, h.choose_spec.1⟩
theorem RowB.lt (h : RowB w base v L) {g : Nat} (e : v.ownBlock = some g) : base ≤ g ∧ g < w.heap.size := by obtain ⟨vs, h1⟩ := h.row; exact World.ownsRow.lt h1 g e
/-- The list of lists that it reads as. -/
theorem RowB.reads (h : RowB w base v L) : ∃ A c, v = .slice A L.length c ∧ RGs w A L.length L ∧ L.length ≤ c := by
  obtain ⟨vs, h1, h2⟩ := h
  by_cases hn : 0 < L.length
  · obtain ⟨g, cap, e, hb, hlt⟩ := World.ownsRow.form h1 hn
    subst e
    refine ⟨_, _, rfl, ⟨rfl, fun _ => ⟨g, 0, rfl, hlt, fun j hj => ?_⟩⟩, ?_⟩
    · obtain ⟨Aj, cj, q1, q2, q3, q4, _⟩ := h2 j hj
      exact ⟨Aj, cj, by rw [Nat.zero_add, World.ownsRow.cellAt h1 j (by omega), q1], q2, q3, q4⟩
    · rcases h1.2 with ⟨e, _⟩ | ⟨g', cap', cur, e, _, _, hnc, _⟩
      · cases e
      · injection e with _ _ e
        omega
  · obtain ⟨A, c, e⟩ := own_shape h1
    have h0 : L = [] := List.eq_nil_of_length_eq_zero (by omega)
    subst h0
    exact ⟨A, c, e, RGs.nil_ _ _, Nat.zero_le _⟩
/-- A set more. -/
theorem RowB.more {vs : List Value} {l : List Span} {A : Option Addr} {c H : Nat} {v' : Value} (h : RowB w base v L) (hvs : w.ownsRow base 30 1 v L.length vs) (hr : RS w w.heap.size A l.length l) (hc : l.length ≤ c) (hA : A = none → l = [] ∧ c = 0)
    (hne : ∀ b off, A = some ⟨b, off, none⟩ → base ≤ b ∧ b < w.heap.size ∧ v.ownBlock ≠ some b)
    (hg : w.grownBy w' v.ownBlock) (ho : w'.ownsRow base 30 1 v' (L.length + 1) (vs ++ [.slice A l.length c])) (hat : v'.ownBlock = v.ownBlock ∨ v'.ownBlock = some H) (hH : w.heap.size ≤ H) : RowB w' base v' (L ++ [l]) := by
  obtain ⟨vs', h1, h2⟩ := h
  obtain rfl : vs' = vs := row_unique h1 hvs
  have hvl : vs'.length = L.length := by have := h1.1; omega
  have hnew : ∀ b, base ≤ b ∧ b < w.heap.size ∧ v.ownBlock ≠ some b → base ≤ b ∧ b < w'.heap.size ∧ v'.ownBlock ≠ some b := fun b ⟨q0, q1, q2⟩ => by
    refine ⟨q0, by have := hg.size; omega, fun e => ?_⟩
    rcases hat with k | k
    · exact q2 (by rw [← k, e])
    · rw [k] at e
      injection e with e
      omega
  refine ⟨vs' ++ [.slice A l.length c], by rw [List.length_append, List.length_singleton]; exact ho, fun j hj => ?_⟩
  by_cases k : j < L.length
  · obtain ⟨Aj, cj, q1, q2, q3, q4, q5⟩ := h2 j k
    rw [List.getElem_append_left k]
    exact ⟨Aj, cj, by rw [List.getElem?_append_left (by omega)]; exact q1, rs_grown q2 hg (fun b off e => (q5 b off e).2.2), q3, q4, fun b off e => hnew b (q5 b off e)⟩
  · obtain rfl : j = L.length := by simp at hj; omega
    rw [List.getElem_append_right (by omega)]
    simp only [Nat.sub_self, List.getElem_singleton]
    exact ⟨A, c, by rw [List.getElem?_append_right (by omega)]; simp [hvl], rs_grown hr hg (fun b off e => (hne b off e).2.2), hc, hA, fun b off e => hnew b (hne b off e)⟩
end
end Go.Proofs.YtiddgfcoankpjaaDoor.Fi
