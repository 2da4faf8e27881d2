/- Rows of sets of one span each, rows of such rows: how they read, how they are built by appending. -/
import Derived.Test.YtjhgboncipnkeaaDoorUtScan
import Derived.Test.YtjhgboncipnkeaaDoorUtWant
import Derived.Maps.AppendAt
import Derived.Deep.AppendLies
namespace Go.Proofs.YtjhgboncipnkeaaDoor.Ut
set_option maxRecDepth 100000
open Go Go.RowKit Go.Shelf Go.Proofs.YtjhgboncipnkeaaDoor.Wo

abbrev spanB (s : Int × Int) : Obj := .cells #[.int .i64 s.1, .int .i64 s.2] 42
abbrev oneV (b : Nat) : Value := .slice (some ⟨b, 0, none⟩) 1 1
/-- A block reads as a row of sets of one span each, and each block of it is of p. -/
def RGp (p : Nat → Prop) (w : World) (A : Option Addr) (L : List (Int × Int)) : Prop :=
  ∃ g off, A = some ⟨g, off, none⟩ ∧ p g ∧ g < w.heap.size ∧ ∀ (j : Nat) (h : j < L.length), ∃ b, p b ∧ b < w.heap.size ∧ w.cell? ⟨g, off + j, none⟩ = some (oneV b) ∧ w.heap[b]? = some (spanB L[j])
theorem RGp.keep {p q : Nat → Prop} {w w' : World} {A : Option Addr} {L : List (Int × Int)} (h : RGp p w A L) (hs : w.heap.size ≤ w'.heap.size) (hk : ∀ b, p b → b < w.heap.size → w'.heap[b]? = w.heap[b]?) (hq : ∀ b, p b → b < w.heap.size → q b) : RGp q w' A L := by
  obtain ⟨g, off, e, hp, hg, hc⟩ := h
  refine ⟨g, off, e, hq g hp hg, by omega, fun j hj => ?_⟩
  obtain ⟨b, hb, hbs, h1, h2⟩ := hc j hj
  exact ⟨b, hq b hb hbs, by omega, (World.cell?_of_block (hk g hp hg)).trans h1, (hk b hb hbs).trans h2⟩
theorem RGp.below {p : Nat → Prop} {w w' : World} {A : Option Addr} {L : List (Int × Int)} (h : RGp p w A L) (hb : Below w.heap.size w w') : RGp p w' A L :=
  h.keep hb.size (fun b _ hs => hb.block b hs) (fun _ hp _ => hp)
/-- A row of the call's own whose sets have one span each, laid in blocks of the call's own. -/
def OwnsP (w : World) (base : Nat) (v : Value) (L : List (Int × Int)) : Prop :=
  ∃ vs : List Value, w.ownsRow base 43 1 v L.length vs ∧ ∀ (j : Nat) (h : j < L.length), ∃ b, base ≤ b ∧ v.ownBlock ≠ some b ∧ b < w.heap.size ∧ vs[j]? = some (oneV b) ∧ w.heap[b]? = some (spanB L[j])
theorem own_one (w : World) (e : TypeId) (u : Value) (base : Nat) (hb : base ≤ w.heap.size) : (w.alloc (.cells #[u] e)).ownsRow base e 1 (.slice (some ⟨w.heap.size, 0, none⟩) 1 1) 1 [u] :=
  ⟨rfl, .inr ⟨w.heap.size, 1, #[u], rfl, hb, heap_alloc_new w _, Nat.le_refl _, by simp [maxLen], rfl, rfl⟩⟩
theorem OwnsP.new {w w1 w2 : World} {base : Nat} {s : Int × Int} (hb : base ≤ w.heap.size) (h1 : w.alloc (spanB s) = w1) (h2 : w1.alloc (.cells #[oneV w.heap.size] 43) = w2) : OwnsP w2 base (.slice (some ⟨w1.heap.size, 0, none⟩) 1 1) [s] := by
  subst h2
  have hs1 : w1.heap.size = w.heap.size + 1 := by rw [← h1]; simp
  refine ⟨_, own_one w1 _ _ base (by omega), fun j hj => ?_⟩
  have : j = 0 := by simp at hj; exact hj
  subst this
  have hbl : w1.heap[w.heap.size]? = some (spanB s) := by rw [← h1]; exact heap_alloc_new w _
  have hbw := (Below.refl w1.heap.size w1).alloc (Nat.le_refl _) (.cells #[oneV w.heap.size] 43)
  exact ⟨w.heap.size, hb, fun q => by simp [Value.ownBlock] at q; omega, by simp; omega, rfl, (hbw.block _ (by omega)).trans hbl⟩
theorem OwnsP.shape {w : World} {base : Nat} {v : Value} {L : List (Int × Int)} (h : OwnsP w base v L) (hn : L ≠ []) : ∃ A c, v = .slice A L.length c ∧ L.length ≤ c ∧ RGp (fun b => base ≤ b) w A L := by
  obtain ⟨vs, h1, h2⟩ := h
  have hl : 0 < L.length := List.length_pos_iff.2 hn
  rcases h1.2 with ⟨_, h0⟩ | ⟨g, cap, cur, rfl, hg, hr⟩
  · omega
  · refine ⟨_, cap, rfl, hr.2.1, g, 0, rfl, hg, (h1.lt g rfl).2, fun j hj => ?_⟩
    obtain ⟨b, q1, _, q2, q3, q4⟩ := h2 j hj
    exact ⟨b, q1, q2, by rw [Nat.zero_add, World.ownsRow.cellAt h1 j (by omega), q3], q4⟩
theorem OwnsP.below {w w' : World} {base : Nat} {v : Value} {L : List (Int × Int)} (h : OwnsP w base v L) (hb : Below w.heap.size w w') : OwnsP w' base v L := by
  obtain ⟨vs, h1, h2⟩ := h
  refine ⟨vs, own_below h1 hb, fun j hj => ?_⟩
  obtain ⟨b, q1, q2, q3, q4, q5⟩ := h2 j hj
  exact ⟨b, q1, q2, Nat.lt_of_lt_of_le q3 hb.size, q4, (hb.block b q3).trans q5⟩
theorem OwnsP.more {w w' : World} {base b : Nat} {v v' : Value} {L : List (Int × Int)} {s : Int × Int} {vs : List Value}
    (h1 : w.ownsRow base 43 1 v L.length vs) (h2 : ∀ (j : Nat) (h : j < L.length), ∃ b, base ≤ b ∧ v.ownBlock ≠ some b ∧ b < w.heap.size ∧ vs[j]? = some (oneV b) ∧ w.heap[b]? = some (spanB L[j]))
    (hb : base ≤ b) (hnb : v.ownBlock ≠ some b) (hbs : b < w.heap.size) (hbl : w.heap[b]? = some (spanB s)) (hg : w.grownBy w' v.ownBlock)
    (ho : w'.ownsRow base 43 1 v' (L.length + 1) (vs ++ [oneV b])) (hat : v'.ownBlock = v.ownBlock ∨ v'.ownBlock = some w.heap.size) : OwnsP w' base v' (L ++ [s]) := by
  have hvl : vs.length = L.length := by have := h1.1; omega
  have hz := hg.size
  have hnew : ∀ b, v.ownBlock ≠ some b → b < w.heap.size → v'.ownBlock ≠ some b := fun b q1 q2 => by
    rcases hat with e | e
    · rw [e]; exact q1
    · rw [e]; intro q; injection q with q; omega
  refine ⟨vs ++ [oneV b], by simpa using ho, fun j hj => ?_⟩
  by_cases h : j < L.length
  · obtain ⟨bj, q1, q2, q3, q4, q5⟩ := h2 j h
    rw [List.getElem_append_left h]
    exact ⟨bj, q1, hnew bj q2 q3, by omega, by rw [List.getElem?_append_left (by omega)]; exact q4, (hg.block bj q3 (fun q => q2 q.symm)).trans q5⟩
  · have e : j = L.length := by simp at hj; omega
    subst e
    rw [List.getElem_append_right (by omega)]
    simp only [Nat.sub_self, List.getElem_singleton]
    exact ⟨b, hb, hnew b hnb hbs, by omega, by rw [List.getElem?_append_right (by omega)]; simp [hvl], (hg.block b hbs (fun q => hnb q.symm)).trans hbl⟩
/-- A row of the call's own whose elements are rows of sets of one span each. -/
def OwnsQ (w : World) (base : Nat) (v : Value) (T : List (List (Int × Int))) : Prop :=
  ∃ vs : List Value, w.ownsRow base 40 1 v T.length vs ∧ ∀ (j : Nat) (h : j < T.length), ∃ A c, vs[j]? = some (.slice A T[j].length c) ∧ T[j].length ≤ c ∧ RGp (fun b => v.ownBlock ≠ some b) w A T[j]
theorem ownQ_nil (w : World) (base : Nat) : OwnsQ w base (.slice none 0 0) [] := ⟨[], World.ownsRow_nil _ _ _ _, fun j h => by simp at h⟩
theorem OwnsQ.form {w : World} {base : Nat} {v : Value} {T : List (List (Int × Int))} (h : OwnsQ w base v T) : ∃ A c, v = .slice A T.length c := by
  obtain ⟨vs, h1, _⟩ := h
  rcases h1.2 with ⟨rfl, h0⟩ | ⟨g, cap, cur, rfl, _⟩
  · exact ⟨none, 0, by rw [h0]⟩
  · exact ⟨_, _, rfl⟩
theorem OwnsQ.below {w w' : World} {base : Nat} {v : Value} {T : List (List (Int × Int))} (h : OwnsQ w base v T) (hb : Below w.heap.size w w') : OwnsQ w' base v T := by
  obtain ⟨vs, h1, h2⟩ := h
  refine ⟨vs, own_below h1 hb, fun j hj => ?_⟩
  obtain ⟨A, c, q1, q2, q3⟩ := h2 j hj
  exact ⟨A, c, q1, q2, q3.below hb⟩
theorem OwnsQ.more {w w' : World} {base : Nat} {v v' : Value} {T : List (List (Int × Int))} {L : List (Int × Int)} {A : Option Addr} {c : Nat} {vs : List Value}
    (h1 : w.ownsRow base 40 1 v T.length vs) (h2 : ∀ (j : Nat) (h : j < T.length), ∃ A c, vs[j]? = some (.slice A T[j].length c) ∧ T[j].length ≤ c ∧ RGp (fun b => v.ownBlock ≠ some b) w A T[j])
    (hc : L.length ≤ c) (hr : RGp (fun b => v.ownBlock ≠ some b) w A L) (hg : w.grownBy w' v.ownBlock)
    (ho : w'.ownsRow base 40 1 v' (T.length + 1) (vs ++ [.slice A L.length c])) (hat : v'.ownBlock = v.ownBlock ∨ v'.ownBlock = some w.heap.size) : OwnsQ w' base v' (T ++ [L]) := by
  have hvl : vs.length = T.length := by have := h1.1; omega
  have hnew : ∀ b, v.ownBlock ≠ some b → b < w.heap.size → v'.ownBlock ≠ some b := fun b q1 q2 => by
    rcases hat with e | e
    · rw [e]; exact q1
    · rw [e]; intro q; injection q with q; omega
  have hk : ∀ {A : Option Addr} {L : List (Int × Int)}, RGp (fun b => v.ownBlock ≠ some b) w A L → RGp (fun b => v'.ownBlock ≠ some b) w' A L := fun h => h.keep hg.size (fun b q1 q2 => hg.block b q2 (fun q => q1 q.symm)) hnew
  refine ⟨vs ++ [.slice A L.length c], by simpa using ho, fun j hj => ?_⟩
  by_cases h : j < T.length
  · obtain ⟨Aj, cj, q1, q2, q3⟩ := h2 j h
    rw [List.getElem_append_left h]
    exact ⟨Aj, cj, by rw [List.getElem?_append_left (by omega)]; exact q1, q2, hk q3⟩
  · have e : j = T.length := by simp at hj; omega
    subst e
    rw [List.getElem_append_right (by omega)]
    simp only [Nat.sub_self, List.getElem_singleton]
    exact ⟨A, c, by rw [List.getElem?_append_right (by omega)]; simp [hvl], hc, hk hr⟩
/-- A slice reads as a row of rows. -/
def RTs (w : World) (A : Option Addr) (T : List (List (Int × Int))) : Prop :=
  ∃ g, A = some ⟨g, 0, none⟩ ∧ g < w.heap.size ∧ ∀ (j : Nat) (h : j < T.length), ∃ A' c, w.cell? ⟨g, j, none⟩ = some (.slice A' T[j].length c) ∧ T[j].length ≤ c ∧ RGp (fun _ => True) w A' T[j]
theorem RTs.below {w w' : World} {A : Option Addr} {T : List (List (Int × Int))} (h : RTs w A T) (hb : Below w.heap.size w w') : RTs w' A T := by
  obtain ⟨g, e, hg, hc⟩ := h
  refine ⟨g, e, Nat.lt_of_lt_of_le hg hb.size, fun j hj => ?_⟩
  obtain ⟨A', c, q1, q2, q3⟩ := hc j hj
  exact ⟨A', c, (World.cell?_of_block (hb.block g hg)).trans q1, q2, q3.below hb⟩
theorem OwnsQ.reads {w : World} {base : Nat} {v : Value} {T : List (List (Int × Int))} (h : OwnsQ w base v T) (hn : T ≠ []) : ∃ A c, v = .slice A T.length c ∧ RTs w A T := by
  obtain ⟨vs, h1, h2⟩ := h
  have hl : 0 < T.length := List.length_pos_iff.2 hn
  rcases h1.2 with ⟨_, h0⟩ | ⟨g, cap, cur, rfl, hg, hr⟩
  · omega
  · refine ⟨_, cap, rfl, g, rfl, (h1.lt g rfl).2, fun j hj => ?_⟩
    obtain ⟨A, c, q1, q2, q3⟩ := h2 j hj
    exact ⟨A, c, by rw [World.ownsRow.cellAt h1 j (by omega), q1], q2, q3.keep (Nat.le_refl _) (fun _ _ _ => rfl) (fun _ _ _ => trivial)⟩
/-- The sets of a row of the table, of its first byte and of k further ones. -/
def setsN (i k : Nat) : List (Int × Int) := ((rowT i).1, (rowT i).2.1) :: (List.range k).map fun j : Nat => (if (j : Int) = 0 then (rowT i).2.2.2.1 else 128, if (j : Int) = 0 then (rowT i).2.2.2.2 else 191)
theorem setsN_len (i k : Nat) : (setsN i k).length = k + 1 := by simp [setsN]
theorem setsN_succ (i k : Nat) : setsN i (k + 1) = setsN i k ++ [(if (k : Int) = 0 then (rowT i).2.2.2.1 else 128, if (k : Int) = 0 then (rowT i).2.2.2.2 else 191)] := by simp [setsN, List.range_succ]
def rowsN (n : Nat) : List (List (Int × Int)) := (List.range n).map fun i => setsN i (rowT i).2.2.1
theorem rowsN_len (n : Nat) : (rowsN n).length = n := by simp [rowsN]
theorem rowsN_succ (n : Nat) : rowsN (n + 1) = rowsN n ++ [setsN n (rowT n).2.2.1] := by simp [rowsN, List.range_succ]
theorem rowsN_at (n i : Nat) (h : i < (rowsN n).length) : (rowsN n)[i] = setsN i (rowT i).2.2.1 := by simp [rowsN]
theorem infoSet : (Tryd.prog.info? 43).map (fun i => (i.zero, i.size, i.bytes)) = some (some (.slice none 0 0), 1, 24) := by kernel_rfl
theorem infoSets : (Tryd.prog.info? 40).map (fun i => (i.zero, i.size, i.bytes)) = some (some (.slice none 0 0), 1, 24) := by kernel_rfl
def RowsOut (w : World) (e : Ending) (w' : World) : Prop := ∃ A c, e = .returned (.slice A 9 c) ∧ RTs w' A (rowsN 9) ∧ Below w.heap.size w w'
end Go.Proofs.YtjhgboncipnkeaaDoor.Ut
