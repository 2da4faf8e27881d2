/- The walks of minterm.Least and minterm.Row. -/
import Derived.Test.YthnocglfliphdaaMiAsk
import Derived.Test.YthnocglfliphdaaSpRest
import Derived.Laws.OwnMore
import Derived.Deep.OwnRows
namespace Go.Proofs.Ythnocglfliphdaa.Mi
set_option maxRecDepth 100000
open Go Go.RowKit Go.Deep Go.Proofs.Ythnocglfliphdaa.Sp

theorem exists_lay (l : List Span) : ∀ k, k ≤ l.length → ∃ out, LayInv l k out := by
  intro k
  induction k with
  | zero => exact fun _ => ⟨[], LayInv.start l⟩
  | succ k ih =>
    intro hk
    obtain ⟨out, h⟩ := ih (by omega)
    exact ⟨_, h.next (by omega)⟩
theorem exists_join (d : List Span) (hs : SortedLo d) (hd : ∀ p ∈ d, Ok p) : ∀ k, k ≤ d.length → ∃ out, JoinInv d k out := by
  intro k
  induction k with
  | zero => exact fun _ => ⟨[], JoinInv.start d⟩
  | succ k ih =>
    intro hk
    obtain ⟨out, h⟩ := ih (by omega)
    rcases List.eq_nil_or_concat out with rfl | ⟨o, r, rfl⟩
    · exact ⟨_, h.more hs hd (by omega) (fun r hr => by simp at hr)⟩
    · rw [List.concat_eq_append] at h
      by_cases hle : d[k].1 ≤ r.2 + 1
      · exact ⟨_, h.merge hd (by omega) hle⟩
      · exact ⟨_, h.more hs hd (by omega) (fun q hq => by simp at hq; subst hq; omega)⟩
theorem exists_plain (l : List Span) : ∃ p, Is p (mem l) := by
  obtain ⟨out, h⟩ := exists_lay l l.length (Nat.le_refl _)
  have hperm := List.mergeSort_perm out (fun a b => decide (a.1 ≤ b.1))
  have hsort : SortedLo (out.mergeSort fun a b => decide (a.1 ≤ b.1)) := by
    have := List.pairwise_mergeSort (le := fun (a b : Span) => decide (a.1 ≤ b.1)) (fun a b c h1 h2 => by simp at *; omega) (fun a b => by simp; omega) out
    exact this.imp fun h => by simpa using h
  obtain ⟨q, hq⟩ := exists_join _ hsort (fun p hp => h.ok p (hperm.mem_iff.1 hp)) _ (Nat.le_refl _)
  refine ⟨q, (hq.done (Nat.le_refl _)).congr fun x => ?_⟩
  rw [mem_perm hperm x, h.set, List.take_length]
/-- The one plain list of a list's set. -/
noncomputable def plainOf (l : List Span) : List Span := Classical.choose (exists_plain l)
theorem plainOf_is (l : List Span) : Is (plainOf l) (mem l) := Classical.choose_spec (exists_plain l)
noncomputable def leastOf (l : List Span) : Int := if (fstP (plainOf l)).2 = true then (fstP (plainOf l)).1 else -1
theorem leastOf_wf (l : List Span) : -1073741824 ≤ leastOf l ∧ leastOf l ≤ 1073741824 := by
  unfold leastOf
  have h := (plainOf_is l).1
  cases hp : plainOf l with
  | nil => simp [fstP]
  | cons q p =>
    rw [hp] at h
    have := h.cons.1
    unfold Ok at this
    simp only [fstP, if_true]
    omega
theorem nth_first (p : List Span) (hp : Plain p) : nthB p 0 = fstP p := by
  cases p with
  | nil => rfl
  | cons q p =>
    have := hp.cons.1
    unfold Ok at this
    simp [nthB, nth, fstP, show 0 < q.2 - q.1 + 1 from by omega]

theorem infoInt : (Try.prog.info? 3).map (fun i => (i.zero, i.size, i.bytes)) = some (some (.int .i64 0), 1, 8) := by kernel_rfl
theorem infoU8 : (Try.prog.info? 5).map (fun i => (i.zero, i.size, i.bytes)) = some (some (.int .u8 0), 1, 1) := by kernel_rfl
/-- An own row of numbers. -/
def OwnsN (q : IntKind) (e : TypeId) (w : World) (base : Nat) (v : Value) (xs : List Int) : Prop := w.ownsRow base e 1 v xs.length (xs.map (Value.int q))
theorem ownN_cell {q : IntKind} {e : TypeId} {w : World} {base g cap n : Nat} {xs : List Int} (hl : xs.length = n) (h : OwnsN q e w base (.slice (some ⟨g, 0, none⟩) n cap) xs) {j : Nat} (hj : j < n) : w.cell? ⟨g, j, none⟩ = some (.int q (xs.getD j 0)) := by
  subst hl
  rw [World.ownsRow.cellAt h j (by omega), List.getElem?_map, List.getElem?_eq_getElem hj, List.getD_eq_getElem?_getD, List.getElem?_eq_getElem hj]
  rfl
theorem ownN_frozen {q : IntKind} {e : TypeId} {w : World} {base g cap n : Nat} {xs : List Int} (hl : xs.length = n) (h : OwnsN q e w base (.slice (some ⟨g, 0, none⟩) n cap) xs) (j : Nat) : w.frozen? ⟨g, j, none⟩ = false := by
  subst hl
  exact World.ownsRow.frozenAt h j
theorem ownN_stored {q : IntKind} {e : TypeId} {w : World} {base g cap n : Nat} {xs : List Int} (hl : xs.length = n) (h : OwnsN q e w base (.slice (some ⟨g, 0, none⟩) n cap) xs) (j : Nat) (b : Int) : OwnsN q e (w.setCell ⟨g, j, none⟩ (.int q b)) base (.slice (some ⟨g, 0, none⟩) n cap) (xs.set j b) := by
  subst hl
  have := (World.ownsRow.stored h j (.int q b)).1
  unfold OwnsN
  rw [List.map_set, List.length_set]
  exact this
theorem ownN_below {q : IntKind} {e : TypeId} {w w' : World} {base : Nat} {v : Value} {xs : List Int} (h : OwnsN q e w base v xs) (hb : Below w.heap.size w w') : OwnsN q e w' base v xs := by
  have hlt := World.ownsRow.lt h
  obtain ⟨h1, h2⟩ := h
  refine ⟨h1, ?_⟩
  rcases h2 with h2 | ⟨g, cap, cur, hv, hg, hr, hrest⟩
  · exact .inl h2
  · subst hv
    exact .inr ⟨g, cap, cur, rfl, hg, (hb.block g (hlt g rfl).2).trans hr, hrest⟩
theorem set_next {xs : List Int} {f : Nat → Int} {n k : Nat} (hl : xs.length = n) (h : ∀ j, j < k → xs.getD j 0 = f j) (hk : k < n) : (xs.set k (f k)).length = n ∧ ∀ j, j < k + 1 → (xs.set k (f k)).getD j 0 = f j := by
  refine ⟨by simpa using hl, fun j hj => ?_⟩
  by_cases e : j = k
  · subst e
    rw [List.getD_eq_getElem?_getD, List.getElem?_set_self (by omega)]
    rfl
  · rw [List.getD_eq_getElem?_getD, List.getElem?_set_ne (by omega), ← List.getD_eq_getElem?_getD]
    exact h j (by omega)
noncomputable def leastAt (fam : List (List Span)) (j : Nat) : Int := leastOf (fam.getD j [])
/-- What Least gives: an own row of the least numbers. -/
def LeastOut (fam : List (List Span)) (w : World) (e : Ending) (w' : World) : Prop := ∃ (g cap : Nat) (xs : List Int), e = .returned (.slice (some ⟨g, 0, none⟩) fam.length cap) ∧ xs.length = fam.length ∧ (∀ j, j < fam.length → xs.getD j 0 = leastAt fam j) ∧ OwnsN .i64 3 w' w.heap.size (.slice (some ⟨g, 0, none⟩) fam.length cap) xs ∧ Below w.heap.size w w'
def LeastRel (fam : List (List Span)) (cap : Nat) (w : World) (i : Value) (wr : World) : Prop :=
  ∃ (k : Nat) (xs : List Int), k ≤ fam.length ∧ i = .int .i64 k ∧ xs.length = fam.length ∧ (∀ j, j < k → xs.getD j 0 = leastAt fam j) ∧ OwnsN .i64 3 wr w.heap.size (.slice (some ⟨w.heap.size, 0, none⟩) fam.length cap) xs ∧ Below w.heap.size w wr ∧ w.heap.size < wr.heap.size
noncomputable def rowAt (fam : List (List Span)) (j : Nat) : Int := classOf fam (j : Int)
/-- What Row gives: the classes of all bytes, or ErrArg. -/
def RowOut (fam : List (List Span)) (w : World) (e : Ending) (w' : World) : Prop :=
  ((∃ (g cap : Nat) (xs : List Int), e = .returned (.tuple #[.slice (some ⟨g, 0, none⟩) 256 cap, .int .i64 0]) ∧ xs.length = 256 ∧ (∀ j, j < 256 → xs.getD j 0 = rowAt fam j) ∧ (∀ j, j < 256 → 0 ≤ rowAt fam j) ∧ OwnsN .u8 5 w' w.heap.size (.slice (some ⟨g, 0, none⟩) 256 cap) xs) ∨
   (e = .returned (.tuple #[.slice none 0 0, .int .i64 1]) ∧ ∃ j, j < 256 ∧ rowAt fam j < 0)) ∧ Below w.heap.size w w'
def RowRel (fam : List (List Span)) (w : World) (i : Value) (wr : World) : Prop :=
  ∃ (k : Nat) (xs : List Int), k ≤ 256 ∧ i = .int .i64 k ∧ xs.length = 256 ∧ (∀ j, j < k → xs.getD j 0 = rowAt fam j) ∧ (∀ j, j < k → 0 ≤ rowAt fam j) ∧ OwnsN .u8 5 wr w.heap.size (.slice (some ⟨w.heap.size, 0, none⟩) 256 256) xs ∧ Below w.heap.size w wr ∧ w.heap.size < wr.heap.size
theorem u8_in : ∀ c : Int, 0 ≤ c → c < 256 → IntKind.u8.wrap c = c := by
  intro c h1 h2
  obtain ⟨n, rfl⟩ := Int.eq_ofNat_of_zero_le h1
  have : ∀ z : Nat, z < 256 → IntKind.u8.wrap (z : Int) = (z : Int) := by decide
  exact this n (by omega)
end Go.Proofs.Ythnocglfliphdaa.Mi
