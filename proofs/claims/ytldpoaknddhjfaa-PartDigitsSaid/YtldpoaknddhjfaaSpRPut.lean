/- The walk of ref.put: a number more, at its place in a rising list that the caller owns. -/
import Derived.Test.YtldpoaknddhjfaaSpJoin
namespace Go.Proofs.Ytldpoaknddhjfaa.Sp
set_option maxRecDepth 100000
open Go Go.RowKit

def Srt (xs : List Int) : Prop := xs.Pairwise (· < ·)
def OwnsI (w : World) (base : Nat) (v : Value) (xs : List Int) : Prop := w.ownsRow base 3 1 v xs.length (xs.map (Value.int .i64))
theorem infoInt : (Try.prog.info? 3).map (fun i => (i.zero, i.size, i.bytes)) = some (some (.int .i64 0), 1, 8) := by kernel_rfl
theorem Srt.lt {xs : List Int} (h : Srt xs) {i j : Nat} (hij : i < j) (hj : j < xs.length) : xs[i] < xs[j] := List.pairwise_iff_getElem.1 h i j (by omega) hj hij
theorem Srt.ins {xs : List Int} (h : Srt xs) {x : Int} {p : Nat} (hp : p ≤ xs.length) (h1 : ∀ (i : Nat) (hi : i < xs.length), i < p → xs[i] < x) (h2 : ∀ (i : Nat) (hi : i < xs.length), p ≤ i → x < xs[i]) : Srt (xs.take p ++ x :: xs.drop p) := by
  unfold Srt
  rw [← List.take_append_drop p xs] at h
  obtain ⟨a, b, c⟩ := List.pairwise_append.1 h
  have d1 : ∀ y ∈ xs.take p, y < x := by
    intro y hy
    obtain ⟨i, hi, rfl⟩ := List.getElem_of_mem hy
    rw [List.length_take] at hi
    rw [List.getElem_take]
    exact h1 i (by omega) (by omega)
  have d2 : ∀ y ∈ xs.drop p, x < y := by
    intro y hy
    obtain ⟨i, hi, rfl⟩ := List.getElem_of_mem hy
    rw [List.length_drop] at hi
    rw [List.getElem_drop]
    exact h2 (p + i) (by omega) (by omega)
  refine List.pairwise_append.2 ⟨a, List.pairwise_cons.2 ⟨d2, b⟩, ?_⟩
  intro y hy z hz
  rcases List.mem_cons.1 hz with rfl | hz
  · exact d1 y hy
  · exact c y hy z hz
theorem mem_ins {xs : List Int} {x y : Int} (p : Nat) : y ∈ xs.take p ++ x :: xs.drop p ↔ y = x ∨ y ∈ xs := by
  have e : y ∈ xs ↔ y ∈ xs.take p ∨ y ∈ xs.drop p := by rw [← List.mem_append, List.take_append_drop]
  rw [List.mem_append, List.mem_cons, e]
  constructor
  · rintro (h | h | h)
    · exact .inr (.inl h)
    · exact .inl h
    · exact .inr (.inr h)
  · rintro (h | h | h)
    · exact .inr (.inl h)
    · exact .inl h
    · exact .inr (.inr h)

structure BS (xs : List Int) (x : Int) (lo hi : Nat) : Prop where
  le : lo ≤ hi
  top : hi ≤ xs.length
  below : ∀ (i : Nat) (h : i < xs.length), i < lo → xs[i] < x
  above : ∀ (i : Nat) (h : i < xs.length), hi ≤ i → x ≤ xs[i]
theorem BS.start (xs : List Int) (x : Int) : BS xs x 0 xs.length := ⟨Nat.zero_le _, Nat.le_refl _, fun _ _ h => by omega, fun _ _ h => by omega⟩
theorem BS.right {xs : List Int} {x : Int} {lo hi k : Nat} (h : BS xs x lo hi) (hs : Srt xs) (h1 : lo ≤ k) (h2 : k < hi) (hk : ∃ hl : k < xs.length, xs[k] < x) : BS xs x (k + 1) hi := by
  obtain ⟨hl, hk⟩ := hk
  refine ⟨by omega, h.top, fun i hi' hlt => ?_, h.above⟩
  by_cases e : i = k
  · subst e; exact hk
  · have := hs.lt (show i < k by omega) hl
    omega
theorem BS.left {xs : List Int} {x : Int} {lo hi k : Nat} (h : BS xs x lo hi) (hs : Srt xs) (h1 : lo ≤ k) (h2 : k < hi) (hk : ∃ hl : k < xs.length, x ≤ xs[k]) : BS xs x lo k := by
  obtain ⟨hl, hk⟩ := hk
  refine ⟨h1, by omega, h.below, fun i hi' hlt => ?_⟩
  by_cases e : i = k
  · subst e; exact hk
  · have := hs.lt (show k < i by omega) hi'
    omega
theorem own_cell {w : World} {base g cap : Nat} {xs : List Int} (h : OwnsI w base (.slice (some ⟨g, 0, none⟩) xs.length cap) xs) {k : Nat} (hk : k < xs.length) : w.cell? ⟨g, k, none⟩ = some (.int .i64 xs[k]) := by
  rw [World.ownsRow.cellAt h k (by omega)]
  simp [hk]

def RPutOut (w : World) (base : Nat) (xs : List Int) (x : Int) (e : Ending) (w' : World) : Prop := ∃ v' ys, e = .returned v' ∧ OwnsI w' base v' ys ∧ Srt ys ∧ (∀ y, y ∈ ys ↔ y = x ∨ y ∈ xs) ∧ ys.length ≤ xs.length + 1 ∧ Below base w w'
def ShiftRel (xs : List Int) (g cap base p : Nat) (w : World) (i : Value) (wr : World) : Prop := ∃ (k : Nat) (u : Int), p ≤ k ∧ k ≤ xs.length ∧ i = .int .i64 k ∧ OwnsI wr base (.slice (some ⟨g, 0, none⟩) (xs.take k ++ u :: xs.drop k).length cap) (xs.take k ++ u :: xs.drop k) ∧ Below base w wr
theorem len_ins (xs : List Int) (u : Int) {k : Nat} (hk : k ≤ xs.length) : (xs.take k ++ u :: xs.drop k).length = xs.length + 1 := by
  simp only [List.length_append, List.length_take, List.length_cons, List.length_drop]; omega
theorem shift_step (xs : List Int) (u : Int) {k : Nat} (hk : k + 1 ≤ xs.length) : ((xs.take (k + 1) ++ u :: xs.drop (k + 1)).map (Value.int .i64)).set (k + 1) (.int .i64 xs[k]) = (xs.take k ++ xs[k] :: xs.drop k).map (Value.int .i64) := by
  rw [← List.map_set]
  congr 1
  rw [List.set_append_right _ _ (by rw [List.length_take]; omega), List.length_take, Nat.min_eq_left hk, Nat.sub_self, List.set_cons_zero]
  rw [List.take_succ_eq_append_getElem (by omega), List.drop_eq_getElem_cons (i := k) (by omega), List.append_assoc]
  rfl
theorem ins_step (xs : List Int) (u x : Int) {k : Nat} (hk : k ≤ xs.length) : ((xs.take k ++ u :: xs.drop k).map (Value.int .i64)).set k (.int .i64 x) = (xs.take k ++ x :: xs.drop k).map (Value.int .i64) := by
  rw [← List.map_set]
  congr 1
  rw [List.set_append_right _ _ (by rw [List.length_take]; omega), List.length_take, Nat.min_eq_left hk, Nat.sub_self, List.set_cons_zero]
theorem get_ins (xs : List Int) (u : Int) {k : Nat} (hk : k + 1 ≤ xs.length) : ∃ h : k < (xs.take (k + 1) ++ u :: xs.drop (k + 1)).length, (xs.take (k + 1) ++ u :: xs.drop (k + 1))[k] = xs[k] := by
  refine ⟨by rw [len_ins _ _ hk]; omega, ?_⟩
  rw [List.getElem_append_left (by rw [List.length_take]; omega), List.getElem_take]

end Go.Proofs.Ytldpoaknddhjfaa.Sp
