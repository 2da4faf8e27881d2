/- Bytes fit a row of the table just if they are scanned as one scalar, whole. -/
import Derived.Test.YtjhgboncipnkeaaDoorUtSets
namespace Go.Proofs.YtjhgboncipnkeaaDoor.Ut
set_option maxRecDepth 100000
open Go Go.RowKit Go.Proofs.YtjhgboncipnkeaaDoor.Wo

def setAt (i k : Nat) : Int × Int := (setsN i (rowT i).2.2.1).getD k (1, 0)
def okAt (i : Nat) (l : List Int) (k : Nat) : Prop := (setAt i k).1 ≤ l.getD k 256 ∧ l.getD k 256 ≤ (setAt i k).2
def fits (i : Nat) (l : List Int) : Prop := l.length = (rowT i).2.2.1 + 1 ∧ ∀ k, k < l.length → okAt i l k
theorem setAt_zero (i : Nat) : setAt i 0 = ((rowT i).1, (rowT i).2.1) := rfl
theorem setAt_succ (i q : Nat) (h : q < (rowT i).2.2.1) : setAt i (q + 1) = (if q = 0 then (rowT i).2.2.2.1 else 128, if q = 0 then (rowT i).2.2.2.2 else 191) := by
  unfold setAt setsN
  rw [List.getD_cons_succ, List.getD_eq_getElem?_getD, List.getElem?_map, List.getElem?_range h]
  by_cases e : q = 0
  · subst e; rfl
  · simp [e]
theorem rowGo_ok (f t : Int) (l : List Int) : ∀ (j i : Nat) (x : Int), ((rowGo f t l j i x).2.2 = true ∧ (rowGo f t l j i x).2.1 = (l.length : Int)) ↔ (l.length = i + j + 1 ∧ ∀ q, i ≤ q → q < i + j → (if q = 0 then f else 128) ≤ l.getD (q + 1) 256 ∧ l.getD (q + 1) 256 ≤ (if q = 0 then t else 191)) := by
  intro j
  induction j with
  | zero =>
    intro i x
    rw [rowGo]
    constructor
    · rintro ⟨_, h⟩
      have h' : 1 + (i : Int) = (l.length : Int) := h
      exact ⟨by omega, fun q h1 h2 => by omega⟩
    · rintro ⟨h, _⟩
      exact ⟨rfl, by show 1 + (i : Int) = (l.length : Int); omega⟩
  | succ j ih =>
    intro i x
    rw [rowGo]
    by_cases hc : (if i = 0 then f else 128) ≤ l.getD (i + 1) 256 ∧ l.getD (i + 1) 256 ≤ (if i = 0 then t else 191)
    · rw [if_pos hc, ih]
      constructor
      · rintro ⟨h1, h2⟩
        refine ⟨by omega, fun q h3 h4 => ?_⟩
        by_cases e : q = i
        · subst e; exact hc
        · exact h2 q (by omega) (by omega)
      · rintro ⟨h1, h2⟩
        exact ⟨by omega, fun q h3 h4 => h2 q (by omega) (by omega)⟩
    · rw [if_neg hc]
      constructor
      · rintro ⟨h, _⟩; cases h
      · rintro ⟨_, h⟩; exact absurd (h i (Nat.le_refl _) (by omega)) hc
theorem first_one {i i' : Nat} (hi : i < 9) (hi' : i' < 9) {a : Int} (h1 : (rowT i).1 ≤ a) (h2 : a ≤ (rowT i).2.1) (h3 : (rowT i').1 ≤ a) (h4 : a ≤ (rowT i').2.1) : i = i' := by
  obtain rfl | rfl | rfl | rfl | rfl | rfl | rfl | rfl | rfl : i = 0 ∨ i = 1 ∨ i = 2 ∨ i = 3 ∨ i = 4 ∨ i = 5 ∨ i = 6 ∨ i = 7 ∨ i = 8 := by omega
  all_goals
    obtain rfl | rfl | rfl | rfl | rfl | rfl | rfl | rfl | rfl : i' = 0 ∨ i' = 1 ∨ i' = 2 ∨ i' = 3 ∨ i' = 4 ∨ i' = 5 ∨ i' = 6 ∨ i' = 7 ∨ i' = 8 := by omega
    all_goals first | rfl | (simp only [rowT] at h1 h2 h3 h4; omega)
theorem fits_iff (i : Nat) (l : List Int) : fits i l ↔ (l.length = (rowT i).2.2.1 + 1 ∧ ((rowT i).1 ≤ l.getD 0 256 ∧ l.getD 0 256 ≤ (rowT i).2.1) ∧ ∀ q, q < (rowT i).2.2.1 → (if q = 0 then (rowT i).2.2.2.1 else 128) ≤ l.getD (q + 1) 256 ∧ l.getD (q + 1) 256 ≤ (if q = 0 then (rowT i).2.2.2.2 else 191)) := by
  constructor
  · rintro ⟨h1, h2⟩
    refine ⟨h1, ?_, fun q hq => ?_⟩
    · have := h2 0 (by omega); unfold okAt at this; rw [setAt_zero] at this; exact this
    · have := h2 (q + 1) (by omega); unfold okAt at this; rw [setAt_succ i q hq] at this; exact this
  · rintro ⟨h1, h2, h3⟩
    refine ⟨h1, fun k hk => ?_⟩
    unfold okAt
    cases k with
    | zero => rw [setAt_zero]; exact h2
    | succ q => rw [setAt_succ i q (by omega)]; exact h3 q (by omega)
theorem rows_scan (l : List Int) (hl : ByteL l) : ((scanAt l 0).2.2 = true ∧ (scanAt l 0).2.1 = (l.length : Int)) ↔ ∃ i, i < 9 ∧ fits i l := by
  by_cases hn : l.length = 0
  · have e : scanAt l 0 = (0, 0, false) := if_pos (.inr (by omega))
    rw [e]
    constructor
    · rintro ⟨h, _⟩; cases h
    · rintro ⟨i, _, h, _⟩; omega
  · have e : scanAt l 0 = scanL l := by unfold scanAt; rw [if_neg (by omega)]; rfl
    rw [e]
    have h0 := (hl.getD 0).1
    by_cases hr : ∃ i, i < 9 ∧ (rowT i).1 ≤ l.getD 0 256 ∧ l.getD 0 256 ≤ (rowT i).2.1
    · obtain ⟨i, hi, h1, h2⟩ := hr
      rw [← scan_row i hi l h0 h1 h2, rowGo_ok]
      constructor
      · rintro ⟨h3, h4⟩
        exact ⟨i, hi, (fits_iff i l).2 ⟨by omega, ⟨h1, h2⟩, fun q hq => h4 q (by omega) (by omega)⟩⟩
      · rintro ⟨i', hi', hf⟩
        obtain ⟨h3, h4, h5⟩ := (fits_iff i' l).1 hf
        obtain rfl := first_one hi hi' h1 h2 h4.1 h4.2
        exact ⟨by omega, fun q _ hq => h5 q (by omega)⟩
    · rw [scan_none l h0 (fun i hi h => hr ⟨i, hi, h⟩)]
      constructor
      · rintro ⟨h, _⟩; cases h
      · rintro ⟨i, hi, hf⟩
        exact absurd ⟨i, hi, ((fits_iff i l).1 hf).2.1⟩ hr
end Go.Proofs.YtjhgboncipnkeaaDoor.Ut
