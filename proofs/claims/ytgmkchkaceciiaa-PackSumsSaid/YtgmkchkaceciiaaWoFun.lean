/- The walks of word.In, ref.In, word.Compare, word.Front, ref.Front, ref.Compare, and of the statements' helper awake. -/
import Derived.Test.YtgmkchkaceciiaaWoBase
namespace Go.Proofs.Ytgmkchkaceciiaa.Wo
set_option maxRecDepth 100000
open Go Go.RowKit

/-- Is a symbol of a sort? -/
def inS (k x : Int) : Bool := (decide (k = 1) && (decide (0 ≤ x) && decide (x ≤ 255))) || (decide (k = 2) && (decide (0 ≤ x) && decide (x < 55296) || decide (57343 < x) && decide (x ≤ 1114111)))
/-- Are all symbols of a sort? -/
def fitsS (k : Int) (l : List Int) : Bool := l.all (inS k)
theorem fits_not {k x : Int} {l : List Int} {j : Nat} (hk : ∃ hl : j < l.length, l[j] = x) (h : inS k x = false) : false = fitsS k l := by
  obtain ⟨hl, e⟩ := hk
  refine (List.all_eq_false.2 ⟨x, ?_, by rw [h]; exact Bool.false_ne_true⟩).symm
  rw [← e]; exact List.getElem_mem hl
theorem fits_next {k x : Int} {l : List Int} {j : Nat} (hk : ∃ hl : j < l.length, l[j] = x) (h : inS k x = true) (hp : fitsS k (l.take j) = true) : fitsS k (l.take (j + 1)) = true := by
  obtain ⟨hl, e⟩ := hk
  rw [List.take_succ_eq_append_getElem hl, e]
  unfold fitsS at *
  rw [List.all_append, hp, List.all_cons, h]
  rfl
def FitRel (k : Int) (l : List Int) (n : Nat) (i : Value) : Prop := ∃ j : Nat, j ≤ n ∧ i = .int .i64 j ∧ fitsS k (l.take j) = true
/-- Which of two words comes first. -/
def cmpL : List Int → List Int → Int
  | [], [] => 0
  | [], _ :: _ => -1
  | _ :: _, [] => 1
  | x :: xs, y :: ys => if x < y then -1 else if y < x then 1 else cmpL xs ys
theorem cmpL_drop {l r : List Int} {k : Nat} {x y : Int} (h : ∃ hl : k < l.length, l[k] = x) (h' : ∃ hl : k < r.length, r[k] = y) : cmpL (l.drop k) (r.drop k) = if x < y then -1 else if y < x then 1 else cmpL (l.drop (k + 1)) (r.drop (k + 1)) := by
  obtain ⟨hl, e⟩ := h
  obtain ⟨hr, e'⟩ := h'
  rw [List.drop_eq_getElem_cons hl, List.drop_eq_getElem_cons hr, cmpL, e, e']
def CmpRel (l r : List Int) (i : Value) : Prop := ∃ j : Nat, j ≤ l.length ∧ j ≤ r.length ∧ i = .int .i64 j ∧ cmpL l r = cmpL (l.drop j) (r.drop j)
end Go.Proofs.Ytgmkchkaceciiaa.Wo
