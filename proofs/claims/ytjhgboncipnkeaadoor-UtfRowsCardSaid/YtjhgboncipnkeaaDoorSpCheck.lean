/- The walk of span.Check: it answers whether the list is plain. -/
import Derived.Test.YtjhgboncipnkeaaDoorProg
import Derived.Test.YtjhgboncipnkeaaDoorSpWords
import Derived.WalkKit
import Derived.WalkSpells
import Derived.WalkLawsBesides
import Derived.BigQuiet
import Derived.Deep.QuietTactic
import Derived.Lib.Hide
namespace Go.Proofs.YtjhgboncipnkeaaDoor.Sp
set_option maxRecDepth 100000
open Go Go.RowKit

theorem below_drewN {B : Nat} {a w : World} (h : Below B a w) (n : Nat) : Below B a (w.drewN n) := ⟨h.os, h.tape, h.output, h.size, h.block⟩
theorem ret_bool {a b : Bool} (h : a = b) : Ending.returned (.bool a) = .returned (.bool b) := by rw [h]

def RetB (b : Bool) (w : World) (e : Ending) (w' : World) : Prop := e = .returned (.bool b) ∧ Below w.heap.size w w'
noncomputable def plainB (l : List Span) : Bool := @decide (Plain l) (Classical.propDecidable _)
theorem plainB_true {l : List Span} (h : Plain l) : plainB l = true := by unfold plainB; simpa using h
theorem plainB_false {l : List Span} (h : ¬ Plain l) : plainB l = false := by unfold plainB; simpa using h
theorem of_plainB {l : List Span} (h : plainB l = true) : Plain l := by unfold plainB at h; simpa using h
theorem not_plain_ok {l : List Span} {k : Nat} {lo hi : Int} (hk : ∃ hl : k < l.length, l[k] = (lo, hi)) (h : hi < lo ∨ lo < -1073741824 ∨ 1073741824 < hi) : false = plainB l := by
  obtain ⟨hl, e⟩ := hk
  refine (plainB_false fun hp => ?_).symm
  have := (hp.at_ hl).1
  rw [e] at this
  unfold Ok at this
  simp only at this
  omega
theorem not_plain_next {l : List Span} {k : Nat} {lo hi lo' hi' : Int} (hk' : ∃ hl : k < l.length, l[k] = (lo', hi')) (hk : ∃ hl : k + 1 < l.length, l[k + 1] = (lo, hi)) (h : lo ≤ hi' + 1) : false = plainB l := by
  obtain ⟨hl, e⟩ := hk
  obtain ⟨hl', e'⟩ := hk'
  refine (plainB_false fun hp => ?_).symm
  have := (hp.at_ hl').2 _ (drop_head hl)
  rw [e, e'] at this
  simp only at this
  omega
theorem plain_take_zero {l : List Span} {lo hi : Int} (hk : ∃ hl : 0 < l.length, l[0] = (lo, hi)) (h1 : ¬ hi < lo) (h2 : ¬ lo < -1073741824) (h3 : ¬ 1073741824 < hi) : Plain (l.take (0 + 1)) := by
  obtain ⟨hl, e⟩ := hk
  rw [List.take_succ_eq_append_getElem hl, e]
  exact Plain.nil.snoc ⟨by simp only; omega, by simp only; omega, by simp only; omega⟩ (fun q hq => by simp at hq)
theorem plain_take_next {l : List Span} {k : Nat} {lo hi lo' hi' : Int} (hp : Plain (l.take (k + 1))) (hk' : ∃ hl : k < l.length, l[k] = (lo', hi')) (hk : ∃ hl : k + 1 < l.length, l[k + 1] = (lo, hi)) (h1 : ¬ hi < lo) (h2 : ¬ lo < -1073741824) (h3 : ¬ 1073741824 < hi) (h : hi' + 1 < lo) :
    Plain (l.take (k + 1 + 1)) := by
  obtain ⟨hl, e⟩ := hk
  obtain ⟨hl', e'⟩ := hk'
  rw [List.take_succ_eq_append_getElem hl, e]
  refine hp.snoc ⟨by simp only; omega, by simp only; omega, by simp only; omega⟩ (fun q hq => ?_)
  rw [List.take_succ_eq_append_getElem hl', e'] at hp hq
  rcases List.mem_append.1 hq with hq | hq
  · have h4 := hp.append.2.2 q hq _ (List.mem_singleton.2 rfl)
    have h5 := hp.2 (lo', hi') (by simp)
    unfold Ok at h5
    simp only at *
    omega
  · obtain rfl := List.mem_singleton.1 hq
    simp only; omega
theorem plain_last {l : List Span} {k : Nat} {lo hi : Int} (hp : Plain (l.take (k + 1))) (hk : ∃ hl : k < l.length, l[k] = (lo, hi)) : -1073741824 ≤ hi ∧ hi ≤ 1073741824 := by
  obtain ⟨hl, e⟩ := hk
  rw [List.take_succ_eq_append_getElem hl, e] at hp
  have h5 := hp.2 (lo, hi) (by simp)
  unfold Ok at h5
  simp only at h5
  omega

def ChkRel (l : List Span) (n : Nat) (w : World) (i : Value) (wr : World) : Prop := ∃ k : Nat, k ≤ n ∧ i = .int .i64 k ∧ Plain (l.take k) ∧ Below w.heap.size w wr

end Go.Proofs.YtjhgboncipnkeaaDoor.Sp
