/- The walk of span.Check: it answers whether the list is plain. -/
import Derived.Test.YtgmkchkaceciiaaProg
import Derived.Test.YtgmkchkaceciiaaSpWords
import Derived.WalkKit
import Derived.WalkSpells
import Derived.WalkLawsBesides
import Derived.BigQuiet
import Derived.Deep.QuietTactic
import Derived.Lib.Hide
namespace Go.Proofs.Ytgmkchkaceciiaa.Sp
set_option maxRecDepth 100000
open Go Go.RowKit

theorem below_drewN {B : Nat} {a w : World} (h : Below B a w) (n : Nat) : Below B a (w.drewN n) := ⟨h.os, h.tape, h.output, h.size, h.block⟩
theorem ret_bool {a b : Bool} (h : a = b) : Ending.returned (.bool a) = .returned (.bool b) := by rw [h]

def RetB (b : Bool) (w : World) (e : Ending) (w' : World) : Prop := e = .returned (.bool b) ∧ Below w.heap.size w w'
noncomputable def plainB (l : List Span) : Bool := @decide (Plain l) (Classical.propDecidable _)
theorem plainB_true {l : List Span} (h : Plain l) : plainB l = true := by unfold plainB; simpa using h
theorem plainB_false {l : List Span} (h : ¬ Plain l) : plainB l = false := by unfold plainB; simpa using h
theorem of_plainB {l : List Span} (h : plainB l = true) : Plain l := by unfold plainB at h; simpa using h
theorem not_plain_ok {l : List Span} {k : Nat} {lo hi : Int} (hk : ∃ hl : k < l.length, l[k] = (lo, hi)) (h : hi < lo ∨ lo < -1073741824 ∨ 1073741824 < hi) : false = plainB l := by
  obtain ⟨hl, e⟩ := hk
  refine (plainB_false fun hp => ?_).symm
  have := (hp.at_ hl).1
  rw [e] at this
  unfold Ok at this
  simp only at this
  omega
theorem not_plain_next {l : List Span} {k : Nat} {lo hi lo' hi' : Int} (hk' : ∃ hl : k < l.length, l[k] = (lo', hi')) (hk : ∃ hl : k + 1 < l.length, l[k + 1] = (lo, hi)) (h : lo ≤ hi' + 1) : false = plainB l := by
  obtain ⟨hl, e⟩ := hk
  obtain ⟨hl', e'⟩ := hk'
  refine (plainB_false fun hp => ?_).symm
  have := (hp.at_ hl').2 _ (drop_head hl)
  rw [e, e'] at this
  simp only at this
  omega
theorem plain_take_zero {l : List Span} {lo hi : Int} (hk : ∃ hl : 0 < l.length, l[0] = (lo, hi)) (h1 : ¬ hi < lo) (h2 : ¬ lo < -1073741824) (h3 : ¬ 1073741824 < hi) : Plain (l.take (0 + 1)) := by
  obtain ⟨hl, e⟩ := hk
  rw [List.take_succ_eq_append_getElem hl, e]
  exact Plain.nil.snoc ⟨by simp only; omega, by simp only; omega, by simp only; omega⟩ (fun q hq => by simp at hq)
theorem plain_take_next {l : List Span} {k : Nat} {lo hi lo' hi' : Int} (hp : Plain (l.take (k + 1))) (hk' : ∃ hl : k < l.length, l[k] = (lo', hi')) (hk : ∃ hl : k + 1 < l.length, l[k + 1] = (lo, hi)) (h1 : ¬ hi < lo) (h2 : ¬ lo < -1073741824) (h3 : ¬ 1073741824 < hi) (h : hi' + 1 < lo) :
    Plain (l.take (k + 1 + 1)) := by
  obtain ⟨hl, e⟩ := hk
  obtain ⟨hl', e'⟩ := hk'
  rw [List.take_succ_eq_append_getElem hl, e]
  refine hp.snoc ⟨by simp only; omega, by simp only; omega, by simp only; omega⟩ (fun q hq => ?_)
  rw [List.take_succ_eq_append_getElem hl', e'] at hp hq
  rcases List.mem_append.1 hq with hq | hq
  · have h4 := hp.append.2.2 q hq _ (List.mem_singleton.2 rfl)
    have h5 := hp.2 (lo', hi') (by simp)
    unfold Ok at h5
    simp only at *
    omega
  · obtain rfl := List.mem_singleton.1 hq
    simp only; omega
theorem plain_last {l : List Span} {k : Nat} {lo hi : Int} (hp : Plain (l.take (k + 1))) (hk : ∃ hl : k < l.length, l[k] = (lo, hi)) : -1073741824 ≤ hi ∧ hi ≤ 1073741824 := by
  obtain ⟨hl, e⟩ := hk
  rw [List.take_succ_eq_append_getElem hl, e] at hp
  have h5 := hp.2 (lo, hi) (by simp)
  unfold Ok at h5
  simp only at h5
  omega

def ChkRel (l : List Span) (n : Nat) (w : World) (i : Value) (wr : World) : Prop := ∃ k : Nat, k ≤ n ∧ i = .int .i64 k ∧ Plain (l.take k) ∧ Below w.heap.size w wr

set_option maxHeartbeats 400000 in
theorem check_any (A : Option Addr) (n c : Nat) (l : List Span) (w : World) (h : RS w w.heap.size A n l) (hn : n ≤ 1099511627776) :
    Calls Try.prog 38 #[.slice A n c] w (RetB (plainB l) w) := by
  go_enter Try.func38, Try.ntmps38
  go_wp2_with (fail)
  go_loopw [7] (fun i wr => ChkRel l n w i wr) (fun i _ => n - (intOf i).toNat)
  case atStart => exact ⟨0, Nat.zero_le _, rfl, Plain.nil, Below.refl _ _⟩
  case round =>
    obtain ⟨k, hk, rfl, hp, hb⟩ := hrel
    have HP := Lib.hid hp; clear hp
    by_cases hlt : k < n
    · have hr := h.below hb
      obtain ⟨b, off, lo, hi, hA, hbB, hlk, hc1, hc2⟩ := hr.at_ hlt
      have hbs : b < wr.heap.size := by have := hb.size; omega
      have HL := Lib.hid hlk; clear hlk
      subst hA
      by_cases a1 : hi < lo
      · go_wp2_with (fail)
        go_ret
        exact ⟨ret_bool (not_plain_ok HL.out (by omega)), hb.alloc hb.size _⟩
      · by_cases a2 : lo < -1073741824
        · go_wp2_with (fail)
          go_ret
          exact ⟨ret_bool (not_plain_ok HL.out (by omega)), hb.alloc hb.size _⟩
        · by_cases a3 : 1073741824 < hi
          · go_wp2_with (fail)
            go_ret
            exact ⟨ret_bool (not_plain_ok HL.out (by omega)), hb.alloc hb.size _⟩
          · rcases k with _ | m
            · have hd : decide ((0 : Int) < ((0 : Nat) : Int)) = false := by simp
              simp only [Nat.zero_mul, Nat.add_zero] at hc1 hc2
              go_wp2_with (fail)
              go_quiet (fail)
              go_wp2_with (fail)
              go_roundw
              case rel => exact ⟨0 + 1, by omega, by go_num, plain_take_zero HL.out (by omega) (by omega) (by omega), below_drewN (hb.alloc hb.size _) _⟩
              case measure => simp [intOf]; omega
            · obtain ⟨b', off', lo', hi', hA, _, hlk', hc1', hc2'⟩ := hr.at_ (k := m) (by omega)
              injection hA with hA
              injection hA with e1 e2 _
              subst e1 e2
              have hi1 := plain_last HP.out hlk'
              have HL' := Lib.hid hlk'; clear hlk'
              have hd : decide ((0 : Int) < ((m + 1 : Nat) : Int)) = true := by simp
              by_cases a4 : lo ≤ hi' + 1
              · go_wp2_with (fail)
                go_quiet (fail)
                go_wp2_with (fail)
                go_ret
                exact ⟨ret_bool (not_plain_next HL'.out HL.out a4), below_drewN (hb.alloc hb.size _) _⟩
              · go_wp2_with (fail)
                go_quiet (fail)
                go_wp2_with (fail)
                go_roundw
                case rel => exact ⟨m + 1 + 1, by omega, by go_num, plain_take_next HP.out HL'.out HL.out (by omega) (by omega) (by omega) (by omega), below_drewN (hb.alloc hb.size _) _⟩
                case measure => simp [intOf]; omega
    · have hkn : k = n := by omega
      have hl : Plain l := by have := HP.out; rwa [List.take_of_length_le (by have := h.1; omega)] at this
      have HB := Lib.hid (plainB_true hl)
      clear hkn hl
      go_wp2_with (fail)
      go_ret
      exact ⟨ret_bool HB.out.symm, hb⟩
end Go.Proofs.Ytgmkchkaceciiaa.Sp
