/- The walks of word.In, ref.In, word.Compare, word.Front, ref.Front, ref.Compare, and of the statements' helper awake. -/
import Derived.Test.YtighbbaggpnfoaaWoBase
namespace Go.Proofs.Ytighbbaggpnfoaa.Wo
set_option maxRecDepth 100000
open Go Go.RowKit

/-- Is a symbol of a sort? -/
def inS (k x : Int) : Bool := (decide (k = 1) && (decide (0 ≤ x) && decide (x ≤ 255))) || (decide (k = 2) && (decide (0 ≤ x) && decide (x < 55296) || decide (57343 < x) && decide (x ≤ 1114111)))
set_option maxHeartbeats 1000000 in
theorem in_any (k x : Int) (w : World) : Calls Try.prog 10 #[.int .i64 k, .int .i32 x] w (RetW (.bool (inS k x)) w) := by
  by_cases k1 : k = 1
  · subst k1
    by_cases a1 : 0 ≤ x <;> by_cases a2 : x ≤ 255
    all_goals
      go_enter Try.func10, Try.ntmps10
      go_wp2_with (fail)
      go_ret
      exact ⟨ret_bool (by simp [inS]; omega), rfl⟩
  · by_cases k2 : k = 2
    · subst k2
      by_cases a1 : 0 ≤ x <;> by_cases a2 : x < 55296 <;> by_cases a3 : 57343 < x <;> by_cases a4 : x ≤ 1114111
      all_goals
        go_enter Try.func10, Try.ntmps10
        go_wp2_with (fail)
        go_ret
        exact ⟨ret_bool (by simp [inS]; omega), rfl⟩
    · have h1 : (k == 1) = false := by simpa using k1
      have h2 : (k == 2) = false := by simpa using k2
      have hv : inS k x = false := by simp [inS, k1, k2]
      have HV := Lib.hid hv
      clear k1 k2 hv
      go_enter Try.func10, Try.ntmps10
      go_wp2_with (fail)
      go_ret
      exact ⟨ret_bool HV.out.symm, rfl⟩
/-- Are all symbols of a sort? -/
def fitsS (k : Int) (l : List Int) : Bool := l.all (inS k)
theorem fits_not {k x : Int} {l : List Int} {j : Nat} (hk : ∃ hl : j < l.length, l[j] = x) (h : inS k x = false) : false = fitsS k l := by
  obtain ⟨hl, e⟩ := hk
  refine (List.all_eq_false.2 ⟨x, ?_, by rw [h]; exact Bool.false_ne_true⟩).symm
  rw [← e]; exact List.getElem_mem hl
theorem fits_next {k x : Int} {l : List Int} {j : Nat} (hk : ∃ hl : j < l.length, l[j] = x) (h : inS k x = true) (hp : fitsS k (l.take j) = true) : fitsS k (l.take (j + 1)) = true := by
  obtain ⟨hl, e⟩ := hk
  rw [List.take_succ_eq_append_getElem hl, e]
  unfold fitsS at *
  rw [List.all_append, hp, List.all_cons, h]
  rfl
def FitRel (k : Int) (l : List Int) (n : Nat) (i : Value) : Prop := ∃ j : Nat, j ≤ n ∧ i = .int .i64 j ∧ fitsS k (l.take j) = true
/-- Which of two words comes first. -/
def cmpL : List Int → List Int → Int
  | [], [] => 0
  | [], _ :: _ => -1
  | _ :: _, [] => 1
  | x :: xs, y :: ys => if x < y then -1 else if y < x then 1 else cmpL xs ys
theorem cmpL_drop {l r : List Int} {k : Nat} {x y : Int} (h : ∃ hl : k < l.length, l[k] = x) (h' : ∃ hl : k < r.length, r[k] = y) : cmpL (l.drop k) (r.drop k) = if x < y then -1 else if y < x then 1 else cmpL (l.drop (k + 1)) (r.drop (k + 1)) := by
  obtain ⟨hl, e⟩ := h
  obtain ⟨hr, e'⟩ := h'
  rw [List.drop_eq_getElem_cons hl, List.drop_eq_getElem_cons hr, cmpL, e, e']
set_option maxHeartbeats 400000 in
theorem nan_any (a : Int) (W : World) : Calls Try.prog 32 #[.int .i32 a] W (RetW (.bool false) W) := by
  go_enter Try.func32, Try.ntmps32
  go_wp2
  go_ret
  exact ⟨ret_bool (by simp), rfl⟩
set_option maxHeartbeats 400000 in
theorem cmp_any (a b r : Int) (W : World) (h : r = if a < b then -1 else if b < a then 1 else 0) : Calls Try.prog 21 #[.int .i32 a, .int .i32 b] W (RetW (.int .i64 r) W) := by
  by_cases h1 : a < b
  · have H := Lib.hid (h.trans (if_pos h1)); clear h
    go_enter Try.func21, Try.ntmps21
    go_wp2_with (go_at_call 32; refine (nan_any _ _).mono ?_; rintro e w' ⟨rfl, rfl⟩)
    go_ret
    exact ⟨ret_int H.out.symm, rfl⟩
  · by_cases h2 : b < a
    · have H := Lib.hid (h.trans ((if_neg h1).trans (if_pos h2))); clear h
      go_enter Try.func21, Try.ntmps21
      go_wp2_with (go_at_call 32; refine (nan_any _ _).mono ?_; rintro e w' ⟨rfl, rfl⟩)
      go_ret
      exact ⟨ret_int H.out.symm, rfl⟩
    · have H := Lib.hid (h.trans ((if_neg h1).trans (if_neg h2))); clear h
      go_enter Try.func21, Try.ntmps21
      go_wp2_with (go_at_call 32; refine (nan_any _ _).mono ?_; rintro e w' ⟨rfl, rfl⟩)
      go_ret
      exact ⟨ret_int H.out.symm, rfl⟩
def CmpRel (l r : List Int) (i : Value) : Prop := ∃ j : Nat, j ≤ l.length ∧ j ≤ r.length ∧ i = .int .i64 j ∧ cmpL l r = cmpL (l.drop j) (r.drop j)
set_option maxHeartbeats 1000000 in
theorem scmp_any (A A' : Option Addr) (c c' : Nat) (l r : List Int) (w : World) (h : RR w w.heap.size A l.length l) (h' : RR w w.heap.size A' r.length r) (hn : l.length ≤ 1099511627776) (_hn' : r.length ≤ 1099511627776) :
    Calls Try.prog 16 #[.slice A l.length c, .slice A' r.length c'] w (RetW (.int .i64 (cmpL l r)) w) := by
  go_enter Try.func16, Try.ntmps16
  go_wp2_with (fail)
  go_loop [11] (fun i => CmpRel l r i) (fun i => l.length - (intOf i).toNat)
  case atStart => exact ⟨0, Nat.zero_le _, Nat.zero_le _, rfl, rfl⟩
  case round =>
    obtain ⟨j, hj, hj', rfl, hp⟩ := hrel
    have HP := Lib.hid hp; clear hp
    by_cases hlt : j < l.length
    · obtain ⟨b, off, x, hA, hbB, hlk, hc1⟩ := h.at_ hlt
      have HA := Lib.hid hA
      by_cases hlt' : j < r.length
      · obtain ⟨b', off', y, hA', hbB', hlk', hc1'⟩ := h'.at_ hlt'
        have HC := Lib.hid (cmp_any x y _ w rfl)
        have hd := HP.out
        rw [cmpL_drop hlk hlk'] at hd
        have HD := Lib.hid hd
        clear hd hlk hlk' HA
        rw [hA, hA']
        clear hA hA'
        by_cases q1 : x < y
        · have hv : cmpL l r = -1 := by rw [HD.out, if_pos q1]
          have HV := Lib.hid hv; clear hv
          rw [if_pos q1] at HC
          go_wp2_with (fail)
          refine HC.out.mono ?_
          rintro e w1 ⟨rfl, rfl⟩
          go_wp2_with (fail)
          go_ret
          exact ⟨ret_int HV.out.symm, rfl⟩
        · by_cases q2 : y < x
          · have hv : cmpL l r = 1 := by rw [HD.out, if_neg q1, if_pos q2]
            have HV := Lib.hid hv; clear hv
            rw [if_neg q1, if_pos q2] at HC
            go_wp2_with (fail)
            refine HC.out.mono ?_
            rintro e w1 ⟨rfl, rfl⟩
            go_wp2_with (fail)
            go_ret
            exact ⟨ret_int HV.out.symm, rfl⟩
          · have hv := HD.out
            rw [if_neg q1, if_neg q2] at hv
            have HV := Lib.hid hv; clear hv
            rw [if_neg q1, if_neg q2] at HC
            go_wp2_with (fail)
            refine HC.out.mono ?_
            rintro e w1 ⟨rfl, rfl⟩
            go_wp2_with (fail)
            go_round
            case rel => exact ⟨j + 1, by omega, by omega, by go_num, HV.out⟩
            case measure => simp [intOf]; omega
      · have hv : cmpL l r = 1 := by
          rw [HP.out, List.drop_eq_nil_of_le (show r.length ≤ j by omega), List.drop_eq_getElem_cons hlt]
          rfl
        have HV := Lib.hid hv; clear hv hlk
        rw [hA]
        clear hA HA
        go_wp2_with (fail)
        go_ret
        exact ⟨ret_int HV.out.symm, rfl⟩
    · by_cases hlr : l.length < r.length
      · have hv : cmpL l r = -1 := by
          rw [HP.out, List.drop_eq_nil_of_le (show l.length ≤ j by omega), List.drop_eq_getElem_cons (show j < r.length by omega)]
          rfl
        have HV := Lib.hid hv; clear hv
        go_wp2_with (fail)
        go_ret
        exact ⟨ret_int HV.out.symm, rfl⟩
      · have hv : cmpL l r = 0 := by
          rw [HP.out, List.drop_eq_nil_of_le (show l.length ≤ j by omega), List.drop_eq_nil_of_le (show r.length ≤ j by omega)]
          rfl
        have HV := Lib.hid hv; clear hv
        go_wp2_with (fail)
        go_ret
        exact ⟨ret_int HV.out.symm, rfl⟩
set_option maxHeartbeats 400000 in
theorem wcmp_any (A A' : Option Addr) (c c' : Nat) (l r : List Int) (w : World) (h : RR w w.heap.size A l.length l) (h' : RR w w.heap.size A' r.length r) (hn : l.length ≤ 1099511627776) (hn' : r.length ≤ 1099511627776) :
    Calls Try.prog 9 #[.slice A l.length c, .slice A' r.length c'] w (RetW (.int .i64 (cmpL l r)) w) := by
  have H := Lib.hid (scmp_any A A' c c' l r w h h' hn hn')
  go_enter Try.func9, Try.ntmps9
  go_wp2_with (fail)
  refine H.out.mono ?_
  rintro e w1 ⟨rfl, rfl⟩
  go_wp2_with (fail)
  go_ret
  exact ⟨rfl, rfl⟩
end Go.Proofs.Ytighbbaggpnfoaa.Wo
