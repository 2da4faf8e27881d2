/- The walks of word.Front, ref.Front and ref.Compare. -/
import Derived.Test.YtighbbaggpnfoaaWoFun
namespace Go.Proofs.Ytighbbaggpnfoaa.Wo
set_option maxRecDepth 100000
open Go Go.RowKit

/-- How many symbols two words begin with alike. -/
def frontL : List Int → List Int → Nat
  | x :: xs, y :: ys => if x = y then frontL xs ys + 1 else 0
  | _, _ => 0
theorem frontL_drop {l r : List Int} {k : Nat} {x y : Int} (h : ∃ hl : k < l.length, l[k] = x) (h' : ∃ hl : k < r.length, r[k] = y) : frontL (l.drop k) (r.drop k) = if x = y then frontL (l.drop (k + 1)) (r.drop (k + 1)) + 1 else 0 := by
  obtain ⟨hl, e⟩ := h
  obtain ⟨hr, e'⟩ := h'
  rw [List.drop_eq_getElem_cons hl, List.drop_eq_getElem_cons hr, frontL, e, e']
theorem frontL_nil_left (r : List Int) : frontL [] r = 0 := by cases r <;> rfl
theorem frontL_nil_right (l : List Int) : frontL l [] = 0 := by cases l <;> rfl
theorem frontL_end {l r : List Int} {k : Nat} (h : l.length ≤ k ∨ r.length ≤ k) : frontL (l.drop k) (r.drop k) = 0 := by
  rcases h with h | h
  · rw [List.drop_eq_nil_of_le h]; exact frontL_nil_left _
  · rw [List.drop_eq_nil_of_le h]; exact frontL_nil_right _
theorem frontL_le : ∀ (l r : List Int), frontL l r ≤ l.length ∧ frontL l r ≤ r.length := by
  intro l
  induction l with
  | nil => intro r; rw [frontL_nil_left]; exact ⟨Nat.zero_le _, Nat.zero_le _⟩
  | cons x l ih =>
    intro r
    cases r with
    | nil => exact ⟨Nat.zero_le _, Nat.zero_le _⟩
    | cons y r =>
      rw [frontL]
      split
      · have := ih r
        simp only [List.length_cons]; omega
      · exact ⟨Nat.zero_le _, Nat.zero_le _⟩
theorem cmpL_front : ∀ (l r : List Int), (∀ (h : frontL l r < l.length) (h' : frontL l r < r.length), l[frontL l r] ≠ r[frontL l r] ∧ cmpL l r = if l[frontL l r] < r[frontL l r] then -1 else 1) ∧
    (¬ (frontL l r < l.length ∧ frontL l r < r.length) → cmpL l r = if l.length < r.length then -1 else if r.length < l.length then 1 else 0) := by
  intro l
  induction l with
  | nil =>
    intro r
    refine ⟨fun h => absurd h (by simp), fun _ => ?_⟩
    cases r with
    | nil => rfl
    | cons y r => rw [if_pos (by simp)]; rfl
  | cons x l ih =>
    intro r
    cases r with
    | nil =>
      refine ⟨fun _ h => absurd h (by simp), fun _ => ?_⟩
      rw [if_neg (by simp), if_pos (by simp)]; rfl
    | cons y r =>
      by_cases e : x = y
      · subst e
        have hf : frontL (x :: l) (x :: r) = frontL l r + 1 := by rw [frontL, if_pos rfl]
        have hc : cmpL (x :: l) (x :: r) = cmpL l r := by rw [cmpL, if_neg (by omega), if_neg (by omega)]
        obtain ⟨h1, h2⟩ := ih r
        rw [hc]
        refine ⟨fun a b => ?_, fun a => ?_⟩
        · simp only [hf, List.length_cons] at a b
          simp only [hf, List.getElem_cons_succ]
          exact h1 (by omega) (by omega)
        · rw [hf] at a
          simp only [List.length_cons] at a ⊢
          rw [h2 (by omega)]
          simp only [Nat.add_lt_add_iff_right]
      · have hf : frontL (x :: l) (y :: r) = 0 := by rw [frontL, if_neg e]
        refine ⟨fun a b => ?_, fun a => absurd a (by rw [hf]; simp)⟩
        simp only [hf, List.getElem_cons_zero]
        refine ⟨e, ?_⟩
        rw [cmpL]
        by_cases q : x < y
        · rw [if_pos q, if_pos q]
        · rw [if_neg q, if_neg q, if_pos (by omega)]
theorem cmpL_swap : ∀ (l r : List Int), cmpL r l = -cmpL l r := by
  intro l
  induction l with
  | nil => intro r; cases r <;> rfl
  | cons x l ih =>
    intro r
    cases r with
    | nil => rfl
    | cons y r =>
      rw [cmpL, cmpL, ih r]
      by_cases q : x < y
      · rw [if_neg (by omega), if_pos q, if_pos q]; rfl
      · by_cases q2 : y < x
        · rw [if_pos q2, if_neg q, if_pos q2]
        · rw [if_neg q2, if_neg q, if_neg q, if_neg q2]
theorem cmpL_rng : ∀ (l r : List Int), -1 ≤ cmpL l r ∧ cmpL l r ≤ 1 := by
  intro l
  induction l with
  | nil => intro r; cases r <;> simp [cmpL]
  | cons x l ih =>
    intro r
    cases r with
    | nil => simp [cmpL]
    | cons y r =>
      rw [cmpL]
      have := ih r
      split
      · omega
      · split <;> omega

def FrontRel (l r : List Int) (i : Value) (w wr : World) : Prop := ∃ k : Nat, k ≤ l.length ∧ k ≤ r.length ∧ i = .int .i64 k ∧ frontL l r = frontL (l.drop k) (r.drop k) + k ∧ Below w.heap.size w wr
set_option maxHeartbeats 1000000 in
theorem rfront_any (A A' : Option Addr) (c c' : Nat) (l r : List Int) (w : World) (h : RR w w.heap.size A l.length l) (h' : RR w w.heap.size A' r.length r) (hn : l.length ≤ 1099511627776) (_hn' : r.length ≤ 1099511627776) :
    Calls Try.prog 17 #[.slice A l.length c, .slice A' r.length c'] w (RetN (frontL l r) w) := by
  go_enter Try.func17, Try.ntmps17
  go_wp2_with (fail)
  go_loopw [5] (fun i wr => FrontRel l r i w wr) (fun i _ => l.length - (intOf i).toNat)
  case atStart => exact ⟨0, Nat.zero_le _, Nat.zero_le _, rfl, rfl, Below.refl _ _⟩
  case round =>
    obtain ⟨k, hk, hk', rfl, hp, hb⟩ := hrel
    have HP := Lib.hid hp; clear hp
    by_cases hlt : k < l.length
    · by_cases hlt' : k < r.length
      · obtain ⟨b, off, x, hA, hbB, hlk, hc1⟩ := (h.below hb).at_ hlt
        obtain ⟨b', off', y, hA', hbB', hlk', hc1'⟩ := (h'.below hb).at_ hlt'
        have hd := HP.out
        rw [frontL_drop hlk hlk'] at hd
        have HD := Lib.hid hd
        clear hd hlk hlk'
        rw [hA, hA']
        clear hA hA'
        by_cases e : x = y
        · subst e
          have hv := HD.out
          rw [if_pos rfl] at hv
          have HV := Lib.hid hv; clear hv
          go_wp2_with (fail)
          go_quiet (fail)
          go_wp2_with (fail)
          go_roundw
          case rel => exact ⟨k + 1, by omega, by omega, by go_num, by rw [HV.out]; omega, below_drewN hb _⟩
          case measure => simp [intOf]; omega
        · have hv := HD.out
          rw [if_neg e, Nat.zero_add] at hv
          have HV := Lib.hid hv; clear hv
          have d3 : (x != y) = true := by simpa using e
          clear e
          go_wp2_with (fail)
          go_quiet (fail)
          go_wp2_with (fail)
          go_ret
          exact ⟨ret_int (by rw [HV.out]), below_drewN hb _⟩
      · have hv := HP.out
        rw [frontL_end (.inr (show r.length ≤ k by omega)), Nat.zero_add] at hv
        have HV := Lib.hid hv; clear hv
        by_cases q : r.length < l.length
        · go_wp2_with (fail)
          go_ret
          exact ⟨ret_int (by rw [HV.out]; omega), hb⟩
        · omega
    · have hv := HP.out
      rw [frontL_end (.inl (show l.length ≤ k by omega)), Nat.zero_add] at hv
      have HV := Lib.hid hv; clear hv
      by_cases q : r.length < l.length
      · omega
      · go_wp2_with (fail)
        go_ret
        exact ⟨ret_int (by rw [HV.out]; omega), hb⟩
set_option maxHeartbeats 1000000 in
theorem rcmp_any (A A' : Option Addr) (c c' : Nat) (l r : List Int) (w : World) (h : RR w w.heap.size A l.length l) (h' : RR w w.heap.size A' r.length r) (hn : l.length ≤ 1099511627776) (hn' : r.length ≤ 1099511627776) :
    Calls Try.prog 11 #[.slice A l.length c, .slice A' r.length c'] w (RetN (cmpL l r) w) := by
  have H := Lib.hid (rfront_any A A' c c' l r w h h' hn hn')
  obtain ⟨hcf1, hcf2⟩ := cmpL_front l r
  obtain ⟨hle1, hle2⟩ := frontL_le l r
  generalize frontL l r = f at H hle1 hle2 hcf1 hcf2
  have HC2 := Lib.hid hcf2
  clear hcf2
  go_enter Try.func11, Try.ntmps11
  go_wp2_with (fail)
  refine H.out.mono ?_
  rintro e w1 ⟨rfl, hb⟩
  by_cases h1 : f < l.length
  · by_cases h2 : f < r.length
    · obtain ⟨b, off, x, hA, hbB, ⟨hl1, hlk⟩, hc1⟩ := (h.below hb).at_ h1
      obtain ⟨b', off', y, hA', hbB', ⟨hl2, hlk'⟩, hc1'⟩ := (h'.below hb).at_ h2
      have hv := (hcf1 h1 h2).2
      rw [hlk, hlk'] at hv
      have HV := Lib.hid hv
      clear hv hcf1 hlk hlk'
      rw [hA, hA']
      clear hA hA'
      by_cases q : x < y
      · have hv := HV.out
        rw [if_pos q] at hv
        have HV2 := Lib.hid hv; clear hv
        go_wp2_with (fail)
        go_quiet (fail)
        go_wp2_with (fail)
        go_ret
        exact ⟨ret_int HV2.out.symm, below_drewN hb _⟩
      · have hv := HV.out
        rw [if_neg q] at hv
        have HV2 := Lib.hid hv; clear hv
        go_wp2_with (fail)
        go_quiet (fail)
        go_wp2_with (fail)
        go_ret
        exact ⟨ret_int HV2.out.symm, below_drewN hb _⟩
    · have hv := HC2.out (by omega)
      have HV := Lib.hid hv
      clear hv hcf1
      have q1 : ¬ l.length < r.length := by omega
      have q2 : r.length < l.length := by omega
      have hv := HV.out
      rw [if_neg q1, if_pos q2] at hv
      have HV2 := Lib.hid hv; clear hv
      go_wp2_with (fail)
      go_ret
      exact ⟨ret_int HV2.out.symm, hb⟩
  · have hv := HC2.out (by omega)
    have HV := Lib.hid hv
    clear hv hcf1
    by_cases q1 : l.length < r.length
    · have hv := HV.out
      rw [if_pos q1] at hv
      have HV2 := Lib.hid hv; clear hv
      go_wp2_with (fail)
      go_ret
      exact ⟨ret_int HV2.out.symm, hb⟩
    · have hv := HV.out
      rw [if_neg q1, if_neg (by omega)] at hv
      have HV2 := Lib.hid hv; clear hv
      go_wp2_with (fail)
      go_ret
      exact ⟨ret_int HV2.out.symm, hb⟩
end Go.Proofs.Ytighbbaggpnfoaa.Wo
