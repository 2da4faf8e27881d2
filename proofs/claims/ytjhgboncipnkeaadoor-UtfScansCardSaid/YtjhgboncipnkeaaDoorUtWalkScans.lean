/- The walk of UtfScans. -/
import Derived.Test.YtjhgboncipnkeaaDoorUtRScan
import Derived.Test.YtjhgboncipnkeaaDoorUtAwake
namespace Go.Proofs.YtjhgboncipnkeaaDoor.Ut
set_option maxRecDepth 100000
open Go Go.RowKit Go.Proofs.YtjhgboncipnkeaaDoor.Wo

set_option maxHeartbeats 4000000 in
theorem walk_UtfScans (A : Option Addr) (c : Nat) (l : List Int) (n : Int) (w : World) (hT : Tabs w) (h : RY w w.heap.size A l.length l) (hc : l.length ≤ c) (hm : l.length ≤ maxLen) (hx : ∀ x ∈ l, 0 ≤ x ∧ x ≤ 255) (hn0 : -9223372036854775808 ≤ n) (hn1 : n ≤ 9223372036854775807) :
    Calls Tryd.prog 4 #[.slice A l.length c, .int .i64 n] w (RetB true w) := by
  unfold maxLen at hm
  have HAW := Lib.hid (fun W (hb : Below w.heap.size w W) => awake_any W (hT.below hb hT.2.2))
  by_cases hbig : 2000 < l.length
  · clear h
    go_enter Tryd.func4, Tryd.ntmps4
    go_wp2_with (go_at_call 13; refine (HAW.out _ (Below.refl _ _)).mono ?_; rintro e w8 ⟨rfl, hb8⟩)
    go_ret
    exact ⟨rfl, hb8⟩
  have HS := Lib.hid (scan_any A l.length c l n w h hx hc (by omega) hT.1 hT.2.1 hT.2.2)
  by_cases hr : n < 0 ∨ (l.length : Int) ≤ n
  · have e : scanAt l n = (0, 0, false) := if_pos hr
    rw [e] at HS
    have d : (n < 0) = True ∨ ((n < 0) = False ∧ decide ((l.length : Int) ≤ n) = true) := by
      by_cases q : n < 0
      · exact .inl (eq_true q)
      · exact .inr ⟨eq_false q, decide_eq_true (by omega)⟩
    clear h e hT
    rcases hr with q | q
    · have d1 : decide (n < 0) = true := decide_eq_true q
      clear d
      go_enter Tryd.func4, Tryd.ntmps4
      go_wp2_with (fail)
      refine HS.out.mono ?_
      rintro e w1 ⟨rfl, hb1⟩
      have HB1 := Lib.hid hb1
      clear hb1
      go_wp2_with (go_at_call 13; refine (HAW.out _ HB1.out).mono ?_; rintro e w8 ⟨rfl, hb8⟩)
      go_ret
      exact ⟨rfl, HB1.out.trans (hb8.mono HB1.out.size)⟩
    · have q0 : ¬ n < 0 := by omega
      have d1 : decide (n < 0) = false := decide_eq_false q0
      have d2 : decide ((l.length : Int) ≤ n) = true := decide_eq_true q
      clear d
      go_enter Tryd.func4, Tryd.ntmps4
      go_wp2_with (fail)
      refine HS.out.mono ?_
      rintro e w1 ⟨rfl, hb1⟩
      have HB1 := Lib.hid hb1
      clear hb1
      go_wp2_with (go_at_call 13; refine (HAW.out _ HB1.out).mono ?_; rintro e w8 ⟨rfl, hb8⟩)
      go_ret
      exact ⟨rfl, HB1.out.trans (hb8.mono HB1.out.size)⟩
  · obtain ⟨k, rfl⟩ := Int.eq_ofNat_of_zero_le (by omega : 0 ≤ n)
    have hk : k < l.length := by omega
    have e : scanAt l k = scanL (l.drop k) := by unfold scanAt; rw [if_neg hr]; rfl
    rw [e] at HS
    have HR := Lib.hid (fun W (hW : Below w.heap.size w W) => refscan_any A l.length c l k W (h.belowM hW) hx hc (by omega) hk)
    obtain ⟨X, z, ok, hX⟩ : ∃ X z ok, scanL (l.drop k) = (X, z, ok) := ⟨_, _, _, rfl⟩
    rw [hX] at HS HR
    have d2 : decide (l.length ≤ k) = false := decide_eq_false (by omega)
    have d3 : decide ((l.length : Int) ≤ (k : Int)) = false := decide_eq_false (by omega)
    clear h e hT hX hr
    go_enter Tryd.func4, Tryd.ntmps4
    go_wp2_with (fail)
    refine HS.out.mono ?_
    rintro e w1 ⟨rfl, hb1⟩
    have HB1 := Lib.hid hb1
    clear hb1
    go_wp2_with (fail)
    refine (HR.out _ HB1.out).mono ?_
    rintro e w2 ⟨rfl, hb2⟩
    have HB2 := Lib.hid (HB1.out.trans (hb2.mono HB1.out.size))
    clear hb2
    go_wp2_with (go_at_call 13; refine (HAW.out _ HB2.out).mono ?_; rintro e w8 ⟨rfl, hb8⟩)
    go_ret
    exact ⟨rfl, HB2.out.trans (hb8.mono HB2.out.size)⟩
end Go.Proofs.YtjhgboncipnkeaaDoor.Ut
