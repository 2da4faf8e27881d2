/- The walk of UtfParts. -/
import Derived.Test.YtjhgboncipnkeaaDoorUtAwake
import Derived.Test.YtjhgboncipnkeaaDoorUtValid
import Derived.Deep.CutRange
import Derived.Deep.DeepCutAuto
namespace Go.Proofs.YtjhgboncipnkeaaDoor.Ut
set_option maxRecDepth 100000
open Go Go.RowKit Go.Proofs.YtjhgboncipnkeaaDoor.Wo

/-- Cut off anywhere a well formed sequence is one part. -/
theorem part_scan {x : Int} (h : inS 2 x = true) (k : Nat) (h1 : 1 ≤ k) (h2 : k < (encB x).length) : scanL ((encB x).take k) = (65533, (k : Int), false) := by
  have hx := (inS2 x).1 h
  unfold scanL
  rw [encB_of h] at h2 ⊢
  by_cases q1 : x ≤ 127
  · rw [Lib.encodeRuneZ_one (by omega) q1] at h2
    simp at h2
    omega
  by_cases q2 : x ≤ 2047
  · rw [Lib.encodeRuneZ_two (by omega) q2] at h2 ⊢
    simp only [List.length_cons, List.length_nil] at h2
    obtain rfl : k = 1 := by omega
    simp only [List.take_succ_cons, List.take_zero, List.getD_cons_zero, List.getD_cons_succ, List.getD_nil]
    unfold scan4
    rw [if_neg (by omega), if_neg (by omega), if_pos (by omega), if_neg (by omega)]
    rfl
  by_cases q3 : x ≤ 65535
  · rw [Lib.encodeRuneZ_three (by omega)] at h2 ⊢
    simp only [List.length_cons, List.length_nil] at h2
    obtain rfl | rfl : k = 1 ∨ k = 2 := by omega
    · simp only [List.take_succ_cons, List.take_zero, List.getD_cons_zero, List.getD_cons_succ, List.getD_nil]
      unfold scan4
      rw [if_neg (by omega), if_neg (by omega), if_neg (by omega), if_pos (by omega), if_neg (by split <;> split <;> omega)]
      rfl
    · simp only [List.take_succ_cons, List.take_zero, List.getD_cons_zero, List.getD_cons_succ, List.getD_nil]
      unfold scan4
      rw [if_neg (by omega), if_neg (by omega), if_neg (by omega), if_pos (by omega), if_pos (by split <;> split <;> omega), if_neg (by omega)]
      rfl
  · rw [Lib.encodeRuneZ_four (by omega) (by omega)] at h2 ⊢
    simp only [List.length_cons, List.length_nil] at h2
    obtain rfl | rfl | rfl : k = 1 ∨ k = 2 ∨ k = 3 := by omega
    · simp only [List.take_succ_cons, List.take_zero, List.getD_cons_zero, List.getD_cons_succ, List.getD_nil]
      unfold scan4
      rw [if_neg (by omega), if_neg (by omega), if_neg (by omega), if_neg (by omega), if_pos (by omega), if_neg (by split <;> split <;> omega)]
      rfl
    · simp only [List.take_succ_cons, List.take_zero, List.getD_cons_zero, List.getD_cons_succ, List.getD_nil]
      unfold scan4
      rw [if_neg (by omega), if_neg (by omega), if_neg (by omega), if_neg (by omega), if_pos (by omega), if_pos (by split <;> split <;> omega), if_neg (by omega)]
      rfl
    · simp only [List.take_succ_cons, List.take_zero, List.getD_cons_zero, List.getD_cons_succ, List.getD_nil]
      unfold scan4
      rw [if_neg (by omega), if_neg (by omega), if_neg (by omega), if_neg (by omega), if_pos (by omega), if_pos (by split <;> split <;> omega), if_pos (by omega), if_neg (by omega)]
      rfl
theorem part_rep {x : Int} (h : inS 2 x = true) (k : Nat) (h1 : 1 ≤ k) (h2 : k < (encB x).length) : repL ((encB x).take k) = [65533] ∧ okL ((encB x).take k) = false := by
  have hb : ByteL ((encB x).take k) := fun y hy => byteB x y (List.mem_of_mem_take hy)
  have hl : ((encB x).take k).length = k := by rw [List.length_take]; omega
  have hne : (encB x).take k ≠ [] := fun e => by rw [e] at hl; simp at hl; omega
  obtain ⟨e1, e2⟩ := repL_cons hb hne
  rw [part_scan h k h1 h2] at e1 e2
  simp only [Int.toNat_natCast, Bool.false_and] at e1 e2
  rw [List.drop_eq_nil_of_le (by omega)] at e1
  exact ⟨e1, e2⟩
set_option maxHeartbeats 4000000 in
theorem walk_UtfParts (x n : Int) (w : World) (hT : Tabs w) (h0 : -2147483648 ≤ x) (h1 : x ≤ 2147483647) (hn0 : 0 ≤ n) (hn1 : n ≤ 255) :
    Calls Tryd.prog 9 #[.int .i32 x, .int .u8 n] w (RetB true w) := by
  have HE := Lib.hid (encode_any x w h0 h1)
  have HAW := Lib.hid (fun W (hb : Below w.heap.size w W) => awake_any W (hT.below hb hT.2.2))
  by_cases hs : (encB x).length < 2
  · generalize encB x = l at HE hs
    have hs1 : decide (l.length < 2) = true := decide_eq_true hs
    have hs2 : decide ((l.length : Int) < 2) = true := decide_eq_true (by omega)
    clear hT
    go_enter Tryd.func9, Tryd.ntmps9
    go_wp2_with (fail)
    refine HE.out.mono ?_
    rintro e w1 ⟨v1, rfl, A1, c1, rfl, hr1, hc1, -, hb1⟩
    have HB1 := Lib.hid hb1
    clear hr1 hb1
    go_wp2_with (go_at_call 13; refine (HAW.out _ HB1.out).mono ?_; rintro e w8 ⟨rfl, hb8⟩)
    go_ret
    exact ⟨rfl, HB1.out.trans (hb8.mono HB1.out.size)⟩
  have hi : inS 2 x = true := by
    cases q : inS 2 x
    · rw [encB_not q] at hs; simp at hs
    · rfl
  have hle := encB_len hi
  have hsc := part_scan hi
  have hrp := part_rep hi
  have hby := byteB x
  generalize encB x = l at HE hs hle hsc hrp hby
  obtain ⟨L, hL⟩ : ∃ L, l.length = L := ⟨_, rfl⟩
  have HSA := Lib.hid (fun (A : Option Addr) k c W (hW : RY W W.heap.size A k (l.take k)) (hk : 1 ≤ k ∧ k < L) (hc : L ≤ c) (hb : Below w.heap.size w W) => (by
    have := scan_any A k c (l.take k) 0 W hW (fun y hy => hby y (List.mem_of_mem_take hy)) (by omega) (by omega) (hT.below hb hT.2.2).1 (hT.below hb hT.2.2).2.1 (hT.below hb hT.2.2).2.2
    have e : scanAt (l.take k) 0 = (65533, (k : Int), false) := by
      unfold scanAt
      rw [if_neg (by rw [List.length_take]; omega)]
      exact hsc k hk.1 (by omega)
    rw [e] at this
    exact this : Calls Tryd.prog 14 #[.slice A k c, .int .i64 0] W (RetT (65533, (k : Int), false) W)))
  have HRE := Lib.hid (fun (A : Option Addr) k c W (hW : RY W W.heap.size A k (l.take k)) (hk : 1 ≤ k ∧ k < L) (hc : L ≤ c) (hb : Below w.heap.size w W) => (by
    have := repair_any A k c (l.take k) W hW (fun y hy => hby y (List.mem_of_mem_take hy)) (by omega) (by omega) (hT.below hb hT.2.2)
    rw [(hrp k hk.1 (by omega)).1] at this
    exact this : Calls Tryd.prog 20 #[.slice A k c] W (RepOut [65533] W)))
  have HVA := Lib.hid (fun (A : Option Addr) k c W (hW : RY W W.heap.size A k (l.take k)) (hk : 1 ≤ k ∧ k < L) (hc : L ≤ c) (hb : Below w.heap.size w W) => (by
    have := valid_any A k c (l.take k) W hW (fun y hy => hby y (List.mem_of_mem_take hy)) (by omega) (by omega) (hT.below hb hT.2.2)
    rw [(hrp k hk.1 (by omega)).2] at this
    exact this : Calls Tryd.prog 18 #[.slice A k c] W (RetB false W)))
  have hRun := fun (A : Option Addr) (c k : Nat) (hk : k ≤ c) z (hz : z = (k : Int)) => run_upto (P := Tryd.prog) Tryd.underlying22 Tryd.sizeOf5 A L c k hk z hz
  have HRUN := Lib.hid hRun
  have HLL := Lib.hid hL
  have hL2 : L = 2 ∨ L = 3 ∨ L = 4 := by omega
  clear hT hsc hrp hby hRun hs hle
  rcases hL2 with rfl | rfl | rfl
  · go_enter Tryd.func9, Tryd.ntmps9
    go_wp2_with (fail)
    refine HE.out.mono ?_
    rintro e w1 ⟨v1, rfl, A1, c1, rfl, hr1, hc1, -, hb1⟩
    rw [HLL.out] at hr1 hc1 ⊢
    have HR := Lib.hid hr1
    have HB1 := Lib.hid hb1
    clear hr1 hb1
    go_upto_region 5 with (fail)
    have hrun := HRUN.out A1 c1 1 (by omega) 1 rfl
    have HF := Lib.hid (fun W (hW : Below w1.heap.size w1 W) => ry_front (HR.out.belowM hW) c1 1 (by omega))
    generalize cutA A1 c1 0 = A2 at hrun HF
    have HSC : Hid (Calls Tryd.prog 14 #[.slice A2 1 c1, .int .i64 0] w1 (RetT (65533, 1, false) w1)) := Lib.hid (HSA.out A2 1 c1 w1 (HF.out w1 (Below.refl _ _)) (by omega) hc1 HB1.out)
    clear HSA HRUN
    go_wp2_with (go_at_call 14; refine HSC.out.mono ?_; rintro e w2 ⟨rfl, hb2⟩; have hb12 := HB1.out.trans (hb2.mono HB1.out.size); have HX2 := Lib.hid (HRE.out A2 1 c1 w2 (HF.out w2 hb2) (by omega) hc1 hb12); have HB2 := Lib.hid hb12; have H12 := Lib.hid hb2; clear hb2 hb12)
    refine HX2.out.mono ?_
    rintro e w3 ⟨v3, rfl, A3, c3, rfl, hr3, hc3, -, hb3⟩
    have hb13 := H12.out.trans (hb3.mono H12.out.size)
    have HX3 := Lib.hid (HVA.out A2 1 c1 w3 (HF.out w3 hb13) (by omega) hc1 (HB1.out.trans (hb13.mono HB1.out.size)))
    have HB3 := Lib.hid (HB1.out.trans (hb13.mono HB1.out.size))
    clear hr3 hb3 hb13
    go_wp2_with (fail)
    refine HX3.out.mono ?_
    rintro e w4 ⟨rfl, hb4⟩
    have HB4 := Lib.hid (HB3.out.trans (hb4.mono HB3.out.size))
    clear hb4
    go_wp2_with (go_at_call 13; refine (HAW.out _ HB4.out).mono ?_; rintro e w8 ⟨rfl, hb8⟩)
    go_ret
    exact ⟨rfl, HB4.out.trans (hb8.mono HB4.out.size)⟩
  · go_enter Tryd.func9, Tryd.ntmps9
    go_wp2_with (fail)
    refine HE.out.mono ?_
    rintro e w1 ⟨v1, rfl, A1, c1, rfl, hr1, hc1, -, hb1⟩
    rw [HLL.out] at hr1 hc1 ⊢
    have HR := Lib.hid hr1
    have HB1 := Lib.hid hb1
    clear hr1 hb1
    go_upto_region 5 with (fail)
    obtain ⟨k, hk⟩ := Int.eq_ofNat_of_zero_le (a := 1 + n % 2) (by omega)
    have hk1 : 1 ≤ k ∧ k < 3 := by omega
    rw [hk]
    have hrun := HRUN.out A1 c1 k (by omega) k rfl
    have HF := Lib.hid (fun W (hW : Below w1.heap.size w1 W) => ry_front (HR.out.belowM hW) c1 k (by omega))
    generalize cutA A1 c1 0 = A2 at hrun HF
    have HSC : Hid (Calls Tryd.prog 14 #[.slice A2 k c1, .int .i64 0] w1 (RetT (65533, k, false) w1)) := Lib.hid (HSA.out A2 k c1 w1 (HF.out w1 (Below.refl _ _)) (by omega) hc1 HB1.out)
    clear HSA HRUN
    go_wp2_with (go_at_call 14; refine HSC.out.mono ?_; rintro e w2 ⟨rfl, hb2⟩; have hb12 := HB1.out.trans (hb2.mono HB1.out.size); have HX2 := Lib.hid (HRE.out A2 k c1 w2 (HF.out w2 hb2) (by omega) hc1 hb12); have HB2 := Lib.hid hb12; have H12 := Lib.hid hb2; clear hb2 hb12)
    refine HX2.out.mono ?_
    rintro e w3 ⟨v3, rfl, A3, c3, rfl, hr3, hc3, -, hb3⟩
    have hb13 := H12.out.trans (hb3.mono H12.out.size)
    have HX3 := Lib.hid (HVA.out A2 k c1 w3 (HF.out w3 hb13) (by omega) hc1 (HB1.out.trans (hb13.mono HB1.out.size)))
    have HB3 := Lib.hid (HB1.out.trans (hb13.mono HB1.out.size))
    clear hr3 hb3 hb13
    go_wp2_with (fail)
    refine HX3.out.mono ?_
    rintro e w4 ⟨rfl, hb4⟩
    have HB4 := Lib.hid (HB3.out.trans (hb4.mono HB3.out.size))
    clear hb4
    go_wp2_with (go_at_call 13; refine (HAW.out _ HB4.out).mono ?_; rintro e w8 ⟨rfl, hb8⟩)
    go_ret
    exact ⟨rfl, HB4.out.trans (hb8.mono HB4.out.size)⟩
  · go_enter Tryd.func9, Tryd.ntmps9
    go_wp2_with (fail)
    refine HE.out.mono ?_
    rintro e w1 ⟨v1, rfl, A1, c1, rfl, hr1, hc1, -, hb1⟩
    rw [HLL.out] at hr1 hc1 ⊢
    have HR := Lib.hid hr1
    have HB1 := Lib.hid hb1
    clear hr1 hb1
    go_upto_region 5 with (fail)
    obtain ⟨k, hk⟩ := Int.eq_ofNat_of_zero_le (a := 1 + n % 3) (by omega)
    have hk1 : 1 ≤ k ∧ k < 4 := by omega
    rw [hk]
    have hrun := HRUN.out A1 c1 k (by omega) k rfl
    have HF := Lib.hid (fun W (hW : Below w1.heap.size w1 W) => ry_front (HR.out.belowM hW) c1 k (by omega))
    generalize cutA A1 c1 0 = A2 at hrun HF
    have HSC : Hid (Calls Tryd.prog 14 #[.slice A2 k c1, .int .i64 0] w1 (RetT (65533, k, false) w1)) := Lib.hid (HSA.out A2 k c1 w1 (HF.out w1 (Below.refl _ _)) (by omega) hc1 HB1.out)
    clear HSA HRUN
    go_wp2_with (go_at_call 14; refine HSC.out.mono ?_; rintro e w2 ⟨rfl, hb2⟩; have hb12 := HB1.out.trans (hb2.mono HB1.out.size); have HX2 := Lib.hid (HRE.out A2 k c1 w2 (HF.out w2 hb2) (by omega) hc1 hb12); have HB2 := Lib.hid hb12; have H12 := Lib.hid hb2; clear hb2 hb12)
    refine HX2.out.mono ?_
    rintro e w3 ⟨v3, rfl, A3, c3, rfl, hr3, hc3, -, hb3⟩
    have hb13 := H12.out.trans (hb3.mono H12.out.size)
    have HX3 := Lib.hid (HVA.out A2 k c1 w3 (HF.out w3 hb13) (by omega) hc1 (HB1.out.trans (hb13.mono HB1.out.size)))
    have HB3 := Lib.hid (HB1.out.trans (hb13.mono HB1.out.size))
    clear hr3 hb3 hb13
    go_wp2_with (fail)
    refine HX3.out.mono ?_
    rintro e w4 ⟨rfl, hb4⟩
    have HB4 := Lib.hid (HB3.out.trans (hb4.mono HB3.out.size))
    clear hb4
    go_wp2_with (go_at_call 13; refine (HAW.out _ HB4.out).mono ?_; rintro e w8 ⟨rfl, hb8⟩)
    go_ret
    exact ⟨rfl, HB4.out.trans (hb8.mono HB4.out.size)⟩
end Go.Proofs.YtjhgboncipnkeaaDoor.Ut
