/-
  SpanPairs holds for every two lists of spans: the law answers true and each list reads afterwards as it read before. No condition.
-/
import Derived.Test.YtgmkchkaceciiaaSpFrame
import Derived.Test.YtgmkchkaceciiaaSpMeet
import Derived.Test.YtgmkchkaceciiaaSpUnion
import Derived.Test.YtgmkchkaceciiaaSpMake1
import Derived.Test.YtgmkchkaceciiaaSpMake2
namespace Go.Proofs.Ytgmkchkaceciiaa.Sp
set_option maxRecDepth 100000
open Go Go.RowKit Go.ChangeShapes Go.WideShapes Go.ChangeAt

theorem inP0_iff (l r : List Span) (x : Int) : (Rng x ∧ inP 0 (memB l x) (memB r x) = true) ↔ (mem l x ∨ mem r x) := by
  have e : inP 0 (memB l x) (memB r x) = (memB l x || memB r x) := rfl
  rw [e, Bool.or_eq_true, memB_iff, memB_iff]
  exact ⟨fun h => h.2, fun h => ⟨h.elim (fun h => h.1) (fun h => h.1), h⟩⟩
theorem inP1_iff (l r : List Span) (x : Int) : (Rng x ∧ inP 1 (memB l x) (memB r x) = true) ↔ (mem l x ∧ mem r x) := by
  have e : inP 1 (memB l x) (memB r x) = (memB l x && memB r x) := rfl
  rw [e, Bool.and_eq_true, memB_iff, memB_iff]
  exact ⟨fun h => h.2, fun h => ⟨h.1.1, h⟩⟩
theorem inP2_iff (l r : List Span) (x : Int) : (Rng x ∧ inP 2 (memB l x) (memB r x) = true) ↔ (mem l x ∧ ¬ mem r x) := by
  have e : inP 2 (memB l x) (memB r x) = (memB l x && !memB r x) := rfl
  rw [e, Bool.and_eq_true, memB_iff, Bool.not_eq_true', ← Bool.not_eq_true, memB_iff]
  exact ⟨fun h => h.2, fun h => ⟨h.1.1, h⟩⟩

set_option maxHeartbeats 4000000 in
theorem walk_SpanPairs (A : Option Addr) (c : Nat) (l : List Span) (B : Option Addr) (d : Nat) (r : List Span) (w : World) (hl : RS w w.heap.size A l.length l) (hcl : l.length ≤ c) (hml : l.length ≤ maxLen) (hnl : A = none → l = [] ∧ c = 0) (hr : RS w w.heap.size B r.length r) (hcr : r.length ≤ d) (hmr : r.length ≤ maxLen) (hnr : B = none → r = [] ∧ d = 0) :
    Calls Try.prog 3 #[.slice A l.length c, .slice B r.length d] w (RetB true w) := by
  unfold maxLen at hml
  unfold maxLen at hmr
  have hz0 : Below w.heap.size w (w.alloc (.cells #[.slice A l.length c, .slice B r.length d] 22)) := (Below.refl _ _).alloc (Nat.le_refl _) _
  by_cases hgr : 300 < l.length ∨ 300 < r.length
  · have HG := Lib.hid (great_any w.heap.size 2 [l.length, r.length] true _ (lens_two w A B l.length r.length c d 22) (by simp) (by simp; exact hgr) (by simp; omega))
    have HB0 := Lib.hid hz0
    clear hz0 hgr
    go_enter Try.func3, Try.ntmps3
    go_wp2_with (fail)
    refine HG.out.mono ?_
    rintro e w1 ⟨rfl, rfl⟩
    go_wp2_with (fail)
    refine (awake_any _).mono ?_
    rintro e w2 ⟨rfl, hb⟩
    go_wp2_with (fail)
    go_ret
    exact ⟨rfl, HB0.out.trans (hb.mono HB0.out.size)⟩
  · have HG := Lib.hid (great_any w.heap.size 2 [l.length, r.length] false _ (lens_two w A B l.length r.length c d 22) (by simp) (by simp; omega) (by simp; omega))
    have HB0 := Lib.hid hz0
    have hll : l.length ≤ 300 := by omega
    have Xl := Lib.hid (hl.belowM hz0)
    have Nl := Lib.hid hnl
    have hlr : r.length ≤ 300 := by omega
    have Xr := Lib.hid (hr.belowM hz0)
    have Nr := Lib.hid hnr
    clear hz0 hgr hl hnl hml hr hnr hmr
    go_enter Try.func3, Try.ntmps3
    go_wp2_with (fail)
    refine HG.out.mono ?_
    rintro e w1 ⟨rfl, rfl⟩
    go_wp2_with (fail)
    refine (copied_any A c l _ Xl.out (by omega) Nl.out).mono ?_
    rintro e w2 ⟨A2, c2, rfl, hc2, hr2, hb2⟩
    have HB2 := Lib.hid (HB0.out.trans (hb2.mono HB0.out.size))
    have Xl_2 := Lib.hid (Xl.out.belowM hb2)
    clear Xl
    have Xr_2 := Lib.hid (Xr.out.belowM hb2)
    clear Xr
    have L2 := Lib.hid hr2
    clear hb2 hr2
    go_wp2_with (fail)
    refine (copied_any B d r _ Xr_2.out (by omega) Nr.out).mono ?_
    rintro e w3 ⟨A3, c3, rfl, hc3, hr3, hb3⟩
    have HB3 := Lib.hid (HB2.out.trans (hb3.mono HB2.out.size))
    have Xl_3 := Lib.hid (Xl_2.out.belowM hb3)
    clear Xl_2
    have Xr_3 := Lib.hid (Xr_2.out.belowM hb3)
    clear Xr_2
    have L2_3 := Lib.hid (L2.out.belowM hb3)
    clear L2
    have L3 := Lib.hid hr3
    clear hb3 hr3
    go_wp2_with (fail)
    refine (rmake1 A2 A3 l.length r.length c2 c3 l r _ L2_3.out L3.out (by omega) (by omega)).mono ?_
    rintro e w4 ⟨v4, o4, rfl, his4, ho4, hb4⟩
    obtain ⟨A4, c4, hv4, hc4, hr4⟩ := own_RS ho4
    subst hv4
    have HB4 := Lib.hid (HB3.out.trans (hb4.mono HB3.out.size))
    have Xl_4 := Lib.hid (Xl_3.out.belowM hb4)
    clear Xl_3
    have Xr_4 := Lib.hid (Xr_3.out.belowM hb4)
    clear Xr_3
    have L2_4 := Lib.hid (L2_3.out.belowM hb4)
    clear L2_3
    have L3_4 := Lib.hid (L3.out.belowM hb4)
    clear L3
    have HI4 := Lib.hid his4
    have hs4 := HI4.out.1.short
    have N4 := Lib.hid (own_nil ho4)
    have L4 := Lib.hid hr4
    clear hb4 his4 ho4 hr4
    go_wp2_with (fail)
    refine (rmake2 A2 A3 l.length r.length c2 c3 l r _ L2_4.out L3_4.out (by omega) (by omega)).mono ?_
    rintro e w5 ⟨v5, o5, rfl, his5, ho5, hb5⟩
    obtain ⟨A5, c5, hv5, hc5, hr5⟩ := own_RS ho5
    subst hv5
    have HB5 := Lib.hid (HB4.out.trans (hb5.mono HB4.out.size))
    have Xl_5 := Lib.hid (Xl_4.out.belowM hb5)
    clear Xl_4
    have Xr_5 := Lib.hid (Xr_4.out.belowM hb5)
    clear Xr_4
    have L2_5 := Lib.hid (L2_4.out.belowM hb5)
    clear L2_4
    have L3_5 := Lib.hid (L3_4.out.belowM hb5)
    clear L3_4
    have L4_5 := Lib.hid (L4.out.belowM hb5)
    clear L4
    have HI5 := Lib.hid his5
    have hs5 := HI5.out.1.short
    have N5 := Lib.hid (own_nil ho5)
    have L5 := Lib.hid hr5
    clear hb5 his5 ho5 hr5
    have HIB := Lib.hid (HI4.out.congr (inP1_iff l r))
    have HIL := Lib.hid (HI5.out.congr (inP2_iff l r))
    go_wp2_with (fail)
    refine (union_any A B c d l r _ Xl_5.out Xr_5.out (by omega) (by omega) Nl.out Nr.out).mono ?_
    rintro e w6 ⟨v6, o6, rfl, his6, ho6, hb6⟩
    obtain ⟨A6, c6, hv6, hc6, hr6⟩ := own_RS ho6
    subst hv6
    have HB6 := Lib.hid (HB5.out.trans (hb6.mono HB5.out.size))
    have Xl_6 := Lib.hid (Xl_5.out.belowM hb6)
    clear Xl_5
    have Xr_6 := Lib.hid (Xr_5.out.belowM hb6)
    clear Xr_5
    have L2_6 := Lib.hid (L2_5.out.belowM hb6)
    clear L2_5
    have L3_6 := Lib.hid (L3_5.out.belowM hb6)
    clear L3_5
    have L4_6 := Lib.hid (L4_5.out.belowM hb6)
    clear L4_5
    have L5_6 := Lib.hid (L5.out.belowM hb6)
    clear L5
    have HI6 := Lib.hid his6
    have hs6 := HI6.out.1.short
    have N6 := Lib.hid (own_nil ho6)
    have L6 := Lib.hid hr6
    clear hb6 his6 ho6 hr6
    go_wp2_with (fail)
    refine (rmake0 A2 A3 l.length r.length c2 c3 l r _ L2_6.out L3_6.out (by omega) (by omega)).mono ?_
    rintro e w7 ⟨v7, o7, rfl, his7, ho7, hb7⟩
    obtain rfl : o6 = o7 := HI6.out.eq his7 fun z => (inP0_iff l r z).symm
    obtain ⟨A7, c7, hv7, hc7, hr7⟩ := own_RS ho7
    subst hv7
    have HB7 := Lib.hid (HB6.out.trans (hb7.mono HB6.out.size))
    have Xl_7 := Lib.hid (Xl_6.out.belowM hb7)
    clear Xl_6
    have Xr_7 := Lib.hid (Xr_6.out.belowM hb7)
    clear Xr_6
    have L2_7 := Lib.hid (L2_6.out.belowM hb7)
    clear L2_6
    have L3_7 := Lib.hid (L3_6.out.belowM hb7)
    clear L3_6
    have L4_7 := Lib.hid (L4_6.out.belowM hb7)
    clear L4_6
    have L5_7 := Lib.hid (L5_6.out.belowM hb7)
    clear L5_6
    have L6_7 := Lib.hid (L6.out.belowM hb7)
    clear L6
    have HI7 := Lib.hid his7
    have hs7 := HI7.out.1.short
    have N7 := Lib.hid (own_nil ho7)
    have L7 := Lib.hid hr7
    clear hb7 his7 ho7 hr7
    have HS1 := Lib.hid (same_any A6 A7 o6.length o6.length c6 c7 o6 o6 _ L6_7.out L7.out (by omega) (by omega))
    rw [decide_eq_true (rfl : o6 = o6)] at HS1
    go_wp2_with (fail)
    refine (HS1.out).mono ?_
    rintro e w8 ⟨rfl, hb8⟩
    have HB8 := Lib.hid (HB7.out.trans (hb8.mono HB7.out.size))
    have Xl_8 := Lib.hid (Xl_7.out.belowM hb8)
    clear Xl_7
    have Xr_8 := Lib.hid (Xr_7.out.belowM hb8)
    clear Xr_7
    have L2_8 := Lib.hid (L2_7.out.belowM hb8)
    clear L2_7
    have L3_8 := Lib.hid (L3_7.out.belowM hb8)
    clear L3_7
    have L4_8 := Lib.hid (L4_7.out.belowM hb8)
    clear L4_7
    have L5_8 := Lib.hid (L5_7.out.belowM hb8)
    clear L5_7
    have L6_8 := Lib.hid (L6_7.out.belowM hb8)
    clear L6_7
    have L7_8 := Lib.hid (L7.out.belowM hb8)
    clear L7
    clear hb8
    clear L6_8
    clear L7_8
    go_wp2_with (fail)
    refine (meet_any A B l.length r.length c d l r _ Xl_8.out Xr_8.out (by omega) (by omega) hcl hcr).mono ?_
    rintro e w9 ⟨v9, o9, rfl, his9, ho9, hb9⟩
    obtain rfl : o4 = o9 := HIB.out.eq his9 fun _ => Iff.rfl
    obtain ⟨A9, c9, hv9, hc9, hr9⟩ := own_RS ho9
    subst hv9
    have HB9 := Lib.hid (HB8.out.trans (hb9.mono HB8.out.size))
    have Xl_9 := Lib.hid (Xl_8.out.belowM hb9)
    clear Xl_8
    have Xr_9 := Lib.hid (Xr_8.out.belowM hb9)
    clear Xr_8
    have L2_9 := Lib.hid (L2_8.out.belowM hb9)
    clear L2_8
    have L3_9 := Lib.hid (L3_8.out.belowM hb9)
    clear L3_8
    have L4_9 := Lib.hid (L4_8.out.belowM hb9)
    clear L4_8
    have L5_9 := Lib.hid (L5_8.out.belowM hb9)
    clear L5_8
    have HI9 := Lib.hid his9
    have hs9 := HI9.out.1.short
    have N9 := Lib.hid (own_nil ho9)
    have L9 := Lib.hid hr9
    clear hb9 his9 ho9 hr9
    have HS2 := Lib.hid (same_any A9 A4 o4.length o4.length c9 c4 o4 o4 _ L9.out L4_9.out (by omega) (by omega))
    rw [decide_eq_true (rfl : o4 = o4)] at HS2
    go_wp2_with (fail)
    refine (HS2.out).mono ?_
    rintro e w10 ⟨rfl, hb10⟩
    have HB10 := Lib.hid (HB9.out.trans (hb10.mono HB9.out.size))
    have Xl_10 := Lib.hid (Xl_9.out.belowM hb10)
    clear Xl_9
    have Xr_10 := Lib.hid (Xr_9.out.belowM hb10)
    clear Xr_9
    have L2_10 := Lib.hid (L2_9.out.belowM hb10)
    clear L2_9
    have L3_10 := Lib.hid (L3_9.out.belowM hb10)
    clear L3_9
    have L4_10 := Lib.hid (L4_9.out.belowM hb10)
    clear L4_9
    have L5_10 := Lib.hid (L5_9.out.belowM hb10)
    clear L5_9
    have L9_10 := Lib.hid (L9.out.belowM hb10)
    clear L9
    clear hb10
    clear L9_10
    clear L4_10
    go_wp2_with (fail)
    refine (minus_any A B l.length r.length c d l r _ Xl_10.out Xr_10.out (by omega) (by omega) hcl hcr).mono ?_
    rintro e w11 ⟨v11, o11, rfl, his11, ho11, hb11⟩
    obtain rfl : o5 = o11 := HIL.out.eq his11 fun _ => Iff.rfl
    obtain ⟨A11, c11, hv11, hc11, hr11⟩ := own_RS ho11
    subst hv11
    have HB11 := Lib.hid (HB10.out.trans (hb11.mono HB10.out.size))
    have Xl_11 := Lib.hid (Xl_10.out.belowM hb11)
    clear Xl_10
    have Xr_11 := Lib.hid (Xr_10.out.belowM hb11)
    clear Xr_10
    have L2_11 := Lib.hid (L2_10.out.belowM hb11)
    clear L2_10
    have L3_11 := Lib.hid (L3_10.out.belowM hb11)
    clear L3_10
    have L5_11 := Lib.hid (L5_10.out.belowM hb11)
    clear L5_10
    have HI11 := Lib.hid his11
    have hs11 := HI11.out.1.short
    have N11 := Lib.hid (own_nil ho11)
    have L11 := Lib.hid hr11
    clear hb11 his11 ho11 hr11
    have HS3 := Lib.hid (same_any A11 A5 o5.length o5.length c11 c5 o5 o5 _ L11.out L5_11.out (by omega) (by omega))
    rw [decide_eq_true (rfl : o5 = o5)] at HS3
    go_wp2_with (fail)
    refine (HS3.out).mono ?_
    rintro e w12 ⟨rfl, hb12⟩
    have HB12 := Lib.hid (HB11.out.trans (hb12.mono HB11.out.size))
    have Xl_12 := Lib.hid (Xl_11.out.belowM hb12)
    clear Xl_11
    have Xr_12 := Lib.hid (Xr_11.out.belowM hb12)
    clear Xr_11
    have L2_12 := Lib.hid (L2_11.out.belowM hb12)
    clear L2_11
    have L3_12 := Lib.hid (L3_11.out.belowM hb12)
    clear L3_11
    have L5_12 := Lib.hid (L5_11.out.belowM hb12)
    clear L5_11
    have L11_12 := Lib.hid (L11.out.belowM hb12)
    clear L11
    clear hb12
    clear L11_12
    clear L5_12
    obtain ⟨bw, hbw⟩ : ∃ b : Bool, (b = true ↔ o5 = []) := ⟨decide (o5 = []), by simp⟩
    obtain ⟨bm, hbm⟩ : ∃ b : Bool, (b = false ↔ o4 = []) := ⟨!decide (o4 = []), by simp⟩
    have HW := Lib.hid (fun W (h1 : RS W W.heap.size A l.length l) (h2 : RS W W.heap.size B r.length r) => within_any A B l.length r.length c d l r bw W h1 h2 (by omega) (by omega) hcl hcr (hbw.trans HIL.out.nil_iff))
    have HM := Lib.hid (fun W (h1 : RS W W.heap.size A l.length l) (h2 : RS W W.heap.size B r.length r) => meets_any A B l.length r.length c d l r bm W h1 h2 (by omega) (by omega) hcl hcr (hbm.trans HIB.out.nil_iff))
    have HBW := Lib.hid hbw
    have HBM := Lib.hid hbm
    clear hbw hbm
    go_wp2_with (fail)
    refine (HW.out _ Xl_12.out Xr_12.out).mono ?_
    rintro e w13 ⟨rfl, hb13⟩
    have HB13 := Lib.hid (HB12.out.trans (hb13.mono HB12.out.size))
    have Xl_13 := Lib.hid (Xl_12.out.belowM hb13)
    clear Xl_12
    have Xr_13 := Lib.hid (Xr_12.out.belowM hb13)
    clear Xr_12
    have L2_13 := Lib.hid (L2_12.out.belowM hb13)
    clear L2_12
    have L3_13 := Lib.hid (L3_12.out.belowM hb13)
    clear L3_12
    clear hb13
    rcases bw with _ | _
    · have hp5 : 0 < o5.length := List.length_pos_iff.2 fun e => by have := HBW.out.2 e; cases this
      have hd5 : ((o5.length : Int) == 0) = false := by simp only [beq_eq_false_iff_ne, ne_eq]; omega
      go_wp2_with (fail)
      refine (HM.out _ Xl_13.out Xr_13.out).mono ?_
      rintro e w14 ⟨rfl, hb14⟩
      have HB14 := Lib.hid (HB13.out.trans (hb14.mono HB13.out.size))
      have Xl_14 := Lib.hid (Xl_13.out.belowM hb14)
      clear Xl_13
      have Xr_14 := Lib.hid (Xr_13.out.belowM hb14)
      clear Xr_13
      have L2_14 := Lib.hid (L2_13.out.belowM hb14)
      clear L2_13
      have L3_14 := Lib.hid (L3_13.out.belowM hb14)
      clear L3_13
      clear hb14
      rcases bm with _ | _
      · have e4 : o4.length = 0 := by rw [HBM.out.1 rfl]; rfl
        have hq4 : decide ((0 : Int) < (o4.length : Int)) = false := by rw [e4]; rfl
        have hq6 : decide (0 < o4.length) = false := by rw [e4]; rfl
        clear e4
        have HSA := Lib.hid (fun W (h1 : RS W W.heap.size A l.length l) (h2 : RS W W.heap.size A2 l.length l) => same_any A A2 l.length l.length c c2 l l W h1 h2 (by omega) (by omega))
        rw [decide_eq_true (rfl : l = l)] at HSA
        have HSB := Lib.hid (fun W (h1 : RS W W.heap.size B r.length r) (h2 : RS W W.heap.size A3 r.length r) => same_any B A3 r.length r.length d c3 r r W h1 h2 (by omega) (by omega))
        rw [decide_eq_true (rfl : r = r)] at HSB
        go_wp2_with (fail)
        refine (HSA.out _ Xl_14.out L2_14.out).mono ?_
        rintro e w15 ⟨rfl, hb15⟩
        have HB15 := Lib.hid (HB14.out.trans (hb15.mono HB14.out.size))
        have Xl_15 := Lib.hid (Xl_14.out.belowM hb15)
        clear Xl_14
        have Xr_15 := Lib.hid (Xr_14.out.belowM hb15)
        clear Xr_14
        have L2_15 := Lib.hid (L2_14.out.belowM hb15)
        clear L2_14
        have L3_15 := Lib.hid (L3_14.out.belowM hb15)
        clear L3_14
        clear hb15
        go_wp2_with (fail)
        refine (HSB.out _ Xr_15.out L3_15.out).mono ?_
        rintro e w16 ⟨rfl, hb16⟩
        have HB16 := Lib.hid (HB15.out.trans (hb16.mono HB15.out.size))
        have Xl_16 := Lib.hid (Xl_15.out.belowM hb16)
        clear Xl_15
        have Xr_16 := Lib.hid (Xr_15.out.belowM hb16)
        clear Xr_15
        have L2_16 := Lib.hid (L2_15.out.belowM hb16)
        clear L2_15
        have L3_16 := Lib.hid (L3_15.out.belowM hb16)
        clear L3_15
        clear hb16
        go_wp2_with (fail)
        refine (awake_any _).mono ?_
        rintro e w17 ⟨rfl, hb17⟩
        go_wp2_with (fail)
        go_ret
        exact ⟨rfl, HB16.out.trans (hb17.mono HB16.out.size)⟩
      · have hq4 : 0 < o4.length := List.length_pos_iff.2 fun e => by have := HBM.out.2 e; cases this
        have HSA := Lib.hid (fun W (h1 : RS W W.heap.size A l.length l) (h2 : RS W W.heap.size A2 l.length l) => same_any A A2 l.length l.length c c2 l l W h1 h2 (by omega) (by omega))
        rw [decide_eq_true (rfl : l = l)] at HSA
        have HSB := Lib.hid (fun W (h1 : RS W W.heap.size B r.length r) (h2 : RS W W.heap.size A3 r.length r) => same_any B A3 r.length r.length d c3 r r W h1 h2 (by omega) (by omega))
        rw [decide_eq_true (rfl : r = r)] at HSB
        go_wp2_with (fail)
        refine (HSA.out _ Xl_14.out L2_14.out).mono ?_
        rintro e w15 ⟨rfl, hb15⟩
        have HB15 := Lib.hid (HB14.out.trans (hb15.mono HB14.out.size))
        have Xl_15 := Lib.hid (Xl_14.out.belowM hb15)
        clear Xl_14
        have Xr_15 := Lib.hid (Xr_14.out.belowM hb15)
        clear Xr_14
        have L2_15 := Lib.hid (L2_14.out.belowM hb15)
        clear L2_14
        have L3_15 := Lib.hid (L3_14.out.belowM hb15)
        clear L3_14
        clear hb15
        go_wp2_with (fail)
        refine (HSB.out _ Xr_15.out L3_15.out).mono ?_
        rintro e w16 ⟨rfl, hb16⟩
        have HB16 := Lib.hid (HB15.out.trans (hb16.mono HB15.out.size))
        have Xl_16 := Lib.hid (Xl_15.out.belowM hb16)
        clear Xl_15
        have Xr_16 := Lib.hid (Xr_15.out.belowM hb16)
        clear Xr_15
        have L2_16 := Lib.hid (L2_15.out.belowM hb16)
        clear L2_15
        have L3_16 := Lib.hid (L3_15.out.belowM hb16)
        clear L3_15
        clear hb16
        go_wp2_with (fail)
        refine (awake_any _).mono ?_
        rintro e w17 ⟨rfl, hb17⟩
        go_wp2_with (fail)
        go_ret
        exact ⟨rfl, HB16.out.trans (hb17.mono HB16.out.size)⟩
    · have e5 : o5.length = 0 := by rw [HBW.out.1 rfl]; rfl
      have hd5 : ((o5.length : Int) == 0) = true := by rw [e5]; rfl
      clear e5
      go_wp2_with (fail)
      refine (HM.out _ Xl_13.out Xr_13.out).mono ?_
      rintro e w14 ⟨rfl, hb14⟩
      have HB14 := Lib.hid (HB13.out.trans (hb14.mono HB13.out.size))
      have Xl_14 := Lib.hid (Xl_13.out.belowM hb14)
      clear Xl_13
      have Xr_14 := Lib.hid (Xr_13.out.belowM hb14)
      clear Xr_13
      have L2_14 := Lib.hid (L2_13.out.belowM hb14)
      clear L2_13
      have L3_14 := Lib.hid (L3_13.out.belowM hb14)
      clear L3_13
      clear hb14
      rcases bm with _ | _
      · have e4 : o4.length = 0 := by rw [HBM.out.1 rfl]; rfl
        have hq4 : decide ((0 : Int) < (o4.length : Int)) = false := by rw [e4]; rfl
        have hq6 : decide (0 < o4.length) = false := by rw [e4]; rfl
        clear e4
        have HSA := Lib.hid (fun W (h1 : RS W W.heap.size A l.length l) (h2 : RS W W.heap.size A2 l.length l) => same_any A A2 l.length l.length c c2 l l W h1 h2 (by omega) (by omega))
        rw [decide_eq_true (rfl : l = l)] at HSA
        have HSB := Lib.hid (fun W (h1 : RS W W.heap.size B r.length r) (h2 : RS W W.heap.size A3 r.length r) => same_any B A3 r.length r.length d c3 r r W h1 h2 (by omega) (by omega))
        rw [decide_eq_true (rfl : r = r)] at HSB
        go_wp2_with (fail)
        refine (HSA.out _ Xl_14.out L2_14.out).mono ?_
        rintro e w15 ⟨rfl, hb15⟩
        have HB15 := Lib.hid (HB14.out.trans (hb15.mono HB14.out.size))
        have Xl_15 := Lib.hid (Xl_14.out.belowM hb15)
        clear Xl_14
        have Xr_15 := Lib.hid (Xr_14.out.belowM hb15)
        clear Xr_14
        have L2_15 := Lib.hid (L2_14.out.belowM hb15)
        clear L2_14
        have L3_15 := Lib.hid (L3_14.out.belowM hb15)
        clear L3_14
        clear hb15
        go_wp2_with (fail)
        refine (HSB.out _ Xr_15.out L3_15.out).mono ?_
        rintro e w16 ⟨rfl, hb16⟩
        have HB16 := Lib.hid (HB15.out.trans (hb16.mono HB15.out.size))
        have Xl_16 := Lib.hid (Xl_15.out.belowM hb16)
        clear Xl_15
        have Xr_16 := Lib.hid (Xr_15.out.belowM hb16)
        clear Xr_15
        have L2_16 := Lib.hid (L2_15.out.belowM hb16)
        clear L2_15
        have L3_16 := Lib.hid (L3_15.out.belowM hb16)
        clear L3_15
        clear hb16
        go_wp2_with (fail)
        refine (awake_any _).mono ?_
        rintro e w17 ⟨rfl, hb17⟩
        go_wp2_with (fail)
        go_ret
        exact ⟨rfl, HB16.out.trans (hb17.mono HB16.out.size)⟩
      · have hq4 : 0 < o4.length := List.length_pos_iff.2 fun e => by have := HBM.out.2 e; cases this
        have HSA := Lib.hid (fun W (h1 : RS W W.heap.size A l.length l) (h2 : RS W W.heap.size A2 l.length l) => same_any A A2 l.length l.length c c2 l l W h1 h2 (by omega) (by omega))
        rw [decide_eq_true (rfl : l = l)] at HSA
        have HSB := Lib.hid (fun W (h1 : RS W W.heap.size B r.length r) (h2 : RS W W.heap.size A3 r.length r) => same_any B A3 r.length r.length d c3 r r W h1 h2 (by omega) (by omega))
        rw [decide_eq_true (rfl : r = r)] at HSB
        go_wp2_with (fail)
        refine (HSA.out _ Xl_14.out L2_14.out).mono ?_
        rintro e w15 ⟨rfl, hb15⟩
        have HB15 := Lib.hid (HB14.out.trans (hb15.mono HB14.out.size))
        have Xl_15 := Lib.hid (Xl_14.out.belowM hb15)
        clear Xl_14
        have Xr_15 := Lib.hid (Xr_14.out.belowM hb15)
        clear Xr_14
        have L2_15 := Lib.hid (L2_14.out.belowM hb15)
        clear L2_14
        have L3_15 := Lib.hid (L3_14.out.belowM hb15)
        clear L3_14
        clear hb15
        go_wp2_with (fail)
        refine (HSB.out _ Xr_15.out L3_15.out).mono ?_
        rintro e w16 ⟨rfl, hb16⟩
        have HB16 := Lib.hid (HB15.out.trans (hb16.mono HB15.out.size))
        have Xl_16 := Lib.hid (Xl_15.out.belowM hb16)
        clear Xl_15
        have Xr_16 := Lib.hid (Xr_15.out.belowM hb16)
        clear Xr_15
        have L2_16 := Lib.hid (L2_15.out.belowM hb16)
        clear L2_15
        have L3_16 := Lib.hid (L3_15.out.belowM hb16)
        clear L3_15
        clear hb16
        go_wp2_with (fail)
        refine (awake_any _).mono ?_
        rintro e w17 ⟨rfl, hb17⟩
        go_wp2_with (fail)
        go_ret
        exact ⟨rfl, HB16.out.trans (hb17.mono HB16.out.size)⟩

set_option maxRecDepth 100000 in
theorem lifted_SpanPairs (os : Os) (started : os.Started) (H : Type) (enc : TypeId × Value → H) :
    ReturnsInHanded {} Try.checked os 3 .any (Rows.spanPairsSpec.pre6 enc Try.prog Try.f3 Rows.spanPairsRow.domain false) (Rows.spanPairsSpec.post enc Try.prog Try.f3 false true false false) := by
  refine returnsInHanded_of_change (C := Try.checked) own started (by kernel_rfl) Try.func3
    (ChangeSpec.witness6 (enc := enc) (C := Try.checked) false ⟨#[], #[.slice none 0 0, .slice none 0 0], []⟩ 8 (by kernel_rfl) (by kernel_rfl) (by kernel_rfl) (by kernel_rfl)) ?_
  intro W base args ds gs before hval0 hW hcnd _
  have hval : ∀ (j : Nat) t v, Try.f3.params[j]? = some t → args[j]? = some v → Value.okWide Try.prog W .any base t v := hval0
  have hW' := hW
  obtain ⟨p, q, hA0, hV, rfl, hfz, hnd⟩ := hW
  have hA : DataW.TrodAll enc Try.prog W 0 (fun _ => true) true Try.f3.params.toList args.toList ds p := hA0
  rw [Try.params3] at hA hval
  obtain ⟨v0, v1, d0, d1, p0, p1, rfl, rfl, rfl, h0, h1⟩ := trodAll_two hA
  obtain ⟨rfl, rfl⟩ := trodVars_none hV
  clear hA0 hval0
  simp only [List.append_nil] at hW'
  have hlt := fun x hx => hW'.lt (p := x) hx
  obtain ⟨A, c, l, rfl, hr0, hc0, hm0, hn0⟩ := open_spans (hval 0 _ v0 rfl rfl) h0
  obtain ⟨B, d, r, rfl, hr1, hc1, hm1, hn1⟩ := open_spans (hval 1 _ v1 rfl rfl) h1
  refine (walk_SpanPairs A c l B d r W hr0 hc0 hm0 hn0 hr1 hc1 hm1 hn1).mono fun e W' ⟨he, hb⟩ => ?_
  subst he
  exact ⟨_, rfl, _, _, _, [], _, [], hW', trodAll_mk1 (shut_bool Try.underlying4 true), trodAll_mk2 (kept readable22 row22 h0 hb fun x hx => hlt x (by simp [hx])) (kept readable22 row22 h1 hb fun x hx => hlt x (by simp [hx])), rfl, World.keptBut_mono (fun x hx => ⟨hx, .inr (.inl (by simpa using hx))⟩) (hb.frame (· ∈ _)), fun h => by cases h⟩

theorem holds_SpanPairs : Rows.SpanPairsSaid :=
  OpenClaim.holds_of_wide 3 Try.f3 rfl rfl rfl rfl rfl rfl rfl ⟨rfl, rfl, rfl, rfl, rfl⟩ rfl rfl rfl rfl rfl (by kernel_rfl) Try.func3 (by kernel_rfl)
    (of_decide_eq_true (by kernel_rfl)) (by unfold Func.isWrapper; first | (rw [if_pos (by decide +kernel)]; kernel_rfl) | (rw [if_neg (by decide +kernel)]; exact ⟨rfl, rfl⟩))
    (fun os started H enc _ => lifted_SpanPairs os started H enc)
end Go.Proofs.Ytgmkchkaceciiaa.Sp
