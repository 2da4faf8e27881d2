/-
  SpanAlgebra holds for every three lists of spans: the law answers true and each list reads afterwards as it read before. No condition.
-/
import Derived.Test.YtfjghokjecdfgaaSpFrame
import Derived.Test.YtfjghokjecdfgaaSpMeet
import Derived.Test.YtfjghokjecdfgaaSpUnion
namespace Go.Proofs.Ytfjghokjecdfgaa.Sp
set_option maxRecDepth 100000
open Go Go.RowKit Go.ChangeShapes Go.WideShapes Go.ChangeAt

theorem lens_three (w : World) (A A' A2 : Option Addr) (n n' n2 c c' c2 : Nat) (t : TypeId) : Lens (w.alloc (.cells #[.slice A n c, .slice A' n' c', .slice A2 n2 c2] t)) w.heap.size [n, n', n2] := by
  intro j hj
  have : j = 0 ∨ j = 1 ∨ j = 2 := by simp at hj; omega
  rcases this with rfl | rfl | rfl
  · exact ⟨A, c, by simp⟩
  · exact ⟨A', c', by simp⟩
  · exact ⟨A2, c2, by simp⟩
theorem all_mem (l : List Span) (x : Int) (h : mem l x) : mem [(-1073741824, 1073741824)] x := mem_one.2 ⟨h.1, by have := h.1; unfold Rng at this; simp only; omega⟩
theorem alg1 {a b c bc ab ac : Prop} (h1 : bc ↔ (b ∨ c)) (h2 : ab ↔ (a ∧ b)) (h3 : ac ↔ (a ∧ c)) : (a ∧ bc) ↔ (ab ∨ ac) := by rw [h1, h2, h3]; exact and_or_left
theorem alg2 {a b c bc ab ac : Prop} (h1 : bc ↔ (b ∧ c)) (h2 : ab ↔ (a ∨ b)) (h3 : ac ↔ (a ∨ c)) : (a ∨ bc) ↔ (ab ∧ ac) := by rw [h1, h2, h3]; exact or_and_left
theorem alg3 {z a b ab na nb : Prop} (h1 : ab ↔ (a ∨ b)) (h2 : na ↔ (z ∧ ¬ a)) (h3 : nb ↔ (z ∧ ¬ b)) : (z ∧ ¬ ab) ↔ (na ∧ nb) := by
  rw [h1, h2, h3, not_or]
  exact ⟨fun ⟨h, k, m⟩ => ⟨⟨h, k⟩, h, m⟩, fun ⟨⟨h, k⟩, _, m⟩ => ⟨h, k, m⟩⟩
theorem alg4 {z a na : Prop} (h1 : na ↔ (z ∧ ¬ a)) (h2 : a → z) : (z ∧ ¬ na) ↔ a := by
  rw [h1]
  exact ⟨fun ⟨h, k⟩ => Classical.byContradiction fun hn => k ⟨h, hn⟩, fun h => ⟨h2 h, fun ⟨_, k⟩ => k h⟩⟩

set_option maxRecDepth 100000 in
set_option maxHeartbeats 8000000 in
theorem walk_SpanAlgebra (A : Option Addr) (c : Nat) (l : List Span) (B : Option Addr) (d : Nat) (r : List Span) (C : Option Addr) (f : Nat) (s : List Span) (w : World) (hl : RS w w.heap.size A l.length l) (hcl : l.length ≤ c) (hml : l.length ≤ maxLen) (hnl : A = none → l = [] ∧ c = 0) (hr : RS w w.heap.size B r.length r) (hcr : r.length ≤ d) (hmr : r.length ≤ maxLen) (hnr : B = none → r = [] ∧ d = 0) (hs : RS w w.heap.size C s.length s) (hcs : s.length ≤ f) (hms : s.length ≤ maxLen) (hns : C = none → s = [] ∧ f = 0) :
    Calls Try.prog 8 #[.slice A l.length c, .slice B r.length d, .slice C s.length f] w (RetB true w) := by
  unfold maxLen at hml
  unfold maxLen at hmr
  unfold maxLen at hms
  have hz0 : Below w.heap.size w (w.alloc (.cells #[.slice A l.length c, .slice B r.length d, .slice C s.length f] 22)) := (Below.refl _ _).alloc (Nat.le_refl _) _
  by_cases hgr : 300 < l.length ∨ 300 < r.length ∨ 300 < s.length
  · have HG := Lib.hid (great_any w.heap.size 3 [l.length, r.length, s.length] true _ (lens_three w A B C l.length r.length s.length c d f 22) (by simp) (by simp; exact hgr) (by simp; omega))
    have HB0 := Lib.hid hz0
    clear hz0 hgr
    go_enter Try.func8, Try.ntmps8
    go_wp2_with (fail)
    refine HG.out.mono ?_
    rintro e w1 ⟨rfl, rfl⟩
    go_wp2_with (fail)
    refine (awake_any _).mono ?_
    rintro e w2 ⟨rfl, hb⟩
    go_wp2_with (fail)
    go_ret
    exact ⟨rfl, HB0.out.trans (hb.mono HB0.out.size)⟩
  · have HG := Lib.hid (great_any w.heap.size 3 [l.length, r.length, s.length] false _ (lens_three w A B C l.length r.length s.length c d f 22) (by simp) (by simp; omega) (by simp; omega))
    have HB0 := Lib.hid hz0
    have hll : l.length ≤ 300 := by omega
    have Xl := Lib.hid (hl.belowM hz0)
    have Nl := Lib.hid hnl
    have hlr : r.length ≤ 300 := by omega
    have Xr := Lib.hid (hr.belowM hz0)
    have Nr := Lib.hid hnr
    have hls : s.length ≤ 300 := by omega
    have Xs := Lib.hid (hs.belowM hz0)
    have Ns := Lib.hid hns
    clear hz0 hgr hl hnl hml hr hnr hmr hs hns hms
    go_enter Try.func8, Try.ntmps8
    go_wp2_with (fail)
    refine HG.out.mono ?_
    rintro e w1 ⟨rfl, rfl⟩
    go_wp2_with (fail)
    have hal : Below (w.alloc (.cells #[.slice A l.length c, .slice B r.length d, .slice C s.length f] 22)).heap.size (w.alloc (.cells #[.slice A l.length c, .slice B r.length d, .slice C s.length f] 22)) ((w.alloc (.cells #[.slice A l.length c, .slice B r.length d, .slice C s.length f] 22)).alloc (.cells #[.int .i64 (-1073741824), .int .i64 1073741824] 40)) := (Below.refl _ _).alloc (Nat.le_refl _) _
    have HBa := Lib.hid (HB0.out.trans (hal.mono HB0.out.size))
    have Xla := Lib.hid (Xl.out.belowM hal)
    clear Xl
    have Xra := Lib.hid (Xr.out.belowM hal)
    clear Xr
    have Xsa := Lib.hid (Xs.out.belowM hal)
    clear Xs
    have LR0 := Lib.hid (lit_RS (w := (w.alloc (.cells #[.slice A l.length c, .slice B r.length d, .slice C s.length f] 22)).alloc (.cells #[.int .i64 (-1073741824), .int .i64 1073741824] 40)) (g := w.heap.size + 1) (B := w.heap.size + 1 + 1) (lo := -1073741824) (hi := 1073741824) (Nat.lt_succ_self _) (by simpa using heap_alloc_new (w.alloc (.cells #[.slice A l.length c, .slice B r.length d, .slice C s.length f] 22)) (.cells #[.int .i64 (-1073741824), .int .i64 1073741824] 40)))
    have LZ := Lib.hid (show RS _ ((w.alloc (.cells #[.slice A l.length c, .slice B r.length d, .slice C s.length f] 22)).alloc (.cells #[.int .i64 (-1073741824), .int .i64 1073741824] 40)).heap.size _ _ _ by rw [World.size_alloc, World.size_alloc]; exact LR0.out)
    clear hal LR0
    go_wp2_with (fail)
    refine (union_any A B c d l r _ Xla.out Xra.out (by omega) (by omega) Nl.out Nr.out).mono ?_
    rintro e w2 ⟨v2, o2, rfl, his2, ho2, hb2⟩
    obtain ⟨A2, c2, hv2, hc2, hr2⟩ := own_RS ho2
    subst hv2
    have HB2 := Lib.hid (HBa.out.trans (hb2.mono HBa.out.size))
    have Xl_2 := Lib.hid (Xla.out.belowM hb2)
    clear Xla
    have Xr_2 := Lib.hid (Xra.out.belowM hb2)
    clear Xra
    have Xs_2 := Lib.hid (Xsa.out.belowM hb2)
    clear Xsa
    have LZ_2 := Lib.hid (LZ.out.belowM hb2)
    clear LZ
    have HI2 := Lib.hid his2
    have hs2 := HI2.out.1.short
    have N2 := Lib.hid (own_nil ho2)
    have L2 := Lib.hid hr2
    clear hb2 his2 ho2 hr2
    go_wp2_with (fail)
    refine (union_any B A d c r l _ Xr_2.out Xl_2.out (by omega) (by omega) Nr.out Nl.out).mono ?_
    rintro e w3 ⟨v3, o3, rfl, his3, ho3, hb3⟩
    obtain rfl : o2 = o3 := HI2.out.eq his3 fun _ => Or.comm
    obtain ⟨A3, c3, hv3, hc3, hr3⟩ := own_RS ho3
    subst hv3
    have HB3 := Lib.hid (HB2.out.trans (hb3.mono HB2.out.size))
    have Xl_3 := Lib.hid (Xl_2.out.belowM hb3)
    clear Xl_2
    have Xr_3 := Lib.hid (Xr_2.out.belowM hb3)
    clear Xr_2
    have Xs_3 := Lib.hid (Xs_2.out.belowM hb3)
    clear Xs_2
    have LZ_3 := Lib.hid (LZ_2.out.belowM hb3)
    clear LZ_2
    have L2_3 := Lib.hid (L2.out.belowM hb3)
    clear L2
    have HI3 := Lib.hid his3
    have hs3 := HI3.out.1.short
    have N3 := Lib.hid (own_nil ho3)
    have L3 := Lib.hid hr3
    clear hb3 his3 ho3 hr3
    have HS1 := Lib.hid (same_any A2 A3 o2.length o2.length c2 c3 o2 o2 _ L2_3.out L3.out (by omega) (by omega))
    rw [decide_eq_true (rfl : o2 = o2)] at HS1
    go_wp2_with (fail)
    refine (HS1.out).mono ?_
    rintro e w4 ⟨rfl, hb4⟩
    have HB4 := Lib.hid (HB3.out.trans (hb4.mono HB3.out.size))
    have Xl_4 := Lib.hid (Xl_3.out.belowM hb4)
    clear Xl_3
    have Xr_4 := Lib.hid (Xr_3.out.belowM hb4)
    clear Xr_3
    have Xs_4 := Lib.hid (Xs_3.out.belowM hb4)
    clear Xs_3
    have LZ_4 := Lib.hid (LZ_3.out.belowM hb4)
    clear LZ_3
    have L2_4 := Lib.hid (L2_3.out.belowM hb4)
    clear L2_3
    have L3_4 := Lib.hid (L3.out.belowM hb4)
    clear L3
    clear hb4
    clear L2_4
    clear L3_4
    go_wp2_with (fail)
    refine (meet_any A B (l.length) (r.length) c d (l) (r) _ Xl_4.out Xr_4.out (by omega) (by omega) hcl hcr).mono ?_
    rintro e w5 ⟨v5, o5, rfl, his5, ho5, hb5⟩
    obtain ⟨A5, c5, hv5, hc5, hr5⟩ := own_RS ho5
    subst hv5
    have HB5 := Lib.hid (HB4.out.trans (hb5.mono HB4.out.size))
    have Xl_5 := Lib.hid (Xl_4.out.belowM hb5)
    clear Xl_4
    have Xr_5 := Lib.hid (Xr_4.out.belowM hb5)
    clear Xr_4
    have Xs_5 := Lib.hid (Xs_4.out.belowM hb5)
    clear Xs_4
    have LZ_5 := Lib.hid (LZ_4.out.belowM hb5)
    clear LZ_4
    have HI5 := Lib.hid his5
    have hs5 := HI5.out.1.short
    have N5 := Lib.hid (own_nil ho5)
    have L5 := Lib.hid hr5
    clear hb5 his5 ho5 hr5
    go_wp2_with (fail)
    refine (meet_any B A (r.length) (l.length) d c (r) (l) _ Xr_5.out Xl_5.out (by omega) (by omega) hcr hcl).mono ?_
    rintro e w6 ⟨v6, o6, rfl, his6, ho6, hb6⟩
    obtain rfl : o5 = o6 := HI5.out.eq his6 fun _ => And.comm
    obtain ⟨A6, c6, hv6, hc6, hr6⟩ := own_RS ho6
    subst hv6
    have HB6 := Lib.hid (HB5.out.trans (hb6.mono HB5.out.size))
    have Xl_6 := Lib.hid (Xl_5.out.belowM hb6)
    clear Xl_5
    have Xr_6 := Lib.hid (Xr_5.out.belowM hb6)
    clear Xr_5
    have Xs_6 := Lib.hid (Xs_5.out.belowM hb6)
    clear Xs_5
    have LZ_6 := Lib.hid (LZ_5.out.belowM hb6)
    clear LZ_5
    have L5_6 := Lib.hid (L5.out.belowM hb6)
    clear L5
    have HI6 := Lib.hid his6
    have hs6 := HI6.out.1.short
    have N6 := Lib.hid (own_nil ho6)
    have L6 := Lib.hid hr6
    clear hb6 his6 ho6 hr6
    have HS2 := Lib.hid (same_any A5 A6 o5.length o5.length c5 c6 o5 o5 _ L5_6.out L6.out (by omega) (by omega))
    rw [decide_eq_true (rfl : o5 = o5)] at HS2
    go_wp2_with (fail)
    refine (HS2.out).mono ?_
    rintro e w7 ⟨rfl, hb7⟩
    have HB7 := Lib.hid (HB6.out.trans (hb7.mono HB6.out.size))
    have Xl_7 := Lib.hid (Xl_6.out.belowM hb7)
    clear Xl_6
    have Xr_7 := Lib.hid (Xr_6.out.belowM hb7)
    clear Xr_6
    have Xs_7 := Lib.hid (Xs_6.out.belowM hb7)
    clear Xs_6
    have LZ_7 := Lib.hid (LZ_6.out.belowM hb7)
    clear LZ_6
    have L5_7 := Lib.hid (L5_6.out.belowM hb7)
    clear L5_6
    have L6_7 := Lib.hid (L6.out.belowM hb7)
    clear L6
    clear hb7
    clear L5_7
    clear L6_7
    go_wp2_with (fail)
    refine (union_any B C d f r s _ Xr_7.out Xs_7.out (by omega) (by omega) Nr.out Ns.out).mono ?_
    rintro e w8 ⟨v8, o8, rfl, his8, ho8, hb8⟩
    obtain ⟨A8, c8, hv8, hc8, hr8⟩ := own_RS ho8
    subst hv8
    have HB8 := Lib.hid (HB7.out.trans (hb8.mono HB7.out.size))
    have Xl_8 := Lib.hid (Xl_7.out.belowM hb8)
    clear Xl_7
    have Xr_8 := Lib.hid (Xr_7.out.belowM hb8)
    clear Xr_7
    have Xs_8 := Lib.hid (Xs_7.out.belowM hb8)
    clear Xs_7
    have LZ_8 := Lib.hid (LZ_7.out.belowM hb8)
    clear LZ_7
    have HI8 := Lib.hid his8
    have hs8 := HI8.out.1.short
    have N8 := Lib.hid (own_nil ho8)
    have L8 := Lib.hid hr8
    clear hb8 his8 ho8 hr8
    go_wp2_with (fail)
    refine (meet_any A A8 (l.length) (o8.length) c c8 (l) (o8) _ Xl_8.out L8.out (by omega) (by omega) hcl hc8).mono ?_
    rintro e w9 ⟨v9, o9, rfl, his9, ho9, hb9⟩
    obtain ⟨A9, c9, hv9, hc9, hr9⟩ := own_RS ho9
    subst hv9
    have HB9 := Lib.hid (HB8.out.trans (hb9.mono HB8.out.size))
    have Xl_9 := Lib.hid (Xl_8.out.belowM hb9)
    clear Xl_8
    have Xr_9 := Lib.hid (Xr_8.out.belowM hb9)
    clear Xr_8
    have Xs_9 := Lib.hid (Xs_8.out.belowM hb9)
    clear Xs_8
    have LZ_9 := Lib.hid (LZ_8.out.belowM hb9)
    clear LZ_8
    have L8_9 := Lib.hid (L8.out.belowM hb9)
    clear L8
    have HI9 := Lib.hid his9
    have hs9 := HI9.out.1.short
    have N9 := Lib.hid (own_nil ho9)
    have L9 := Lib.hid hr9
    clear hb9 his9 ho9 hr9
    go_wp2_with (fail)
    refine (meet_any A B (l.length) (r.length) c d (l) (r) _ Xl_9.out Xr_9.out (by omega) (by omega) hcl hcr).mono ?_
    rintro e w10 ⟨v10, o10, rfl, his10, ho10, hb10⟩
    obtain ⟨A10, c10, hv10, hc10, hr10⟩ := own_RS ho10
    subst hv10
    have HB10 := Lib.hid (HB9.out.trans (hb10.mono HB9.out.size))
    have Xl_10 := Lib.hid (Xl_9.out.belowM hb10)
    clear Xl_9
    have Xr_10 := Lib.hid (Xr_9.out.belowM hb10)
    clear Xr_9
    have Xs_10 := Lib.hid (Xs_9.out.belowM hb10)
    clear Xs_9
    have LZ_10 := Lib.hid (LZ_9.out.belowM hb10)
    clear LZ_9
    have L8_10 := Lib.hid (L8_9.out.belowM hb10)
    clear L8_9
    have L9_10 := Lib.hid (L9.out.belowM hb10)
    clear L9
    have HI10 := Lib.hid his10
    have hs10 := HI10.out.1.short
    have N10 := Lib.hid (own_nil ho10)
    have L10 := Lib.hid hr10
    clear hb10 his10 ho10 hr10
    go_wp2_with (fail)
    refine (meet_any A C (l.length) (s.length) c f (l) (s) _ Xl_10.out Xs_10.out (by omega) (by omega) hcl hcs).mono ?_
    rintro e w11 ⟨v11, o11, rfl, his11, ho11, hb11⟩
    obtain ⟨A11, c11, hv11, hc11, hr11⟩ := own_RS ho11
    subst hv11
    have HB11 := Lib.hid (HB10.out.trans (hb11.mono HB10.out.size))
    have Xl_11 := Lib.hid (Xl_10.out.belowM hb11)
    clear Xl_10
    have Xr_11 := Lib.hid (Xr_10.out.belowM hb11)
    clear Xr_10
    have Xs_11 := Lib.hid (Xs_10.out.belowM hb11)
    clear Xs_10
    have LZ_11 := Lib.hid (LZ_10.out.belowM hb11)
    clear LZ_10
    have L8_11 := Lib.hid (L8_10.out.belowM hb11)
    clear L8_10
    have L9_11 := Lib.hid (L9_10.out.belowM hb11)
    clear L9_10
    have L10_11 := Lib.hid (L10.out.belowM hb11)
    clear L10
    have HI11 := Lib.hid his11
    have hs11 := HI11.out.1.short
    have N11 := Lib.hid (own_nil ho11)
    have L11 := Lib.hid hr11
    clear hb11 his11 ho11 hr11
    go_wp2_with (fail)
    refine (union_any A10 A11 c10 c11 o10 o11 _ L10_11.out L11.out (by omega) (by omega) N10.out N11.out).mono ?_
    rintro e w12 ⟨v12, o12, rfl, his12, ho12, hb12⟩
    obtain rfl : o9 = o12 := HI9.out.eq his12 fun z => alg1 (HI8.out.2 z) (HI10.out.2 z) (HI11.out.2 z)
    obtain ⟨A12, c12, hv12, hc12, hr12⟩ := own_RS ho12
    subst hv12
    have HB12 := Lib.hid (HB11.out.trans (hb12.mono HB11.out.size))
    have Xl_12 := Lib.hid (Xl_11.out.belowM hb12)
    clear Xl_11
    have Xr_12 := Lib.hid (Xr_11.out.belowM hb12)
    clear Xr_11
    have Xs_12 := Lib.hid (Xs_11.out.belowM hb12)
    clear Xs_11
    have LZ_12 := Lib.hid (LZ_11.out.belowM hb12)
    clear LZ_11
    have L8_12 := Lib.hid (L8_11.out.belowM hb12)
    clear L8_11
    have L9_12 := Lib.hid (L9_11.out.belowM hb12)
    clear L9_11
    have L10_12 := Lib.hid (L10_11.out.belowM hb12)
    clear L10_11
    have L11_12 := Lib.hid (L11.out.belowM hb12)
    clear L11
    have HI12 := Lib.hid his12
    have hs12 := HI12.out.1.short
    have N12 := Lib.hid (own_nil ho12)
    have L12 := Lib.hid hr12
    clear hb12 his12 ho12 hr12
    have HS3 := Lib.hid (same_any A9 A12 o9.length o9.length c9 c12 o9 o9 _ L9_12.out L12.out (by omega) (by omega))
    rw [decide_eq_true (rfl : o9 = o9)] at HS3
    go_wp2_with (fail)
    refine (HS3.out).mono ?_
    rintro e w13 ⟨rfl, hb13⟩
    have HB13 := Lib.hid (HB12.out.trans (hb13.mono HB12.out.size))
    have Xl_13 := Lib.hid (Xl_12.out.belowM hb13)
    clear Xl_12
    have Xr_13 := Lib.hid (Xr_12.out.belowM hb13)
    clear Xr_12
    have Xs_13 := Lib.hid (Xs_12.out.belowM hb13)
    clear Xs_12
    have LZ_13 := Lib.hid (LZ_12.out.belowM hb13)
    clear LZ_12
    have L8_13 := Lib.hid (L8_12.out.belowM hb13)
    clear L8_12
    have L9_13 := Lib.hid (L9_12.out.belowM hb13)
    clear L9_12
    have L10_13 := Lib.hid (L10_12.out.belowM hb13)
    clear L10_12
    have L11_13 := Lib.hid (L11_12.out.belowM hb13)
    clear L11_12
    have L12_13 := Lib.hid (L12.out.belowM hb13)
    clear L12
    clear hb13
    clear L9_13
    clear L12_13
    clear L8_13
    clear L10_13
    clear L11_13
    go_wp2_with (fail)
    refine (meet_any B C (r.length) (s.length) d f (r) (s) _ Xr_13.out Xs_13.out (by omega) (by omega) hcr hcs).mono ?_
    rintro e w14 ⟨v14, o14, rfl, his14, ho14, hb14⟩
    obtain ⟨A14, c14, hv14, hc14, hr14⟩ := own_RS ho14
    subst hv14
    have HB14 := Lib.hid (HB13.out.trans (hb14.mono HB13.out.size))
    have Xl_14 := Lib.hid (Xl_13.out.belowM hb14)
    clear Xl_13
    have Xr_14 := Lib.hid (Xr_13.out.belowM hb14)
    clear Xr_13
    have Xs_14 := Lib.hid (Xs_13.out.belowM hb14)
    clear Xs_13
    have LZ_14 := Lib.hid (LZ_13.out.belowM hb14)
    clear LZ_13
    have HI14 := Lib.hid his14
    have hs14 := HI14.out.1.short
    have N14 := Lib.hid (own_nil ho14)
    have L14 := Lib.hid hr14
    clear hb14 his14 ho14 hr14
    go_wp2_with (fail)
    refine (union_any A A14 c c14 l o14 _ Xl_14.out L14.out (by omega) (by omega) Nl.out N14.out).mono ?_
    rintro e w15 ⟨v15, o15, rfl, his15, ho15, hb15⟩
    obtain ⟨A15, c15, hv15, hc15, hr15⟩ := own_RS ho15
    subst hv15
    have HB15 := Lib.hid (HB14.out.trans (hb15.mono HB14.out.size))
    have Xl_15 := Lib.hid (Xl_14.out.belowM hb15)
    clear Xl_14
    have Xr_15 := Lib.hid (Xr_14.out.belowM hb15)
    clear Xr_14
    have Xs_15 := Lib.hid (Xs_14.out.belowM hb15)
    clear Xs_14
    have LZ_15 := Lib.hid (LZ_14.out.belowM hb15)
    clear LZ_14
    have L14_15 := Lib.hid (L14.out.belowM hb15)
    clear L14
    have HI15 := Lib.hid his15
    have hs15 := HI15.out.1.short
    have N15 := Lib.hid (own_nil ho15)
    have L15 := Lib.hid hr15
    clear hb15 his15 ho15 hr15
    go_wp2_with (fail)
    refine (union_any A B c d l r _ Xl_15.out Xr_15.out (by omega) (by omega) Nl.out Nr.out).mono ?_
    rintro e w16 ⟨v16, o16, rfl, his16, ho16, hb16⟩
    obtain ⟨A16, c16, hv16, hc16, hr16⟩ := own_RS ho16
    subst hv16
    have HB16 := Lib.hid (HB15.out.trans (hb16.mono HB15.out.size))
    have Xl_16 := Lib.hid (Xl_15.out.belowM hb16)
    clear Xl_15
    have Xr_16 := Lib.hid (Xr_15.out.belowM hb16)
    clear Xr_15
    have Xs_16 := Lib.hid (Xs_15.out.belowM hb16)
    clear Xs_15
    have LZ_16 := Lib.hid (LZ_15.out.belowM hb16)
    clear LZ_15
    have L14_16 := Lib.hid (L14_15.out.belowM hb16)
    clear L14_15
    have L15_16 := Lib.hid (L15.out.belowM hb16)
    clear L15
    have HI16 := Lib.hid his16
    have hs16 := HI16.out.1.short
    have N16 := Lib.hid (own_nil ho16)
    have L16 := Lib.hid hr16
    clear hb16 his16 ho16 hr16
    go_wp2_with (fail)
    refine (union_any A C c f l s _ Xl_16.out Xs_16.out (by omega) (by omega) Nl.out Ns.out).mono ?_
    rintro e w17 ⟨v17, o17, rfl, his17, ho17, hb17⟩
    obtain ⟨A17, c17, hv17, hc17, hr17⟩ := own_RS ho17
    subst hv17
    have HB17 := Lib.hid (HB16.out.trans (hb17.mono HB16.out.size))
    have Xl_17 := Lib.hid (Xl_16.out.belowM hb17)
    clear Xl_16
    have Xr_17 := Lib.hid (Xr_16.out.belowM hb17)
    clear Xr_16
    have Xs_17 := Lib.hid (Xs_16.out.belowM hb17)
    clear Xs_16
    have LZ_17 := Lib.hid (LZ_16.out.belowM hb17)
    clear LZ_16
    have L14_17 := Lib.hid (L14_16.out.belowM hb17)
    clear L14_16
    have L15_17 := Lib.hid (L15_16.out.belowM hb17)
    clear L15_16
    have L16_17 := Lib.hid (L16.out.belowM hb17)
    clear L16
    have HI17 := Lib.hid his17
    have hs17 := HI17.out.1.short
    have N17 := Lib.hid (own_nil ho17)
    have L17 := Lib.hid hr17
    clear hb17 his17 ho17 hr17
    go_wp2_with (fail)
    refine (meet_any A16 A17 (o16.length) (o17.length) c16 c17 (o16) (o17) _ L16_17.out L17.out (by omega) (by omega) hc16 hc17).mono ?_
    rintro e w18 ⟨v18, o18, rfl, his18, ho18, hb18⟩
    obtain rfl : o15 = o18 := HI15.out.eq his18 fun z => alg2 (HI14.out.2 z) (HI16.out.2 z) (HI17.out.2 z)
    obtain ⟨A18, c18, hv18, hc18, hr18⟩ := own_RS ho18
    subst hv18
    have HB18 := Lib.hid (HB17.out.trans (hb18.mono HB17.out.size))
    have Xl_18 := Lib.hid (Xl_17.out.belowM hb18)
    clear Xl_17
    have Xr_18 := Lib.hid (Xr_17.out.belowM hb18)
    clear Xr_17
    have Xs_18 := Lib.hid (Xs_17.out.belowM hb18)
    clear Xs_17
    have LZ_18 := Lib.hid (LZ_17.out.belowM hb18)
    clear LZ_17
    have L14_18 := Lib.hid (L14_17.out.belowM hb18)
    clear L14_17
    have L15_18 := Lib.hid (L15_17.out.belowM hb18)
    clear L15_17
    have L16_18 := Lib.hid (L16_17.out.belowM hb18)
    clear L16_17
    have L17_18 := Lib.hid (L17.out.belowM hb18)
    clear L17
    have HI18 := Lib.hid his18
    have hs18 := HI18.out.1.short
    have N18 := Lib.hid (own_nil ho18)
    have L18 := Lib.hid hr18
    clear hb18 his18 ho18 hr18
    have HS4 := Lib.hid (same_any A15 A18 o15.length o15.length c15 c18 o15 o15 _ L15_18.out L18.out (by omega) (by omega))
    rw [decide_eq_true (rfl : o15 = o15)] at HS4
    go_wp2_with (fail)
    refine (HS4.out).mono ?_
    rintro e w19 ⟨rfl, hb19⟩
    have HB19 := Lib.hid (HB18.out.trans (hb19.mono HB18.out.size))
    have Xl_19 := Lib.hid (Xl_18.out.belowM hb19)
    clear Xl_18
    have Xr_19 := Lib.hid (Xr_18.out.belowM hb19)
    clear Xr_18
    have Xs_19 := Lib.hid (Xs_18.out.belowM hb19)
    clear Xs_18
    have LZ_19 := Lib.hid (LZ_18.out.belowM hb19)
    clear LZ_18
    have L14_19 := Lib.hid (L14_18.out.belowM hb19)
    clear L14_18
    have L15_19 := Lib.hid (L15_18.out.belowM hb19)
    clear L15_18
    have L16_19 := Lib.hid (L16_18.out.belowM hb19)
    clear L16_18
    have L17_19 := Lib.hid (L17_18.out.belowM hb19)
    clear L17_18
    have L18_19 := Lib.hid (L18.out.belowM hb19)
    clear L18
    clear hb19
    clear L15_19
    clear L18_19
    clear L14_19
    clear L16_19
    clear L17_19
    go_wp2_with (fail)
    refine (union_any A B c d l r _ Xl_19.out Xr_19.out (by omega) (by omega) Nl.out Nr.out).mono ?_
    rintro e w20 ⟨v20, o20, rfl, his20, ho20, hb20⟩
    obtain ⟨A20, c20, hv20, hc20, hr20⟩ := own_RS ho20
    subst hv20
    have HB20 := Lib.hid (HB19.out.trans (hb20.mono HB19.out.size))
    have Xl_20 := Lib.hid (Xl_19.out.belowM hb20)
    clear Xl_19
    have Xr_20 := Lib.hid (Xr_19.out.belowM hb20)
    clear Xr_19
    have Xs_20 := Lib.hid (Xs_19.out.belowM hb20)
    clear Xs_19
    have LZ_20 := Lib.hid (LZ_19.out.belowM hb20)
    clear LZ_19
    have HI20 := Lib.hid his20
    have hs20 := HI20.out.1.short
    have N20 := Lib.hid (own_nil ho20)
    have L20 := Lib.hid hr20
    clear hb20 his20 ho20 hr20
    go_wp2_with (fail)
    refine (minus_any (some ⟨w.heap.size + 1, 0, none⟩) A20 (1) (o20.length) 1 c20 ([(-1073741824, 1073741824)]) (o20) _ LZ_20.out L20.out (by omega) (by omega) (Nat.le_refl _) hc20).mono ?_
    rintro e w21 ⟨v21, o21, rfl, his21, ho21, hb21⟩
    obtain ⟨A21, c21, hv21, hc21, hr21⟩ := own_RS ho21
    subst hv21
    have HB21 := Lib.hid (HB20.out.trans (hb21.mono HB20.out.size))
    have Xl_21 := Lib.hid (Xl_20.out.belowM hb21)
    clear Xl_20
    have Xr_21 := Lib.hid (Xr_20.out.belowM hb21)
    clear Xr_20
    have Xs_21 := Lib.hid (Xs_20.out.belowM hb21)
    clear Xs_20
    have LZ_21 := Lib.hid (LZ_20.out.belowM hb21)
    clear LZ_20
    have L20_21 := Lib.hid (L20.out.belowM hb21)
    clear L20
    have HI21 := Lib.hid his21
    have hs21 := HI21.out.1.short
    have N21 := Lib.hid (own_nil ho21)
    have L21 := Lib.hid hr21
    clear hb21 his21 ho21 hr21
    go_wp2_with (fail)
    refine (minus_any (some ⟨w.heap.size + 1, 0, none⟩) A (1) (l.length) 1 c ([(-1073741824, 1073741824)]) (l) _ LZ_21.out Xl_21.out (by omega) (by omega) (Nat.le_refl _) hcl).mono ?_
    rintro e w22 ⟨v22, o22, rfl, his22, ho22, hb22⟩
    obtain ⟨A22, c22, hv22, hc22, hr22⟩ := own_RS ho22
    subst hv22
    have HB22 := Lib.hid (HB21.out.trans (hb22.mono HB21.out.size))
    have Xl_22 := Lib.hid (Xl_21.out.belowM hb22)
    clear Xl_21
    have Xr_22 := Lib.hid (Xr_21.out.belowM hb22)
    clear Xr_21
    have Xs_22 := Lib.hid (Xs_21.out.belowM hb22)
    clear Xs_21
    have LZ_22 := Lib.hid (LZ_21.out.belowM hb22)
    clear LZ_21
    have L20_22 := Lib.hid (L20_21.out.belowM hb22)
    clear L20_21
    have L21_22 := Lib.hid (L21.out.belowM hb22)
    clear L21
    have HI22 := Lib.hid his22
    have hs22 := HI22.out.1.short
    have N22 := Lib.hid (own_nil ho22)
    have L22 := Lib.hid hr22
    clear hb22 his22 ho22 hr22
    go_wp2_with (fail)
    refine (minus_any (some ⟨w.heap.size + 1, 0, none⟩) B (1) (r.length) 1 d ([(-1073741824, 1073741824)]) (r) _ LZ_22.out Xr_22.out (by omega) (by omega) (Nat.le_refl _) hcr).mono ?_
    rintro e w23 ⟨v23, o23, rfl, his23, ho23, hb23⟩
    obtain ⟨A23, c23, hv23, hc23, hr23⟩ := own_RS ho23
    subst hv23
    have HB23 := Lib.hid (HB22.out.trans (hb23.mono HB22.out.size))
    have Xl_23 := Lib.hid (Xl_22.out.belowM hb23)
    clear Xl_22
    have Xr_23 := Lib.hid (Xr_22.out.belowM hb23)
    clear Xr_22
    have Xs_23 := Lib.hid (Xs_22.out.belowM hb23)
    clear Xs_22
    have LZ_23 := Lib.hid (LZ_22.out.belowM hb23)
    clear LZ_22
    have L20_23 := Lib.hid (L20_22.out.belowM hb23)
    clear L20_22
    have L21_23 := Lib.hid (L21_22.out.belowM hb23)
    clear L21_22
    have L22_23 := Lib.hid (L22.out.belowM hb23)
    clear L22
    have HI23 := Lib.hid his23
    have hs23 := HI23.out.1.short
    have N23 := Lib.hid (own_nil ho23)
    have L23 := Lib.hid hr23
    clear hb23 his23 ho23 hr23
    go_wp2_with (fail)
    refine (meet_any A22 A23 (o22.length) (o23.length) c22 c23 (o22) (o23) _ L22_23.out L23.out (by omega) (by omega) hc22 hc23).mono ?_
    rintro e w24 ⟨v24, o24, rfl, his24, ho24, hb24⟩
    obtain rfl : o21 = o24 := HI21.out.eq his24 fun z => alg3 (HI20.out.2 z) (HI22.out.2 z) (HI23.out.2 z)
    obtain ⟨A24, c24, hv24, hc24, hr24⟩ := own_RS ho24
    subst hv24
    have HB24 := Lib.hid (HB23.out.trans (hb24.mono HB23.out.size))
    have Xl_24 := Lib.hid (Xl_23.out.belowM hb24)
    clear Xl_23
    have Xr_24 := Lib.hid (Xr_23.out.belowM hb24)
    clear Xr_23
    have Xs_24 := Lib.hid (Xs_23.out.belowM hb24)
    clear Xs_23
    have LZ_24 := Lib.hid (LZ_23.out.belowM hb24)
    clear LZ_23
    have L20_24 := Lib.hid (L20_23.out.belowM hb24)
    clear L20_23
    have L21_24 := Lib.hid (L21_23.out.belowM hb24)
    clear L21_23
    have L22_24 := Lib.hid (L22_23.out.belowM hb24)
    clear L22_23
    have L23_24 := Lib.hid (L23.out.belowM hb24)
    clear L23
    have HI24 := Lib.hid his24
    have hs24 := HI24.out.1.short
    have N24 := Lib.hid (own_nil ho24)
    have L24 := Lib.hid hr24
    clear hb24 his24 ho24 hr24
    have HS5 := Lib.hid (same_any A21 A24 o21.length o21.length c21 c24 o21 o21 _ L21_24.out L24.out (by omega) (by omega))
    rw [decide_eq_true (rfl : o21 = o21)] at HS5
    go_wp2_with (fail)
    refine (HS5.out).mono ?_
    rintro e w25 ⟨rfl, hb25⟩
    have HB25 := Lib.hid (HB24.out.trans (hb25.mono HB24.out.size))
    have Xl_25 := Lib.hid (Xl_24.out.belowM hb25)
    clear Xl_24
    have Xr_25 := Lib.hid (Xr_24.out.belowM hb25)
    clear Xr_24
    have Xs_25 := Lib.hid (Xs_24.out.belowM hb25)
    clear Xs_24
    have LZ_25 := Lib.hid (LZ_24.out.belowM hb25)
    clear LZ_24
    have L20_25 := Lib.hid (L20_24.out.belowM hb25)
    clear L20_24
    have L21_25 := Lib.hid (L21_24.out.belowM hb25)
    clear L21_24
    have L22_25 := Lib.hid (L22_24.out.belowM hb25)
    clear L22_24
    have L23_25 := Lib.hid (L23_24.out.belowM hb25)
    clear L23_24
    have L24_25 := Lib.hid (L24.out.belowM hb25)
    clear L24
    clear hb25
    clear L21_25
    clear L24_25
    clear L20_25
    clear L22_25
    clear L23_25
    go_wp2_with (fail)
    refine (minus_any (some ⟨w.heap.size + 1, 0, none⟩) A (1) (l.length) 1 c ([(-1073741824, 1073741824)]) (l) _ LZ_25.out Xl_25.out (by omega) (by omega) (Nat.le_refl _) hcl).mono ?_
    rintro e w26 ⟨v26, o26, rfl, his26, ho26, hb26⟩
    obtain ⟨A26, c26, hv26, hc26, hr26⟩ := own_RS ho26
    subst hv26
    have HB26 := Lib.hid (HB25.out.trans (hb26.mono HB25.out.size))
    have Xl_26 := Lib.hid (Xl_25.out.belowM hb26)
    clear Xl_25
    have Xr_26 := Lib.hid (Xr_25.out.belowM hb26)
    clear Xr_25
    have Xs_26 := Lib.hid (Xs_25.out.belowM hb26)
    clear Xs_25
    have LZ_26 := Lib.hid (LZ_25.out.belowM hb26)
    clear LZ_25
    have HI26 := Lib.hid his26
    have hs26 := HI26.out.1.short
    have N26 := Lib.hid (own_nil ho26)
    have L26 := Lib.hid hr26
    clear hb26 his26 ho26 hr26
    go_wp2_with (fail)
    refine (minus_any (some ⟨w.heap.size + 1, 0, none⟩) A26 (1) (o26.length) 1 c26 ([(-1073741824, 1073741824)]) (o26) _ LZ_26.out L26.out (by omega) (by omega) (Nat.le_refl _) hc26).mono ?_
    rintro e w27 ⟨v27, o27, rfl, his27, ho27, hb27⟩
    obtain ⟨A27, c27, hv27, hc27, hr27⟩ := own_RS ho27
    subst hv27
    have HB27 := Lib.hid (HB26.out.trans (hb27.mono HB26.out.size))
    have Xl_27 := Lib.hid (Xl_26.out.belowM hb27)
    clear Xl_26
    have Xr_27 := Lib.hid (Xr_26.out.belowM hb27)
    clear Xr_26
    have Xs_27 := Lib.hid (Xs_26.out.belowM hb27)
    clear Xs_26
    have LZ_27 := Lib.hid (LZ_26.out.belowM hb27)
    clear LZ_26
    have L26_27 := Lib.hid (L26.out.belowM hb27)
    clear L26
    have HI27 := Lib.hid his27
    have hs27 := HI27.out.1.short
    have N27 := Lib.hid (own_nil ho27)
    have L27 := Lib.hid hr27
    clear hb27 his27 ho27 hr27
    go_wp2_with (fail)
    refine (norm_any A l.length c l _ Xl_27.out (by omega)).mono ?_
    rintro e w28 ⟨v28, o28, rfl, his28, ho28, hb28⟩
    obtain rfl : o27 = o28 := HI27.out.eq his28 fun z => alg4 (HI26.out.2 z) (all_mem l z)
    obtain ⟨A28, c28, hv28, hc28, hr28⟩ := own_RS ho28
    subst hv28
    have HB28 := Lib.hid (HB27.out.trans (hb28.mono HB27.out.size))
    have Xl_28 := Lib.hid (Xl_27.out.belowM hb28)
    clear Xl_27
    have Xr_28 := Lib.hid (Xr_27.out.belowM hb28)
    clear Xr_27
    have Xs_28 := Lib.hid (Xs_27.out.belowM hb28)
    clear Xs_27
    have LZ_28 := Lib.hid (LZ_27.out.belowM hb28)
    clear LZ_27
    have L26_28 := Lib.hid (L26_27.out.belowM hb28)
    clear L26_27
    have L27_28 := Lib.hid (L27.out.belowM hb28)
    clear L27
    have HI28 := Lib.hid his28
    have hs28 := HI28.out.1.short
    have N28 := Lib.hid (own_nil ho28)
    have L28 := Lib.hid hr28
    clear hb28 his28 ho28 hr28
    have HS6 := Lib.hid (same_any A27 A28 o27.length o27.length c27 c28 o27 o27 _ L27_28.out L28.out (by omega) (by omega))
    rw [decide_eq_true (rfl : o27 = o27)] at HS6
    go_wp2_with (fail)
    refine (HS6.out).mono ?_
    rintro e w29 ⟨rfl, hb29⟩
    have HB29 := Lib.hid (HB28.out.trans (hb29.mono HB28.out.size))
    have Xl_29 := Lib.hid (Xl_28.out.belowM hb29)
    clear Xl_28
    have Xr_29 := Lib.hid (Xr_28.out.belowM hb29)
    clear Xr_28
    have Xs_29 := Lib.hid (Xs_28.out.belowM hb29)
    clear Xs_28
    have LZ_29 := Lib.hid (LZ_28.out.belowM hb29)
    clear LZ_28
    have L26_29 := Lib.hid (L26_28.out.belowM hb29)
    clear L26_28
    have L27_29 := Lib.hid (L27_28.out.belowM hb29)
    clear L27_28
    have L28_29 := Lib.hid (L28.out.belowM hb29)
    clear L28
    clear hb29
    clear L27_29
    clear L28_29
    go_wp2_with (fail)
    refine (awake_any _).mono ?_
    rintro e w30 ⟨rfl, hb30⟩
    go_wp2_with (fail)
    go_ret
    exact ⟨rfl, HB29.out.trans (hb30.mono HB29.out.size)⟩

set_option maxRecDepth 100000 in
theorem lifted_SpanAlgebra (os : Os) (started : os.Started) (H : Type) (enc : TypeId × Value → H) :
    ReturnsInHanded {} Try.checked os 8 .any (Rows.spanAlgebraSpec.pre6 enc Try.prog Try.f8 Rows.spanAlgebraRow.domain false) (Rows.spanAlgebraSpec.post enc Try.prog Try.f8 false true false false) := by
  refine returnsInHanded_of_change (C := Try.checked) own started (by kernel_rfl) Try.func8
    (ChangeSpec.witness6 (enc := enc) (C := Try.checked) false ⟨#[], #[.slice none 0 0, .slice none 0 0, .slice none 0 0], []⟩ 8 (by kernel_rfl) (by kernel_rfl) (by kernel_rfl) (by kernel_rfl)) ?_
  intro W base args ds gs before hval0 hW hcnd _
  have hval : ∀ (j : Nat) t v, Try.f8.params[j]? = some t → args[j]? = some v → Value.okWide Try.prog W .any base t v := hval0
  have hW' := hW
  obtain ⟨p, q, hA0, hV, rfl, hfz, hnd⟩ := hW
  have hA : DataW.TrodAll enc Try.prog W 0 (fun _ => true) true Try.f8.params.toList args.toList ds p := hA0
  rw [Try.params8] at hA hval
  obtain ⟨v0, v1, v2, d0, d1, d2, p0, p1, p2, rfl, rfl, rfl, h0, h1, h2⟩ := trodAll_three hA
  obtain ⟨rfl, rfl⟩ := trodVars_none hV
  clear hA0 hval0
  simp only [List.append_nil] at hW'
  have hlt := fun x hx => hW'.lt (p := x) hx
  obtain ⟨A, c, l, rfl, hr0, hc0, hm0, hn0⟩ := open_spans (hval 0 _ v0 rfl rfl) h0
  obtain ⟨B, d, r, rfl, hr1, hc1, hm1, hn1⟩ := open_spans (hval 1 _ v1 rfl rfl) h1
  obtain ⟨C, f, s, rfl, hr2, hc2, hm2, hn2⟩ := open_spans (hval 2 _ v2 rfl rfl) h2
  refine (walk_SpanAlgebra A c l B d r C f s W hr0 hc0 hm0 hn0 hr1 hc1 hm1 hn1 hr2 hc2 hm2 hn2).mono fun e W' ⟨he, hb⟩ => ?_
  subst he
  exact ⟨_, rfl, _, _, _, [], _, [], hW', trodAll_mk1 (shut_bool Try.underlying4 true), trodAll_mk3 (kept readable22 row22 h0 hb fun x hx => hlt x (by simp [hx])) (kept readable22 row22 h1 hb fun x hx => hlt x (by simp [hx])) (kept readable22 row22 h2 hb fun x hx => hlt x (by simp [hx])), rfl, World.keptBut_mono (fun x hx => ⟨hx, .inr (.inl (by simpa using hx))⟩) (hb.frame (· ∈ _)), fun h => by cases h⟩

theorem holds_SpanAlgebra : Rows.SpanAlgebraSaid :=
  OpenClaim.holds_of_wide 8 Try.f8 rfl rfl rfl rfl rfl rfl rfl ⟨rfl, rfl, rfl, rfl, rfl⟩ rfl rfl rfl rfl rfl (by kernel_rfl) Try.func8 (by kernel_rfl)
    (of_decide_eq_true (by kernel_rfl)) (by unfold Func.isWrapper; first | (rw [if_pos (by decide +kernel)]; kernel_rfl) | (rw [if_neg (by decide +kernel)]; exact ⟨rfl, rfl⟩))
    (fun os started H enc _ => lifted_SpanAlgebra os started H enc)
end Go.Proofs.Ytfjghokjecdfgaa.Sp
