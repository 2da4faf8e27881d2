/-
  PartWhole holds for every two lists of spans and every place: the law answers true and the arguments read afterwards as they read before. No condition.
-/
import Derived.Test.YtfjghokjecdfgaaPaFrame
namespace Go.Proofs.Ytfjghokjecdfgaa.Pa
set_option maxRecDepth 100000
open Go Go.RowKit Go.ChangeShapes Go.WideShapes Go.ChangeAt Go.Proofs.Ytfjghokjecdfgaa.Sp

theorem val_all (x : Int) (h0 : 0 ≤ x) (h1 : x ≤ 2097151) : valI 0 21 0 x = x := by
  unfold valI
  rw [pw_zero, pw21]
  omega
theorem img_all' (s : List Span) (y : Int) : ImgS 0 21 0 s y ↔ (mem s y ∧ mem [((0 : Int), (2097151 : Int))] y) := by
  rw [mem_one]
  unfold ImgS DomS
  constructor
  · rintro ⟨x, ⟨_, a, b, c⟩, rfl⟩
    rw [val_all x b c]
    exact ⟨a, a.1, b, c⟩
  · rintro ⟨a, _, b, c⟩
    exact ⟨y, ⟨by decide, a, b, c⟩, val_all y b c⟩
theorem pre_all' (s g : List Span) (y : Int) : PreS 0 21 0 s g y ↔ ((mem s y ∧ mem g y) ∧ mem [((0 : Int), (2097151 : Int))] y) := by
  rw [mem_one]
  unfold PreS DomS
  constructor
  · rintro ⟨⟨_, a, b, c⟩, d⟩
    rw [val_all y b c] at d
    exact ⟨⟨a, d⟩, a.1, b, c⟩
  · rintro ⟨⟨a, d⟩, _, b, c⟩
    exact ⟨⟨by decide, a, b, c⟩, by rw [val_all y b c]; exact d⟩
set_option maxHeartbeats 4000000 in
theorem walk_PartWhole (A : Option Addr) (c : Nat) (s : List Span) (B : Option Addr) (e : Nat) (g : List Span) (pos : Int) (w : World) (hs : RS w w.heap.size A s.length s) (hg : RS w w.heap.size B g.length g) (hcs : s.length ≤ c) (hcg : g.length ≤ e) (hms : s.length ≤ maxLen) (hmg : g.length ≤ maxLen) :
    Calls Try.prog 14 #[.slice A s.length c, .slice B g.length e, .int .i64 pos] w (RetB true w) := by
  unfold maxLen at hms hmg
  by_cases g1 : 300 < s.length
  · clear hs hg
    go_enter Try.func14, Try.ntmps14
    go_wp2_with (fail)
    refine (pawake_any _).mono ?_
    rintro e w9 ⟨rfl, hb9⟩
    go_wp2_with (fail)
    go_ret
    exact ⟨rfl, hb9⟩
  by_cases g2 : 300 < g.length
  · clear hs hg
    go_enter Try.func14, Try.ntmps14
    go_wp2_with (fail)
    refine (pawake_any _).mono ?_
    rintro e w9 ⟨rfl, hb9⟩
    go_wp2_with (fail)
    go_ret
    exact ⟨rfl, hb9⟩
  have hz0 : Below w.heap.size w (w.alloc (.cells #[.int .i64 0, .int .i64 2097151] 40)) := (Below.refl _ _).alloc (Nat.le_refl _) _
  have HB0 := Lib.hid hz0
  have Xs := Lib.hid (hs.belowM hz0)
  have Xg := Lib.hid (hg.belowM hz0)
  have Xa := Lib.hid (show RS (w.alloc (.cells #[.int .i64 0, .int .i64 2097151] 40)) (w.alloc (.cells #[.int .i64 0, .int .i64 2097151] 40)).heap.size (some ⟨w.heap.size, 0, none⟩) 1 [(0, 2097151)] from lit_RS (by simp) (heap_alloc_new w _))
  clear hz0 hs hg
  go_enter Try.func14, Try.ntmps14
  go_wp2_with (fail)
  refine (whole_any pos _).mono ?_
  rintro e w2 ⟨rfl, hb2⟩
  have HB2 := Lib.hid (HB0.out.trans (hb2.mono HB0.out.size))
  have Xs_2 := Lib.hid (Xs.out.belowM hb2)
  clear Xs
  have Xg_2 := Lib.hid (Xg.out.belowM hb2)
  clear Xg
  have Xa_2 := Lib.hid (Xa.out.belowM hb2)
  clear Xa
  clear hb2
  go_wp2_with (fail)
  refine (image_any pos 0 21 0 A s.length c s _ Xs_2.out (by omega) hcs).mono ?_
  rintro e w3 ⟨v3, o3, rfl, his3, ho3, hb3⟩
  obtain ⟨A3, c3, hv3, hc3, hr3⟩ := own_RS ho3
  subst hv3
  have HB3 := Lib.hid (HB2.out.trans (hb3.mono HB2.out.size))
  have Xs_3 := Lib.hid (Xs_2.out.belowM hb3)
  clear Xs_2
  have Xg_3 := Lib.hid (Xg_2.out.belowM hb3)
  clear Xg_2
  have Xa_3 := Lib.hid (Xa_2.out.belowM hb3)
  clear Xa_2
  have HI3 := Lib.hid his3
  have hs3 := HI3.out.1.short
  have L3 := Lib.hid hr3
  clear hb3 his3 ho3 hr3
  go_wp2_with (fail)
  refine (meet_any A (some ⟨w.heap.size, 0, none⟩) s.length 1 c 1 s [(0, 2097151)] _ Xs_3.out Xa_3.out (by omega) (by omega) hcs (by omega)).mono ?_
  rintro e w4 ⟨v4, o4, rfl, his4, ho4, hb4⟩
  obtain rfl : o3 = o4 := HI3.out.eq his4 (img_all' s)
  obtain ⟨A4, c4, hv4, hc4, hr4⟩ := own_RS ho4
  subst hv4
  have HB4 := Lib.hid (HB3.out.trans (hb4.mono HB3.out.size))
  have Xs_4 := Lib.hid (Xs_3.out.belowM hb4)
  clear Xs_3
  have Xg_4 := Lib.hid (Xg_3.out.belowM hb4)
  clear Xg_3
  have Xa_4 := Lib.hid (Xa_3.out.belowM hb4)
  clear Xa_3
  have L3_4 := Lib.hid (L3.out.belowM hb4)
  clear L3
  have HI4 := Lib.hid his4
  have hs4 := HI4.out.1.short
  have L4 := Lib.hid hr4
  clear hb4 his4 ho4 hr4
  have HS1 := Lib.hid (same_any A3 A4 o3.length o3.length c3 c4 o3 o3 _ L3_4.out L4.out (by omega) (by omega))
  rw [decide_eq_true (rfl : o3 = o3)] at HS1
  go_wp2_with (fail)
  refine (HS1.out).mono ?_
  rintro e w5 ⟨rfl, hb5⟩
  have HB5 := Lib.hid (HB4.out.trans (hb5.mono HB4.out.size))
  have Xs_5 := Lib.hid (Xs_4.out.belowM hb5)
  clear Xs_4
  have Xg_5 := Lib.hid (Xg_4.out.belowM hb5)
  clear Xg_4
  have Xa_5 := Lib.hid (Xa_4.out.belowM hb5)
  clear Xa_4
  have L3_5 := Lib.hid (L3_4.out.belowM hb5)
  clear L3_4
  have L4_5 := Lib.hid (L4.out.belowM hb5)
  clear L4
  clear hb5
  go_wp2_with (fail)
  refine (whole_any pos _).mono ?_
  rintro e w6 ⟨rfl, hb6⟩
  have HB6 := Lib.hid (HB5.out.trans (hb6.mono HB5.out.size))
  have Xs_6 := Lib.hid (Xs_5.out.belowM hb6)
  clear Xs_5
  have Xg_6 := Lib.hid (Xg_5.out.belowM hb6)
  clear Xg_5
  have Xa_6 := Lib.hid (Xa_5.out.belowM hb6)
  clear Xa_5
  have L3_6 := Lib.hid (L3_5.out.belowM hb6)
  clear L3_5
  have L4_6 := Lib.hid (L4_5.out.belowM hb6)
  clear L4_5
  clear hb6
  go_wp2_with (fail)
  refine (pre_any pos 0 21 0 A B s.length g.length c e s g _ Xs_6.out Xg_6.out (by omega) hcs (by omega) hcg).mono ?_
  rintro e w7 ⟨v7, o7, rfl, his7, ho7, hb7⟩
  obtain ⟨A7, c7, hv7, hc7, hr7⟩ := own_RS ho7
  subst hv7
  have HB7 := Lib.hid (HB6.out.trans (hb7.mono HB6.out.size))
  have Xs_7 := Lib.hid (Xs_6.out.belowM hb7)
  clear Xs_6
  have Xg_7 := Lib.hid (Xg_6.out.belowM hb7)
  clear Xg_6
  have Xa_7 := Lib.hid (Xa_6.out.belowM hb7)
  clear Xa_6
  have L3_7 := Lib.hid (L3_6.out.belowM hb7)
  clear L3_6
  have L4_7 := Lib.hid (L4_6.out.belowM hb7)
  clear L4_6
  have HI7 := Lib.hid his7
  have hs7 := HI7.out.1.short
  have L7 := Lib.hid hr7
  clear hb7 his7 ho7 hr7
  go_wp2_with (fail)
  refine (meet_any A B s.length g.length c e s g _ Xs_7.out Xg_7.out (by omega) (by omega) hcs hcg).mono ?_
  rintro e w8 ⟨v8, o8, rfl, his8, ho8, hb8⟩
  obtain ⟨A8, c8, hv8, hc8, hr8⟩ := own_RS ho8
  subst hv8
  have HB8 := Lib.hid (HB7.out.trans (hb8.mono HB7.out.size))
  have Xs_8 := Lib.hid (Xs_7.out.belowM hb8)
  clear Xs_7
  have Xg_8 := Lib.hid (Xg_7.out.belowM hb8)
  clear Xg_7
  have Xa_8 := Lib.hid (Xa_7.out.belowM hb8)
  clear Xa_7
  have L3_8 := Lib.hid (L3_7.out.belowM hb8)
  clear L3_7
  have L4_8 := Lib.hid (L4_7.out.belowM hb8)
  clear L4_7
  have L7_8 := Lib.hid (L7.out.belowM hb8)
  clear L7
  have HI8 := Lib.hid his8
  have hs8 := HI8.out.1.short
  have L8 := Lib.hid hr8
  clear hb8 his8 ho8 hr8
  go_wp2_with (fail)
  refine (meet_any A8 (some ⟨w.heap.size, 0, none⟩) o8.length 1 c8 1 o8 [(0, 2097151)] _ L8.out Xa_8.out (by omega) (by omega) hc8 (by omega)).mono ?_
  rintro e w9 ⟨v9, o9, rfl, his9, ho9, hb9⟩
  obtain rfl : o7 = o9 := HI7.out.eq his9 (fun y => by rw [HI8.out.2]; exact pre_all' s g y)
  obtain ⟨A9, c9, hv9, hc9, hr9⟩ := own_RS ho9
  subst hv9
  have HB9 := Lib.hid (HB8.out.trans (hb9.mono HB8.out.size))
  have Xs_9 := Lib.hid (Xs_8.out.belowM hb9)
  clear Xs_8
  have Xg_9 := Lib.hid (Xg_8.out.belowM hb9)
  clear Xg_8
  have Xa_9 := Lib.hid (Xa_8.out.belowM hb9)
  clear Xa_8
  have L3_9 := Lib.hid (L3_8.out.belowM hb9)
  clear L3_8
  have L4_9 := Lib.hid (L4_8.out.belowM hb9)
  clear L4_8
  have L7_9 := Lib.hid (L7_8.out.belowM hb9)
  clear L7_8
  have L8_9 := Lib.hid (L8.out.belowM hb9)
  clear L8
  have HI9 := Lib.hid his9
  have hs9 := HI9.out.1.short
  have L9 := Lib.hid hr9
  clear hb9 his9 ho9 hr9
  have HS2 := Lib.hid (same_any A7 A9 o7.length o7.length c7 c9 o7 o7 _ L7_9.out L9.out (by omega) (by omega))
  rw [decide_eq_true (rfl : o7 = o7)] at HS2
  go_wp2_with (fail)
  refine (HS2.out).mono ?_
  rintro e w10 ⟨rfl, hb10⟩
  have HB10 := Lib.hid (HB9.out.trans (hb10.mono HB9.out.size))
  have Xs_10 := Lib.hid (Xs_9.out.belowM hb10)
  clear Xs_9
  have Xg_10 := Lib.hid (Xg_9.out.belowM hb10)
  clear Xg_9
  have Xa_10 := Lib.hid (Xa_9.out.belowM hb10)
  clear Xa_9
  have L3_10 := Lib.hid (L3_9.out.belowM hb10)
  clear L3_9
  have L4_10 := Lib.hid (L4_9.out.belowM hb10)
  clear L4_9
  have L7_10 := Lib.hid (L7_9.out.belowM hb10)
  clear L7_9
  have L8_10 := Lib.hid (L8_9.out.belowM hb10)
  clear L8_9
  have L9_10 := Lib.hid (L9.out.belowM hb10)
  clear L9
  clear hb10
  go_wp2_with (fail)
  refine (pawake_any _).mono ?_
  rintro e w11 ⟨rfl, hb11⟩
  go_wp2_with (fail)
  go_ret
  exact ⟨rfl, HB10.out.trans (hb11.mono HB10.out.size)⟩

set_option maxRecDepth 100000 in
theorem lifted_PartWhole (os : Os) (started : os.Started) (H : Type) (enc : TypeId × Value → H) :
    ReturnsInHanded {} Try.checked os 14 .any (Rows.partWholeSpec.pre6 enc Try.prog Try.f14 Rows.partWholeRow.domain false) (Rows.partWholeSpec.post enc Try.prog Try.f14 false true false false) := by
  refine returnsInHanded_of_change (C := Try.checked) own started (by kernel_rfl) Try.func14
    (ChangeSpec.witness6 (enc := enc) (C := Try.checked) false ⟨#[], #[.slice none 0 0, .slice none 0 0, .int .i64 0], []⟩ 8 (by kernel_rfl) (by kernel_rfl) (by kernel_rfl) (by kernel_rfl)) ?_
  intro W base args ds gs before hval0 hW hcnd _
  have hval : ∀ (j : Nat) t v, Try.f14.params[j]? = some t → args[j]? = some v → Value.okWide Try.prog W .any base t v := hval0
  have hW' := hW
  obtain ⟨p, q, hA0, hV, rfl, hfz, hnd⟩ := hW
  have hA : DataW.TrodAll enc Try.prog W 0 (fun _ => true) true Try.f14.params.toList args.toList ds p := hA0
  rw [Try.params14] at hA hval
  obtain ⟨v0, v1, v2, d0, d1, d2, p0, p1, p2, rfl, rfl, rfl, h0, h1, h2⟩ := trodAll_three hA
  obtain ⟨rfl, rfl⟩ := trodVars_none hV
  clear hA0 hval0
  simp only [List.append_nil] at hW'
  have hlt := fun x hx => hW'.lt (p := x) hx
  obtain ⟨A, c, s, rfl, hr0, hc0, hm0, hn0⟩ := open_spans (hval 0 _ v0 rfl rfl) h0
  obtain ⟨B, e, g, rfl, hr1, hc1, hm1, hn1⟩ := open_spans (hval 1 _ v1 rfl rfl) h1
  obtain ⟨pos, rfl, rfl, rfl, hw2⟩ := open_int Try.underlying3 (hval 2 _ v2 rfl rfl) h2
  have hbpos : -9223372036854775808 ≤ pos ∧ pos ≤ 9223372036854775807 := by simpa [Lit.wf, IntKind.min, IntKind.max, IntKind.signed, IntKind.bits] using hw2
  refine (walk_PartWhole A c s B e g pos W hr0 hr1 hc0 hc1 hm0 hm1).mono fun e W' ⟨he, hb⟩ => ?_
  subst he
  exact ⟨_, rfl, _, _, _, [], _, [], hW', trodAll_mk1 (shut_bool Try.underlying4 true), trodAll_mk3 (kept readable22 row22 h0 hb fun x hx => hlt x (by simp [hx])) (kept readable22 row22 h1 hb fun x hx => hlt x (by simp [hx])) (shut_int Try.underlying3 hw2), rfl, World.keptBut_mono (fun x hx => ⟨hx, .inr (.inl (by simpa using hx))⟩) (hb.frame (· ∈ _)), fun h => by cases h⟩

theorem holds_PartWhole : Rows.PartWholeSaid :=
  OpenClaim.holds_of_wide 14 Try.f14 rfl rfl rfl rfl rfl rfl rfl ⟨rfl, rfl, rfl, rfl, rfl⟩ rfl rfl rfl rfl rfl (by kernel_rfl) Try.func14 (by kernel_rfl)
    (of_decide_eq_true (by kernel_rfl)) (by unfold Func.isWrapper; first | (rw [if_pos (by decide +kernel)]; kernel_rfl) | (rw [if_neg (by decide +kernel)]; exact ⟨rfl, rfl⟩))
    (fun os started H enc _ => lifted_PartWhole os started H enc)
end Go.Proofs.Ytfjghokjecdfgaa.Pa
