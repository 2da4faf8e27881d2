/-
  PartImages holds for every part and every list of spans: the law answers true and the arguments read afterwards as they read before. No condition.
-/
import Derived.Test.YtfjghokjecdfgaaPaFrame
import Derived.Test.YtfjghokjecdfgaaPaRImg
import Derived.Test.YtfjghokjecdfgaaPaGreat
namespace Go.Proofs.Ytfjghokjecdfgaa.Pa
set_option maxRecDepth 100000
open Go Go.RowKit Go.ChangeShapes Go.WideShapes Go.ChangeAt Go.Proofs.Ytfjghokjecdfgaa.Sp

set_option maxHeartbeats 8000000 in
theorem walk_PartImages (a d t u : Int) (A : Option Addr) (c : Nat) (s : List Span) (w : World) (hs : RS w w.heap.size A s.length s) (hcs : s.length ≤ c) (hms : s.length ≤ maxLen) :
    Calls Try.prog 11 #[prt a d t u, .slice A s.length c] w (RetB true w) := by
  unfold maxLen at hms
  by_cases g1 : 50 < s.length
  · have HG := Lib.hid (pgreat_any A none s.length 0 c 0 true (w.alloc (.cells #[.int .i64 a, .int .i64 d, .int .i64 t, .int .i64 u] 43)) (by simp; omega))
    clear hs
    go_enter Try.func11, Try.ntmps11
    go_wp2_with (fail)
    refine HG.out.mono ?_
    rintro e w8 ⟨rfl, rfl⟩
    go_wp2_with (fail)
    refine (pawake_any _).mono ?_
    rintro e w9 ⟨rfl, hb9⟩
    go_wp2_with (fail)
    go_ret
    exact ⟨rfl, ((Below.refl _ _).alloc (Nat.le_refl _) _).trans (hb9.mono (by simp))⟩
  have HG := Lib.hid (pgreat_any A none s.length 0 c 0 false (w.alloc (.cells #[.int .i64 a, .int .i64 d, .int .i64 t, .int .i64 u] 43)) (by simp; omega))
  obtain ⟨w0, hw0⟩ : ∃ w0, w.alloc (.cells #[.int .i64 a, .int .i64 d, .int .i64 t, .int .i64 u] 43) = w0 := ⟨_, rfl⟩
  rw [hw0] at HG
  have hbw : Below w.heap.size w w0 := by rw [← hw0]; exact (Below.refl _ w).alloc (Nat.le_refl _) _
  have q0 : ∀ (W : World), Below w0.heap.size w0 W → W.cell? ⟨w.heap.size, 0, none⟩ = some (.int .i64 a) ∧ W.cell? ⟨w.heap.size, 1, none⟩ = some (.int .i64 d) ∧ W.cell? ⟨w.heap.size, 2, none⟩ = some (.int .i64 t) ∧ W.cell? ⟨w.heap.size, 3, none⟩ = some (.int .i64 u) := by
    rw [← hw0]; exact fun W hW => boxed4 hW
  have Q0 := Lib.hid q0
  have HW := Lib.hid hbw
  have HB0 := Lib.hid (Below.refl w0.heap.size w0)
  have Xs := Lib.hid (hs.belowM hbw)
  clear q0 hbw hs
  go_enter Try.func11, Try.ntmps11
  go_wp2_with (fail)
  refine HG.out.mono ?_
  rintro e w1 ⟨rfl, rfl⟩
  obtain ⟨r0, r1, r2, r3⟩ := Q0.out _ HB0.out
  go_wp2_with (fail)
  refine (rimage_any a d t u A s.length c s _ Xs.out (by omega)).mono ?_
  rintro e w2 ⟨v2, o2, rfl, his2, ho2, hb2⟩
  obtain ⟨A2, c2, hv2, hc2, hr2⟩ := own_RS ho2
  subst hv2
  have HB2 := Lib.hid (HB0.out.trans (hb2.mono HB0.out.size))
  have Xs_2 := Lib.hid (Xs.out.belowM hb2)
  clear Xs
  have HI2 := Lib.hid his2
  have hs2 := HI2.out.1.short
  have L2 := Lib.hid hr2
  clear hb2 his2 ho2 hr2
  clear r0 r1 r2 r3
  have hml := cnt_le HI2.out.1
  obtain ⟨r0, r1, r2, r3⟩ := Q0.out _ HB2.out
  go_wp2_with (fail)
  refine (image_any a d t u A s.length c s _ Xs_2.out (by omega) hcs).mono ?_
  rintro e w3 ⟨v3, o3, rfl, his3, ho3, hb3⟩
  obtain rfl : o2 = o3 := HI2.out.eq his3 fun _ => Iff.rfl
  obtain ⟨A3, c3, hv3, hc3, hr3⟩ := own_RS ho3
  subst hv3
  have HB3 := Lib.hid (HB2.out.trans (hb3.mono HB2.out.size))
  have Xs_3 := Lib.hid (Xs_2.out.belowM hb3)
  clear Xs_2
  have L2_3 := Lib.hid (L2.out.belowM hb3)
  clear L2
  have HI3 := Lib.hid his3
  have hs3 := HI3.out.1.short
  have L3 := Lib.hid hr3
  clear hb3 his3 ho3 hr3
  clear r0 r1 r2 r3
  have HS1 := Lib.hid (same_any A3 A2 o2.length o2.length c3 c2 o2 o2 _ L3.out L2_3.out (by omega) (by omega))
  rw [decide_eq_true (rfl : o2 = o2)] at HS1
  go_wp2_with (fail)
  refine (HS1.out).mono ?_
  rintro e w4 ⟨rfl, hb4⟩
  have HB4 := Lib.hid (HB3.out.trans (hb4.mono HB3.out.size))
  have Xs_4 := Lib.hid (Xs_3.out.belowM hb4)
  clear Xs_3
  have L2_4 := Lib.hid (L2_3.out.belowM hb4)
  clear L2_3
  have L3_4 := Lib.hid (L3.out.belowM hb4)
  clear L3
  clear hb4
  obtain ⟨m, hm⟩ : ∃ m, cnt o2 = m := ⟨_, rfl⟩
  have HPS := Lib.hid (psame_any a d t u A s.length c s o2 _ Xs_4.out (by omega) hcs HI2.out)
  have HCN := Lib.hid (fun W (hW : RS W W.heap.size A2 o2.length o2) => rcount_any A2 o2.length c2 o2 o2 W hW (by omega) (Is.self HI2.out.1))
  rw [hm] at HPS HCN hml
  clear hm
  by_cases hm1 : m ≤ 1
  · rw [decide_eq_true hm1] at HPS
    obtain ⟨r0, r1, r2, r3⟩ := Q0.out _ HB4.out
    go_wp2_with (fail)
    refine (HPS.out).mono ?_
    rintro e w5 ⟨rfl, hb5⟩
    have HB5 := Lib.hid (HB4.out.trans (hb5.mono HB4.out.size))
    have Xs_5 := Lib.hid (Xs_4.out.belowM hb5)
    clear Xs_4
    have L2_5 := Lib.hid (L2_4.out.belowM hb5)
    clear L2_4
    have L3_5 := Lib.hid (L3_4.out.belowM hb5)
    clear L3_4
    clear hb5
    go_wp2_with (fail)
    refine (HCN.out _ L2_5.out).mono ?_
    rintro e w6 ⟨rfl, hb6⟩
    have HB6 := Lib.hid (HB5.out.trans (hb6.mono HB5.out.size))
    have Xs_6 := Lib.hid (Xs_5.out.belowM hb6)
    clear Xs_5
    have L2_6 := Lib.hid (L2_5.out.belowM hb6)
    clear L2_5
    have L3_6 := Lib.hid (L3_5.out.belowM hb6)
    clear L3_5
    clear hb6
    go_wp2_with (fail)
    refine (pawake_any _).mono ?_
    rintro e w7 ⟨rfl, hb7⟩
    go_wp2_with (fail)
    go_ret
    exact ⟨rfl, HW.out.trans ((HB6.out.trans (hb7.mono HB6.out.size)).mono HW.out.size)⟩
  · rw [decide_eq_false hm1] at HPS
    have hmd : decide (m ≤ 1) = false := decide_eq_false hm1
    obtain ⟨r0, r1, r2, r3⟩ := Q0.out _ HB4.out
    go_wp2_with (fail)
    refine (HPS.out).mono ?_
    rintro e w5 ⟨rfl, hb5⟩
    have HB5 := Lib.hid (HB4.out.trans (hb5.mono HB4.out.size))
    have Xs_5 := Lib.hid (Xs_4.out.belowM hb5)
    clear Xs_4
    have L2_5 := Lib.hid (L2_4.out.belowM hb5)
    clear L2_4
    have L3_5 := Lib.hid (L3_4.out.belowM hb5)
    clear L3_4
    clear hb5
    go_wp2_with (fail)
    refine (HCN.out _ L2_5.out).mono ?_
    rintro e w6 ⟨rfl, hb6⟩
    have HB6 := Lib.hid (HB5.out.trans (hb6.mono HB5.out.size))
    have Xs_6 := Lib.hid (Xs_5.out.belowM hb6)
    clear Xs_5
    have L2_6 := Lib.hid (L2_5.out.belowM hb6)
    clear L2_5
    have L3_6 := Lib.hid (L3_5.out.belowM hb6)
    clear L3_5
    clear hb6
    go_wp2_with (fail)
    refine (pawake_any _).mono ?_
    rintro e w7 ⟨rfl, hb7⟩
    go_wp2_with (fail)
    go_ret
    exact ⟨rfl, HW.out.trans ((HB6.out.trans (hb7.mono HB6.out.size)).mono HW.out.size)⟩

set_option maxRecDepth 100000 in
theorem lifted_PartImages (os : Os) (started : os.Started) (H : Type) (enc : TypeId × Value → H) :
    ReturnsInHanded {} Try.checked os 11 .any (Rows.partImagesSpec.pre6 enc Try.prog Try.f11 Rows.partImagesRow.domain false) (Rows.partImagesSpec.post enc Try.prog Try.f11 false true false false) := by
  refine returnsInHanded_of_change (C := Try.checked) own started (by kernel_rfl) Try.func11
    (ChangeSpec.witness6 (enc := enc) (C := Try.checked) false ⟨#[], #[.agg #[.int .i64 0, .int .i64 0, .int .i64 0, .int .i64 0], .slice none 0 0], []⟩ 8 (by kernel_rfl) (by kernel_rfl) (by kernel_rfl) (by kernel_rfl)) ?_
  intro W base args ds gs before hval0 hW hcnd _
  have hval : ∀ (j : Nat) t v, Try.f11.params[j]? = some t → args[j]? = some v → Value.okWide Try.prog W .any base t v := hval0
  have hW' := hW
  obtain ⟨p, q, hA0, hV, rfl, hfz, hnd⟩ := hW
  have hA : DataW.TrodAll enc Try.prog W 0 (fun _ => true) true Try.f11.params.toList args.toList ds p := hA0
  rw [Try.params11] at hA hval
  obtain ⟨v0, v1, d0, d1, p0, p1, rfl, rfl, rfl, h0, h1⟩ := trodAll_two hA
  obtain ⟨rfl, rfl⟩ := trodVars_none hV
  clear hA0 hval0
  simp only [List.append_nil] at hW'
  have hlt := fun x hx => hW'.lt (p := x) hx
  obtain ⟨a, d, t, u, rfl⟩ := open_part (hval 0 _ v0 rfl rfl) h0
  obtain ⟨A, c, s, rfl, hr1, hc1, hm1, hn1⟩ := open_spans (hval 1 _ v1 rfl rfl) h1
  refine (walk_PartImages a d t u A c s W hr1 hc1 hm1).mono fun e W' ⟨he, hb⟩ => ?_
  subst he
  exact ⟨_, rfl, _, _, _, [], _, [], hW', trodAll_mk1 (shut_bool Try.underlying4 true), trodAll_mk2 (kept readablePart rowPart h0 hb fun x hx => hlt x (by simp [hx])) (kept readable22 row22 h1 hb fun x hx => hlt x (by simp [hx])), rfl, World.keptBut_mono (fun x hx => ⟨hx, .inr (.inl (by simpa using hx))⟩) (hb.frame (· ∈ _)), fun h => by cases h⟩

theorem holds_PartImages : Rows.PartImagesSaid :=
  OpenClaim.holds_of_wide 11 Try.f11 rfl rfl rfl rfl rfl rfl rfl ⟨rfl, rfl, rfl, rfl, rfl⟩ rfl rfl rfl rfl rfl (by kernel_rfl) Try.func11 (by kernel_rfl)
    (of_decide_eq_true (by kernel_rfl)) (by unfold Func.isWrapper; first | (rw [if_pos (by decide +kernel)]; kernel_rfl) | (rw [if_neg (by decide +kernel)]; exact ⟨rfl, rfl⟩))
    (fun os started H enc _ => lifted_PartImages os started H enc)
end Go.Proofs.Ytfjghokjecdfgaa.Pa
