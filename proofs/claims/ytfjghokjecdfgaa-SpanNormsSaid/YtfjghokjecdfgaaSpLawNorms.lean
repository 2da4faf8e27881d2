/-
  SpanNorms holds for every list of spans: the law answers true and the list reads afterwards as it read before. No condition.
-/
import Derived.Test.YtfjghokjecdfgaaSpFrame
namespace Go.Proofs.Ytfjghokjecdfgaa.Sp
set_option maxRecDepth 100000
open Go Go.RowKit Go.ChangeShapes Go.WideShapes Go.ChangeAt

set_option maxHeartbeats 1000000 in
theorem norms_walk (A : Option Addr) (c : Nat) (l : List Span) (w : World) (h : RS w w.heap.size A l.length l) (hm : l.length ≤ maxLen) (hnil : A = none → l = [] ∧ c = 0) :
    Calls Try.prog 3 #[.slice A l.length c] w (RetB true w) := by
  unfold maxLen at hm
  by_cases hgr : 300 < l.length
  · have HG := Lib.hid (great_any w.heap.size 1 [l.length] true _ (lens_one w A l.length c 22) (by simp) (by simp; exact hgr) (by simp; omega))
    go_enter Try.func3, Try.ntmps3
    go_wp2_with (fail)
    refine HG.out.mono ?_
    rintro e w1 ⟨rfl, rfl⟩
    go_wp2_with (fail)
    refine (awake_any _).mono ?_
    rintro e w2 ⟨rfl, hb⟩
    go_wp2_with (fail)
    go_ret
    exact ⟨rfl, ((Below.refl _ _).alloc (Nat.le_refl _) _).trans (hb.mono (by simp))⟩
  · have HG := Lib.hid (great_any w.heap.size 1 [l.length] false _ (lens_one w A l.length c 22) (by simp) (by simp; omega) (by simp; omega))
    have hb0 : Below w.heap.size w (w.alloc (.cells #[.slice A l.length c] 22)) := (Below.refl _ _).alloc (Nat.le_refl _) _
    have h0 := h.belowM hb0
    have HB0 := Lib.hid hb0
    have H0 := Lib.hid h0
    have HNIL := Lib.hid hnil
    clear hb0 h0 h hnil
    go_enter Try.func3, Try.ntmps3
    go_wp2_with (fail)
    refine HG.out.mono ?_
    rintro e w1 ⟨rfl, rfl⟩
    go_wp2_with (fail)
    refine (copied_any A c l _ H0.out (by omega) HNIL.out).mono ?_
    rintro e w2 ⟨A2, c2, rfl, hc2, hr2, hb2⟩
    have HB2 := Lib.hid (HB0.out.trans (hb2.mono HB0.out.size))
    have H2 := Lib.hid (H0.out.belowM hb2)
    clear hb2
    go_wp2_with (fail)
    refine (norm_any A l.length c l _ H2.out (by omega)).mono ?_
    rintro e w3 ⟨v3, o3, rfl, his3, ho3, hb3⟩
    obtain ⟨A3, c3, hv3, hc3, hr3⟩ := own_RS ho3
    subst hv3
    have HB3 := Lib.hid (HB2.out.trans (hb3.mono HB2.out.size))
    have H3 := Lib.hid (H2.out.belowM hb3)
    have R2 := Lib.hid (hr2.belowM hb3)
    have HI3 := Lib.hid his3
    clear hb3 hr2 his3 ho3
    go_wp2_with (fail)
    refine (rnorm_any A2 l.length c2 l _ R2.out (by omega)).mono ?_
    rintro e w4 ⟨v4, o4, rfl, his4, ho4, hb4⟩
    obtain rfl : o3 = o4 := HI3.out.eq his4 fun _ => Iff.rfl
    obtain ⟨A4, c4, hv4, hc4, hr4⟩ := own_RS ho4
    subst hv4
    have HB4 := Lib.hid (HB3.out.trans (hb4.mono HB3.out.size))
    have H4 := Lib.hid (H3.out.belowM hb4)
    have R24 := Lib.hid (R2.out.belowM hb4)
    have R34 := Lib.hid (hr3.belowM hb4)
    have R44 := Lib.hid hr4
    have hs3 := HI3.out.1.short
    clear hb4 hr3 hr4 his4 ho4
    have HS1 := Lib.hid (same_any A3 A4 o3.length o3.length c3 c4 o3 o3 w4 R34.out R44.out (by omega) (by omega))
    rw [decide_eq_true (rfl : o3 = o3)] at HS1
    go_wp2_with (fail)
    refine HS1.out.mono ?_
    rintro e w5 ⟨rfl, hb5⟩
    have HB5 := Lib.hid (HB4.out.trans (hb5.mono HB4.out.size))
    have H5 := Lib.hid (H4.out.belowM hb5)
    have R25 := Lib.hid (R24.out.belowM hb5)
    have R35 := Lib.hid (R34.out.belowM hb5)
    have R45 := Lib.hid (R44.out.belowM hb5)
    clear hb5
    obtain ⟨bp, hbp⟩ : ∃ b, plainB l = b := ⟨_, rfl⟩
    have hpe : decide (l = o3) = bp := by
      rw [← hbp]
      by_cases hp : Plain l
      · rw [plainB_true hp, decide_eq_true ((Is.self hp).eq HI3.out fun _ => Iff.rfl)]
      · rw [plainB_false hp, decide_eq_false fun e => hp (by rw [e]; exact HI3.out.1)]
    have HC5 := Lib.hid (check_any A l.length c l w5 H5.out (by omega))
    rw [hbp] at HC5
    have HPE := Lib.hid hpe
    clear hbp hpe
    go_wp2_with (fail)
    refine HC5.out.mono ?_
    rintro e w6 ⟨rfl, hb6⟩
    have HB6 := Lib.hid (HB5.out.trans (hb6.mono HB5.out.size))
    have H6 := Lib.hid (H5.out.belowM hb6)
    have R26 := Lib.hid (R25.out.belowM hb6)
    have R36 := Lib.hid (R35.out.belowM hb6)
    have R46 := Lib.hid (R45.out.belowM hb6)
    clear hb6
    have HS6 := Lib.hid (same_any A2 A4 l.length o3.length c2 c4 l o3 w6 R26.out R46.out (by omega) (by omega))
    rw [HPE.out] at HS6
    go_wp2_with (fail)
    refine HS6.out.mono ?_
    rintro e w7 ⟨rfl, hb7⟩
    have HB7 := Lib.hid (HB6.out.trans (hb7.mono HB6.out.size))
    have H7 := Lib.hid (H6.out.belowM hb7)
    have R27 := Lib.hid (R26.out.belowM hb7)
    have R37 := Lib.hid (R36.out.belowM hb7)
    clear hb7
    have HC7 := Lib.hid (check_any A3 o3.length c3 o3 w7 R37.out (by omega))
    rw [plainB_true HI3.out.1] at HC7
    have hbb : (bp == bp) = true := by cases bp <;> rfl
    go_wp2_with (fail)
    refine HC7.out.mono ?_
    rintro e w8 ⟨rfl, hb8⟩
    have HB8 := Lib.hid (HB7.out.trans (hb8.mono HB7.out.size))
    have H8 := Lib.hid (H7.out.belowM hb8)
    have R28 := Lib.hid (R27.out.belowM hb8)
    clear hb8
    have HS8 := Lib.hid (same_any A A2 l.length l.length c c2 l l w8 H8.out R28.out (by omega) (by omega))
    rw [decide_eq_true (rfl : l = l)] at HS8
    go_wp2_with (fail)
    refine HS8.out.mono ?_
    rintro e w9 ⟨rfl, hb9⟩
    have HB9 := Lib.hid (HB8.out.trans (hb9.mono HB8.out.size))
    clear hb9
    go_wp2_with (fail)
    refine (awake_any _).mono ?_
    rintro e w10 ⟨rfl, hb10⟩
    go_wp2_with (fail)
    go_ret
    exact ⟨rfl, HB9.out.trans (hb10.mono HB9.out.size)⟩

set_option maxRecDepth 100000 in
theorem norms_lifted (os : Os) (started : os.Started) (H : Type) (enc : TypeId × Value → H) :
    ReturnsInHanded {} Try.checked os 3 .any (Rows.spanNormsSpec.pre6 enc Try.prog Try.f3 Rows.spanNormsRow.domain false) (Rows.spanNormsSpec.post enc Try.prog Try.f3 false true false false) := by
  refine returnsInHanded_of_change (C := Try.checked) own started (by kernel_rfl) Try.func3
    (ChangeSpec.witness6 (enc := enc) (C := Try.checked) false ⟨#[], #[.slice none 0 0], []⟩ 8 (by kernel_rfl) (by kernel_rfl) (by kernel_rfl) (by kernel_rfl)) ?_
  intro W base args ds gs before hval0 hW hcnd _
  have hval : ∀ (j : Nat) t v, Try.f3.params[j]? = some t → args[j]? = some v → Value.okWide Try.prog W .any base t v := hval0
  have hW' := hW
  obtain ⟨p, q, hA0, hV, rfl, hfz, hnd⟩ := hW
  have hA : DataW.TrodAll enc Try.prog W 0 (fun _ => true) true Try.f3.params.toList args.toList ds p := hA0
  rw [Try.params3] at hA hval
  obtain ⟨v0, d0, rfl, rfl, h0⟩ := trodAll_one hA
  obtain ⟨rfl, rfl⟩ := trodVars_none hV
  clear hA0 hval0
  simp only [List.append_nil] at hW'
  have hlt : ∀ x ∈ p, x.block < W.heap.size := fun x hx => hW'.lt x hx
  obtain ⟨A, c, l, rfl, hr, _, hm, hnil⟩ := open_spans (hval 0 _ v0 rfl rfl) h0
  refine (norms_walk A c l W hr hm hnil).mono fun e W' ⟨he, hb⟩ => ?_
  subst he
  exact ⟨_, rfl, _, _, _, [], p, [], hW', trodAll_mk1 (shut_bool Try.underlying4 true), trodAll_mk1 (kept readable22 row22 h0 hb hlt), rfl, World.keptBut_mono (fun x hx => ⟨hx, .inr (.inl hx)⟩) (hb.frame (· ∈ p)), fun h => by cases h⟩

theorem norms_holds : Rows.SpanNormsSaid :=
  OpenClaim.holds_of_wide 3 Try.f3 rfl rfl rfl rfl rfl rfl rfl ⟨rfl, rfl, rfl, rfl, rfl⟩ rfl rfl rfl rfl rfl (by kernel_rfl) Try.func3 (by kernel_rfl)
    (of_decide_eq_true (by kernel_rfl)) (by unfold Func.isWrapper; first | (rw [if_pos (by decide +kernel)]; kernel_rfl) | (rw [if_neg (by decide +kernel)]; exact ⟨rfl, rfl⟩))
    (fun os started H enc _ => norms_lifted os started H enc)
end Go.Proofs.Ytfjghokjecdfgaa.Sp
