/-
  SpanMoves holds for every list of spans and every number: the law answers true and the list reads afterwards as it read before. No condition.
-/
import Derived.Test.YtfjghokjecdfgaaSpFrame
import Derived.Test.YtfjghokjecdfgaaSpRest
namespace Go.Proofs.Ytfjghokjecdfgaa.Sp
set_option maxRecDepth 100000
open Go Go.RowKit Go.ChangeShapes Go.WideShapes Go.ChangeAt

set_option maxHeartbeats 4000000 in
theorem walk_SpanMoves (A : Option Addr) (c : Nat) (l : List Span) (d : Int) (w : World) (hl : RS w w.heap.size A l.length l) (hcl : l.length ≤ c) (hml : l.length ≤ maxLen) (hnl : A = none → l = [] ∧ c = 0) :
    Calls Try.prog 6 #[.slice A l.length c, .int .i64 d] w (RetB true w) := by
  unfold maxLen at hml
  have hz0 : Below w.heap.size w (w.alloc (.cells #[.slice A l.length c] 22)) := (Below.refl _ _).alloc (Nat.le_refl _) _
  by_cases hgr : 300 < l.length
  · have HG := Lib.hid (great_any w.heap.size 1 [l.length] true _ (lens_one w A l.length c 22) (by simp) (by simp; exact hgr) (by simp; omega))
    have HB0 := Lib.hid hz0
    clear hz0 hgr
    go_enter Try.func6, Try.ntmps6
    go_wp2_with (fail)
    refine HG.out.mono ?_
    rintro e w1 ⟨rfl, rfl⟩
    go_wp2_with (fail)
    refine (awake_any _).mono ?_
    rintro e w2 ⟨rfl, hb⟩
    go_wp2_with (fail)
    go_ret
    exact ⟨rfl, HB0.out.trans (hb.mono HB0.out.size)⟩
  · have HG := Lib.hid (great_any w.heap.size 1 [l.length] false _ (lens_one w A l.length c 22) (by simp) (by simp; omega) (by simp; omega))
    have HB0 := Lib.hid hz0
    have hll : l.length ≤ 300 := by omega
    have Xl := Lib.hid (hl.belowM hz0)
    have Nl := Lib.hid hnl
    clear hz0 hgr hl hnl hml
    go_enter Try.func6, Try.ntmps6
    go_wp2_with (fail)
    refine HG.out.mono ?_
    rintro e w1 ⟨rfl, rfl⟩
    go_wp2_with (fail)
    refine (move_any A l.length c l d _ Xl.out (by omega) hcl).mono ?_
    rintro e w2 ⟨v2, o2, rfl, his2, ho2, hb2⟩
    obtain ⟨A2, c2, hv2, hc2, hr2⟩ := own_RS ho2
    subst hv2
    have HB2 := Lib.hid (HB0.out.trans (hb2.mono HB0.out.size))
    have Xl_2 := Lib.hid (Xl.out.belowM hb2)
    clear Xl
    have HI2 := Lib.hid his2
    have hs2 := HI2.out.1.short
    have L2 := Lib.hid hr2
    clear hb2 his2 ho2 hr2
    go_wp2_with (fail)
    refine (rmove_any A l.length c l d _ Xl_2.out (by omega)).mono ?_
    rintro e w3 ⟨v3, o3, rfl, his3, ho3, hb3⟩
    obtain rfl : o2 = o3 := HI2.out.eq his3 fun _ => Iff.rfl
    obtain ⟨A3, c3, hv3, hc3, hr3⟩ := own_RS ho3
    subst hv3
    have HB3 := Lib.hid (HB2.out.trans (hb3.mono HB2.out.size))
    have Xl_3 := Lib.hid (Xl_2.out.belowM hb3)
    clear Xl_2
    have L2_3 := Lib.hid (L2.out.belowM hb3)
    clear L2
    have HI3 := Lib.hid his3
    have hs3 := HI3.out.1.short
    have L3 := Lib.hid hr3
    clear hb3 his3 ho3 hr3
    have HS := Lib.hid (same_any A2 A3 o2.length o2.length c2 c3 o2 o2 w3 L2_3.out L3.out (by omega) (by omega))
    rw [decide_eq_true (rfl : o2 = o2)] at HS
    go_wp2_with (fail)
    refine (HS.out).mono ?_
    rintro e w4 ⟨rfl, hb4⟩
    have HB4 := Lib.hid (HB3.out.trans (hb4.mono HB3.out.size))
    have Xl_4 := Lib.hid (Xl_3.out.belowM hb4)
    clear Xl_3
    have L2_4 := Lib.hid (L2_3.out.belowM hb4)
    clear L2_3
    have L3_4 := Lib.hid (L3.out.belowM hb4)
    clear L3
    clear hb4
    go_wp2_with (fail)
    refine (awake_any _).mono ?_
    rintro e w5 ⟨rfl, hb5⟩
    go_wp2_with (fail)
    go_ret
    exact ⟨rfl, HB4.out.trans (hb5.mono HB4.out.size)⟩

set_option maxRecDepth 100000 in
theorem lifted_SpanMoves (os : Os) (started : os.Started) (H : Type) (enc : TypeId × Value → H) :
    ReturnsInHanded {} Try.checked os 6 .any (Rows.spanMovesSpec.pre6 enc Try.prog Try.f6 Rows.spanMovesRow.domain false) (Rows.spanMovesSpec.post enc Try.prog Try.f6 false true false false) := by
  refine returnsInHanded_of_change (C := Try.checked) own started (by kernel_rfl) Try.func6
    (ChangeSpec.witness6 (enc := enc) (C := Try.checked) false ⟨#[], #[.slice none 0 0, .int .i64 0], []⟩ 8 (by kernel_rfl) (by kernel_rfl) (by kernel_rfl) (by kernel_rfl)) ?_
  intro W base args ds gs before hval0 hW hcnd _
  have hval : ∀ (j : Nat) t v, Try.f6.params[j]? = some t → args[j]? = some v → Value.okWide Try.prog W .any base t v := hval0
  have hW' := hW
  obtain ⟨p, q, hA0, hV, rfl, hfz, hnd⟩ := hW
  have hA : DataW.TrodAll enc Try.prog W 0 (fun _ => true) true Try.f6.params.toList args.toList ds p := hA0
  rw [Try.params6] at hA hval
  obtain ⟨v0, v1, d0, d1, p0, p1, rfl, rfl, rfl, h0, h1⟩ := trodAll_two hA
  obtain ⟨rfl, rfl⟩ := trodVars_none hV
  clear hA0 hval0
  simp only [List.append_nil] at hW'
  have hlt := fun x hx => hW'.lt (p := x) hx
  obtain ⟨A, c, l, rfl, hr0, hc0, hm0, hn0⟩ := open_spans (hval 0 _ v0 rfl rfl) h0
  obtain ⟨d, rfl, rfl, rfl, hw1⟩ := open_int Try.underlying3 (hval 1 _ v1 rfl rfl) h1
  have hbd : -9223372036854775808 ≤ d ∧ d ≤ 9223372036854775807 := by simpa [Lit.wf, IntKind.min, IntKind.max, IntKind.signed, IntKind.bits] using hw1
  refine (walk_SpanMoves A c l d W hr0 hc0 hm0 hn0 ).mono fun e W' ⟨he, hb⟩ => ?_
  subst he
  exact ⟨_, rfl, _, _, _, [], _, [], hW', trodAll_mk1 (shut_bool Try.underlying4 true), trodAll_mk2 (kept readable22 row22 h0 hb fun x hx => hlt x (by simp [hx])) (shut_int Try.underlying3 hw1), rfl, World.keptBut_mono (fun x hx => ⟨hx, .inr (.inl (by simpa using hx))⟩) (hb.frame (· ∈ _)), fun h => by cases h⟩

theorem holds_SpanMoves : Rows.SpanMovesSaid :=
  OpenClaim.holds_of_wide 6 Try.f6 rfl rfl rfl rfl rfl rfl rfl ⟨rfl, rfl, rfl, rfl, rfl⟩ rfl rfl rfl rfl rfl (by kernel_rfl) Try.func6 (by kernel_rfl)
    (of_decide_eq_true (by kernel_rfl)) (by unfold Func.isWrapper; first | (rw [if_pos (by decide +kernel)]; kernel_rfl) | (rw [if_neg (by decide +kernel)]; exact ⟨rfl, rfl⟩))
    (fun os started H enc _ => lifted_SpanMoves os started H enc)
end Go.Proofs.Ytfjghokjecdfgaa.Sp
