/- MintermUnions holds for every list of spans and every list of lists of spans: the law answers true and the arguments read afterwards as they read before. No condition. -/
import Derived.Test.YtgmkchkaceciiaaMiFrame
import Derived.Test.YtgmkchkaceciiaaMiWalkUnions
import Derived.Carry
namespace Go.Proofs.Ytgmkchkaceciiaa.Mi
set_option maxRecDepth 100000
open Go Go.RowKit Go.ChangeShapes Go.WideShapes Go.ChangeAt Go.Deep Go.Proofs.Ytgmkchkaceciiaa.Sp

set_option maxRecDepth 100000 in
theorem lifted_MintermUnions (os : Os) (started : os.Started) (H : Type) (enc : TypeId × Value → H) :
    ReturnsInHanded {} Try.checked os 5 .any (Rows.mintermUnionsSpec.pre6 enc Try.prog Try.f5 Rows.mintermUnionsRow.domain false) (Rows.mintermUnionsSpec.post enc Try.prog Try.f5 false true false false) := by
  refine returnsInHanded_of_change (C := Try.checked) own started (by kernel_rfl) Try.func5
    (ChangeSpec.witness6 (enc := enc) (C := Try.checked) false ⟨#[], #[.slice none 0 0, .slice none 0 0], []⟩ 8 (by kernel_rfl) (by kernel_rfl) (by kernel_rfl) (by kernel_rfl)) ?_
  intro W base args ds gs before hval0 hW hcnd _
  have hval : ∀ (j : Nat) t v, Try.f5.params[j]? = some t → args[j]? = some v → Value.okWide Try.prog W .any base t v := hval0
  have hW' := hW
  obtain ⟨p, q, hA0, hV, rfl, hfz, hnd⟩ := hW
  have hA : DataW.TrodAll enc Try.prog W 0 (fun _ => true) true Try.f5.params.toList args.toList ds p := hA0
  rw [Try.params5] at hA hval
  obtain ⟨v0, v1, d0, d1, p0, p1, rfl, rfl, rfl, h0, h1⟩ := trodAll_two hA
  obtain ⟨rfl, rfl⟩ := trodVars_none hV
  clear hA0 hval0
  simp only [List.append_nil] at hW'
  have hlt := fun x hx => hW'.lt (p := x) hx
  obtain ⟨A, c, l, rfl, hr0, hc0, hm0, hn0⟩ := open_spans (hval 0 _ v0 rfl rfl) h0
  obtain ⟨B, d, fam, rfl, hr1, hc1, hm1, hs1⟩ := open_rows (hval 1 _ v1 rfl rfl) h1
  refine (walk_MintermUnions A c l B d fam W hr0 hm0 hc0 hr1 hm1 hs1).mono fun e W' ⟨he, hb⟩ => ?_
  subst he
  exact ⟨_, rfl, _, _, _, [], _, [], hW', trodAll_mk1 (shut_bool Try.underlying4 true), trodAll_mk2 (kept readable22 row22 h0 hb fun x hx => hlt x (by simp [hx])) (kept readable23 row23 h1 hb fun x hx => hlt x (by simp [hx])), rfl, World.keptBut_mono (fun x hx => ⟨hx, .inr (.inl (by simpa using hx))⟩) (hb.frame (· ∈ _)), fun h => by cases h⟩

theorem holds_MintermUnions : Rows.MintermUnionsSaid :=
  OpenClaim.holds_of_wide 5 Try.f5 rfl rfl rfl rfl rfl rfl rfl ⟨rfl, rfl, rfl, rfl, rfl⟩ rfl rfl rfl rfl rfl (by kernel_rfl) Try.func5 (by kernel_rfl)
    (of_decide_eq_true (by kernel_rfl)) (by unfold Func.isWrapper; first | (rw [if_pos (by decide +kernel)]; kernel_rfl) | (rw [if_neg (by decide +kernel)]; exact ⟨rfl, rfl⟩))
    (fun os started H enc _ => lifted_MintermUnions os started H enc)
end Go.Proofs.Ytgmkchkaceciiaa.Mi
