/- TermPres holds for every term and every two lists of spans: the law answers true and the arguments read afterwards as they read before. No condition. -/
import Derived.Test.YtplpafoflibnlaaM5
import Derived.Test.YtplpafoflibnlaaM13
import Derived.Test.YtplpafoflibnlaaM20
import Derived.Carry
namespace Go.Proofs.Ytplpafoflibnlaa.Te
set_option maxRecDepth 100000
open Go Go.RowKit Go.Joins Go.ChangeShapes Go.WideShapes Go.ChangeAt Go.Deep Go.Proofs.Ytplpafoflibnlaa.Sp Go.Proofs.Ytplpafoflibnlaa.Pa

set_option maxRecDepth 100000 in
theorem lifted_TermPres (os : Os) (started : os.Started) (H : Type) (enc : TypeId × Value → H) :
    ReturnsInHanded {} Try.checked os 3 .any (Rows.termPresSpec.pre6 enc Try.prog Try.f3 Rows.termPresRow.domain false) (Rows.termPresSpec.post enc Try.prog Try.f3 false true false false) := by
  refine returnsInHanded_of_change (C := Try.checked) own started (by kernel_rfl) Try.func3
    (ChangeSpec.witness6 (enc := enc) (C := Try.checked) false ⟨#[], #[.agg #[.int .i64 0, .int .i64 0, .int .i64 0, .int .i64 0, .int .i64 0, .slice none 0 0], .slice none 0 0, .slice none 0 0], []⟩ 8 (by kernel_rfl) (by kernel_rfl) (by kernel_rfl) (by kernel_rfl)) ?_
  intro W base args ds gs before hval0 hW hcnd _
  have hval : ∀ (j : Nat) t v, Try.f3.params[j]? = some t → args[j]? = some v → Value.okWide Try.prog W .any base t v := hval0
  have hW' := hW
  obtain ⟨p, q, hA0, hV, rfl, hfz, hnd⟩ := hW
  have hA : DataW.TrodAll enc Try.prog W 0 (fun _ => true) true Try.f3.params.toList args.toList ds p := hA0
  rw [Try.params3] at hA hval
  obtain ⟨v0, v1, v2, d0, d1, d2, p0, p1, p2, rfl, rfl, rfl, h0, h1, h2⟩ := trodAll_three hA
  obtain ⟨rfl, rfl⟩ := trodVars_none hV
  clear hA0 hval0
  simp only [List.append_nil] at hW'
  have hlt := fun x hx => hW'.lt (p := x) hx
  obtain ⟨b, d, t, u, s, A, c, l, rfl, hr0, hc0, hm0, hs0⟩ := open_termR (hval 0 _ v0 rfl rfl) h0
  obtain ⟨As, cs, sl, rfl, hr1, hc1, hm1, hn1⟩ := Sp.open_spans (hval 1 _ v1 rfl rfl) h1
  obtain ⟨Ag, cg, gl, rfl, hr2, hc2, hm2, hn2⟩ := Sp.open_spans (hval 2 _ v2 rfl rfl) h2
  refine (walk_TermPres b d t u s A c l As cs sl Ag cg gl W hr0 hm0 hs0 hr1 hc1 hm1 hr2 hm2).mono fun e W' ⟨he, hb⟩ => ?_
  subst he
  exact ⟨_, rfl, _, _, _, [], _, [], hW', trodAll_mk1 (shut_bool Try.underlying4 true), trodAll_mk3 (kept readableTerm rowTerm h0 hb fun x hx => hlt x (by simp [hx])) (kept Sp.readable22 Sp.row22 h1 hb fun x hx => hlt x (by simp [hx])) (kept Sp.readable22 Sp.row22 h2 hb fun x hx => hlt x (by simp [hx])), rfl, World.keptBut_mono (fun x hx => ⟨hx, .inr (.inl (by simpa using hx))⟩) (hb.frame (· ∈ _)), fun h => by cases h⟩

theorem holds_TermPres : Rows.TermPresSaid :=
  OpenClaim.holds_of_wide 3 Try.f3 rfl rfl rfl rfl rfl rfl rfl ⟨rfl, rfl, rfl, rfl, rfl⟩ rfl rfl rfl rfl rfl (by kernel_rfl) Try.func3 (by kernel_rfl)
    (of_decide_eq_true (by kernel_rfl)) (by unfold Func.isWrapper; first | (rw [if_pos (by decide +kernel)]; kernel_rfl) | (rw [if_neg (by decide +kernel)]; exact ⟨rfl, rfl⟩))
    (fun os started H enc _ => lifted_TermPres os started H enc)
end Go.Proofs.Ytplpafoflibnlaa.Te
