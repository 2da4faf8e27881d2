/- The tiny table is right, and two sums. -/
import Derived.Test.YtgmkchkaceciiaaPkTiny
import Derived.Test.YtgmkchkaceciiaaPkUnM
namespace Go.Proofs.Ytgmkchkaceciiaa.Pk
set_option maxRecDepth 100000
open Go Go.RowKit Go.Proofs.Ytgmkchkaceciiaa.Sp Go.Proofs.Ytgmkchkaceciiaa.Pa Go.Proofs.Ytgmkchkaceciiaa.Te Go.Proofs.Ytgmkchkaceciiaa.Mi Go.Proofs.Ytgmkchkaceciiaa.De

theorem sum_nil : sumL [] = 2166136261 := rfl
theorem sum_a : sumL [97] = 3826002220 := by
  unfold sumL step
  decide
theorem tiny_term : termsOk 0 [⟨0, 0, 21, 0, 120, []⟩] = true := by
  unfold termsOk termOk rightT
  simp only [List.all_cons, List.all_nil, Bool.and_true, partsB]
  have : numB 0 0 21 0 120 [] = true := by
    unfold numB
    have hr : riseB [] = true := riseB_true (k := 0) (by unfold RiseTo; intro i; omega) (Nat.le_refl _)
    simp [hr]
    decide
  simp [this]
theorem tiny_rt : RightTab tinyT := by
  refine ⟨⟨by decide, by decide, by decide, by decide, by decide, by decide, rfl, fun n hn => ?_, fun c hc => ?_⟩, fun a ha => absurd ha (List.not_mem_nil), fun l hl => ?_, fun n hn => ?_⟩
  · rw [List.mem_singleton.1 (show n ∈ [((0 : Int), (0 : Int), [(-1 : Int)])] from hn)]
    exact ⟨rfl, by decide, by decide⟩
  · rw [List.eq_of_mem_replicate (show c ∈ List.replicate 256 0 from hc)]
    decide
  · rw [List.mem_singleton.1 (show l ∈ [[(⟨0, 0, 21, 0, 120, []⟩ : TmL)]] from hl)]
    decide
  · rw [List.mem_singleton.1 (show n ∈ [((0 : Int), (0 : Int), [(-1 : Int)])] from hn)]
    refine ⟨.inr ⟨by decide, _, rfl, tiny_term⟩, fun x hx => .inl (List.mem_singleton.1 hx)⟩
theorem tiny_pack : packB tinyT = true := packB_iff.2 ⟨tiny_rt, wideB_iff.1 (by decide), wideB_iff.1 (by decide)⟩
theorem tiny_count : tinyT.restI.length = 10 := rfl
end Go.Proofs.Ytgmkchkaceciiaa.Pk
