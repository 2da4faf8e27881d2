/-
  DescMakes holds for every two numbers: the law answers true. No condition but what the program lays: the two tables of package math/bits, tied to its text.
-/
import Derived.Test.YtiddgfcoankpjaaGreatDoorCards
import Derived.Test.YtiddgfcoankpjaaGreatDoorRows
import Derived.Test.YtiddgfcoankpjaaGreatDoorTie
import Derived.Test.YtiddgfcoankpjaaGreatDoorJ5
import Derived.Test.YtiddgfcoankpjaaGreatDoorJ13
import Derived.Test.YtiddgfcoankpjaaGreatDoorJ14
import Derived.Test.YtiddgfcoankpjaaGreatDoorJ37
import Derived.ProofKit
import Derived.OpenShut
import Derived.LaidMore
import Derived.Lib.LaidTab
import Derived.SevenTiedAt
import Derived.Deep.Fields
import Derived.Carry
namespace Go.Proofs.YtiddgfcoankpjaaGreatDoor.De
set_option maxRecDepth 100000
open Go Go.RowKit Go.Joins Go.ChangeShapes Go.WideShapes Go.ChangeAt Go.Deep
open Go.Proofs.YtiddgfcoankpjaaGreatDoor.Te (own laidOut kept readableTerm rowTerm readableR rowR open_term open_runes)
open Go.Proofs.YtiddgfcoankpjaaGreatDoor.Mi (open_rows readable23 row23)

/-- The row's condition lays both tables of math/bits. -/
theorem tabs_of_laid {W : World} (h : laidMetH Tryz.prog Rows.descMakesRow.laid W) : Fi.TabB W := by
  rw [MakeChecks.laidMetH_plain _ _ _ (by kernel_rfl)] at h
  obtain ⟨ps, ⟨g0, t0, cs0, f0, p0, q0, hg0, ht0, hv0, hd0, ⟨g1, t1, cs1, f1, p1, q1, hg1, ht1, hv1, hd1, _, _⟩, _⟩, _, _⟩ := h
  obtain rfl : g1 = 1 := Option.some.inj (hg1.symm.trans (by kernel_rfl))
  obtain rfl : t1 = 180 := Option.some.inj (ht1.symm.trans (by kernel_rfl))
  have k1 : cs1.toList = (Lib.deBruijn64tab.map Int.ofNat).map fun z => Value.int .u8 z := Lib.cells_of_tab Tryz.underlying180 Tryz.underlying5 (by kernel_rfl) (by kernel_rfl) hd1
  have key : ∀ j, j < Lib.deBruijn64tab.length → W.cell? ⟨1, j, none⟩ = some (.int .u8 (Lib.deBruijn64tab.getD j 0)) := fun j hj => by
    rw [World.var?_cell hg1 hv1 j]
    have e : cs1[j]? = cs1.toList[j]? := by simp
    rw [e, k1]
    simp [List.getElem?_eq_getElem hj]
  refine ⟨key, ?_⟩
  have := World.block_lt_of_cell? W _ (key 0 (by decide))
  exact this
/-- The door's own heap meets the condition. -/
theorem door_met (os : Os) (args : Array Value) : laidMetH Tryz.prog Rows.descMakesRow.laid ((World.doorLaid Tryz.prog 400 os).forCall (fun _ _ => 0) ⟨#[], args, []⟩).memory :=
  laidMetH_of_parts3 (fuel := 8) (laidMet_of_run' 8 (by kernel_rfl) (by kernel_rfl)) (by kernel_rfl) (by kernel_rfl)

set_option maxRecDepth 100000 in
theorem lifted_DescMakes (os : Os) (started : os.Started) (H : Type) (enc : TypeId × Value → H) :
    ReturnsInHanded {} Tryz.checked os 7 .any (fun w args => (Rows.descMakesSpec.pre enc Tryz.prog Tryz.f7 [] false w args ∧ laidMetH Tryz.prog Rows.descMakesRow.laid w) ∧ sizedMet enc Tryz.prog Tryz.f7 (OpenSpec.ofChange Rows.descMakesSpec) false w args)
      (Rows.descMakesSpec.post enc Tryz.prog Tryz.f7 false true false false) := by
  refine returnsInHanded_of_change_and (C := Tryz.checked) (X := fun w _ => laidMetH Tryz.prog Rows.descMakesRow.laid w) (fun _ _ _ hh h => h.of_heap hh) own started (by kernel_rfl) Tryz.func7
    (ChangeSpec.witness_shaped (enc := enc) (C := Tryz.checked) (os := os) (X := fun w _ => laidMetH Tryz.prog Rows.descMakesRow.laid w) false (World.doorLaid Tryz.prog 400 os) #[.int .i64 0, .int .i64 0] 8 rfl (World.shaped_of_RefB (by kernel_rfl) (by kernel_rfl)) (by kernel_rfl) (by kernel_rfl) (by kernel_rfl) (door_met os _)) ?_
  intro W base args ds gs before hval0 hW _ _ hL _
  have hval : ∀ (j : Nat) t v, Tryz.f7.params[j]? = some t → args[j]? = some v → Value.okWide Tryz.prog W .any base t v := hval0
  have hW' := hW
  obtain ⟨p, q, hA0, hV, rfl, hfz, hnd⟩ := hW
  have hA : DataW.TrodAll enc Tryz.prog W 0 (fun _ => true) true Tryz.f7.params.toList args.toList ds p := hA0
  rw [Tryz.params7] at hA hval
  obtain ⟨v0, v1, d0, d1, p0, p1, rfl, rfl, rfl, h0, h1⟩ := trodAll_two hA
  obtain ⟨rfl, rfl⟩ := trodVars_none hV
  have HT := tabs_of_laid hL
  clear hA0 hval0 hL
  simp only [List.append_nil] at hW'
  have hlt := fun x hx => hW'.lt (p := x) hx
  obtain ⟨x, rfl, rfl, rfl, hw0⟩ := open_int Tryz.underlying3 (hval 0 _ v0 rfl rfl) h0
  have hbx : -9223372036854775808 ≤ x ∧ x ≤ 9223372036854775807 := by simpa [Lit.wf, IntKind.min, IntKind.max, IntKind.signed, IntKind.bits] using hw0
  obtain ⟨y, rfl, rfl, rfl, hw1⟩ := open_int Tryz.underlying3 (hval 1 _ v1 rfl rfl) h1
  have hby : -9223372036854775808 ≤ y ∧ y ≤ 9223372036854775807 := by simpa [Lit.wf, IntKind.min, IntKind.max, IntKind.signed, IntKind.bits] using hw1
  refine (makes_law x y W HT).mono fun e W' ⟨he, hb⟩ => ?_
  subst he
  exact ⟨_, rfl, _, _, _, [], _, [], hW', trodAll_mk1 (shut_bool Tryz.underlying4 true), trodAll_mk2 (shut_int Tryz.underlying3 hw0) (shut_int Tryz.underlying3 hw1), rfl, World.keptBut_mono (fun x hx => ⟨hx, .inr (.inl (by simp at hx))⟩) (hb.frame (· ∈ _)), fun h => by cases h⟩

theorem holds_DescMakes : Rows.DescMakesSaid :=
  OpenClaim.holds_of_wide 7 Tryz.f7 rfl rfl rfl rfl rfl rfl rfl ⟨rfl, rfl, rfl, rfl, rfl⟩ rfl rfl rfl rfl rfl (by kernel_rfl) Tryz.func7 (by kernel_rfl)
    (of_decide_eq_true (by kernel_rfl)) (by unfold Func.isWrapper; first | (rw [if_pos (by decide +kernel)]; kernel_rfl) | (rw [if_neg (by decide +kernel)]; exact ⟨rfl, rfl⟩))
    (fun os started H enc _ => lifted_DescMakes os started H enc)
theorem card_DescMakes : Rows.DescMakesCardSaid :=
  Claim7.holds_tied_plain_at .later [] [.data, .data] true Rows.descMakesCard.stood.harness Rows.descMakesCard.stood.looks
    holds_DescMakes (fun _ h => by cases h) (by kernel_rfl) (fun _ h => by cases h) descMakes_row_tie rfl ⟨rfl, rfl⟩ (by kernel_rfl) rfl
    (fun f fn hf hfn => by
      obtain rfl : f = 7 := Option.some.inj (hf.symm.trans (by kernel_rfl))
      obtain rfl : fn = Tryz.f7 := (Option.some.inj (Tryz.func7.symm.trans hfn)).symm
      exact ⟨by kernel_rfl, fun j t ht => by
        have hm : t ∈ Tryz.f7.params.toList := by simpa using Array.mem_of_getElem? ht
        have hall : (Tryz.f7.params.toList.all fun u => !Tryz.prog.wantsStandIn u) = true := by kernel_rfl
        have := List.all_eq_true.1 hall t hm
        exact (show Tryz.prog.wantsStandIn t = false by simpa using this)⟩)
    (by kernel_rfl)
end Go.Proofs.YtiddgfcoankpjaaGreatDoor.De
