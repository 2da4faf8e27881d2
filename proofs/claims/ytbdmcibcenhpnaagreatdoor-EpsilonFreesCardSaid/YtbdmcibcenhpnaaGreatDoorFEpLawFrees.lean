/-
  EpsilonFrees holds for every description: the law answers true and the description reads afterwards as it read before. No condition but what the program lays: the two tables of package math/bits, tied to its text.
-/
import Derived.Test.YtbdmcibcenhpnaaGreatDoorCards
import Derived.Test.YtbdmcibcenhpnaaGreatDoorTie
import Derived.Test.YtbdmcibcenhpnaaGreatDoorF14
import Derived.Test.YtbdmcibcenhpnaaGreatDoorF50
import Derived.LaidMore
import Derived.SevenTiedAt
namespace Go.Proofs.YtbdmcibcenhpnaaGreatDoor.Ep
set_option maxRecDepth 100000
open Go Go.RowKit Go.Joins Go.ChangeShapes Go.WideShapes Go.ChangeAt Go.Deep
open Go.Proofs.YtbdmcibcenhpnaaGreatDoor.De
open Go.Proofs.YtbdmcibcenhpnaaGreatDoor.Te (own laidOut kept)


/-- The row's condition lays both tables of math/bits. -/
theorem tabs_of_laid {W : World} (h : laidMetH Tryz.prog Rows.epsilonFreesRow.laid W) : Fi.jh W := by
  rw [MakeChecks.laidMetH_plain _ _ _ (by kernel_rfl)] at h
  obtain ⟨ps, ⟨g0, t0, cs0, f0, p0, q0, hg0, ht0, hv0, hd0, ⟨g1, t1, cs1, f1, p1, q1, hg1, ht1, hv1, hd1, _, _⟩, _⟩, _, _⟩ := h
  obtain rfl : g1 = 1 := Option.some.inj (hg1.symm.trans (by kernel_rfl))
  obtain rfl : t1 = 176 := Option.some.inj (ht1.symm.trans (by kernel_rfl))
  have k1 : cs1.toList = (Lib.deBruijn64tab.map Int.ofNat).map fun z => Value.int .u8 z := Lib.cells_of_tab Tryz.underlying176 Tryz.underlying5 (by kernel_rfl) (by kernel_rfl) hd1
  have key : ∀ j, j < Lib.deBruijn64tab.length → W.cell? ⟨1, j, none⟩ = some (.int .u8 (Lib.deBruijn64tab.getD j 0)) := fun j hj => by
    rw [World.var?_cell hg1 hv1 j]
    have e : cs1[j]? = cs1.toList[j]? := by simp
    rw [e, k1]
    simp [List.getElem?_eq_getElem hj]
  refine ⟨key, ?_⟩
  have := World.block_lt_of_cell? W _ (key 0 (by decide))
  exact this
/-- The door's own heap meets the condition. -/
theorem door_met (os : Os) (args : Array Value) : laidMetH Tryz.prog Rows.epsilonFreesRow.laid ((World.doorLaid Tryz.prog 400 os).forCall (fun _ _ => 0) ⟨#[], args, []⟩).memory :=
  laidMetH_of_parts3 (fuel := 8) (laidMet_of_run' 8 (by kernel_rfl) (by kernel_rfl)) (by kernel_rfl) (by kernel_rfl)

set_option maxRecDepth 100000 in
theorem lifted_EpsilonFrees (os : Os) (started : os.Started) (H : Type) (enc : TypeId × Value → H) :
    ReturnsInHanded {} Tryz.checked os 4 .any (fun w args => (Rows.epsilonFreesSpec.pre enc Tryz.prog Tryz.f4 [] false w args ∧ laidMetH Tryz.prog Rows.epsilonFreesRow.laid w) ∧ sizedMet enc Tryz.prog Tryz.f4 (OpenSpec.ofChange Rows.epsilonFreesSpec) false w args)
      (Rows.epsilonFreesSpec.post enc Tryz.prog Tryz.f4 false true false false) := by
  refine returnsInHanded_of_change_and (C := Tryz.checked) (X := fun w _ => laidMetH Tryz.prog Rows.epsilonFreesRow.laid w) (fun _ _ _ hh h => h.of_heap hh) own started (by kernel_rfl) Tryz.func4
    (ChangeSpec.witness_shaped (enc := enc) (C := Tryz.checked) (os := os) (X := fun w _ => laidMetH Tryz.prog Rows.epsilonFreesRow.laid w) false (World.doorLaid Tryz.prog 400 os) #[.agg #[.int .i64 0, .int .i64 0, .int .i64 0, .int .i64 0, .slice none 0 0, .slice none 0 0]] 8 rfl (World.shaped_of_RefB (by kernel_rfl) (by kernel_rfl)) (by kernel_rfl) (by kernel_rfl) (by kernel_rfl) (door_met os _)) ?_
  intro W base args ds gs before hval0 hW _ _ hL _
  have hval : ∀ (j : Nat) t v, Tryz.f4.params[j]? = some t → args[j]? = some v → Value.okWide Tryz.prog W .any base t v := hval0
  have hW' := hW
  obtain ⟨p, q, hA0, hV, rfl, hfz, hnd⟩ := hW
  have hA : DataW.TrodAll enc Tryz.prog W 0 (fun _ => true) true Tryz.f4.params.toList args.toList ds p := hA0
  rw [Tryz.params4] at hA hval
  obtain ⟨v0, d0, rfl, rfl, h0⟩ := trodAll_one hA
  obtain ⟨rfl, rfl⟩ := trodVars_none hV
  have HT := tabs_of_laid hL
  clear hA0 hval0 hL
  simp only [List.append_nil] at hW'
  have hlt := fun x hx => hW'.lt (p := x) hx
  obtain ⟨i, o, n, s, A, c, B, e, rs, fs, rfl, hr0, hc0, hm0, hf0, he0, hg0, hn0, hk0⟩ := xk (hval 0 _ v0 rfl rfl) h0
  refine (Bo i o n s A c B e rs fs W ⟨hr0, hm0, hf0, hg0, hn0, hk0⟩ HT).mono fun e W' ⟨he, hb⟩ => ?_
  subst he
  exact ⟨_, rfl, _, _, _, [], _, [], hW', trodAll_mk1 (shut_bool Tryz.underlying4 true), trodAll_mk1 (kept zM OG h0 hb fun x hx => hlt x hx), rfl, World.keptBut_mono (fun x hx => ⟨hx, .inr (.inl (by simpa using hx))⟩) (hb.frame (· ∈ _)), fun h => by cases h⟩

theorem holds_EpsilonFrees : Rows.EpsilonFreesSaid :=
  OpenClaim.holds_of_wide 4 Tryz.f4 rfl rfl rfl rfl rfl rfl rfl ⟨rfl, rfl, rfl, rfl, rfl⟩ rfl rfl rfl rfl rfl (by kernel_rfl) Tryz.func4 (by kernel_rfl)
    (of_decide_eq_true (by kernel_rfl)) (by unfold Func.isWrapper; first | (rw [if_pos (by decide +kernel)]; kernel_rfl) | (rw [if_neg (by decide +kernel)]; exact ⟨rfl, rfl⟩))
    (fun os started H enc _ => lifted_EpsilonFrees os started H enc)
theorem card_EpsilonFrees : Rows.EpsilonFreesCardSaid :=
  Claim7.holds_tied_plain_at .later [] [.data, .data] true Rows.epsilonFreesCard.stood.harness Rows.epsilonFreesCard.stood.looks
    holds_EpsilonFrees (fun _ h => by cases h) (by kernel_rfl) (fun _ h => by cases h) epsilonFrees_row_tie rfl ⟨rfl, rfl⟩ (by kernel_rfl) rfl
    (fun f fn hf hfn => by
      obtain rfl : f = 4 := Option.some.inj (hf.symm.trans (by kernel_rfl))
      obtain rfl : fn = Tryz.f4 := (Option.some.inj (Tryz.func4.symm.trans hfn)).symm
      exact ⟨by kernel_rfl, fun j t ht => by
        have hm : t ∈ Tryz.f4.params.toList := by simpa using Array.mem_of_getElem? ht
        have hall : (Tryz.f4.params.toList.all fun u => !Tryz.prog.wantsStandIn u) = true := by kernel_rfl
        have := List.all_eq_true.1 hall t hm
        exact (show Tryz.prog.wantsStandIn t = false by simpa using this)⟩)
    (by kernel_rfl)
end Go.Proofs.YtbdmcibcenhpnaaGreatDoor.Ep
