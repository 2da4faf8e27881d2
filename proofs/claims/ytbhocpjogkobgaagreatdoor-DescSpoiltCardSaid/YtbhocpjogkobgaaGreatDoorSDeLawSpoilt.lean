import Derived.Test.YtbhocpjogkobgaaGreatDoorCards
import Derived.Test.YtbhocpjogkobgaaGreatDoorTie
import Derived.Test.YtbhocpjogkobgaaGreatDoorS14
import Derived.Test.YtbhocpjogkobgaaGreatDoorS45
import Derived.LaidMore
import Derived.SevenTiedAt
namespace Go.Proofs.YtbhocpjogkobgaaGreatDoor.De
set_option maxRecDepth 100000
open Go RowKit Joins ChangeShapes WideShapes ChangeAt Deep Go.Proofs.Tryz Rows
open Te (own laidOut kept)
theorem tabs_of_laid {W : World} (h : laidMetH prog descSpoiltRow.laid W) : Fi.TabB W := by
 rw [MakeChecks.laidMetH_plain _ _ _ (by kernel_rfl)] at h
 obtain ⟨ps, ⟨g0, t0, cs0, f0, p0, q0, hg0, ht0, hv0, hd0, ⟨g1, t1, cs1, f1, p1, q1, hg1, ht1, hv1, hd1, _, _⟩, _⟩, _, _⟩ := h
 obtain rfl : g1 = 1 := Option.some.inj (hg1.symm.trans (by kernel_rfl))
 obtain rfl : t1 = 179 := Option.some.inj (ht1.symm.trans (by kernel_rfl))
 have k1 : cs1.toList = (Lib.deBruijn64tab.map Int.ofNat).map fun z => Value.int .u8 z := Lib.cells_of_tab underlying179 underlying5 (by kernel_rfl) (by kernel_rfl) hd1
 have key : ∀ j, j < Lib.deBruijn64tab.length → W.cell? ⟨1, j, none⟩ = some (.int .u8 (Lib.deBruijn64tab.getD j 0)) := fun j hj => by
  rw [World.var?_cell hg1 hv1 j]
  have e : cs1[j]? = cs1.toList[j]? := by simp
  rw [e, k1]
  simp [List.getElem?_eq_getElem hj]
 refine ⟨key, ?_⟩
 have := World.block_lt_of_cell? W _ (key 0 (by decide))
 exact this
theorem door_met (os : Os) (args : Array Value) : laidMetH prog descSpoiltRow.laid ((World.doorLaid prog 400 os).forCall (fun _ _ => 0) ⟨#[], args, []⟩).memory :=
 laidMetH_of_parts3 (fuel := 8) (laidMet_of_run' 8 (by kernel_rfl) (by kernel_rfl)) (by kernel_rfl) (by kernel_rfl)
theorem lifted_DescSpoilt (os : Os) (started : os.Started) (H : Type) (enc : TypeId × Value → H) :
  ReturnsInHanded {} checked os 5 .any (fun w args => (descSpoiltSpec.pre enc prog f5 [] false w args ∧ laidMetH prog descSpoiltRow.laid w) ∧ sizedMet enc prog f5 (OpenSpec.ofChange descSpoiltSpec) false w args)
   (descSpoiltSpec.post enc prog f5 false true false false) := by
 refine returnsInHanded_of_change_and (C := checked) (X := fun w _ => laidMetH prog descSpoiltRow.laid w) (fun _ _ _ hh h => h.of_heap hh) own started (by kernel_rfl) func5
  (ChangeSpec.witness_shaped (enc := enc) (C := checked) (os := os) (X := fun w _ => laidMetH prog descSpoiltRow.laid w) false (World.doorLaid prog 400 os) #[.agg #[.int .i64 0, .int .i64 0, .int .i64 0, .int .i64 0, .slice none 0 0, .slice none 0 0], .int .i64 0, .int .i64 0, .int .i64 0] 8 rfl (World.shaped_of_RefB (by kernel_rfl) (by kernel_rfl)) (by kernel_rfl) (by kernel_rfl) (by kernel_rfl) (door_met os _)) ?_
 intro W base args ds gs before hval0 hW _ _ hL _
 have hval : ∀ (j : Nat) t v, f5.params[j]? = some t → args[j]? = some v → Value.okWide prog W .any base t v := hval0
 have hW' := hW
 obtain ⟨p, q, hA0, hV, rfl, hfz, hnd⟩ := hW
 have hA : DataW.TrodAll enc prog W 0 (fun _ => true) true f5.params.toList args.toList ds p := hA0
 rw [params5] at hA hval
 obtain ⟨v0, v1, v2, v3, d0, d1, d2, d3, p0, p1, p2, p3, rfl, rfl, rfl, h0, h1, h2, h3⟩ := trodAll_four hA
 obtain ⟨rfl, rfl⟩ := trodVars_none hV
 have HT := tabs_of_laid hL
 clear hA0 hval0 hL
 simp only [List.append_nil] at hW'
 have hlt := fun x hx => hW'.lt (p := x) hx
 obtain ⟨i, o, n, s, A, c, B, e, rs, fs, rfl, hr0, hc0, hm0, hf0, he0, hg0⟩ := open_desc (hval 0 _ v0 rfl rfl) h0
 obtain ⟨wh, rfl, rfl, rfl, hw1⟩ := open_int underlying3 (hval 1 _ v1 rfl rfl) h1
 have hbwh : -9223372036854775808 ≤ wh ∧ wh ≤ 9223372036854775807 := by simpa [Lit.wf, IntKind.min, IntKind.max, IntKind.signed, IntKind.bits] using hw1
 obtain ⟨at_, rfl, rfl, rfl, hw2⟩ := open_int underlying3 (hval 2 _ v2 rfl rfl) h2
 have hbat_ : -9223372036854775808 ≤ at_ ∧ at_ ≤ 9223372036854775807 := by simpa [Lit.wf, IntKind.min, IntKind.max, IntKind.signed, IntKind.bits] using hw2
 obtain ⟨x, rfl, rfl, rfl, hw3⟩ := open_int underlying3 (hval 3 _ v3 rfl rfl) h3
 have hbx : -9223372036854775808 ≤ x ∧ x ≤ 9223372036854775807 := by simpa [Lit.wf, IntKind.min, IntKind.max, IntKind.signed, IntKind.bits] using hw3
 refine (spoilt_law i o n s A c B e rs fs wh at_ x W hr0 hm0 hf0 hg0 HT hbx).mono fun e W' ⟨he, hb⟩ => ?_
 subst he
 exact ⟨_, rfl, _, _, _, [], _, [], hW', trodAll_mk1 (shut_bool underlying4 true), trodAll_mk4 (kept readableD rowD h0 hb fun x hx => hlt x (by simp [hx])) (shut_int underlying3 hw1) (shut_int underlying3 hw2) (shut_int underlying3 hw3), rfl, World.keptBut_mono (fun x hx => ⟨hx, .inr (.inl (by simpa using hx))⟩) (hb.frame (· ∈ _)), fun h => by cases h⟩
theorem holds_DescSpoilt : DescSpoiltSaid :=
 OpenClaim.holds_of_wide 5 f5 rfl rfl rfl rfl rfl rfl rfl ⟨rfl, rfl, rfl, rfl, rfl⟩ rfl rfl rfl rfl rfl (by kernel_rfl) func5 (by kernel_rfl)
  (of_decide_eq_true (by kernel_rfl)) (by unfold Func.isWrapper; first | (rw [if_pos (by decide +kernel)]; kernel_rfl) | (rw [if_neg (by decide +kernel)]; exact ⟨rfl, rfl⟩))
  (fun os started H enc _ => lifted_DescSpoilt os started H enc)
theorem card_DescSpoilt : DescSpoiltCardSaid :=
 Claim7.holds_tied_plain_at .later [] [.data, .data] true descSpoiltCard.stood.harness descSpoiltCard.stood.looks
  holds_DescSpoilt (fun _ h => by cases h) (by kernel_rfl) (fun _ h => by cases h) descSpoilt_row_tie rfl ⟨rfl, rfl⟩ (by kernel_rfl) rfl
  (fun f fn hf hfn => by
   obtain rfl : f = 5 := Option.some.inj (hf.symm.trans (by kernel_rfl))
   obtain rfl : fn = f5 := (Option.some.inj (func5.symm.trans hfn)).symm
   exact ⟨by kernel_rfl, fun j t ht => by
    have hm : t ∈ f5.params.toList := by simpa using Array.mem_of_getElem? ht
    have hall : (f5.params.toList.all fun u => !prog.wantsStandIn u) = true := by kernel_rfl
    have := List.all_eq_true.1 hall t hm
    exact (show prog.wantsStandIn t = false by simpa using this)⟩)
  (by kernel_rfl)
end Go.Proofs.YtbhocpjogkobgaaGreatDoor.De
