/-
  PackBack holds for all tables: the law answers true and the table reads afterwards as it read before. No condition.
-/
import Derived.Test.YtboaifdkoemnbaaRows
import Derived.Test.YtboaifdkoemnbaaJ7
import Derived.Test.YtboaifdkoemnbaaJ24
import Derived.ProofKit
import Derived.OpenShut
import Derived.ChangeMaps
namespace Go.Proofs.Ytboaifdkoemnbaa.Pk
set_option maxRecDepth 100000
open Go Go.RowKit Go.Proofs.Ytboaifdkoemnbaa.Sp Go.Proofs.Ytboaifdkoemnbaa.Pa Go.Proofs.Ytboaifdkoemnbaa.Te Go.Proofs.Ytboaifdkoemnbaa.Mi Go.Proofs.Ytboaifdkoemnbaa.De Go.Proofs.Ytboaifdkoemnbaa.Wo Go.ChangeShapes Go.WideShapes Go.ChangeAt

theorem bytes_lenB {T : TabL} (h : T.cls.length = 256) : T.bytes.length = 281 + 4 * T.restI.length := by
  unfold TabL.bytes TabL.body
  simp only [List.length_append, numsB_length, num4_length, h]
  show 5 + (4 * 4 + (256 + 4 * T.restI.length)) + 4 = _
  omega
set_option maxHeartbeats 8000000 in
theorem walk_PackBack (t : TV) (w : World) (h : TM w t) : Calls Try.prog 5 #[t.val] w (Sp.RetB true w) := by
  obtain ⟨H, hH⟩ : ∃ H, w.heap.size = H := ⟨_, rfl⟩
  obtain ⟨w1, hw1⟩ : ∃ w1, w.alloc (.cells t.cells.toArray 27) = w1 := ⟨_, rfl⟩
  have hT : TW w1 H t := by rw [← hw1, ← hH]; exact TW.boxed h
  have hs1 : w1.heap.size = H + 1 := by rw [← hw1, ← hH]; simp
  have hb1 : Below w.heap.size w w1 := by rw [← hw1]; exact (Below.refl _ _).alloc (Nat.le_refl _) _
  have HT1 := Lib.hid hT
  have HTW := Lib.hid (fun W (hW : Below w1.heap.size w1 W) => show TW W H t from hT.below hW)
  have HW1 := Lib.hid (fun W (hW : Below w1.heap.size w1 W) => show Below w.heap.size w W from hb1.trans (hW.mono (by rw [hH, hs1]; omega)))
  have hval : t.val = .agg t.cells.toArray := rfl
  have HSM := Lib.hid (small17_any t w1 hT.mem)
  have HCL := Lib.hid h.cls
  have HBY := Lib.hid h.byte
  rw [hval] at HSM ⊢
  clear h hT hb1 hs1
  go_enter Try.func5, Try.ntmps5
  go_wp2_with (refine load_tab rfl _ rfl H t HT1.out rfl ?_)
  refine HSM.out.mono ?_
  rintro e w2 ⟨b, rfl, hbn, hb2⟩
  have HB2 := Lib.hid hb2
  have HT2 := Lib.hid (HTW.out w2 hb2)
  have HBN := Lib.hid hbn
  clear hb2 hbn
  cases b
  case false =>
    go_wp2_with (fail)
    refine (pawake18_any _).mono ?_
    rintro e w9 ⟨rfl, hb9⟩
    have HB9 := Lib.hid (HW1.out w9 (HB2.out.trans (hb9.mono HB2.out.size)))
    clear hb9
    go_wp2_with (fail)
    go_ret
    exact ⟨rfl, HB9.out⟩
  have HLN := Lib.hid (show t.T.restI.length ≤ 1000000 from HBN.out rfl)
  have HP := Lib.hid (pack_any t w2 HT2.out.mem (by have := HLN.out; omega))
  rw [hval] at HP
  go_wp2_with (refine load_tab rfl _ rfl H t HT2.out rfl ?_)
  refine HP.out.mono ?_
  rintro e w3 ⟨hb3, h3⟩
  have HB3 := Lib.hid (HB2.out.trans (hb3.mono HB2.out.size))
  have HT3 := Lib.hid (HTW.out w3 HB3.out)
  clear hb3
  rcases h3 with ⟨hp, A, c, rfl, hry, hlc⟩ | ⟨hp, rfl⟩
  case inr =>
    clear hp
    go_wp2_with (fail)
    refine (pawake18_any _).mono ?_
    rintro e w9 ⟨rfl, hb9⟩
    have HB9 := Lib.hid (HW1.out w9 (HB3.out.trans (hb9.mono HB3.out.size)))
    clear hb9
    go_wp2_with (fail)
    go_ret
    exact ⟨rfl, HB9.out⟩
  have HPK := Lib.hid hp
  have HC3 := Lib.hid (unpack_any A c t.T.bytes w3 hry (bytes_lt HBY.out) (by rw [bytes_lenB HCL.out]; have := HLN.out; omega) hlc)
  clear hp hry hlc
  go_wp2_with (fail)
  refine HC3.out.mono ?_
  rintro e w4 ⟨hb4, h4⟩
  rcases h4 with ⟨t2, hbt, hp2, hF2, rfl⟩ | ⟨hno, _⟩
  case inr => exact absurd rfl (hno t.T HCL.out HPK.out)
  have hTT : t2.T = t.T := TabL.bytes_inj (packB_fit hF2.cls hp2) (packB_fit HCL.out HPK.out) hbt
  have HB4 := Lib.hid (HB3.out.trans (hb4.mono HB3.out.size))
  obtain ⟨Y, hY⟩ : ∃ Y, w4.heap.size = Y := ⟨_, rfl⟩
  obtain ⟨w6, hw6⟩ : ∃ w6, w4.alloc (.cells Try.zeroCells27 27) = w6 := ⟨_, rfl⟩
  obtain ⟨w7, hw7⟩ : ∃ w7, w6.setRow Y t2.cells.toArray = w7 := ⟨_, rfl⟩
  have hY6 : w6.heap[Y]? = some (.cells Try.zeroCells27 27 (0, 0)) := by rw [← hw6, ← hY]; exact heap_alloc_new w4 _
  obtain ⟨hbx, hb7, hz7⟩ := tab_boxed (w7 := w7) (t := t2) hw6 (by rw [hY]; exact hw7)
  rw [hY] at hbx hz7
  have HT7 := Lib.hid (show TW w7 Y t2 from ⟨hbx, (hF2.keep (KeepQ.below hb7)).tm⟩)
  have HB7 := Lib.hid (HB4.out.trans (hb7.mono HB4.out.size))
  have HY6 := Lib.hid hY6
  have HW7 := Lib.hid hw7
  have HTA := Lib.hid (HTW.out w7 HB7.out)
  have HSE := Lib.hid (same_eq t2 t w7 HT7.out.mem HTA.out.mem hTT)
  have HRT := Lib.hid (show RightTab t2.T from (packB_iff.1 hp2).1)
  have hval2 : t2.val = .agg t2.cells.toArray := rfl
  rw [hval2]
  rw [hval, hval2] at HSE
  clear hb4 hbt hp2 hF2 hTT hbx hb7 hY6 hw7
  go_upto_region 7 with (refine wpList_store_row rfl 27 _ _ rfl Y t2.cells.toArray rfl rfl _ _ HY6.out (tabSize' HT7.out.mem.cls) (by rw [tab_zsize, List.size_toArray, TV.length HT7.out.mem.cls]) oneCells ?_; rw [HW7.out])
  go_wp2_with (first | (refine want_tab (by rfl) _ rfl Y t2 HT7.out rfl ?_) | (refine want_tab (by rfl) _ rfl H t HTA.out rfl ?_))
  refine HSE.out.mono ?_
  rintro e w8 ⟨rfl, hb8⟩
  have HB8 := Lib.hid (HB7.out.trans (hb8.mono HB7.out.size))
  have HT8 := Lib.hid (HT7.out.below hb8)
  have HCK := Lib.hid (tcheck_any t2 w8 HT8.out.mem)
  rw [propB_true HRT.out, hval2] at HCK
  clear hb8 hval hval2
  go_wp2_with (refine want_tab (by rfl) _ rfl Y t2 HT8.out rfl ?_)
  refine HCK.out.mono ?_
  rintro e w9 ⟨rfl, hb9⟩
  have HB9 := Lib.hid (HB8.out.trans (hb9.mono HB8.out.size))
  clear hb9
  go_wp2_with (fail)
  refine (pawake18_any _).mono ?_
  rintro e wa ⟨rfl, hba⟩
  have HBA := Lib.hid (HW1.out wa (HB9.out.trans (hba.mono HB9.out.size)))
  clear hba
  go_wp2_with (fail)
  go_ret
  exact ⟨rfl, HBA.out⟩
theorem lifted_PackBack (os : Os) (started : os.Started) (H : Type) (enc : TypeId × Value → H) :
    ReturnsInHanded {} Try.checked os 5 .any (Rows.packBackSpec.pre6 enc Try.prog Try.f5 Rows.packBackRow.domain false) (Rows.packBackSpec.post enc Try.prog Try.f5 false true false false) := by
  refine returnsInHanded_of_change (C := Try.checked) own started (by kernel_rfl) Try.func5
    (ChangeSpec.witness6 (enc := enc) (C := Try.checked) false ⟨#[], #[.agg Try.zeroCells27], []⟩ 8 (by kernel_rfl) (by kernel_rfl) (by kernel_rfl) (by kernel_rfl)) ?_
  intro W base args ds gs before hval0 hW hcnd _
  have hval : ∀ (j : Nat) t v, Try.f5.params[j]? = some t → args[j]? = some v → Value.okWide Try.prog W .any base t v := hval0
  have hW' := hW
  obtain ⟨p, q, hA0, hV, rfl, hfz, hnd⟩ := hW
  have hA : DataW.TrodAll enc Try.prog W 0 (fun _ => true) true Try.f5.params.toList args.toList ds p := hA0
  rw [Try.params5] at hA hval
  obtain ⟨v0, d0, rfl, rfl, h0⟩ := trodAll_one hA
  obtain ⟨rfl, rfl⟩ := trodVars_none hV
  clear hA0 hval0
  simp only [List.append_nil] at hW'
  have hlt := fun x hx => hW'.lt (p := x) hx
  obtain ⟨t, rfl, hr0⟩ := open_table (hval 0 _ v0 rfl rfl) h0
  refine (walk_PackBack t W hr0).mono fun e W' ⟨he, hb⟩ => ?_
  subst he
  exact ⟨_, rfl, _, _, _, [], _, [], hW', trodAll_mk1 (shut_bool Try.underlying4 true), trodAll_mk1 (kept readableT rowT h0 hb fun x hx => hlt x hx), rfl, World.keptBut_mono (fun x hx => ⟨hx, .inr (.inl (by simpa using hx))⟩) (hb.frame (· ∈ _)), fun h => by cases h⟩
theorem holds_PackBack : Rows.PackBackSaid :=
  OpenClaim.holds_of_wide 5 Try.f5 rfl rfl rfl rfl rfl rfl rfl ⟨rfl, rfl, rfl, rfl, rfl⟩ rfl rfl rfl rfl rfl (by kernel_rfl) Try.func5 (by kernel_rfl)
    (of_decide_eq_true (by kernel_rfl)) (by unfold Func.isWrapper; first | (rw [if_pos (by decide +kernel)]; kernel_rfl) | (rw [if_neg (by decide +kernel)]; exact ⟨rfl, rfl⟩))
    (fun os started H enc _ => lifted_PackBack os started H enc)
end Go.Proofs.Ytboaifdkoemnbaa.Pk
