/-
  PackBytes holds for all tables: the law answers true and the table reads afterwards as it read before. No condition.
-/
import Derived.Test.YtboaifdkoemnbaaRows
import Derived.Test.YtboaifdkoemnbaaJ7
import Derived.Test.YtboaifdkoemnbaaJ24
import Derived.Test.YtboaifdkoemnbaaJ27
import Derived.ProofKit
import Derived.OpenShut
import Derived.ChangeMaps
namespace Go.Proofs.Ytboaifdkoemnbaa.Pk
set_option maxRecDepth 100000
open Go Go.RowKit Go.Proofs.Ytboaifdkoemnbaa.Sp Go.Proofs.Ytboaifdkoemnbaa.Pa Go.Proofs.Ytboaifdkoemnbaa.Te Go.Proofs.Ytboaifdkoemnbaa.Mi Go.Proofs.Ytboaifdkoemnbaa.De Go.Proofs.Ytboaifdkoemnbaa.Wo Go.ChangeShapes Go.WideShapes Go.ChangeAt

set_option maxHeartbeats 8000000 in
theorem walk_PackBytes (t : TV) (w : World) (h : TM w t) : Calls Try.prog 3 #[t.val] w (Sp.RetB true w) := by
  obtain ⟨H, hH⟩ : ∃ H, w.heap.size = H := ⟨_, rfl⟩
  obtain ⟨w1, hw1⟩ : ∃ w1, w.alloc (.cells t.cells.toArray 27) = w1 := ⟨_, rfl⟩
  have hT : TW w1 H t := by rw [← hw1, ← hH]; exact TW.boxed h
  have hs1 : w1.heap.size = H + 1 := by rw [← hw1, ← hH]; simp
  have hb1 : Below w.heap.size w w1 := by rw [← hw1]; exact (Below.refl _ _).alloc (Nat.le_refl _) _
  have HT1 := Lib.hid hT
  have HTW := Lib.hid (fun W (hW : Below w1.heap.size w1 W) => show TW W H t from hT.below hW)
  have HW1 := Lib.hid (fun W (hW : Below w1.heap.size w1 W) => show Below w.heap.size w W from hb1.trans (hW.mono (by rw [hH, hs1]; omega)))
  have hval : t.val = .agg t.cells.toArray := rfl
  have HSM := Lib.hid (small17_any t w1 hT.mem)
  rw [hval] at HSM ⊢
  clear h hT hb1 hs1
  go_enter Try.func3, Try.ntmps3
  go_wp2_with (refine load_tab rfl _ rfl H t HT1.out rfl ?_)
  refine HSM.out.mono ?_
  rintro e w2 ⟨b, rfl, hbn, hb2⟩
  have HB2 := Lib.hid hb2
  have HT2 := Lib.hid (HTW.out w2 hb2)
  have HBN := Lib.hid hbn
  clear hb2 hbn
  cases b
  case false =>
    go_wp2_with (fail)
    refine (pawake18_any _).mono ?_
    rintro e w9 ⟨rfl, hb9⟩
    have HB9 := Lib.hid (HW1.out w9 (HB2.out.trans (hb9.mono HB2.out.size)))
    clear hb9
    go_wp2_with (fail)
    go_ret
    exact ⟨rfl, HB9.out⟩
  have HLN := Lib.hid (show t.T.restI.length ≤ 1000000000 from by have := HBN.out rfl; omega)
  have HP := Lib.hid (pack_any t w2 HT2.out.mem HLN.out)
  rw [hval] at HP
  go_wp2_with (refine load_tab rfl _ rfl H t HT2.out rfl ?_)
  refine HP.out.mono ?_
  rintro e w3 ⟨hb3, h3⟩
  have HB3 := Lib.hid (HB2.out.trans (hb3.mono HB2.out.size))
  have HT3 := Lib.hid (HTW.out w3 HB3.out)
  have HRP := Lib.hid (rpack_any t w3 HT3.out.mem HLN.out)
  rw [hval] at HRP
  clear hb3
  rcases h3 with ⟨hp, A, c, rfl, hry, hlc⟩ | ⟨hp, rfl⟩
  · have HPP := Lib.hid hp
    have HRY := Lib.hid hry
    clear hp hry hlc
    go_wp2_with (refine load_tab rfl _ rfl H t HT3.out rfl ?_)
    refine HRP.out.mono ?_
    rintro e w4 ⟨hb4, h4⟩
    have HB4 := Lib.hid (HB3.out.trans (hb4.mono HB3.out.size))
    rcases h4 with ⟨_, A4, c4, rfl, hry4, hlc4⟩ | ⟨hno, _⟩
    case inr => rw [HPP.out] at hno; cases hno
    obtain ⟨S, hS⟩ : ∃ S, strOfNums (byI t.T.bytes) = S := ⟨_, rfl⟩
    have hk1 := conv_by (c := c4) hry4
    have hk2 := conv_by (c := c) (HRY.out.belowM hb4)
    rw [hS] at hk1 hk2
    clear hb4 hry4 hlc4 hS hval
    go_wp2_with (fail)
    refine (pawake18_any _).mono ?_
    rintro e w9 ⟨rfl, hb9⟩
    have HB9 := Lib.hid (HW1.out w9 (HB4.out.trans (hb9.mono HB4.out.size)))
    clear hb9
    go_wp2_with (fail)
    go_ret
    exact ⟨rfl, HB9.out⟩
  · have HPP := Lib.hid hp
    clear hp
    go_wp2_with (refine load_tab rfl _ rfl H t HT3.out rfl ?_)
    refine HRP.out.mono ?_
    rintro e w4 ⟨hb4, h4⟩
    have HB4 := Lib.hid (HB3.out.trans (hb4.mono HB3.out.size))
    rcases h4 with ⟨hno, _⟩ | ⟨_, rfl⟩
    case inl => rw [HPP.out] at hno; cases hno
    clear hb4 hval
    go_wp2_with (fail)
    refine (pawake18_any _).mono ?_
    rintro e w9 ⟨rfl, hb9⟩
    have HB9 := Lib.hid (HW1.out w9 (HB4.out.trans (hb9.mono HB4.out.size)))
    clear hb9
    go_wp2_with (fail)
    go_ret
    exact ⟨rfl, HB9.out⟩
theorem lifted_PackBytes (os : Os) (started : os.Started) (H : Type) (enc : TypeId × Value → H) :
    ReturnsInHanded {} Try.checked os 3 .any (Rows.packBytesSpec.pre6 enc Try.prog Try.f3 Rows.packBytesRow.domain false) (Rows.packBytesSpec.post enc Try.prog Try.f3 false true false false) := by
  refine returnsInHanded_of_change (C := Try.checked) own started (by kernel_rfl) Try.func3
    (ChangeSpec.witness6 (enc := enc) (C := Try.checked) false ⟨#[], #[.agg Try.zeroCells27], []⟩ 8 (by kernel_rfl) (by kernel_rfl) (by kernel_rfl) (by kernel_rfl)) ?_
  intro W base args ds gs before hval0 hW hcnd _
  have hval : ∀ (j : Nat) t v, Try.f3.params[j]? = some t → args[j]? = some v → Value.okWide Try.prog W .any base t v := hval0
  have hW' := hW
  obtain ⟨p, q, hA0, hV, rfl, hfz, hnd⟩ := hW
  have hA : DataW.TrodAll enc Try.prog W 0 (fun _ => true) true Try.f3.params.toList args.toList ds p := hA0
  rw [Try.params3] at hA hval
  obtain ⟨v0, d0, rfl, rfl, h0⟩ := trodAll_one hA
  obtain ⟨rfl, rfl⟩ := trodVars_none hV
  clear hA0 hval0
  simp only [List.append_nil] at hW'
  have hlt := fun x hx => hW'.lt (p := x) hx
  obtain ⟨t, rfl, hr0⟩ := open_table (hval 0 _ v0 rfl rfl) h0
  refine (walk_PackBytes t W hr0).mono fun e W' ⟨he, hb⟩ => ?_
  subst he
  exact ⟨_, rfl, _, _, _, [], _, [], hW', trodAll_mk1 (shut_bool Try.underlying4 true), trodAll_mk1 (kept readableT rowT h0 hb fun x hx => hlt x hx), rfl, World.keptBut_mono (fun x hx => ⟨hx, .inr (.inl (by simpa using hx))⟩) (hb.frame (· ∈ _)), fun h => by cases h⟩
theorem holds_PackBytes : Rows.PackBytesSaid :=
  OpenClaim.holds_of_wide 3 Try.f3 rfl rfl rfl rfl rfl rfl rfl ⟨rfl, rfl, rfl, rfl, rfl⟩ rfl rfl rfl rfl rfl (by kernel_rfl) Try.func3 (by kernel_rfl)
    (of_decide_eq_true (by kernel_rfl)) (by unfold Func.isWrapper; first | (rw [if_pos (by decide +kernel)]; kernel_rfl) | (rw [if_neg (by decide +kernel)]; exact ⟨rfl, rfl⟩))
    (fun os started H enc _ => lifted_PackBytes os started H enc)
end Go.Proofs.Ytboaifdkoemnbaa.Pk
