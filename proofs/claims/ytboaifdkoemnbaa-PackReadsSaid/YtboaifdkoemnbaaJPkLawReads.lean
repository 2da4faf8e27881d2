/-
  PackReads holds for all bytes: the law answers true and they read afterwards as they read before. No condition.
-/
import Derived.Test.YtboaifdkoemnbaaRows
import Derived.Test.YtboaifdkoemnbaaJ23
import Derived.Test.YtboaifdkoemnbaaJ27
import Derived.ProofKit
import Derived.OpenShut
import Derived.Laws.BytesArg
import Derived.ChangeMaps
namespace Go.Proofs.Ytboaifdkoemnbaa.Pk
set_option maxRecDepth 100000
open Go Go.RowKit Go.Proofs.Ytboaifdkoemnbaa.Sp Go.Proofs.Ytboaifdkoemnbaa.Pa Go.Proofs.Ytboaifdkoemnbaa.Te Go.Proofs.Ytboaifdkoemnbaa.Mi Go.Proofs.Ytboaifdkoemnbaa.De Go.Proofs.Ytboaifdkoemnbaa.Wo Go.ChangeShapes Go.WideShapes Go.ChangeAt

def zeroTV : TV := ⟨⟨List.replicate 256 0, [], [], []⟩, none, 0, none, 0, none, 0⟩
theorem zero_cells : zeroTV.cells.toArray = Try.zeroCells27 := by kernel_rfl
theorem zero_mem (w : World) : TM w zeroTV := ⟨by simp [zeroTV], fun c hc => by
    have := List.eq_of_mem_replicate (show c ∈ List.replicate 256 0 from hc)
    omega, ⟨rfl, fun h => absurd h (by decide)⟩, ⟨rfl, fun h => absurd h (by decide)⟩, ⟨rfl, fun h => absurd h (by decide)⟩, Nat.le_refl _, Nat.le_refl _, Nat.le_refl _, Nat.zero_le _, Nat.zero_le _, Nat.zero_le _⟩
theorem RY_below {w w' : World} {A : Option Addr} {n : Nat} {l : List Int} (h : RY w w.heap.size A n l) (hb : Below w.heap.size w w') : RY w' w'.heap.size A n l :=
  ⟨h.1, fun hn => by
    obtain ⟨b, off, e, hlt, hc⟩ := h.2 hn
    exact ⟨b, off, e, by have := hb.size; omega, fun j hj => (hb.cell hlt).trans (hc j hj)⟩⟩
theorem bytes_len {T : TabL} (h : T.cls.length = 256) : T.bytes.length = 281 + 4 * T.restI.length := by
  unfold TabL.bytes TabL.body
  simp only [List.length_append, numsB_length, num4_length, h]
  show 5 + (4 * 4 + (256 + 4 * T.restI.length)) + 4 = _
  omega
set_option maxHeartbeats 8000000 in
theorem walk_PackReads (A : Option Addr) (c : Nat) (L : List Nat) (w : World) (h : RY w w.heap.size A L.length (byI L)) (hL : ∀ b ∈ L, b < 256) (hm : L.length ≤ maxLen) (hc : L.length ≤ c) :
    Calls Try.prog 4 #[.slice A L.length c] w (Sp.RetB true w) := by
  unfold maxLen at hm
  by_cases g1 : 262144 < L.length
  · have g2 : (262144 : Int) < (L.length : Int) := by omega
    have g3 : decide ((262144 : Int) < (L.length : Int)) = true := decide_eq_true g2
    clear h hL
    go_enter Try.func4, Try.ntmps4
    go_wp2_with (fail)
    refine (pawake18_any _).mono ?_
    rintro e w3 ⟨rfl, hb⟩
    have HB := Lib.hid hb
    clear hb
    go_wp2_with (fail)
    go_ret
    exact ⟨rfl, HB.out⟩
  have g2 : ¬ (262144 : Int) < (L.length : Int) := by omega
  have g3 : decide ((262144 : Int) < (L.length : Int)) = false := decide_eq_false g2
  have HC3 := Lib.hid (unpack_any A c L w h hL (by omega) hc)
  have HR := Lib.hid h
  clear h hL
  go_enter Try.func4, Try.ntmps4
  go_wp2_with (fail)
  refine HC3.out.mono ?_
  rintro e w3 ⟨hb3, h3⟩
  have HB3 := Lib.hid hb3
  obtain ⟨Y, hY⟩ : ∃ Y, w3.heap.size = Y := ⟨_, rfl⟩
  obtain ⟨w6, hw6⟩ : ∃ w6, w3.alloc (.cells Try.zeroCells27 27) = w6 := ⟨_, rfl⟩
  have hY6 : w6.heap[Y]? = some (.cells Try.zeroCells27 27 (0, 0)) := by rw [← hw6, ← hY]; exact heap_alloc_new w3 _
  have hb6 : Below w3.heap.size w3 w6 := by rw [← hw6]; exact (Below.refl _ _).alloc (Nat.le_refl _) _
  have HY6 := Lib.hid hY6
  rcases h3 with ⟨t2, hbt, hp2, hF2, rfl⟩ | ⟨hno, rfl⟩
  · obtain ⟨w7, hw7⟩ : ∃ w7, w6.setRow Y t2.cells.toArray = w7 := ⟨_, rfl⟩
    obtain ⟨hbx, hb7, hz7⟩ := tab_boxed (w7 := w7) (t := t2) hw6 (by rw [hY]; exact hw7)
    rw [hY] at hbx hz7
    have HT7 := Lib.hid (show TW w7 Y t2 from ⟨hbx, (hF2.keep (KeepQ.below hb7)).tm⟩)
    have HB7 := Lib.hid (hb3.trans (hb7.mono hb3.size))
    have HW7 := Lib.hid hw7
    have hln : t2.T.restI.length ≤ 1000000000 := by
      have := bytes_len hF2.cls
      rw [hbt] at this
      omega
    have HC8 := Lib.hid (rpack_any t2 w7 HT7.out.mem hln)
    have HP2 := Lib.hid hp2
    have HBT := Lib.hid hbt
    have hval : t2.val = .agg t2.cells.toArray := rfl
    rw [hval]
    clear hval hb3 hbt hp2 hF2 hbx hb7 hY6 hb6 hw7 hln
    go_upto_region 4 with (refine wpList_store_row rfl 27 _ _ rfl Y t2.cells.toArray rfl rfl _ _ HY6.out (tabSize' HT7.out.mem.cls) (by rw [tab_zsize, List.size_toArray, TV.length HT7.out.mem.cls]) oneCells ?_; rw [HW7.out])
    go_wp2_with (refine load_tab rfl _ rfl Y t2 HT7.out rfl ?_)
    refine HC8.out.mono ?_
    rintro e w8 ⟨hb8, h8⟩
    have HB8 := Lib.hid (HB7.out.trans (hb8.mono HB7.out.size))
    rcases h8 with ⟨_, A8, c8, rfl, hry8, hlc8⟩ | ⟨hno, _⟩
    case inr => rw [HP2.out] at hno; cases hno
    rw [HBT.out] at hry8
    obtain ⟨S, hS⟩ : ∃ S, strOfNums (byI L) = S := ⟨_, rfl⟩
    have hk1 := conv_by (c := c8) hry8
    have hk2 := conv_by (c := c) (RY_below HR.out HB8.out)
    rw [hS] at hk1 hk2
    rw [HBT.out]
    clear hb8 hry8 hlc8 hS
    go_wp2_with (fail)
    refine (pawake18_any _).mono ?_
    rintro e w9 ⟨rfl, hb9⟩
    have HB9 := Lib.hid (HB8.out.trans (hb9.mono HB8.out.size))
    clear hb9
    go_wp2_with (fail)
    go_ret
    exact ⟨rfl, HB9.out⟩
  · have HT6 := Lib.hid (show TW w6 Y zeroTV from ⟨by unfold TBox; rw [zero_cells]; exact hY6, zero_mem _⟩)
    have HB6 := Lib.hid (hb3.trans (hb6.mono hb3.size))
    have HSM := Lib.hid (same_eq zeroTV zeroTV w6 HT6.out.mem HT6.out.mem rfl)
    have HZ := Lib.hid zero_cells
    clear hb3 hno hY6 hb6
    go_upto_region 4 with (refine wpList_store_row rfl 27 _ _ rfl Y Try.zeroCells27 rfl rfl _ _ HY6.out tab_info rfl tab_one ?_; rw [setRow_self _ Y _ _ (0, 0) HY6.out])
    go_wp2_with (refine want_tab (by rfl) _ rfl Y zeroTV HT6.out rfl ?_)
    refine HSM.out.mono ?_
    rintro e w8 ⟨rfl, hb8⟩
    have HB8 := Lib.hid (HB6.out.trans (hb8.mono HB6.out.size))
    clear hb8
    go_wp2_with (fail)
    refine (pawake18_any _).mono ?_
    rintro e w9 ⟨rfl, hb9⟩
    have HB9 := Lib.hid (HB8.out.trans (hb9.mono HB8.out.size))
    clear hb9
    go_wp2_with (fail)
    go_ret
    exact ⟨rfl, HB9.out⟩
theorem lifted_PackReads (os : Os) (started : os.Started) (H : Type) (enc : TypeId × Value → H) :
    ReturnsInHanded {} Try.checked os 4 .any (Rows.packReadsSpec.pre6 enc Try.prog Try.f4 Rows.packReadsRow.domain false) (Rows.packReadsSpec.post enc Try.prog Try.f4 false true false false) := by
  refine returnsInHanded_of_change (C := Try.checked) own started (by kernel_rfl) Try.func4
    (ChangeSpec.witness6 (enc := enc) (C := Try.checked) false ⟨#[], #[.slice none 0 0], []⟩ 8 (by kernel_rfl) (by kernel_rfl) (by kernel_rfl) (by kernel_rfl)) ?_
  intro W base args ds gs before hval0 hW hcnd _
  have hval : ∀ (j : Nat) t v, Try.f4.params[j]? = some t → args[j]? = some v → Value.okWide Try.prog W .any base t v := hval0
  have hW' := hW
  obtain ⟨p, q, hA0, hV, rfl, hfz, hnd⟩ := hW
  have hA : DataW.TrodAll enc Try.prog W 0 (fun _ => true) true Try.f4.params.toList args.toList ds p := hA0
  rw [Try.params4] at hA hval
  obtain ⟨v0, d0, rfl, rfl, h0⟩ := trodAll_one hA
  obtain ⟨rfl, rfl⟩ := trodVars_none hV
  clear hA0 hval0
  simp only [List.append_nil] at hW'
  have hlt := fun x hx => hW'.lt (p := x) hx
  obtain ⟨A, c, l, rfl, hr0, hc0, hm0, hx0⟩ := open_bytes (hval 0 _ v0 rfl rfl) h0
  obtain ⟨L, rfl, hL, hll⟩ := nat_bytes hx0
  rw [byI_length] at *
  refine (walk_PackReads A c L W hr0 hL hm0 (by rw [hll]; exact hc0)).mono fun e W' ⟨he, hb⟩ => ?_
  subst he
  exact ⟨_, rfl, _, _, _, [], _, [], hW', trodAll_mk1 (shut_bool Try.underlying4 true), trodAll_mk1 (kept readableY rowY h0 hb fun x hx => hlt x hx), rfl, World.keptBut_mono (fun x hx => ⟨hx, .inr (.inl (by simpa using hx))⟩) (hb.frame (· ∈ _)), fun h => by cases h⟩

theorem holds_PackReads : Rows.PackReadsSaid :=
  OpenClaim.holds_of_wide 4 Try.f4 rfl rfl rfl rfl rfl rfl rfl ⟨rfl, rfl, rfl, rfl, rfl⟩ rfl rfl rfl rfl rfl (by kernel_rfl) Try.func4 (by kernel_rfl)
    (of_decide_eq_true (by kernel_rfl)) (by unfold Func.isWrapper; first | (rw [if_pos (by decide +kernel)]; kernel_rfl) | (rw [if_neg (by decide +kernel)]; exact ⟨rfl, rfl⟩))
    (fun os started H enc _ => lifted_PackReads os started H enc)
end Go.Proofs.Ytboaifdkoemnbaa.Pk
