/-
  PackSpoilt holds for all tables, numbers, bytes and rows of bytes: the law answers true and the arguments read afterwards as they read before. No condition.
-/
import Derived.Test.YtboaifdkoemnbaaRows
import Derived.Test.YtboaifdkoemnbaaJ7
import Derived.Test.YtboaifdkoemnbaaJ24
import Derived.Test.YtboaifdkoemnbaaJ27
import Derived.ProofKit
import Derived.OpenShut
import Derived.ChangeMaps
import Derived.Carry
namespace Go.Proofs.Ytboaifdkoemnbaa.Pk
set_option maxRecDepth 100000
open Go Go.RowKit Go.Proofs.Ytboaifdkoemnbaa.Sp Go.Proofs.Ytboaifdkoemnbaa.Pa Go.Proofs.Ytboaifdkoemnbaa.Te Go.Proofs.Ytboaifdkoemnbaa.Mi Go.Proofs.Ytboaifdkoemnbaa.De Go.Proofs.Ytboaifdkoemnbaa.Wo Go.ChangeShapes Go.WideShapes Go.ChangeAt

theorem xor8 (a b : Nat) (ha : a < 256) (hb : b < 256) : Go.bits .xor .u8 (a : Int) (b : Int) = ((a ^^^ b : Nat) : Int) := by
  have hx : a ^^^ b < 2 ^ 8 := Nat.xor_lt_two_pow (by omega) (by omega)
  have h1 : (BitVec.ofInt 8 (a : Int)).toNat = a := by
    rw [BitVec.ofInt_natCast, BitVec.toNat_ofNat]; exact Nat.mod_eq_of_lt (by omega)
  have h2 : (BitVec.ofInt 8 (b : Int)).toNat = b := by
    rw [BitVec.ofInt_natCast, BitVec.toNat_ofNat]; exact Nat.mod_eq_of_lt (by omega)
  show IntKind.u8.wrap ((BitVec.ofInt 8 (a : Int) ^^^ BitVec.ofInt 8 (b : Int)).toNat : Int) = _
  rw [BitVec.toNat_xor, h1, h2, IntKind.wrap_u8]
  omega
theorem place_in (a : Int) (n : Nat) (hn : 0 < n) : ∃ (U : Int) (K : Nat), Hid (IntKind.u64.wrap a = U) ∧ K < n ∧ Hid (U.tmod (n : Int) = (K : Int)) := by
  have h0 : 0 ≤ IntKind.u64.wrap a := by
    simp only [IntKind.wrap, IntKind.signed, IntKind.bits]
    simp
    omega
  have h1 := Int.emod_nonneg (IntKind.u64.wrap a) (show (n : Int) ≠ 0 by omega)
  have h2 := Int.emod_lt_of_pos (IntKind.u64.wrap a) (show 0 < (n : Int) by omega)
  refine ⟨_, ((IntKind.u64.wrap a) % (n : Int)).toNat, Lib.hid rfl, by omega, Lib.hid ?_⟩
  rw [Int.tmod_eq_emod_of_nonneg h0]
  omega
theorem u64_len (n : Nat) (h : n ≤ 100000000) : IntKind.u64.wrap (n : Int) = (n : Int) := by
  simp only [IntKind.wrap, IntKind.signed, IntKind.bits]
  simp
  omega
theorem RY_take {w : World} {B : Nat} {A : Option Addr} {L : List Nat} {k : Nat} (h : RY w B A L.length (byI L)) (hk : k ≤ L.length) : RY w B A (L.take k).length (byI (L.take k)) := by
  refine ⟨byI_length _, fun hn => ?_⟩
  rw [List.length_take] at hn
  obtain ⟨b, off, e, hb, hc⟩ := h.2 (by omega)
  refine ⟨b, off, e, hb, fun j hj => ?_⟩
  rw [byI_length, List.length_take] at hj
  have hj2 : j < (byI L).length := by rw [byI_length]; omega
  rw [hc j hj2]
  simp only [byI, List.getElem_map, List.getElem_take]
/-- Cut off, a table's bytes are no table's. -/
theorem cut_no {T : TabL} (hc : T.cls.length = 256) (hp : packB T = true) {k : Nat} (hk : k < T.bytes.length) : NoTab (T.bytes.take k) := fun U hu hup e => by
  have h : U.bytes ++ T.bytes.drop k = T.bytes := by rw [e]; exact List.take_append_drop k _
  have := (TabL.bytes_pre (packB_fit hu hup) (packB_fit hc hp) h).2
  have h2 := congrArg List.length this
  rw [List.length_drop] at h2
  simp at h2
  omega
theorem xor_zero_of {a x : Nat} (h : a = a ^^^ x) : x = 0 := by
  have := congrArg (fun z => a ^^^ z) h
  simp only [← Nat.xor_assoc, Nat.xor_self, Nat.zero_xor] at this
  exact this.symm
/-- With one byte another one they are no table's. -/
theorem one_no {T : TabL} (hb : ∀ b ∈ T.bytes, b < 256) {k x : Nat} (hk : k < T.bytes.length) (hx : x < 256) (h0 : x ≠ 0) : NoTab (T.bytes.set k (T.bytes[k] ^^^ x)) := fun U hu hup e => by
  have hlt : T.bytes[k] < 256 := hb _ (List.getElem_mem hk)
  have e1 : T.bytes = T.bytes.take k ++ T.bytes[k] :: T.bytes.drop (k + 1) := by
    rw [← List.drop_eq_getElem_cons hk, List.take_append_drop]
  have e2 : T.bytes.set k (T.bytes[k] ^^^ x) = T.bytes.take k ++ (T.bytes[k] ^^^ x) :: T.bytes.drop (k + 1) := by
    rw [List.set_eq_take_append_cons_drop, if_pos hk]
  have c1 := TabL.checks T
  have c2 := TabL.checks U
  rw [e, e2] at c2
  rw [e1] at c1
  have hlist : ∀ (l r : List Nat) (p q : Nat), (∀ z ∈ r, z < 256) → p < 256 → q < 256 → Checks (l ++ p :: r) → Checks (l ++ q :: r) → p = q := fun l r p q h1 h2 h3 h4 h5 => checks_one h1 h2 h3 h4 h5
  exact h0 (xor_zero_of (hlist _ _ _ _ (fun z hz => hb z (List.mem_of_mem_drop hz)) hlt (Nat.xor_lt_two_pow (n := 8) hlt hx) c1 c2))
set_option maxHeartbeats 16000000 in
theorem walk_PackSpoilt (t : TV) (at_ : Int) (x : Nat) (B : Option Addr) (d : Nat) (M : List Nat) (w : World) (h : TM w t) (hx : x < 256) (hM : RY w w.heap.size B M.length (byI M)) (hMb : ∀ b ∈ M, b < 256) (hMm : M.length ≤ maxLen) :
    Calls Try.prog 6 #[t.val, .int .i64 at_, .int .u8 (x : Int), .slice B M.length d] w (Sp.RetB true w) := by
  unfold maxLen at hMm
  obtain ⟨H, hH⟩ : ∃ H, w.heap.size = H := ⟨_, rfl⟩
  obtain ⟨w1, hw1⟩ : ∃ w1, w.alloc (.cells t.cells.toArray 27) = w1 := ⟨_, rfl⟩
  have hT : TW w1 H t := by rw [← hw1, ← hH]; exact TW.boxed h
  have hs1 : w1.heap.size = H + 1 := by rw [← hw1, ← hH]; simp
  have hb1 : Below w.heap.size w w1 := by rw [← hw1]; exact (Below.refl _ _).alloc (Nat.le_refl _) _
  have HT1 := Lib.hid hT
  have HTW := Lib.hid (fun W (hW : Below w1.heap.size w1 W) => show TW W H t from hT.below hW)
  have HW1 := Lib.hid (fun W (hW : Below w1.heap.size w1 W) => show Below w.heap.size w W from hb1.trans (hW.mono (by rw [hH, hs1]; omega)))
  have HMY := Lib.hid (fun W (hW : Below w1.heap.size w1 W) => show RY W W.heap.size B M.length (byI M) from (hM.belowM hb1).belowM hW)
  have hval : t.val = .agg t.cells.toArray := rfl
  have HSM := Lib.hid (small17_any t w1 hT.mem)
  have HCL := Lib.hid h.cls
  have HBY := Lib.hid h.byte
  have HMB := Lib.hid hMb
  rw [hval] at HSM ⊢
  clear h hT hb1 hs1 hM hMb
  go_enter Try.func6, Try.ntmps6
  go_wp2_with (refine load_tab rfl _ rfl H t HT1.out rfl ?_)
  refine HSM.out.mono ?_
  rintro e w2 ⟨b, rfl, hbn, hb2⟩
  have HB2 := Lib.hid hb2
  have HT2 := Lib.hid (HTW.out w2 hb2)
  have HBN := Lib.hid hbn
  clear hb2 hbn
  cases b
  case false =>
    go_wp2_with (fail)
    refine (pawake18_any _).mono ?_
    rintro e w9 ⟨rfl, hb9⟩
    have HB9 := Lib.hid (HW1.out w9 (HB2.out.trans (hb9.mono HB2.out.size)))
    clear hb9
    go_wp2_with (fail)
    go_ret
    exact ⟨rfl, HB9.out⟩
  by_cases hM1 : M.length ≤ 1000
  case neg =>
    have d1 : decide ((1000 : Int) < (M.length : Int)) = true := decide_eq_true (by omega)
    go_wp2_with (fail)
    refine (pawake18_any _).mono ?_
    rintro e w9 ⟨rfl, hb9⟩
    have HB9 := Lib.hid (HW1.out w9 (HB2.out.trans (hb9.mono HB2.out.size)))
    clear hb9
    go_wp2_with (fail)
    go_ret
    exact ⟨rfl, HB9.out⟩
  have d1 : decide ((1000 : Int) < (M.length : Int)) = false := decide_eq_false (by omega)
  have HLN := Lib.hid (show t.T.restI.length ≤ 1000000 from HBN.out rfl)
  have HP := Lib.hid (pack_any t w2 HT2.out.mem (by have := HLN.out; omega))
  rw [hval] at HP
  clear hval
  go_wp2_with (refine load_tab rfl _ rfl H t HT2.out rfl ?_)
  refine HP.out.mono ?_
  rintro e w3 ⟨hb3, h3⟩
  have HB3 := Lib.hid (HB2.out.trans (hb3.mono HB2.out.size))
  clear hb3
  rcases h3 with ⟨hp, A, c, rfl, hry, hlc⟩ | ⟨hp, rfl⟩
  case inr =>
    clear hp
    go_wp2_with (fail)
    refine (pawake18_any _).mono ?_
    rintro e w9 ⟨rfl, hb9⟩
    have HB9 := Lib.hid (HW1.out w9 (HB3.out.trans (hb9.mono HB3.out.size)))
    clear hb9
    go_wp2_with (fail)
    go_ret
    exact ⟨rfl, HB9.out⟩
  have HPK := Lib.hid hp
  have hbl := bytes_len2 HCL.out
  have hl1 : t.T.bytes.length ≤ 10000000 := by have := HLN.out; omega
  have hl0 : 0 < t.T.bytes.length := by omega
  have HLT := Lib.hid (bytes_lt (T := t.T) HBY.out)
  obtain ⟨U, K, hU, hK, hUK⟩ := place_in at_ t.T.bytes.length hl0
  have HCUT := Lib.hid (cut_no HCL.out hp hK)
  have HONE := Lib.hid (fun hx0 => one_no HLT.out hK hx hx0)
  obtain ⟨L, hLL⟩ : ∃ L, t.T.bytes = L := ⟨_, rfl⟩
  simp only [hLL] at hry hlc hK hl1 hl0 HLT hUK HCUT HONE
  have HTB := Lib.hid hLL
  obtain ⟨y, hy⟩ : ∃ y, L[K] = y := ⟨_, rfl⟩
  rw [hy] at HONE
  have hyl : y < 256 := by rw [← hy]; exact HLT.out _ (List.getElem_mem hK)
  have hkl : (L.take K).length = K := by rw [List.length_take]; omega
  have HCC := Lib.hid (unpack_any A c (L.take K) w3 (RY_take hry (by omega)) (fun b hb => HLT.out b (List.mem_of_mem_take hb)) (by omega) (by omega))
  rw [hkl] at HCC
  have HRY := Lib.hid hry
  have HYK := Lib.hid hy
  have HKK := Lib.hid hK
  have HKL := Lib.hid hkl
  have h0 : IntKind.u64.wrap at_ = U := hU.out
  have h1 : IntKind.u64.wrap (L.length : Int) = (L.length : Int) := u64_len _ (by omega)
  have h2 : U.tmod (L.length : Int) = (K : Int) := hUK.out
  have h3 : IntKind.i64.wrap (K : Int) = (K : Int) := IntWalk.i64_in _ (by omega)
  have i1 : (0 : Int) ≤ (K : Int) := Int.natCast_nonneg _
  have i2 : (K : Int) < (L.length : Int) := by omega
  have i3 : (K : Int) ≤ (c : Int) := by omega
  have i4 : ((L.length : Int) == 0) = false := beq_eq_false_iff_ne.2 (by omega)
  have i5 : ¬ ((L.length : Int) = 0) := by omega
  have i6 : K ≤ c := by omega
  clear hp hry hlc hbl hLL hy hkl
  rw [HTB.out]
  go_wp2_with (fail)
  refine HCC.out.mono ?_
  rintro e w4 ⟨hb4, h4⟩
  rcases h4 with ⟨tU, hbt, hp2, hF2, rfl⟩ | ⟨_, rfl⟩
  case inl => exact absurd hbt (HCUT.out tU.T hF2.cls hp2)
  have HB4 := Lib.hid (HB3.out.trans (hb4.mono HB3.out.size))
  have HRY4 := Lib.hid (HRY.out.belowM hb4)
  obtain ⟨Y, hY⟩ : ∃ Y, w4.heap.size = Y := ⟨_, rfl⟩
  obtain ⟨w6, hw6⟩ : ∃ w6, w4.alloc (.cells Try.zeroCells27 27) = w6 := ⟨_, rfl⟩
  have hY6 : w6.heap[Y]? = some (.cells Try.zeroCells27 27 (0, 0)) := by rw [← hw6, ← hY]; exact heap_alloc_new w4 _
  have hb6 : Below w4.heap.size w4 w6 := by rw [← hw6]; exact (Below.refl _ _).alloc (Nat.le_refl _) _
  have HY6 := Lib.hid hY6
  have HB6 := Lib.hid (HB4.out.trans (hb6.mono HB4.out.size))
  have HRY6 := Lib.hid (HRY4.out.belowM hb6)
  clear h0 h1 h2 h3 hb4 hY6 hb6
  go_upto_region 10 with (refine wpList_store_row rfl 27 _ _ rfl Y Try.zeroCells27 rfl rfl _ _ HY6.out tab_info rfl tab_one ?_; rw [setRow_self _ Y _ _ (0, 0) HY6.out])
  have HWY := Lib.hid hw6
  have HYY := Lib.hid hY
  clear hw6 hY
  obtain ⟨w7, hw7⟩ : ∃ w7, w6.alloc (.cells #[] 5) = w7 := ⟨_, rfl⟩
  have hb7 : Below w6.heap.size w6 w7 := by rw [← hw7]; exact (Below.refl _ _).alloc (Nat.le_refl _) _
  have HR7 := Lib.hid (show RowW w6.heap.size (.slice (some ⟨w6.heap.size, 0, none⟩) 0 0) [] w7 from by rw [← hw7]; exact row_empty w6)
  have HX7 := Lib.hid hb7
  have HRY7 := Lib.hid (HRY6.out.belowM hb7)
  have HZ7 := Lib.hid hb7.size
  have HL0 := Lib.hid hl0
  obtain ⟨z, hz⟩ : ∃ z, y ^^^ x = z := ⟨_, rfl⟩
  have hx8 : Go.bits .xor .u8 (y : Int) (x : Int) = (z : Int) := by rw [xor8 y x hyl hx, hz]
  rw [hz] at HONE
  have hzl : z < 256 := by rw [← hz]; exact Nat.xor_lt_two_pow (n := 8) hyl hx
  have HZX := Lib.hid hz
  have HEX := Lib.hid (fun (v8 : Value) (w8 : World) (h : w8.ownsRow w6.heap.size 5 1 v8 (([] : List Nat).length + L.length) (byV [] ++ byV L)) => show ∃ g cap, v8 = .slice (some ⟨g, 0, none⟩) L.length cap ∧ w8.ownsRow w6.heap.size 5 1 (.slice (some ⟨g, 0, none⟩) L.length cap) L.length (byV L) from by
    have e : ([] : List Nat).length + L.length = L.length := Nat.zero_add _
    rw [e] at h
    obtain ⟨g, cap, rfl, _⟩ := World.ownsRow.form h hl0
    exact ⟨g, cap, rfl, h⟩)
  have HKY := Lib.hid (show (byV L)[K]? = some (.int .u8 (y : Int)) from by
    unfold byV byI
    rw [List.getElem?_map, List.getElem?_map, List.getElem?_eq_getElem hK, HYK.out]
    rfl)
  have HBX := Lib.hid (show ∀ b ∈ L.set K z, b < 256 from fun b hb => by
    rcases List.mem_or_eq_of_mem_set hb with q | rfl
    · exact HLT.out b q
    · exact hzl)
  clear hb7 hz
  go_upto_region 11 with (at_builtin; refine wpList_append_R (L := []) rfl _ _ rfl rfl HR7.out rfl HRY7.out HL0.out (by simp only [List.length_nil]; omega) HZ7.out ?_; intro v8 w8 ho8 hg8 hn8; obtain ⟨g, cap, hv8, hq8⟩ := HEX.out v8 w8 ho8; subst hv8; have HO8 := Lib.hid hq8; have HB8 := Lib.hid (HX7.out.trans (grown_low HR7.out HZ7.out hg8)); clear hq8 ho8 hg8 hn8)
  have hcy := (World.ownsRow.cellAt HO8.out K (by rw [Nat.mul_one]; exact HKK.out)).trans HKY.out
  have hfz := World.ownsRow.frozenAt HO8.out K
  obtain ⟨w9, hw9⟩ : ∃ w9, w8.setCell ⟨g, K, none⟩ (.int .u8 (z : Int)) = w9 := ⟨_, rfl⟩
  have HW9 := Lib.hid hw9
  have HW7 := Lib.hid hw7
  clear hw7
  go_upto_region 12 with (fail)
  clear hcy hfz hw9
  obtain ⟨hst, hgr⟩ := World.ownsRow.stored HO8.out K (.int .u8 (z : Int))
  rw [HW9.out] at hst hgr
  have hgb : w6.heap.size ≤ g := (World.ownsRow.lt HO8.out g rfl).1
  have hb9 : Below w6.heap.size w6 w9 := HB8.out.trans ⟨hgr.os, hgr.tape, hgr.output, hgr.size, fun b hb => hgr.block b (by have := HB8.out.size; omega) (fun e => by injection e with e; omega)⟩
  have HB9 := Lib.hid (HB6.out.trans (hb9.mono HB6.out.size))
  have HRY9 := Lib.hid (HRY6.out.belowM hb9)
  have hrow9 : RowW w6.heap.size (.slice (some ⟨g, 0, none⟩) L.length cap) (L.set K z) w9 := .inl (by
    have e : (byV L).set K (.int .u8 (z : Int)) = byV (L.set K z) := by
      unfold byV byI
      rw [List.map_set, List.map_set]
    rw [e] at hst
    rw [List.length_set]
    exact hst)
  obtain ⟨A4, c4, he, hry9, hlc9⟩ := hrow9.read
  rw [List.length_set] at he
  injection he with eA _ eC
  subst eA eC
  have hcc := unpack_any (some ⟨g, 0, none⟩) cap (L.set K z) w9 hry9 HBX.out (by rw [List.length_set]; omega) hlc9
  rw [List.length_set] at hcc
  have HCX := Lib.hid hcc
  clear hst hgr hb9 hrow9 hry9 hlc9 hcc hgb hx8
  go_wp2_with (fail)
  refine HCX.out.mono ?_
  rintro e wa ⟨hba, ha⟩
  have HBA := Lib.hid (HB9.out.trans (hba.mono HB9.out.size))
  have HRYA := Lib.hid (HRY9.out.belowM hba)
  obtain ⟨X, hX⟩ : ∃ X, wa.heap.size = X := ⟨_, rfl⟩
  obtain ⟨wb, hwb⟩ : ∃ wb, wa.alloc (.cells Try.zeroCells27 27) = wb := ⟨_, rfl⟩
  have hXb : wb.heap[X]? = some (.cells Try.zeroCells27 27 (0, 0)) := by rw [← hwb, ← hX]; exact heap_alloc_new wa _
  have hbb : Below wa.heap.size wa wb := by rw [← hwb]; exact (Below.refl _ _).alloc (Nat.le_refl _) _
  have HXB := Lib.hid hXb
  by_cases hx0 : x = 0
  · have hset : L.set K z = L := by
      have : z = y := by rw [← HZX.out, hx0, Nat.xor_zero]
      rw [this]
      refine List.ext_getElem? fun i => ?_
      rw [List.getElem?_set]
      split
      · next e => subst e; rw [List.getElem?_eq_getElem hK, HYK.out]; try simp [hK]
      · rfl
    rw [hset] at ha
    rcases ha with ⟨t3, hbt, hp3, hF3, rfl⟩ | ⟨hno, _⟩
    case inr => exact absurd HTB.out (hno t.T HCL.out HPK.out)
    obtain ⟨wc, hwc⟩ : ∃ wc, wb.setRow X t3.cells.toArray = wc := ⟨_, rfl⟩
    obtain ⟨hbx, hbc, hzc⟩ := tab_boxed (w7 := wc) (t := t3) hwb (by rw [hX]; exact hwc)
    rw [hX] at hbx hzc
    have HWC := Lib.hid hwc
    have HCL3 := Lib.hid hF3.cls
    have HBC := Lib.hid (HBA.out.trans (hbc.mono HBA.out.size))
    have HRYC := Lib.hid (HRYA.out.belowM hbc)
    have hval3 : t3.val = .agg t3.cells.toArray := rfl
    rw [hval3]
    clear hset hbt hp3 hF3 hbx hbc hzc hval3 hXb hbb hba hwc
    subst hx0
    go_upto_region 13 with (refine wpList_store_row rfl 27 _ _ rfl X t3.cells.toArray rfl rfl _ _ HXB.out (tabSize' HCL3.out) (by rw [tab_zsize, List.size_toArray, TV.length HCL3.out]) oneCells ?_; rw [HWC.out])
    have HWB := Lib.hid hwb
    have HXX := Lib.hid hX
    clear hwb hX
    by_cases hm0 : M.length = 0
    · have hm1 : ((M.length : Int) == 0) = true := beq_iff_eq.2 (by omega)
      have HMM := Lib.hid hm0
      clear hm0
      go_wp2_with (fail)
      refine (pawake18_any _).mono ?_
      rintro e wz ⟨rfl, hbz⟩
      have HBZ := Lib.hid (HW1.out wz (HBC.out.trans (hbz.mono HBC.out.size)))
      clear hbz
      go_wp2_with (fail)
      go_ret
      exact ⟨rfl, HBZ.out⟩
    · have hm1 : ((M.length : Int) == 0) = false := beq_eq_false_iff_ne.2 (by omega)
      have HBE := Lib.hid (behind_any A c L B d M wc HRYC.out HLT.out HL0.out (by omega) (HMY.out wc HBC.out) HMB.out (by omega) hM1)
      clear hm0
      go_wp2_with (fail)
      refine HBE.out.mono ?_
      rintro e wy ⟨rfl, hby⟩
      have HBY2 := Lib.hid (HBC.out.trans (hby.mono HBC.out.size))
      clear hby
      go_wp2_with (fail)
      refine (pawake18_any _).mono ?_
      rintro e wz ⟨rfl, hbz⟩
      have HBZ := Lib.hid (HW1.out wz (HBY2.out.trans (hbz.mono HBY2.out.size)))
      clear hbz
      go_wp2_with (fail)
      go_ret
      exact ⟨rfl, HBZ.out⟩
  · rcases ha with ⟨t3, hbt, hp3, hF3, rfl⟩ | ⟨_, rfl⟩
    case inl => exact absurd hbt (HONE.out hx0 t3.T hF3.cls hp3)
    have HBC := Lib.hid (HBA.out.trans (hbb.mono HBA.out.size))
    have HRYC := Lib.hid (HRYA.out.belowM hbb)
    have hxn : ((x : Int) != 0) = true := by simp; omega
    clear hXb hbb hba
    go_upto_region 13 with (refine wpList_store_row rfl 27 _ _ rfl X Try.zeroCells27 rfl rfl _ _ HXB.out tab_info rfl tab_one ?_; rw [setRow_self _ X _ _ (0, 0) HXB.out])
    have HWB := Lib.hid hwb
    have HXX := Lib.hid hX
    clear hwb hX
    by_cases hm0 : M.length = 0
    · have hm1 : ((M.length : Int) == 0) = true := beq_iff_eq.2 (by omega)
      have HMM := Lib.hid hm0
      clear hm0
      go_wp2_with (fail)
      refine (pawake18_any _).mono ?_
      rintro e wz ⟨rfl, hbz⟩
      have HBZ := Lib.hid (HW1.out wz (HBC.out.trans (hbz.mono HBC.out.size)))
      clear hbz
      go_wp2_with (fail)
      go_ret
      exact ⟨rfl, HBZ.out⟩
    · have hm1 : ((M.length : Int) == 0) = false := beq_eq_false_iff_ne.2 (by omega)
      have HBE := Lib.hid (behind_any A c L B d M wb HRYC.out HLT.out HL0.out (by omega) (HMY.out wb HBC.out) HMB.out (by omega) hM1)
      clear hm0
      go_wp2_with (fail)
      refine HBE.out.mono ?_
      rintro e wy ⟨rfl, hby⟩
      have HBY2 := Lib.hid (HBC.out.trans (hby.mono HBC.out.size))
      clear hby
      go_wp2_with (fail)
      refine (pawake18_any _).mono ?_
      rintro e wz ⟨rfl, hbz⟩
      have HBZ := Lib.hid (HW1.out wz (HBY2.out.trans (hbz.mono HBY2.out.size)))
      clear hbz
      go_wp2_with (fail)
      go_ret
      exact ⟨rfl, HBZ.out⟩
theorem lifted_PackSpoilt (os : Os) (started : os.Started) (H : Type) (enc : TypeId × Value → H) :
    ReturnsInHanded {} Try.checked os 6 .any (Rows.packSpoiltSpec.pre6 enc Try.prog Try.f6 Rows.packSpoiltRow.domain false) (Rows.packSpoiltSpec.post enc Try.prog Try.f6 false true false false) := by
  refine returnsInHanded_of_change (C := Try.checked) own started (by kernel_rfl) Try.func6
    (ChangeSpec.witness6 (enc := enc) (C := Try.checked) false ⟨#[], #[.agg Try.zeroCells27, .int .i64 0, .int .u8 0, .slice none 0 0], []⟩ 8 (by kernel_rfl) (by kernel_rfl) (by kernel_rfl) (by kernel_rfl)) ?_
  intro W base args ds gs before hval0 hW hcnd _
  have hval : ∀ (j : Nat) t v, Try.f6.params[j]? = some t → args[j]? = some v → Value.okWide Try.prog W .any base t v := hval0
  have hW' := hW
  obtain ⟨p, q, hA0, hV, rfl, hfz, hnd⟩ := hW
  have hA : DataW.TrodAll enc Try.prog W 0 (fun _ => true) true Try.f6.params.toList args.toList ds p := hA0
  rw [Try.params6] at hA hval
  obtain ⟨v0, v1, v2, v3, d0, d1, d2, d3, p0, p1, p2, p3, rfl, rfl, rfl, h0, h1, h2, h3⟩ := trodAll_four hA
  obtain ⟨rfl, rfl⟩ := trodVars_none hV
  clear hA0 hval0
  simp only [List.append_nil] at hW'
  have hlt := fun x hx => hW'.lt (p := x) hx
  obtain ⟨t, rfl, hr0⟩ := open_table (hval 0 _ v0 rfl rfl) h0
  obtain ⟨at_, rfl, rfl, rfl, hw1⟩ := open_int Try.underlying3 (hval 1 _ v1 rfl rfl) h1
  obtain ⟨x, rfl, rfl, rfl, hw2⟩ := open_int Try.underlying5 (hval 2 _ v2 rfl rfl) h2
  have hbx : 0 ≤ x ∧ x ≤ 255 := by simpa [Lit.wf, IntKind.min, IntKind.max, IntKind.signed, IntKind.bits] using hw2
  obtain ⟨A, c, l, rfl, hr3, hc3, hm3, hx3⟩ := open_bytes (hval 3 _ v3 rfl rfl) h3
  obtain ⟨L, rfl, hL, hll⟩ := nat_bytes hx3
  obtain ⟨X, rfl⟩ := Int.eq_ofNat_of_zero_le hbx.1
  rw [byI_length] at *
  refine (walk_PackSpoilt t at_ X A c L W hr0 (by omega) hr3 hL hm3).mono fun e W' ⟨he, hb⟩ => ?_
  subst he
  exact ⟨_, rfl, _, _, _, [], _, [], hW', trodAll_mk1 (shut_bool Try.underlying4 true), trodAll_mk4 (kept readableT rowT h0 hb fun x hx => hlt x (by simp [hx])) (shut_int Try.underlying3 hw1) (shut_int Try.underlying5 hw2) (kept readableY rowY h3 hb fun x hx => hlt x (by simp [hx])), rfl, World.keptBut_mono (fun x hx => ⟨hx, .inr (.inl (by simpa using hx))⟩) (hb.frame (· ∈ _)), fun h => by cases h⟩
theorem holds_PackSpoilt : Rows.PackSpoiltSaid :=
  OpenClaim.holds_of_wide 6 Try.f6 rfl rfl rfl rfl rfl rfl rfl ⟨rfl, rfl, rfl, rfl, rfl⟩ rfl rfl rfl rfl rfl (by kernel_rfl) Try.func6 (by kernel_rfl)
    (of_decide_eq_true (by kernel_rfl)) (by unfold Func.isWrapper; first | (rw [if_pos (by decide +kernel)]; kernel_rfl) | (rw [if_neg (by decide +kernel)]; exact ⟨rfl, rfl⟩))
    (fun os started H enc _ => lifted_PackSpoilt os started H enc)
end Go.Proofs.Ytboaifdkoemnbaa.Pk
