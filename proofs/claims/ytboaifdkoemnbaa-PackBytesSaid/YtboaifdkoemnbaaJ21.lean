/- The walk of the reference's Same: of two equal tables. -/
import Derived.Test.YtboaifdkoemnbaaJ7
import Derived.Test.YtboaifdkoemnbaaJ14
import Derived.Test.YtboaifdkoemnbaaJ20
import Derived.ChangeKeysEq
import Derived.Deep.RegionHeld3
import Derived.Deep.RegionLaw
import Derived.Deep.DeepCutAuto
import Derived.Tactics2
namespace Go.Proofs.Ytboaifdkoemnbaa.Pk
set_option maxRecDepth 100000
set_option linter.unusedSimpArgs false
open Go Go.RowKit Go.Proofs.Ytboaifdkoemnbaa.Sp Go.Proofs.Ytboaifdkoemnbaa.Pa Go.Proofs.Ytboaifdkoemnbaa.Te Go.Proofs.Ytboaifdkoemnbaa.Mi Go.Proofs.Ytboaifdkoemnbaa.De

theorem below_setRow {w w' : World} {y : Nat} (h : Below w.heap.size w w') (hy : w.heap.size ≤ y) (cs : Array Value) : Below w.heap.size w (w'.setRow y cs) :=
  ⟨h.os, h.tape, h.output, by have := h.size; simpa using this, fun b hb => (setRow_other w' y b cs (by omega)).trans (h.block b hb)⟩
/-- Equal arrays of bytes are the same. -/
theorem eq_cls (w : World) (L : List Nat) (hL : L.length = 256) : (Op.equalIn 10000 22 (.agg (clsV L).toArray) (.agg (clsV L).toArray)).run Try.prog w = .ok true w := by
  obtain ⟨i, hi⟩ : ∃ i, Try.prog.info? 5 = some i := Option.isSome_iff_exists.1 (by kernel_rfl)
  have hp : Try.prog.plainKey 5 = true := by kernel_rfl
  have key : ∀ is : List Nat, (∀ i ∈ is, i < 256) → (Op.eqItems 9999 5 1 (clsV L).toArray (clsV L).toArray is).run Try.prog w = .ok true w := by
    intro is
    induction is with
    | nil => intro _; simp [Op.eqItems]
    | cons i is ih =>
      intro h
      have hi := h i List.mem_cons_self
      have hx : (clsV L).toArray[i * 1]? = some (.int .u8 ((L[i]'(by omega) : Nat) : Int)) := by
        unfold clsV
        rw [Nat.mul_one, List.getElem?_toArray, List.getElem?_map, List.getElem?_eq_getElem (by omega)]
        rfl
      have e := run_equalIn_int (P := Try.prog) (w := w) 9998 5 .u8 .u8 ((L[i]'(by omega) : Nat) : Int) ((L[i]'(by omega) : Nat) : Int) Try.underlying5
      simp only [Op.eqItems, Sem.run_bind, run_part_plain (w := w) hp hx, Result.andThen_ok, e, beq_self_eq_true, Bool.not_true, Bool.false_eq_true, if_false]
      exact ih fun j hj => h j (List.mem_cons_of_mem _ hj)
  have := run_equalIn_array (P := Try.prog) w 9999 (clsV L).toArray (clsV L).toArray clsUnder hi
  rw [show Try.prog.cellsOf 5 = 1 from by kernel_rfl] at this
  exact this.trans (key _ fun i hi => List.mem_range.1 hi)
set_option maxHeartbeats 8000000 in
theorem same_eq (ta tb : TV) (w : World) (ha : TM w ta) (hb : TM w tb) (e : ta.T = tb.T) : Calls Try.prog 12 #[ta.val, tb.val] w (RetB true w) := by
  have hca := ha.cls
  obtain ⟨H, hH⟩ : ∃ H, w.heap.size = H := ⟨_, rfl⟩
  obtain ⟨w1, hw1⟩ : ∃ w1, w.alloc (.cells ta.cells.toArray 27) = w1 := ⟨_, rfl⟩
  have hb1 : Below w.heap.size w w1 := by rw [← hw1]; exact (Below.refl _ _).alloc (Nat.le_refl _) _
  have hs1 : w1.heap.size = H + 1 := by rw [← hw1, ← hH]; simp
  obtain ⟨w2, hw2⟩ : ∃ w2, w1.alloc (.cells tb.cells.toArray 27) = w2 := ⟨_, rfl⟩
  have hb2 : Below w1.heap.size w1 w2 := by rw [← hw2]; exact (Below.refl _ _).alloc (Nat.le_refl _) _
  have hT1 : TW w1 H ta := by rw [← hw1, ← hH]; exact TW.boxed ha
  have hTb : TW w2 (H + 1) tb := by rw [← hw2, ← hs1]; exact TW.boxed (hb.belowM hb1)
  have hTa := hT1.below hb2
  have cA := hTa.cA
  have cB := hTa.cB
  have cC := hTa.cC
  have dA := hTb.cA
  have dB := hTb.cB
  have dC := hTb.cC
  rw [← e] at dA dB dC
  have HA := Lib.hid hTa
  have HB := Lib.hid hTb
  have HCA := Lib.hid hca
  have HE := Lib.hid e
  have HRB := Lib.hid (show w2.rangeAt (H + 1) 0 (clsV ta.T.cls) from by rw [e]; exact clsRange hTb)
  have HRA := Lib.hid (clsRange hTa)
  have HL := Lib.hid (show Below w.heap.size w w2 from hb1.trans (hb2.mono (by omega)))
  have hva : ta.val = .agg ta.cells.toArray := rfl
  have hvb : tb.val = .agg tb.cells.toArray := rfl
  rw [hva, hvb]
  clear hva hvb ha hb hb1 hb2 hT1 hTb hTa e hca
  have heq := eq_cls w2 ta.T.cls HCA.out
  go_enter Try.func12, Try.ntmps12
  go_wp2_with (first | (refine wpList_load_mid rfl 22 _ rfl H 0 rfl _ _ HRA.out clsUnder rfl (clsLen HCA.out) ?_) | (refine wpList_load_mid rfl 22 _ rfl (H + 1) 0 rfl _ _ HRB.out clsUnder rfl (clsLen HCA.out) ?_))
  have hzA := HA.out.box.lt
  have hzB := HB.out.box.lt
  have hla := HA.out.mem.la
  have hlb := HA.out.mem.lb
  have hlc := HA.out.mem.lc
  unfold maxLen at hla hlb hlc
  clear cA cB cC dA dB dC
  go_loopw [5] (fun iv wr => ∃ k : Nat, k ≤ ta.T.nodes.length ∧ iv = .int .i64 k ∧ Below w2.heap.size w2 wr) (fun i _ => ta.T.nodes.length - (intOf i).toNat)
  case atStart => exact ⟨0, Nat.zero_le _, rfl, Below.refl _ _⟩
  case round =>
    obtain ⟨k, hk, rfl, hbr⟩ := hrel
    have hzr := hbr.size
    have hAr := HA.out.below hbr
    have hBt := HB.out.below hbr
    have p5 := hAr.cA
    have y5 := hBt.cA
    rw [← HE.out] at y5
    by_cases hlt : k < ta.T.nodes.length
    · have hnB : RNd wr tb.A ta.T.nodes.length ta.T.nodes := by rw [HE.out]; exact hBt.mem.nodes
      obtain ⟨b1, off1, hA1, hbB1, d0, d2, A1, c1, d1, hri1, hcc1, hml1⟩ := hAr.mem.nodes.at_ hlt
      obtain ⟨b2, off2, hA2, hbB2, e0, e2, A2, c2, e1, hri2, hcc2, hml2⟩ := hnB.at_ hlt
      rw [hA1] at p5
      rw [hA2] at y5
      obtain ⟨na, hna⟩ : ∃ na, ta.T.nodes[k].1 = na := ⟨_, rfl⟩
      obtain ⟨nb, hnb⟩ : ∃ nb, ta.T.nodes[k].2.1 = nb := ⟨_, rfl⟩
      obtain ⟨nx, hnx⟩ : ∃ nx, ta.T.nodes[k].2.2 = nx := ⟨_, rfl⟩
      rw [hna] at d0 e0
      rw [hnb] at d2 e2
      rw [hnx] at d1 e1 hri1 hri2 hml1
      have HR1 := Lib.hid hri1
      have HR2 := Lib.hid hri2
      have HML := Lib.hid hml1
      have HBR := Lib.hid hbr
      have hk0 : (0 : Int) ≤ (k : Int) := Int.natCast_nonneg _
      have hk1 : (k : Int) < (ta.T.nodes.length : Int) := by omega
      obtain ⟨N, hN⟩ : ∃ N, ta.T.nodes.length = N := ⟨_, rfl⟩
      rw [hN] at p5 y5 hlt hk1
      have hNb : N ≤ 9223372036854775807 := by rw [← hN]; exact hla
      have HNN := Lib.hid hN
      clear hA1 hA2 hri1 hri2 hml1 hml2 hcc1 hcc2 hna hnb hnx hnB hAr hBt hbr hN
      go_upto_region 6 with (fail)
      go_cut [6, 7] (fun p1 p2 wx => ∃ a1 a2 : Nat, p1 = .pointer (some ⟨a1, 0, none⟩) ∧ p2 = .pointer (some ⟨a2, 0, none⟩) ∧ wx.heap[a1]? = some (.cells #[.int .i64 na, .slice A1 nx.length c1, .int .i64 nb] 45 (0, 0)) ∧ wx.heap[a2]? = some (.cells #[.int .i64 na, .slice A2 nx.length c2, .int .i64 nb] 45 (0, 0)) ∧ Below wr.heap.size wr wx)
      case first =>
        have hBr : Below wr.heap.size wr wr.drew := (Below.refl _ _).drew
        obtain ⟨wd, hwd⟩ : ∃ wd, wr.drew = wd := ⟨_, rfl⟩
        refine wp_region_held_drew (S := fun W => Below wr.heap.size wr W) (by kernel_rfl) hBr (fun hHeld => ?_)
        rw [hwd] at hBr hHeld ⊢
        refine wpAnyH_take (i := 0) (oi := { dst := some 50, op := Go.Op.fieldAddr 27 (Go.Operand.tmp 2) 1, type := 0, pos := "ref.go:224", after := #[], guard := none }) (v := ?_) rfl (by kernel_rfl) (by kernel_rfl) (by kernel_rfl) (fun _ _ _ h => h) (Or.inl ⟨by rfl, ?_⟩) (by assumption) ?_
        rotate_left
        · intro w' hSw
          (try dsimp only at hSw)
          have q5 := (hSw.cell (p := ⟨H, 256, none⟩) (show H < wr.heap.size by omega)).trans p5
          have r5 := (hSw.cell (p := ⟨H + 1, 256, none⟩) (show H + 1 < wr.heap.size by omega)).trans y5
          have da0 := (hSw.cell (p := ⟨b1, off1 + k * 3 , none⟩) hbB1).trans d0
          have ea0 := (hSw.cell (p := ⟨b2, off2 + k * 3 , none⟩) hbB2).trans e0
          have da1 := (hSw.cell (p := ⟨b1, off1 + k * 3 + 1, none⟩) hbB1).trans d1
          have ea1 := (hSw.cell (p := ⟨b2, off2 + k * 3 + 1, none⟩) hbB2).trans e1
          have da2 := (hSw.cell (p := ⟨b1, off1 + k * 3 + 2, none⟩) hbB1).trans d2
          have ea2 := (hSw.cell (p := ⟨b2, off2 + k * 3 + 2, none⟩) hbB2).trans e2
          go_simp
          all_goals with_reducible rfl
        try simp only [Act.put, List.setIfInBounds_toArray, List.set_cons_zero, List.set_cons_succ]
        refine wpAnyH_take (i := 1) (oi := { dst := some 51, op := Go.Op.load 23 (Go.Operand.tmp 50), type := 23, pos := "ref.go:224", after := #[{ on := 0, ground := Go.Ground.data }], guard := none }) (v := ?_) rfl (by kernel_rfl) (by kernel_rfl) (by kernel_rfl) (fun _ _ _ h => h) (Or.inl ⟨by rfl, ?_⟩) (by assumption) ?_
        rotate_left
        · intro w' hSw
          (try dsimp only at hSw)
          have q5 := (hSw.cell (p := ⟨H, 256, none⟩) (show H < wr.heap.size by omega)).trans p5
          have r5 := (hSw.cell (p := ⟨H + 1, 256, none⟩) (show H + 1 < wr.heap.size by omega)).trans y5
          have da0 := (hSw.cell (p := ⟨b1, off1 + k * 3 , none⟩) hbB1).trans d0
          have ea0 := (hSw.cell (p := ⟨b2, off2 + k * 3 , none⟩) hbB2).trans e0
          have da1 := (hSw.cell (p := ⟨b1, off1 + k * 3 + 1, none⟩) hbB1).trans d1
          have ea1 := (hSw.cell (p := ⟨b2, off2 + k * 3 + 1, none⟩) hbB2).trans e1
          have da2 := (hSw.cell (p := ⟨b1, off1 + k * 3 + 2, none⟩) hbB1).trans d2
          have ea2 := (hSw.cell (p := ⟨b2, off2 + k * 3 + 2, none⟩) hbB2).trans e2
          go_simp
          all_goals with_reducible rfl
        try simp only [Act.put, List.setIfInBounds_toArray, List.set_cons_zero, List.set_cons_succ]
        refine wpAnyH_take (i := 2) (oi := { dst := some 52, op := Go.Op.move (Go.Operand.tmp 5), type := 3, pos := "ref.go:224", after := #[], guard := none }) (v := ?_) rfl (by kernel_rfl) (by kernel_rfl) (by kernel_rfl) (fun _ _ _ h => h) (Or.inl ⟨by rfl, ?_⟩) (by assumption) ?_
        rotate_left
        · intro w' hSw
          (try dsimp only at hSw)
          have q5 := (hSw.cell (p := ⟨H, 256, none⟩) (show H < wr.heap.size by omega)).trans p5
          have r5 := (hSw.cell (p := ⟨H + 1, 256, none⟩) (show H + 1 < wr.heap.size by omega)).trans y5
          have da0 := (hSw.cell (p := ⟨b1, off1 + k * 3 , none⟩) hbB1).trans d0
          have ea0 := (hSw.cell (p := ⟨b2, off2 + k * 3 , none⟩) hbB2).trans e0
          have da1 := (hSw.cell (p := ⟨b1, off1 + k * 3 + 1, none⟩) hbB1).trans d1
          have ea1 := (hSw.cell (p := ⟨b2, off2 + k * 3 + 1, none⟩) hbB2).trans e1
          have da2 := (hSw.cell (p := ⟨b1, off1 + k * 3 + 2, none⟩) hbB1).trans d2
          have ea2 := (hSw.cell (p := ⟨b2, off2 + k * 3 + 2, none⟩) hbB2).trans e2
          go_simp
          all_goals with_reducible rfl
        try simp only [Act.put, List.setIfInBounds_toArray, List.set_cons_zero, List.set_cons_succ]
        refine wpAnyH_take (i := 3) (oi := { dst := some 53, op := Go.Op.indexAddr 23 (Go.Operand.tmp 51) (Go.Operand.tmp 52), type := 0, pos := "ref.go:224", after := #[{ on := 1, ground := Go.Ground.data }, { on := 2, ground := Go.Ground.data }], guard := none }) (v := ?_) rfl (by kernel_rfl) (by kernel_rfl) (by kernel_rfl) (fun _ _ _ h => h) (Or.inl ⟨by rfl, ?_⟩) (by assumption) ?_
        rotate_left
        · intro w' hSw
          (try dsimp only at hSw)
          have q5 := (hSw.cell (p := ⟨H, 256, none⟩) (show H < wr.heap.size by omega)).trans p5
          have r5 := (hSw.cell (p := ⟨H + 1, 256, none⟩) (show H + 1 < wr.heap.size by omega)).trans y5
          have da0 := (hSw.cell (p := ⟨b1, off1 + k * 3 , none⟩) hbB1).trans d0
          have ea0 := (hSw.cell (p := ⟨b2, off2 + k * 3 , none⟩) hbB2).trans e0
          have da1 := (hSw.cell (p := ⟨b1, off1 + k * 3 + 1, none⟩) hbB1).trans d1
          have ea1 := (hSw.cell (p := ⟨b2, off2 + k * 3 + 1, none⟩) hbB2).trans e1
          have da2 := (hSw.cell (p := ⟨b1, off1 + k * 3 + 2, none⟩) hbB1).trans d2
          have ea2 := (hSw.cell (p := ⟨b2, off2 + k * 3 + 2, none⟩) hbB2).trans e2
          go_simp
          all_goals with_reducible rfl
        try simp only [Act.put, List.setIfInBounds_toArray, List.set_cons_zero, List.set_cons_succ]
        refine wpAnyH_take (i := 4) (oi := { dst := some 54, op := Go.Op.load 45 (Go.Operand.tmp 53), type := 45, pos := "ref.go:224", after := #[{ on := 3, ground := Go.Ground.data }], guard := none }) (v := ?_) rfl (by kernel_rfl) (by kernel_rfl) (by kernel_rfl) (fun _ _ _ h => h) (Or.inl ⟨by rfl, ?_⟩) (by assumption) ?_
        rotate_left
        · intro w' hSw
          (try dsimp only at hSw)
          have q5 := (hSw.cell (p := ⟨H, 256, none⟩) (show H < wr.heap.size by omega)).trans p5
          have r5 := (hSw.cell (p := ⟨H + 1, 256, none⟩) (show H + 1 < wr.heap.size by omega)).trans y5
          have da0 := (hSw.cell (p := ⟨b1, off1 + k * 3 , none⟩) hbB1).trans d0
          have ea0 := (hSw.cell (p := ⟨b2, off2 + k * 3 , none⟩) hbB2).trans e0
          have da1 := (hSw.cell (p := ⟨b1, off1 + k * 3 + 1, none⟩) hbB1).trans d1
          have ea1 := (hSw.cell (p := ⟨b2, off2 + k * 3 + 1, none⟩) hbB2).trans e1
          have da2 := (hSw.cell (p := ⟨b1, off1 + k * 3 + 2, none⟩) hbB1).trans d2
          have ea2 := (hSw.cell (p := ⟨b2, off2 + k * 3 + 2, none⟩) hbB2).trans e2
          go_simp
          all_goals with_reducible rfl
        try simp only [Act.put, List.setIfInBounds_toArray, List.set_cons_zero, List.set_cons_succ]
        refine wpAnyH_take (i := 5) (oi := { dst := some 55, op := Go.Op.fieldAddr 27 (Go.Operand.tmp 3) 1, type := 0, pos := "ref.go:224", after := #[{ on := 12, ground := Go.Ground.gcOnly Go.Departure.lateStores }], guard := none }) (v := ?_) rfl (by kernel_rfl) (by kernel_rfl) (by kernel_rfl) (fun _ _ _ h => h) (Or.inl ⟨by rfl, ?_⟩) (by assumption) ?_
        rotate_left
        · intro w' hSw
          (try dsimp only at hSw)
          have q5 := (hSw.cell (p := ⟨H, 256, none⟩) (show H < wr.heap.size by omega)).trans p5
          have r5 := (hSw.cell (p := ⟨H + 1, 256, none⟩) (show H + 1 < wr.heap.size by omega)).trans y5
          have da0 := (hSw.cell (p := ⟨b1, off1 + k * 3 , none⟩) hbB1).trans d0
          have ea0 := (hSw.cell (p := ⟨b2, off2 + k * 3 , none⟩) hbB2).trans e0
          have da1 := (hSw.cell (p := ⟨b1, off1 + k * 3 + 1, none⟩) hbB1).trans d1
          have ea1 := (hSw.cell (p := ⟨b2, off2 + k * 3 + 1, none⟩) hbB2).trans e1
          have da2 := (hSw.cell (p := ⟨b1, off1 + k * 3 + 2, none⟩) hbB1).trans d2
          have ea2 := (hSw.cell (p := ⟨b2, off2 + k * 3 + 2, none⟩) hbB2).trans e2
          go_simp
          all_goals with_reducible rfl
        try simp only [Act.put, List.setIfInBounds_toArray, List.set_cons_zero, List.set_cons_succ]
        refine wpAnyH_take (i := 6) (oi := { dst := some 56, op := Go.Op.load 23 (Go.Operand.tmp 55), type := 23, pos := "ref.go:224", after := #[{ on := 5, ground := Go.Ground.data }, { on := 12, ground := Go.Ground.gcOnly Go.Departure.lateStores }], guard := none }) (v := ?_) rfl (by kernel_rfl) (by kernel_rfl) (by kernel_rfl) (fun _ _ _ h => h) (Or.inl ⟨by rfl, ?_⟩) (by assumption) ?_
        rotate_left
        · intro w' hSw
          (try dsimp only at hSw)
          have q5 := (hSw.cell (p := ⟨H, 256, none⟩) (show H < wr.heap.size by omega)).trans p5
          have r5 := (hSw.cell (p := ⟨H + 1, 256, none⟩) (show H + 1 < wr.heap.size by omega)).trans y5
          have da0 := (hSw.cell (p := ⟨b1, off1 + k * 3 , none⟩) hbB1).trans d0
          have ea0 := (hSw.cell (p := ⟨b2, off2 + k * 3 , none⟩) hbB2).trans e0
          have da1 := (hSw.cell (p := ⟨b1, off1 + k * 3 + 1, none⟩) hbB1).trans d1
          have ea1 := (hSw.cell (p := ⟨b2, off2 + k * 3 + 1, none⟩) hbB2).trans e1
          have da2 := (hSw.cell (p := ⟨b1, off1 + k * 3 + 2, none⟩) hbB1).trans d2
          have ea2 := (hSw.cell (p := ⟨b2, off2 + k * 3 + 2, none⟩) hbB2).trans e2
          go_simp
          all_goals with_reducible rfl
        try simp only [Act.put, List.setIfInBounds_toArray, List.set_cons_zero, List.set_cons_succ]
        refine wpAnyH_take (i := 7) (oi := { dst := some 57, op := Go.Op.move (Go.Operand.tmp 5), type := 3, pos := "ref.go:224", after := #[{ on := 12, ground := Go.Ground.gcOnly Go.Departure.lateStores }], guard := none }) (v := ?_) rfl (by kernel_rfl) (by kernel_rfl) (by kernel_rfl) (fun _ _ _ h => h) (Or.inl ⟨by rfl, ?_⟩) (by assumption) ?_
        rotate_left
        · intro w' hSw
          (try dsimp only at hSw)
          have q5 := (hSw.cell (p := ⟨H, 256, none⟩) (show H < wr.heap.size by omega)).trans p5
          have r5 := (hSw.cell (p := ⟨H + 1, 256, none⟩) (show H + 1 < wr.heap.size by omega)).trans y5
          have da0 := (hSw.cell (p := ⟨b1, off1 + k * 3 , none⟩) hbB1).trans d0
          have ea0 := (hSw.cell (p := ⟨b2, off2 + k * 3 , none⟩) hbB2).trans e0
          have da1 := (hSw.cell (p := ⟨b1, off1 + k * 3 + 1, none⟩) hbB1).trans d1
          have ea1 := (hSw.cell (p := ⟨b2, off2 + k * 3 + 1, none⟩) hbB2).trans e1
          have da2 := (hSw.cell (p := ⟨b1, off1 + k * 3 + 2, none⟩) hbB1).trans d2
          have ea2 := (hSw.cell (p := ⟨b2, off2 + k * 3 + 2, none⟩) hbB2).trans e2
          go_simp
          all_goals with_reducible rfl
        try simp only [Act.put, List.setIfInBounds_toArray, List.set_cons_zero, List.set_cons_succ]
        refine wpAnyH_take (i := 8) (oi := { dst := some 58, op := Go.Op.indexAddr 23 (Go.Operand.tmp 56) (Go.Operand.tmp 57), type := 0, pos := "ref.go:224", after := #[{ on := 6, ground := Go.Ground.data }, { on := 7, ground := Go.Ground.data }, { on := 12, ground := Go.Ground.gcOnly Go.Departure.lateStores }], guard := none }) (v := ?_) rfl (by kernel_rfl) (by kernel_rfl) (by kernel_rfl) (fun _ _ _ h => h) (Or.inl ⟨by rfl, ?_⟩) (by assumption) ?_
        rotate_left
        · intro w' hSw
          (try dsimp only at hSw)
          have q5 := (hSw.cell (p := ⟨H, 256, none⟩) (show H < wr.heap.size by omega)).trans p5
          have r5 := (hSw.cell (p := ⟨H + 1, 256, none⟩) (show H + 1 < wr.heap.size by omega)).trans y5
          have da0 := (hSw.cell (p := ⟨b1, off1 + k * 3 , none⟩) hbB1).trans d0
          have ea0 := (hSw.cell (p := ⟨b2, off2 + k * 3 , none⟩) hbB2).trans e0
          have da1 := (hSw.cell (p := ⟨b1, off1 + k * 3 + 1, none⟩) hbB1).trans d1
          have ea1 := (hSw.cell (p := ⟨b2, off2 + k * 3 + 1, none⟩) hbB2).trans e1
          have da2 := (hSw.cell (p := ⟨b1, off1 + k * 3 + 2, none⟩) hbB1).trans d2
          have ea2 := (hSw.cell (p := ⟨b2, off2 + k * 3 + 2, none⟩) hbB2).trans e2
          go_simp
          all_goals with_reducible rfl
        try simp only [Act.put, List.setIfInBounds_toArray, List.set_cons_zero, List.set_cons_succ]
        refine wpAnyH_take (i := 9) (oi := { dst := some 59, op := Go.Op.load 45 (Go.Operand.tmp 58), type := 45, pos := "ref.go:224", after := #[{ on := 8, ground := Go.Ground.data }, { on := 12, ground := Go.Ground.gcOnly Go.Departure.lateStores }], guard := none }) (v := ?_) rfl (by kernel_rfl) (by kernel_rfl) (by kernel_rfl) (fun _ _ _ h => h) (Or.inl ⟨by rfl, ?_⟩) (by assumption) ?_
        rotate_left
        · intro w' hSw
          (try dsimp only at hSw)
          have q5 := (hSw.cell (p := ⟨H, 256, none⟩) (show H < wr.heap.size by omega)).trans p5
          have r5 := (hSw.cell (p := ⟨H + 1, 256, none⟩) (show H + 1 < wr.heap.size by omega)).trans y5
          have da0 := (hSw.cell (p := ⟨b1, off1 + k * 3 , none⟩) hbB1).trans d0
          have ea0 := (hSw.cell (p := ⟨b2, off2 + k * 3 , none⟩) hbB2).trans e0
          have da1 := (hSw.cell (p := ⟨b1, off1 + k * 3 + 1, none⟩) hbB1).trans d1
          have ea1 := (hSw.cell (p := ⟨b2, off2 + k * 3 + 1, none⟩) hbB2).trans e1
          have da2 := (hSw.cell (p := ⟨b1, off1 + k * 3 + 2, none⟩) hbB1).trans d2
          have ea2 := (hSw.cell (p := ⟨b2, off2 + k * 3 + 2, none⟩) hbB2).trans e2
          go_simp
          all_goals with_reducible rfl
        try simp only [Act.put, List.setIfInBounds_toArray, List.set_cons_zero, List.set_cons_succ]
        refine wpAnyH_ready (rs := [10, 11]) (by kernel_rfl) (by simp) ?_
        refine (AllReadyH.cons (o := { dst := some 6, op := Go.Op.alloc 45, type := 0, pos := "ref.go:224", after := #[], guard := none }) rfl (fun K hK => ?_) (AllReadyH.cons (o := { dst := some 7, op := Go.Op.alloc 45, type := 0, pos := "ref.go:224", after := #[], guard := none }) rfl (fun K hK => ?_) AllReadyH.nil))
        focus
          obtain ⟨wa, hwa⟩ : ∃ wa, wd.alloc (.cells #[.int .i64 0, .slice none 0 0, .int .i64 0] 45) = wa := ⟨_, rfl⟩
          have hx10 : wa.heap[wd.heap.size]? = some (.cells #[.int .i64 0, .slice none 0 0, .int .i64 0] 45 (0, 0)) := by rw [← hwa]; exact heap_alloc_new wd _
          have hbl : Below wd.heap.size wd wa := by rw [← hwa]; exact (Below.refl _ _).alloc (Nat.le_refl _) _
          go_simp
          try rw [hwa]
          obtain ⟨y10, hy10⟩ : ∃ y, wd.heap.size = y := ⟨_, rfl⟩
          rw [hy10] at hx10
          simp only [hy10]
          have hl10 : y10 < wa.heap.size := (Array.getElem?_eq_some_iff.1 hx10).1
          have hg10 : wr.heap.size ≤ y10 := by have := hBr.size; omega
          have hBr := hBr.trans (hbl.mono (by have := hBr.size; omega))
          clear hbl
          refine hK.out _ _ ?_ (fun hHeld => ?_)
          · exact hBr
          clear hK K
          try simp only [Act.put, List.setIfInBounds_toArray, List.set_cons_zero, List.set_cons_succ]
          refine wpAnyH_ready (rs := [11]) (by kernel_rfl) (by simp) ?_
          refine (AllReadyH.cons (o := { dst := some 7, op := Go.Op.alloc 45, type := 0, pos := "ref.go:224", after := #[], guard := none }) rfl (fun K hK => ?_) AllReadyH.nil)
          obtain ⟨wb, hwb⟩ : ∃ wb, wa.alloc (.cells #[.int .i64 0, .slice none 0 0, .int .i64 0] 45) = wb := ⟨_, rfl⟩
          have hx11 : wb.heap[wa.heap.size]? = some (.cells #[.int .i64 0, .slice none 0 0, .int .i64 0] 45 (0, 0)) := by rw [← hwb]; exact heap_alloc_new wa _
          have hbl : Below wa.heap.size wa wb := by rw [← hwb]; exact (Below.refl _ _).alloc (Nat.le_refl _) _
          go_simp
          try rw [hwb]
          obtain ⟨y11, hy11⟩ : ∃ y, wa.heap.size = y := ⟨_, rfl⟩
          rw [hy11] at hx11
          simp only [hy11]
          have hl11 : y11 < wb.heap.size := (Array.getElem?_eq_some_iff.1 hx11).1
          have hg11 : wr.heap.size ≤ y11 := by have := hBr.size; omega
          have hx10 := (hbl.block y10 hl10).trans hx10
          have hl10 : y10 < wb.heap.size := Nat.lt_of_lt_of_le hl10 hbl.size
          have hne : y10 ≠ y11 := by omega
          have hBr := hBr.trans (hbl.mono (by have := hBr.size; omega))
          clear hbl
          refine hK.out _ _ ?_ (fun hHeld => ?_)
          · exact hBr
          clear hK K
          try simp only [Act.put, List.setIfInBounds_toArray, List.set_cons_zero, List.set_cons_succ]
          refine wpAnyH_ready (rs := [12]) (by kernel_rfl) (by simp) ?_
          refine (AllReadyH.cons (o := { dst := none, op := Go.Op.store 45 (Go.Operand.tmp 6) (Go.Operand.tmp 54), type := 0, pos := "ref.go:224", after := #[{ on := 10, ground := Go.Ground.data }, { on := 4, ground := Go.Ground.data }, { on := 0, ground := Go.Ground.phase }, { on := 1, ground := Go.Ground.phase }, { on := 2, ground := Go.Ground.phase }, { on := 3, ground := Go.Ground.phase }, { on := 4, ground := Go.Ground.phase }, { on := 5, ground := Go.Ground.textOnly Go.Departure.lateStores }, { on := 6, ground := Go.Ground.textOnly Go.Departure.lateStores }, { on := 7, ground := Go.Ground.textOnly Go.Departure.lateStores }, { on := 8, ground := Go.Ground.textOnly Go.Departure.lateStores }, { on := 9, ground := Go.Ground.textOnly Go.Departure.lateStores }, { on := 10, ground := Go.Ground.phase }, { on := 11, ground := Go.Ground.phase }], guard := none }) rfl (fun K hK => ?_) AllReadyH.nil)
          refine wp_store_row 45 _ _ rfl y10 #[.int .i64 na, .slice A1 nx.length c1, .int .i64 nb] rfl rfl _ _ hx10 (by kernel_rfl) rfl (by simp [Value.oneCell']) ?_
          obtain ⟨wu, hwu⟩ : ∃ wu, wb.setRow y10 #[.int .i64 na, .slice A1 nx.length c1, .int .i64 nb] = wu := ⟨_, rfl⟩
          have hx10 := setRow_heap wb y10 _ #[.int .i64 na, .slice A1 nx.length c1, .int .i64 nb] _ _ hx10
          have hx11 := (setRow_other wb y10 y11 #[.int .i64 na, .slice A1 nx.length c1, .int .i64 nb] (by omega)).trans hx11
          have hBr := below_setRow hBr hg10 #[.int .i64 na, .slice A1 nx.length c1, .int .i64 nb]
          rw [hwu] at hx10 hx11 hBr
          rw [hwu]
          clear hwu
          refine hK.out _ _ ?_ (fun hHeld => ?_)
          · exact hBr
          clear hK K
          try simp only [Act.put, List.setIfInBounds_toArray, List.set_cons_zero, List.set_cons_succ]
          refine wpAnyH_ready (rs := [13]) (by kernel_rfl) (by simp) ?_
          refine (AllReadyH.cons (o := { dst := none, op := Go.Op.store 45 (Go.Operand.tmp 7) (Go.Operand.tmp 59), type := 0, pos := "ref.go:224", after := #[{ on := 11, ground := Go.Ground.data }, { on := 9, ground := Go.Ground.data }, { on := 12, ground := Go.Ground.chain }, { on := 0, ground := Go.Ground.phase }, { on := 1, ground := Go.Ground.phase }, { on := 2, ground := Go.Ground.phase }, { on := 3, ground := Go.Ground.phase }, { on := 4, ground := Go.Ground.phase }, { on := 5, ground := Go.Ground.phase }, { on := 6, ground := Go.Ground.phase }, { on := 7, ground := Go.Ground.phase }, { on := 8, ground := Go.Ground.phase }, { on := 9, ground := Go.Ground.phase }, { on := 10, ground := Go.Ground.phase }, { on := 11, ground := Go.Ground.phase }, { on := 12, ground := Go.Ground.phase }], guard := none }) rfl (fun K hK => ?_) AllReadyH.nil)
          refine wp_store_row 45 _ _ rfl y11 #[.int .i64 na, .slice A2 nx.length c2, .int .i64 nb] rfl rfl _ _ hx11 (by kernel_rfl) rfl (by simp [Value.oneCell']) ?_
          obtain ⟨wv, hwv⟩ : ∃ wv, wu.setRow y11 #[.int .i64 na, .slice A2 nx.length c2, .int .i64 nb] = wv := ⟨_, rfl⟩
          have hx11 := setRow_heap wu y11 _ #[.int .i64 na, .slice A2 nx.length c2, .int .i64 nb] _ _ hx11
          have hx10 := (setRow_other wu y11 y10 #[.int .i64 na, .slice A2 nx.length c2, .int .i64 nb] (by omega)).trans hx10
          have hBr := below_setRow hBr hg11 #[.int .i64 na, .slice A2 nx.length c2, .int .i64 nb]
          rw [hwv] at hx11 hx10 hBr
          rw [hwv]
          clear hwv
          refine hK.out _ _ ?_ (fun hHeld => ?_)
          · exact hBr
          clear hK K
          try simp only [Act.put, List.setIfInBounds_toArray, List.set_cons_zero, List.set_cons_succ]
          obtain ⟨wl, rfl⟩ : ∃ wl : World, wl = wv := ⟨_, rfl⟩
        rotate_left 1
        focus
          obtain ⟨wb, hwb⟩ : ∃ wb, wd.alloc (.cells #[.int .i64 0, .slice none 0 0, .int .i64 0] 45) = wb := ⟨_, rfl⟩
          have hx11 : wb.heap[wd.heap.size]? = some (.cells #[.int .i64 0, .slice none 0 0, .int .i64 0] 45 (0, 0)) := by rw [← hwb]; exact heap_alloc_new wd _
          have hbl : Below wd.heap.size wd wb := by rw [← hwb]; exact (Below.refl _ _).alloc (Nat.le_refl _) _
          go_simp
          try rw [hwb]
          obtain ⟨y11, hy11⟩ : ∃ y, wd.heap.size = y := ⟨_, rfl⟩
          rw [hy11] at hx11
          simp only [hy11]
          have hl11 : y11 < wb.heap.size := (Array.getElem?_eq_some_iff.1 hx11).1
          have hg11 : wr.heap.size ≤ y11 := by have := hBr.size; omega
          have hBr := hBr.trans (hbl.mono (by have := hBr.size; omega))
          clear hbl
          refine hK.out _ _ ?_ (fun hHeld => ?_)
          · exact hBr
          clear hK K
          try simp only [Act.put, List.setIfInBounds_toArray, List.set_cons_zero, List.set_cons_succ]
          refine wpAnyH_ready (rs := [10]) (by kernel_rfl) (by simp) ?_
          refine (AllReadyH.cons (o := { dst := some 6, op := Go.Op.alloc 45, type := 0, pos := "ref.go:224", after := #[], guard := none }) rfl (fun K hK => ?_) AllReadyH.nil)
          obtain ⟨wa, hwa⟩ : ∃ wa, wb.alloc (.cells #[.int .i64 0, .slice none 0 0, .int .i64 0] 45) = wa := ⟨_, rfl⟩
          have hx10 : wa.heap[wb.heap.size]? = some (.cells #[.int .i64 0, .slice none 0 0, .int .i64 0] 45 (0, 0)) := by rw [← hwa]; exact heap_alloc_new wb _
          have hbl : Below wb.heap.size wb wa := by rw [← hwa]; exact (Below.refl _ _).alloc (Nat.le_refl _) _
          go_simp
          try rw [hwa]
          obtain ⟨y10, hy10⟩ : ∃ y, wb.heap.size = y := ⟨_, rfl⟩
          rw [hy10] at hx10
          simp only [hy10]
          have hl10 : y10 < wa.heap.size := (Array.getElem?_eq_some_iff.1 hx10).1
          have hg10 : wr.heap.size ≤ y10 := by have := hBr.size; omega
          have hx11 := (hbl.block y11 hl11).trans hx11
          have hl11 : y11 < wa.heap.size := Nat.lt_of_lt_of_le hl11 hbl.size
          have hne : y10 ≠ y11 := by omega
          have hBr := hBr.trans (hbl.mono (by have := hBr.size; omega))
          clear hbl
          refine hK.out _ _ ?_ (fun hHeld => ?_)
          · exact hBr
          clear hK K
          try simp only [Act.put, List.setIfInBounds_toArray, List.set_cons_zero, List.set_cons_succ]
          refine wpAnyH_ready (rs := [12]) (by kernel_rfl) (by simp) ?_
          refine (AllReadyH.cons (o := { dst := none, op := Go.Op.store 45 (Go.Operand.tmp 6) (Go.Operand.tmp 54), type := 0, pos := "ref.go:224", after := #[{ on := 10, ground := Go.Ground.data }, { on := 4, ground := Go.Ground.data }, { on := 0, ground := Go.Ground.phase }, { on := 1, ground := Go.Ground.phase }, { on := 2, ground := Go.Ground.phase }, { on := 3, ground := Go.Ground.phase }, { on := 4, ground := Go.Ground.phase }, { on := 5, ground := Go.Ground.textOnly Go.Departure.lateStores }, { on := 6, ground := Go.Ground.textOnly Go.Departure.lateStores }, { on := 7, ground := Go.Ground.textOnly Go.Departure.lateStores }, { on := 8, ground := Go.Ground.textOnly Go.Departure.lateStores }, { on := 9, ground := Go.Ground.textOnly Go.Departure.lateStores }, { on := 10, ground := Go.Ground.phase }, { on := 11, ground := Go.Ground.phase }], guard := none }) rfl (fun K hK => ?_) AllReadyH.nil)
          refine wp_store_row 45 _ _ rfl y10 #[.int .i64 na, .slice A1 nx.length c1, .int .i64 nb] rfl rfl _ _ hx10 (by kernel_rfl) rfl (by simp [Value.oneCell']) ?_
          obtain ⟨wu, hwu⟩ : ∃ wu, wa.setRow y10 #[.int .i64 na, .slice A1 nx.length c1, .int .i64 nb] = wu := ⟨_, rfl⟩
          have hx10 := setRow_heap wa y10 _ #[.int .i64 na, .slice A1 nx.length c1, .int .i64 nb] _ _ hx10
          have hx11 := (setRow_other wa y10 y11 #[.int .i64 na, .slice A1 nx.length c1, .int .i64 nb] (by omega)).trans hx11
          have hBr := below_setRow hBr hg10 #[.int .i64 na, .slice A1 nx.length c1, .int .i64 nb]
          rw [hwu] at hx10 hx11 hBr
          rw [hwu]
          clear hwu
          refine hK.out _ _ ?_ (fun hHeld => ?_)
          · exact hBr
          clear hK K
          try simp only [Act.put, List.setIfInBounds_toArray, List.set_cons_zero, List.set_cons_succ]
          refine wpAnyH_ready (rs := [13]) (by kernel_rfl) (by simp) ?_
          refine (AllReadyH.cons (o := { dst := none, op := Go.Op.store 45 (Go.Operand.tmp 7) (Go.Operand.tmp 59), type := 0, pos := "ref.go:224", after := #[{ on := 11, ground := Go.Ground.data }, { on := 9, ground := Go.Ground.data }, { on := 12, ground := Go.Ground.chain }, { on := 0, ground := Go.Ground.phase }, { on := 1, ground := Go.Ground.phase }, { on := 2, ground := Go.Ground.phase }, { on := 3, ground := Go.Ground.phase }, { on := 4, ground := Go.Ground.phase }, { on := 5, ground := Go.Ground.phase }, { on := 6, ground := Go.Ground.phase }, { on := 7, ground := Go.Ground.phase }, { on := 8, ground := Go.Ground.phase }, { on := 9, ground := Go.Ground.phase }, { on := 10, ground := Go.Ground.phase }, { on := 11, ground := Go.Ground.phase }, { on := 12, ground := Go.Ground.phase }], guard := none }) rfl (fun K hK => ?_) AllReadyH.nil)
          refine wp_store_row 45 _ _ rfl y11 #[.int .i64 na, .slice A2 nx.length c2, .int .i64 nb] rfl rfl _ _ hx11 (by kernel_rfl) rfl (by simp [Value.oneCell']) ?_
          obtain ⟨wv, hwv⟩ : ∃ wv, wu.setRow y11 #[.int .i64 na, .slice A2 nx.length c2, .int .i64 nb] = wv := ⟨_, rfl⟩
          have hx11 := setRow_heap wu y11 _ #[.int .i64 na, .slice A2 nx.length c2, .int .i64 nb] _ _ hx11
          have hx10 := (setRow_other wu y11 y10 #[.int .i64 na, .slice A2 nx.length c2, .int .i64 nb] (by omega)).trans hx10
          have hBr := below_setRow hBr hg11 #[.int .i64 na, .slice A2 nx.length c2, .int .i64 nb]
          rw [hwv] at hx11 hx10 hBr
          rw [hwv]
          clear hwv
          refine hK.out _ _ ?_ (fun hHeld => ?_)
          · exact hBr
          clear hK K
          try simp only [Act.put, List.setIfInBounds_toArray, List.set_cons_zero, List.set_cons_succ]
          obtain ⟨wl, rfl⟩ : ∃ wl : World, wl = wv := ⟨_, rfl⟩
        all_goals
          refine wpAnyH_done (by kernel_rfl) ?_ _
          go_wp2_with (fail)
          go_meet
          exact ⟨_, _, rfl, rfl, hx10, hx11, hBr⟩
      case rest =>
      obtain ⟨wx, rfl⟩ : ∃ wx : World, wx = wc := ⟨_, rfl⟩
      obtain ⟨a1, a2, rfl, rfl, hqa, hqb, hbx⟩ := hcut
      have HX := Lib.hid (HBR.out.trans (hbx.mono (by omega)))
      have c0 : wx.cell? ⟨a1, 0, none⟩ = some (.int .i64 na) := by rw [cell_of_row wx a1 0 _ _ _ hqa]; rfl
      have s1 : wx.cell? ⟨a1, 1, none⟩ = some (.slice A1 nx.length c1) := by rw [cell_of_row wx a1 1 _ _ _ hqa]; rfl
      have s2 : wx.cell? ⟨a1, 2, none⟩ = some (.int .i64 nb) := by rw [cell_of_row wx a1 2 _ _ _ hqa]; rfl
      have t0 : wx.cell? ⟨a2, 0, none⟩ = some (.int .i64 na) := by rw [cell_of_row wx a2 0 _ _ _ hqb]; rfl
      have t1 : wx.cell? ⟨a2, 1, none⟩ = some (.slice A2 nx.length c2) := by rw [cell_of_row wx a2 1 _ _ _ hqb]; rfl
      have t2 : wx.cell? ⟨a2, 2, none⟩ = some (.int .i64 nb) := by rw [cell_of_row wx a2 2 _ _ _ hqb]; rfl
      have HI1 := Lib.hid (HR1.out.belowM hbx)
      have HI2 := Lib.hid (HR2.out.belowM hbx)
      have ha_ : (na != na) = false := by simp
      have hb_ : (nb != nb) = false := by simp
      have hm0 := HML.out
      unfold maxLen at hm0
      have HQA := Lib.hid hqa
      have HQB := Lib.hid hqb
      have la1 := (Array.getElem?_eq_some_iff.1 hqa).1
      have la2 := (Array.getElem?_eq_some_iff.1 hqb).1
      clear hqa hqb hbx d0 d1 d2 e0 e1 e2 p5 y5
      go_wp2_with (fail)
      go_loopw [8] (fun iv wr => ∃ j : Nat, j ≤ nx.length ∧ iv = .int .i64 j ∧ Below wx.heap.size wx wr) (fun i _ => nx.length - (intOf i).toNat)
      case atStart => exact ⟨0, Nat.zero_le _, rfl, Below.refl _ _⟩
      case round =>
        obtain ⟨j, hj, rfl, hbj⟩ := hrel
        obtain ⟨wj, rfl⟩ : ∃ wj : World, wj = wr := ⟨_, rfl⟩
        have HBJ := Lib.hid hbj
        have qa := (hbj.block a1 la1).trans HQA.out
        have qb := (hbj.block a2 la2).trans HQB.out
        have u1 : wj.cell? ⟨a1, 1, none⟩ = some (.slice A1 nx.length c1) := by rw [cell_of_row wj a1 1 _ _ _ qa]; rfl
        have v1 : wj.cell? ⟨a2, 1, none⟩ = some (.slice A2 nx.length c2) := by rw [cell_of_row wj a2 1 _ _ _ qb]; rfl
        by_cases hlt2 : j < nx.length
        · obtain ⟨x1, o1, hx1, _, f1⟩ := (HI1.out.belowM hbj).at_ hlt2
          obtain ⟨x2, o2, hx2, _, f2⟩ := (HI2.out.belowM hbj).at_ hlt2
          obtain ⟨v, hv⟩ : ∃ v, nx[j] = v := ⟨_, rfl⟩
          rw [hv] at f1 f2
          have hv_ : (v != v) = false := by simp
          rw [hx1] at u1
          rw [hx2] at v1
          have j0 : (0 : Int) ≤ (j : Int) := Int.natCast_nonneg _
          have j1 : (j : Int) < (nx.length : Int) := by omega
          have HBD := Lib.hid hbj.drew
          clear hv qa qb hx1 hx2 hbj
          go_wp2_with (fail)
          go_still (by kernel_rfl)
          go_wp2_with (fail)
          go_roundw
          case rel => exact ⟨j + 1, by omega, by go_num, HBD.out⟩
          case measure => simp [intOf]; omega
        · have hj2 : ¬ ((j : Int) < (nx.length : Int)) := by omega
          have HXJ := Lib.hid (HX.out.trans (hbj.mono HX.out.size))
          clear qa qb hbj
          go_wp2_with (fail)
          go_roundw
          case rel => exact ⟨k + 1, by rw [HNN.out]; exact hlt, by go_num, HXJ.out⟩
          case measure => simp [intOf]; omega
    · have HBK := Lib.hid hbr
      have hke : k = ta.T.nodes.length := by omega
      subst hke
      have HZ := Lib.hid hzr
      clear hAr hBt hbr
      obtain ⟨wo, rfl⟩ : ∃ wo : World, wo = wr := ⟨_, rfl⟩
      go_wp2_with (fail)
      go_loopw [9] (fun iv wr => ∃ k : Nat, k ≤ ta.T.acts.length ∧ iv = .int .i64 k ∧ Below w2.heap.size w2 wr) (fun i _ => ta.T.acts.length - (intOf i).toNat)
      case atStart => exact ⟨0, Nat.zero_le _, rfl, HBK.out⟩
      case round =>
        obtain ⟨k, hk, rfl, hbr⟩ := hrel
        have hzr := hbr.size
        have hAr := HA.out.below hbr
        have hBt := HB.out.below hbr
        have p5 := hAr.cB
        have y5 := hBt.cB
        rw [← HE.out] at y5
        by_cases hlt : k < ta.T.acts.length
        · have hnB : RAc wr tb.B ta.T.acts.length ta.T.acts := by rw [HE.out]; exact hBt.mem.acts
          obtain ⟨b1, off1, hA1, hbB1, d0, d1, A1, c1, d2, hri1, hcc1, hml1⟩ := hAr.mem.acts.at_ hlt
          obtain ⟨b2, off2, hA2, hbB2, e0, e1, A2, c2, e2, hri2, hcc2, hml2⟩ := hnB.at_ hlt
          rw [hA1] at p5
          rw [hA2] at y5
          have hbd : Below wr.heap.size wr wr.drew := (Below.refl _ _).drew
          have HC := Lib.hid (rterms_eq A1 A2 c1 c2 ta.T.acts[k].2.2 wr.drew (hri1.belowM hbd) (hri2.belowM hbd) hml1)
          obtain ⟨na, hna⟩ : ∃ na, ta.T.acts[k].1 = na := ⟨_, rfl⟩
          obtain ⟨nb, hnb⟩ : ∃ nb, ta.T.acts[k].2.1 = nb := ⟨_, rfl⟩
          obtain ⟨nx, hnx⟩ : ∃ nx, ta.T.acts[k].2.2 = nx := ⟨_, rfl⟩
          rw [hna] at d0 e0
          rw [hnb] at d1 e1
          rw [hnx] at d2 e2 HC
          have HBR := Lib.hid (hbr.drew)
          have ha_ : (na != na) = false := by simp
          have hb_ : (nb != nb) = false := by simp
          have hk0 : (0 : Int) ≤ (k : Int) := Int.natCast_nonneg _
          have hk1 : (k : Int) < (ta.T.acts.length : Int) := by omega
          clear hA1 hA2 hri1 hri2 hml1 hml2 hcc1 hcc2 hna hnb hnx hnB hAr hBt hbr hbd
          go_wp2_with (fail)
          go_still_tail 41, (by kernel_rfl)
          change wpList _ _ _ _ _ wr.drew
          go_wp2_with (fail)
          refine HC.out.mono ?_
          rintro e w3 ⟨rfl, hb3⟩
          have HB3 := Lib.hid (HBR.out.trans (hb3.mono HBR.out.size))
          clear hb3
          go_wp2_with (fail)
          go_roundw
          case rel => exact ⟨k + 1, by omega, by go_num, HB3.out⟩
          case measure => simp [intOf]; omega
        · have HBK2 := Lib.hid hbr
          have hke : k = ta.T.acts.length := by omega
          subst hke
          clear hAr hBt hbr
          obtain ⟨wo, rfl⟩ : ∃ wo : World, wo = wr := ⟨_, rfl⟩
          go_wp2_with (fail)
          go_loopw [10] (fun iv wr => ∃ k : Nat, k ≤ ta.T.ends.length ∧ iv = .int .i64 k ∧ Below w2.heap.size w2 wr) (fun i _ => ta.T.ends.length - (intOf i).toNat)
          case atStart => exact ⟨0, Nat.zero_le _, rfl, HBK2.out⟩
          case round =>
            obtain ⟨k, hk, rfl, hbr⟩ := hrel
            have hzr := hbr.size
            have hAr := HA.out.below hbr
            have hBt := HB.out.below hbr
            have p5 := hAr.cC
            have y5 := hBt.cC
            rw [← HE.out] at y5
            by_cases hlt : k < ta.T.ends.length
            · have hnB : REn wr tb.C ta.T.ends.length ta.T.ends := by rw [HE.out]; exact hBt.mem.ends
              obtain ⟨b1, off1, hA1, hbB1, A1, c1, d2, hri1, hcc1, hml1⟩ := hAr.mem.ends.at_ hlt
              obtain ⟨b2, off2, hA2, hbB2, A2, c2, e2, hri2, hcc2, hml2⟩ := hnB.at_ hlt
              rw [hA1] at p5
              rw [hA2] at y5
              have hbd : Below wr.heap.size wr wr.drew := (Below.refl _ _).drew
              have HC := Lib.hid (rterms_eq A1 A2 c1 c2 ta.T.ends[k] wr.drew (hri1.belowM hbd) (hri2.belowM hbd) hml1)
              obtain ⟨nx, hnx⟩ : ∃ nx, ta.T.ends[k] = nx := ⟨_, rfl⟩
              rw [hnx] at d2 e2 HC
              have HBR := Lib.hid (hbr.drew)
              have hk0 : (0 : Int) ≤ (k : Int) := Int.natCast_nonneg _
              have hk1 : (k : Int) < (ta.T.ends.length : Int) := by omega
              clear hA1 hA2 hri1 hri2 hml1 hml2 hcc1 hcc2 hnx hnB hAr hBt hbr hbd
              go_wp2_with (fail)
              go_still_tail 10, (by kernel_rfl)
              change wpList _ _ _ _ _ wr.drew
              go_wp2_with (fail)
              refine HC.out.mono ?_
              rintro e w3 ⟨rfl, hb3⟩
              have HB3 := Lib.hid (HBR.out.trans (hb3.mono HBR.out.size))
              clear hb3
              go_wp2_with (fail)
              go_roundw
              case rel => exact ⟨k + 1, by omega, by go_num, HB3.out⟩
              case measure => simp [intOf]; omega
            · have HFIN := Lib.hid (show Below w.heap.size w wr from HL.out.trans (hbr.mono (by omega)))
              clear hAr hBt hbr
              go_wp2_with (fail)
              go_ret
              exact ⟨rfl, HFIN.out⟩
end Go.Proofs.Ytboaifdkoemnbaa.Pk
