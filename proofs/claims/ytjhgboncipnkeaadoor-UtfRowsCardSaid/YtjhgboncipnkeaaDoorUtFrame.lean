/- The frame of the utf statements: arguments opened; the two tables, out of the row's condition. -/
import Derived.Test.YtjhgboncipnkeaaDoorRows
import Derived.Test.YtjhgboncipnkeaaDoorCards
import Derived.Test.YtjhgboncipnkeaaDoorTie
import Derived.Test.YtjhgboncipnkeaaDoorUtAwake
import Derived.ProofKit
import Derived.OpenShut
import Derived.LaidMore
import Derived.Lib.LaidTab
import Derived.SevenTiedAt
import Derived.Deep.Fields
namespace Go.Proofs.YtjhgboncipnkeaaDoor.Ut
set_option maxRecDepth 100000
open Go Go.RowKit Go.ChangeShapes Go.WideShapes Go.ChangeAt Go.Deep Go.Proofs.YtjhgboncipnkeaaDoor.Wo

theorem own : ownKnob Tryd.prog.godebug = none := by kernel_rfl
theorem laidOut : laidOutB Tryd.prog = true := by kernel_rfl
theorem readableR : Tryd.prog.readableRec 31 = true := by kernel_rfl
theorem rowR : 31 < Tryd.prog.types.size := of_decide_eq_true (by kernel_rfl)
theorem cellsR : Tryd.prog.cellsOf 21 = 1 := by kernel_rfl
theorem open_runes {H : Type} {enc : TypeId × Value → H} {W : World} {r : Reach} {b0 : Nat} {v : Value} {d : DataW H} {p : List MemPlace} (hv : Value.okWide Tryd.prog W r b0 31 v) (h : DataW.Trod enc Tryd.prog W 0 (fun _ => true) true 31 v d p) :
    ∃ (A : Option Addr) (c : Nat) (l : List Int), v = .slice A l.length c ∧ RR W W.heap.size A l.length l ∧ l.length ≤ c ∧ l.length ≤ maxLen ∧ (A = none → l = [] ∧ c = 0) ∧ (∀ x ∈ l, -2147483648 ≤ x ∧ x ≤ 2147483647) := by
  obtain ⟨a0, len0, cap0, rfl⟩ := okWide_slice Tryd.underlying31 hv
  obtain ⟨fuel, hf⟩ := h
  rcases open_ints Tryd.underlying31 Tryd.underlying21 cellsR hf with ⟨hcs, hx⟩ | ⟨a, len, cap, zs, hcs, _, hl, hm, hz, hx, hcell, hwz⟩
  · simp [Value.cells] at hcs
    obtain ⟨rfl, rfl, rfl⟩ := hcs
    exact ⟨none, 0, [], rfl, RR.nil_ _ _ _, Nat.le_refl _, Nat.zero_le _, fun _ => ⟨rfl, rfl⟩, fun _ h => by cases h⟩
  · simp [Value.cells] at hcs
    obtain ⟨rfl, rfl, rfl⟩ := hcs
    simp only [if_true] at hz
    have hlen : (zs.take len0).length = len0 := by rw [List.length_take]; omega
    refine ⟨some a, cap0, zs.take len0, by rw [hlen], ⟨rfl, fun hn => ?_⟩, by rw [hlen]; exact hl, by rw [hlen]; omega, (fun h => by cases h), fun x hx2 => ?_⟩
    · rw [hlen] at hn
      obtain ⟨b, off, rfl, hc⟩ := ints_at hcell (by omega)
      have hb := World.block_lt_of_cell? W _ (hc 0 (by omega))
      refine ⟨b, off, rfl, hb, fun j hj => ?_⟩
      rw [hlen] at hj
      have := hc j (by omega)
      rw [List.getD_eq_getElem?_getD, List.getElem?_eq_getElem (show j < zs.length by omega)] at this
      rw [List.getElem_take]
      exact this
    · have := hwz x (List.mem_of_mem_take hx2)
      simpa [Lit.wf, IntKind.min, IntKind.max, IntKind.signed, IntKind.bits] using this
theorem kept {H : Type} {enc : TypeId × Value → H} {W W' : World} {t : TypeId} {v : Value} {d : DataW H} {p : List MemPlace} (hr : Tryd.prog.readableRec t = true) (ht : t < Tryd.prog.types.size) (h : DataW.Trod enc Tryd.prog W 0 (fun _ => true) true t v d p) (hb : Below W.heap.size W W') (hlt : ∀ x ∈ p, x.block < W.heap.size) :
    DataW.Trod enc Tryd.prog W' 0 (fun b => decide (b < W.heap.size)) true t v d p := Below.trod laidOut hr ht h hb hlt
theorem readableY : Tryd.prog.readableRec 22 = true := by kernel_rfl
theorem rowY : 22 < Tryd.prog.types.size := of_decide_eq_true (by kernel_rfl)
theorem cellsY : Tryd.prog.cellsOf 5 = 1 := by kernel_rfl
theorem open_bytes {H : Type} {enc : TypeId × Value → H} {W : World} {r : Reach} {b0 : Nat} {v : Value} {d : DataW H} {p : List MemPlace} (hv : Value.okWide Tryd.prog W r b0 22 v) (h : DataW.Trod enc Tryd.prog W 0 (fun _ => true) true 22 v d p) :
    ∃ (A : Option Addr) (c : Nat) (l : List Int), v = .slice A l.length c ∧ RY W W.heap.size A l.length l ∧ l.length ≤ c ∧ l.length ≤ maxLen ∧ (∀ x ∈ l, 0 ≤ x ∧ x ≤ 255) := by
  obtain ⟨a0, len0, cap0, rfl⟩ := okWide_slice Tryd.underlying22 hv
  obtain ⟨fuel, hf⟩ := h
  rcases open_ints Tryd.underlying22 Tryd.underlying5 cellsY hf with ⟨hcs, hx⟩ | ⟨a, len, cap, zs, hcs, _, hl, hm, hz, hx, hcell, hwz⟩
  · simp [Value.cells] at hcs
    obtain ⟨rfl, rfl, rfl⟩ := hcs
    exact ⟨none, 0, [], rfl, RY.nil_ _ _ _, Nat.le_refl _, Nat.zero_le _, fun _ h => by cases h⟩
  · simp [Value.cells] at hcs
    obtain ⟨rfl, rfl, rfl⟩ := hcs
    simp only [if_true] at hz
    have hlen : (zs.take len0).length = len0 := by rw [List.length_take]; omega
    refine ⟨some a, cap0, zs.take len0, by rw [hlen], ⟨rfl, fun hn => ?_⟩, by rw [hlen]; exact hl, by rw [hlen]; omega, fun x hx2 => ?_⟩
    · rw [hlen] at hn
      obtain ⟨b, off, rfl, hc⟩ := ints_at hcell (by omega)
      have hb := World.block_lt_of_cell? W _ (hc 0 (by omega))
      refine ⟨b, off, rfl, hb, fun j hj => ?_⟩
      rw [hlen] at hj
      have := hc j (by omega)
      rw [List.getD_eq_getElem?_getD, List.getElem?_eq_getElem (show j < zs.length by omega)] at this
      rw [List.getElem_take]
      exact this
    · have := hwz x (List.mem_of_mem_take hx2)
      simpa [Lit.wf, IntKind.min, IntKind.max, IntKind.signed, IntKind.bits] using this


theorem open_bytes2 {H : Type} {enc : TypeId × Value → H} {W : World} {r : Reach} {b0 : Nat} {v : Value} {d : DataW H} {p : List MemPlace} (hv : Value.okWide Tryd.prog W r b0 22 v) (h : DataW.Trod enc Tryd.prog W 0 (fun _ => true) true 22 v d p) :
    ∃ (A : Option Addr) (c : Nat) (l : List Int), v = .slice A l.length c ∧ RY W W.heap.size A l.length l ∧ l.length ≤ c ∧ l.length ≤ maxLen ∧ (∀ x ∈ l, 0 ≤ x ∧ x ≤ 255) ∧ (A = none → c = 0) := by
  obtain ⟨a0, len0, cap0, rfl⟩ := okWide_slice Tryd.underlying22 hv
  obtain ⟨fuel, hf⟩ := h
  rcases open_ints Tryd.underlying22 Tryd.underlying5 cellsY hf with ⟨hcs, hx⟩ | ⟨a, len, cap, zs, hcs, _, hl, hm, hz, hx, hcell, hwz⟩
  · simp [Value.cells] at hcs
    obtain ⟨rfl, rfl, rfl⟩ := hcs
    exact ⟨none, 0, [], rfl, RY.nil_ _ _ _, Nat.le_refl _, Nat.zero_le _, (fun _ h => by cases h), fun _ => rfl⟩
  · simp [Value.cells] at hcs
    obtain ⟨rfl, rfl, rfl⟩ := hcs
    simp only [if_true] at hz
    have hlen : (zs.take len0).length = len0 := by rw [List.length_take]; omega
    refine ⟨some a, cap0, zs.take len0, by rw [hlen], ⟨rfl, fun hn => ?_⟩, by rw [hlen]; exact hl, by rw [hlen]; omega, (fun x hx2 => ?_), fun e => by cases e⟩
    · rw [hlen] at hn
      obtain ⟨b, off, rfl, hc⟩ := ints_at hcell (by omega)
      have hb := World.block_lt_of_cell? W _ (hc 0 (by omega))
      refine ⟨b, off, rfl, hb, fun j hj => ?_⟩
      rw [hlen] at hj
      have := hc j (by omega)
      rw [List.getD_eq_getElem?_getD, List.getElem?_eq_getElem (show j < zs.length by omega)] at this
      rw [List.getElem_take]
      exact this
    · have := hwz x (List.mem_of_mem_take hx2)
      simpa [Lit.wf, IntKind.min, IntKind.max, IntKind.signed, IntKind.bits] using this


/-- An array of structs of five integers that reads as a table holds the table's numbers, cell for cell. -/
theorem cells_of_rows {H : Type} {enc : TypeId × Value → H} {P : Program} {w : World} {base : Nat} {sp : Nat → Bool} {held : Bool} {fuel : Nat} {t e i : TypeId} {n : Nat} {f0 f1 f2 f3 f4 : Field} {cs : List Value} {rows : List (List Int)} {p : List MemPlace}
    (ht : P.underlying t = some (.array n e)) (he : P.underlying e = some (.struct #[f0, f1, f2, f3, f4])) (hone : oneCellFields P #[f0, f1, f2, f3, f4] = true) (hC : P.cellsOf e = 5) (hct : P.cellsOf t = n * 5) (hi : P.underlying i = some (.int .i64))
    (h0 : f0.type = i) (h1 : f1.type = i) (h2 : f2.type = i) (h3 : f3.type = i) (h4 : f4.type = i)
    (h : DataW.trod enc P w base sp held fuel t cs = some (.agg (rows.map fun r => .agg (r.map fun z => .lit (.int .i64 z))), p)) :
    ∀ q j z, q < n → j < 5 → (rows.getD q []).getD j 0 = z → cs[q * 5 + j]? = some (.int .i64 z) := by
  intro q j z hq hj hz
  cases fuel with
  | zero => simp [DataW.trod] at h
  | succ fuel =>
    simp only [DataW.trod, ht, hC, hct] at h
    split at h
    · rename_i hl
      obtain ⟨xs, hm, hx⟩ := Option.map_eq_some_iff.1 h
      have hxs : xs.map (·.1) = rows.map fun r => (DataW.agg (r.map fun z => .lit (.int .i64 z)) : DataW H) := by
        have := congrArg Prod.fst hx
        simpa using this
      obtain ⟨b, hb, hf⟩ := Lib.mapM_at hm q q (by simp [hq])
      have hb1 : (xs.map (·.1))[q]? = some b.1 := by simp [hb]
      rw [hxs, List.getElem?_map] at hb1
      obtain ⟨r, hr, hr1⟩ := Option.map_eq_some_iff.1 hb1
      obtain ⟨ys, n', _, hy, hcl, hyl, hg⟩ := DataW.trod_struct he hf
      have hys : ys.map (·.1) = r.map fun z => (DataW.lit (.int .i64 z) : DataW H) := by
        rw [hy] at hr1
        simpa using hr1.symm
      have hrz : r.getD j 0 = z := by rw [← hz]; simp [List.getD, hr]
      have hjy : j < ys.length := by rw [hyl]; exact hj
      have hyj : ys[j]? = some ys[j] := List.getElem?_eq_getElem hjy
      have hrl : r.length = 5 := by have := congrArg List.length hys; rw [List.length_map, List.length_map, hyl] at this; exact this.symm
      have hlit : ys[j].1 = DataW.lit (.int .i64 z) := by
        have h5 : (ys.map (·.1))[j]? = some ys[j].1 := by simp [hyj]
        rw [hys, List.getElem?_map, List.getElem?_eq_getElem (by omega)] at h5
        simp only [Option.map_some, Option.some.injEq] at h5
        rw [← h5, ← hrz]
        simp [List.getD, show j < r.length by omega]
      have key : ∀ f : Field, (#[f0, f1, f2, f3, f4] : Array Field)[j]? = some f → f.type = i → cs[q * 5 + j]? = some (.int .i64 z) := by
        intro f hfj hft
        obtain ⟨ho, hk⟩ := hone_of hone j f hfj
        have h6 := hg j f hfj
        rw [hft] at h6 hk
        rw [hyj, ho, hk] at h6
        obtain ⟨z', hc, hd, _⟩ := DataW.trod_int hi h6
        have hzz : z' = z := by
          have := congrArg Prod.fst hd
          rw [hlit] at this
          simpa using this.symm
        subst hzz
        have := congrArg (·[0]?) hc
        simpa [List.getElem?_take, List.getElem?_drop, hj] using this
      match j, hj with
      | 0, _ => exact key f0 rfl h0
      | 1, _ => exact key f1 rfl h1
      | 2, _ => exact key f2 rfl h2
      | 3, _ => exact key f3 rfl h3
      | 4, _ => exact key f4 rfl h4
    · cases h

/-- The table's rows, as lists. -/
def rowsL : List (List Int) := [[0, 127, 0, 0, 0], [194, 223, 1, 128, 191], [224, 224, 2, 160, 191], [225, 236, 2, 128, 191], [237, 237, 2, 128, 159], [238, 239, 2, 128, 191], [240, 240, 3, 144, 191], [241, 243, 3, 128, 191], [244, 244, 3, 128, 143]]
theorem tabL_at : ∀ q, q < 9 → ∀ j, j < 5 → tabL[q * 5 + j]? = some (.int .i64 ((rowsL.getD q []).getD j 0)) := by
  intro q hq j hj
  obtain rfl | rfl | rfl | rfl | rfl | rfl | rfl | rfl | rfl : q = 0 ∨ q = 1 ∨ q = 2 ∨ q = 3 ∨ q = 4 ∨ q = 5 ∨ q = 6 ∨ q = 7 ∨ q = 8 := by omega
  all_goals
    obtain rfl | rfl | rfl | rfl | rfl : j = 0 ∨ j = 1 ∨ j = 2 ∨ j = 3 ∨ j = 4 := by omega
    all_goals rfl
/-- The row's condition lays both tables. -/
theorem tabs_of_laid {W : World} (h : laidMetH Tryd.prog Rows.utfEncodesRow.laid W) : Tabs W := by
  rw [MakeChecks.laidMetH_plain _ _ _ (by kernel_rfl)] at h
  obtain ⟨ps, ⟨g0, t0, cs0, f0, p0, q0, hg0, ht0, hv0, hd0, ⟨g1, t1, cs1, f1, p1, q1, hg1, ht1, hv1, hd1, _, _⟩, _⟩, _, _⟩ := h
  obtain rfl : g0 = 0 := Option.some.inj (hg0.symm.trans (by kernel_rfl))
  obtain rfl : g1 = 1 := Option.some.inj (hg1.symm.trans (by kernel_rfl))
  obtain rfl : t0 = 50 := Option.some.inj (ht0.symm.trans (by kernel_rfl))
  obtain rfl : t1 = 67 := Option.some.inj (ht1.symm.trans (by kernel_rfl))
  have k1 : cs1.toList = ([7, 5, 4, 3] : List Int).map fun z => Value.int .i64 z := Lib.cells_of_tab Tryd.underlying67 Tryd.underlying3 (by kernel_rfl) (by kernel_rfl) hd1
  have k0 := cells_of_rows (rows := rowsL) (i := 3) Tryd.underlying50 Tryd.underlying49 (by kernel_rfl) (by kernel_rfl) (by kernel_rfl) Tryd.underlying3 rfl rfl rfl rfl rfl hd0
  refine ⟨fun j v hv => ?_, fun k hk => ?_, ?_⟩
  · have hj : j < 45 := by
      rcases Nat.lt_or_ge j 45 with h | h
      · exact h
      · rw [List.getElem?_eq_none (by rw [tabL_len]; exact h)] at hv; cases hv
    have e : j = j / 5 * 5 + j % 5 := by omega
    have h1 := k0 (j / 5) (j % 5) _ (by omega) (by omega) rfl
    have h2 := tabL_at (j / 5) (by omega) (j % 5) (by omega)
    rw [← e] at h1 h2
    rw [h2] at hv
    rw [Nat.zero_add, World.var?_cell hg0 hv0 j, ← hv, ← h1]
    simp
  · rw [World.var?_cell hg1 hv1 k]
    have : cs1[k]? = cs1.toList[k]? := by simp
    rw [this, k1]
    obtain rfl | rfl | rfl | rfl : k = 0 ∨ k = 1 ∨ k = 2 ∨ k = 3 := by omega
    all_goals rfl
  · have h3 : W.cell? ⟨1, 0, none⟩ = some (.int .i64 7) := by
      rw [World.var?_cell hg1 hv1 0]
      have : cs1[0]? = cs1.toList[0]? := by simp
      rw [this, k1]
      rfl
    have := World.block_lt_of_cell? W _ h3
    exact this
/-- The door's own heap meets the condition. -/
theorem door_met (os : Os) (args : Array Value) : laidMetH Tryd.prog Rows.utfEncodesRow.laid ((World.doorLaid Tryd.prog 400 os).forCall (fun _ _ => 0) ⟨#[], args, []⟩).memory :=
  laidMetH_of_parts3 (fuel := 8) (laidMet_of_run' 8 (by kernel_rfl) (by kernel_rfl)) (by kernel_rfl) (by kernel_rfl)
end Go.Proofs.YtjhgboncipnkeaaDoor.Ut
