/- The build of a value of table.needs out of a table, and whole boxes of needs. -/
import Derived.Test.YtboaifdkoemnbaaJ7
import Derived.Laws.Tables
import Derived.Deep.WholeRow
namespace Go.Proofs.Ytboaifdkoemnbaa.Pk
set_option maxRecDepth 100000
open Go Go.RowKit Go.Proofs.Ytboaifdkoemnbaa.Sp Go.Proofs.Ytboaifdkoemnbaa.Pa Go.Proofs.Ytboaifdkoemnbaa.Te Go.Proofs.Ytboaifdkoemnbaa.Mi Go.Proofs.Ytboaifdkoemnbaa.De

theorem fill_list (xs : List Value) : ∀ (k : Nat) (acc : Array Value), k + xs.length ≤ acc.size → (xs.zipIdx k).foldl (fun cs (p : Value × Nat) => cs.setIfInBounds (0 + p.2) p.1) acc = (acc.toList.take k ++ xs ++ acc.toList.drop (k + xs.length)).toArray := by
  induction xs with
  | nil => intro k acc h; simp
  | cons x xs ih =>
    intro k acc h
    rw [List.zipIdx_cons, List.foldl_cons, ih (k + 1) _ (by simp only [List.length_cons] at h; simp; omega)]
    congr 1
    simp only [List.length_cons] at h
    have hk : k < acc.size := by omega
    simp only [Nat.zero_add, Array.toList_setIfInBounds]
    have e1 : (acc.toList.set k x).take (k + 1) = acc.toList.take k ++ [x] := by
      rw [List.take_succ_eq_append_getElem (by simp; omega), List.take_set_of_le (Nat.le_refl _)]
      simp
    have e2 : (acc.toList.set k x).drop (k + 1 + xs.length) = acc.toList.drop (k + (xs.length + 1)) := by
      rw [List.drop_set_of_lt (by omega)]
      congr 1
      omega
    rw [e1, e2]
    simp
theorem fill_arr (cs : List Value) (acc : Array Value) (h : cs.length ≤ acc.size) : (cs.toArray.zipIdx).foldl (fun cs (p : Value × Nat) => cs.setIfInBounds (0 + p.2) p.1) acc = (cs ++ acc.toList.drop cs.length).toArray := by
  rw [← Array.foldl_toList, Array.toList_zipIdx, List.toList_toArray]
  have := fill_list cs 0 acc (by omega)
  rw [this]
  simp
theorem needs_zero : Try.zeroCells66.toList.drop 259 = [.slice none 0 0, .slice none 0 0] := by kernel_rfl
theorem needs_zsize : Try.zeroCells66.size = 261 := by kernel_rfl
theorem needs_built (cs : List Value) (h : cs.length = 259) : Try.prog.built 66 [(0, .agg cs.toArray)] = some (cs ++ [Value.slice none 0 0, Value.slice none 0 0]).toArray := by
  have e : Try.prog.built 66 [(0, .agg cs.toArray)] = Instr.fill (fun x => (#[(0, 259), (259, 1), (260, 1)] : Array (Nat × Nat))[x]?) Try.zeroCells66 [(0, .agg cs.toArray)] := by kernel_rfl
  rw [e]
  unfold Instr.fill
  have hs : (Value.agg cs.toArray).cells = cs.toArray := rfl
  have hz : cs.toArray.size = 259 := by simp [h]
  have hf := fill_arr cs Try.zeroCells66 (by rw [h, needs_zsize]; omega)
  rw [h, needs_zero] at hf
  simp only [hs, hz, needs_zsize]
  show (if (decide (259 ≠ 259) || decide (0 + 259 > 261)) = true then none else some ((cs.toArray.zipIdx).foldl (fun cs (p : Value × Nat) => cs.setIfInBounds (0 + p.2) p.1) Try.zeroCells66)) = _
  rw [hf, if_neg (by decide)]
/-- What acts and ends need, as a value with its memory. -/
structure NV where
  t : TV
  va : Value
  ve : Value
def NV.cells (n : NV) : List Value := n.t.cells ++ [n.va, n.ve]
def NV.val (n : NV) : Value := .agg n.cells.toArray
theorem NV.length {n : NV} (h : n.t.T.cls.length = 256) : n.cells.length = 261 := by unfold NV.cells; rw [List.length_append, TV.length h]; rfl
theorem NV.size {n : NV} (h : n.t.T.cls.length = 256) : (Try.prog.info? 66).map (·.size) = some n.cells.toArray.size := by rw [List.size_toArray, NV.length h]; kernel_rfl
/-- The box of needs. -/
def NBox (w : World) (x : Nat) (n : NV) : Prop := w.heap[x]? = some (.cells n.cells.toArray 66 (0, 0))
section
variable {w w' : World} {x : Nat} {n : NV}
theorem NBox.lt (h : NBox w x n) : x < w.heap.size := (Array.getElem?_eq_some_iff.1 h).1
theorem NBox.keep (h : NBox w x n) (hk : w'.heap[x]? = w.heap[x]?) : NBox w' x n := hk.trans h
theorem NBox.cell (h : NBox w x n) (j : Nat) : w.cell? ⟨x, j, none⟩ = n.cells[j]? := by
  rw [cell_of_row w x j _ _ _ h]
  simp
theorem NBox.frozen (h : NBox w x n) (j : Nat) : w.frozen? ⟨x, j, none⟩ = false := by simp [World.frozen?, show w.heap[x]? = _ from h]
theorem NV.at_tab (n : NV) (h : n.t.T.cls.length = 256) {j : Nat} (hj : j < 259) : n.cells[j]? = n.t.cells[j]? := by
  unfold NV.cells
  rw [List.getElem?_append_left (by rw [TV.length h]; exact hj)]
theorem NV.at_a (n : NV) (h : n.t.T.cls.length = 256) : n.cells[259]? = some n.va := by
  unfold NV.cells
  rw [List.getElem?_append_right (by rw [TV.length h]; omega), TV.length h]
  rfl
theorem NV.at_e (n : NV) (h : n.t.T.cls.length = 256) : n.cells[260]? = some n.ve := by
  unfold NV.cells
  rw [List.getElem?_append_right (by rw [TV.length h]; omega), TV.length h]
  rfl
theorem NBox.cA (h : NBox w x n) (hc : n.t.T.cls.length = 256) : w.cell? ⟨x, 256, none⟩ = some (.slice n.t.A n.t.T.nodes.length n.t.ca) := (h.cell 256).trans ((NV.at_tab n hc (by omega)).trans (TV.at_A hc))
theorem NBox.ca (h : NBox w x n) (hc : n.t.T.cls.length = 256) : w.cell? ⟨x, 259, none⟩ = some n.va := (h.cell 259).trans (NV.at_a n hc)
theorem NBox.ce (h : NBox w x n) (hc : n.t.T.cls.length = 256) : w.cell? ⟨x, 260, none⟩ = some n.ve := (h.cell 260).trans (NV.at_e n hc)
theorem NBox.boxed (w : World) (n : NV) : NBox (w.alloc (.cells n.cells.toArray 66)) w.heap.size n := heap_alloc_new w _
theorem setCell_block (w : World) (x j : Nat) (v : Value) (cs : Array Value) (T : TypeId) (h : w.heap[x]? = some (.cells cs T (0, 0))) : (w.setCell ⟨x, j, none⟩ v).heap[x]? = some (.cells (cs.setIfInBounds j v) T (0, 0)) := by
  obtain ⟨hlt, hk⟩ := Array.getElem?_eq_some_iff.1 h
  show (w.heap.modify x _)[x]? = _
  rw [Array.getElem?_eq_getElem (by rw [Array.size_modify]; exact hlt), Array.getElem_modify_self, hk]
  rfl
theorem NBox.setA (h : NBox w x n) (hc : n.t.T.cls.length = 256) (v : Value) : NBox (w.setCell ⟨x, 259, none⟩ v) x ⟨n.t, v, n.ve⟩ := by
  have := setCell_block w x 259 v _ _ h
  rw [show n.cells.toArray.setIfInBounds 259 v = (NV.cells ⟨n.t, v, n.ve⟩).toArray from by
    rw [List.setIfInBounds_toArray]
    unfold NV.cells
    rw [List.set_append_right _ _ (by rw [TV.length hc]; omega), TV.length hc]
    rfl] at this
  exact this
theorem NBox.setE (h : NBox w x n) (hc : n.t.T.cls.length = 256) (v : Value) : NBox (w.setCell ⟨x, 260, none⟩ v) x ⟨n.t, n.va, v⟩ := by
  have := setCell_block w x 260 v _ _ h
  rw [show n.cells.toArray.setIfInBounds 260 v = (NV.cells ⟨n.t, n.va, v⟩).toArray from by
    rw [List.setIfInBounds_toArray]
    unfold NV.cells
    rw [List.set_append_right _ _ (by rw [TV.length hc]; omega), TV.length hc]
    rfl] at this
  exact this
end
end Go.Proofs.Ytboaifdkoemnbaa.Pk
