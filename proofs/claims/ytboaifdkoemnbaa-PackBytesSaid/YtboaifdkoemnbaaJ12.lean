/- What table.needsOf keeps: the box of needs with its two rows; operations on whole boxes. -/
import Derived.Test.YtboaifdkoemnbaaJ8
import Derived.Test.YtboaifdkoemnbaaJ11
import Derived.Laws.OwnMore
import Derived.Deep.AppendLies
import Derived.BigFrame
namespace Go.Proofs.Ytboaifdkoemnbaa.Pk
set_option maxRecDepth 100000
open Go Go.RowKit Go.Proofs.Ytboaifdkoemnbaa.Sp Go.Proofs.Ytboaifdkoemnbaa.Pa Go.Proofs.Ytboaifdkoemnbaa.Te Go.Proofs.Ytboaifdkoemnbaa.Mi Go.Proofs.Ytboaifdkoemnbaa.De

theorem oneCells {t : TV} : t.cells.toArray.all (·.oneCell') = true := by
  rw [Array.all_eq_true_iff_forall_mem]
  intro v hv
  rw [List.mem_toArray] at hv
  unfold TV.cells tabV clsV at hv
  rcases List.mem_append.1 hv with h | h
  · obtain ⟨c, _, rfl⟩ := List.mem_map.1 h
    rfl
  · simp only [List.mem_cons, List.not_mem_nil, or_false] at h
    rcases h with rfl | rfl | rfl <;> rfl
theorem oneCellsN {n : NV} (ha : n.va.oneCell' = true) (he : n.ve.oneCell' = true) : n.cells.toArray.all (·.oneCell') = true := by
  have h := @oneCells n.t
  rw [Array.all_eq_true_iff_forall_mem] at h ⊢
  intro v hv
  rw [List.mem_toArray] at hv
  unfold NV.cells at hv
  rcases List.mem_append.1 hv with q | q
  · exact h v (by rw [List.mem_toArray]; exact q)
  · simp only [List.mem_cons, List.not_mem_nil, or_false] at q
    rcases q with rfl | rfl
    · exact ha
    · exact he
theorem own_one {w : World} {base e size n : Nat} {v : Value} {xs : List Value} (h : w.ownsRow base e size v n xs) : v.oneCell' = true := by
  rcases h.2 with ⟨rfl, _⟩ | ⟨g, cap, cur, rfl, _⟩ <;> rfl
section
variable {w : World} {ops : Array Oper} {rest : List Oper} {o : Oper} {a : Act} {Q : Exit → Act → World → Prop}
theorem build_needs (hgd : o.guard = none) (x : Operand) (ho : o.op = .build 66 #[(0, x)]) (t : TV) (ht : t.T.cls.length = 256) (hx : a.eval x = t.val)
    (hk : wpList Try.prog ops Q rest (a.put o.dst (NV.val ⟨t, .slice none 0 0, .slice none 0 0⟩)) w) : wpList Try.prog ops Q (o :: rest) a w := by
  have hb := needs_built t.cells (TV.length ht)
  refine wpList_plain hgd fun K hK => wp_build 66 #[(0, x)] ho ?_ ?_
  · simp only [List.map_toArray, List.map_cons, List.map_nil, hx]
    rw [show (t.val) = .agg t.cells.toArray from rfl, hb]
    rfl
  · simp only [List.map_toArray, List.map_cons, List.map_nil, hx]
    rw [show (t.val) = .agg t.cells.toArray from rfl, hb]
    exact hK _ _ hk
/-- A whole value of needs is stored into a block of its own. -/
theorem store_needs (hgd : o.guard = none) (x y : Operand) (ho : o.op = .store 66 x y) (g : Nat) (n : NV) (ht : n.t.T.cls.length = 256) (ha : n.va.oneCell' = true) (he : n.ve.oneCell' = true)
    (hx : a.eval x = .pointer (some ⟨g, 0, none⟩)) (hy : a.eval y = n.val) (old : Array Value) (hg : w.heap[g]? = some (.cells old 66 (0, 0))) (hold : old.size = 261)
    (hk : ∀ w', NBox w' g n → Below g w w' → w'.heap.size = w.heap.size → (∀ b, b ≠ g → w'.heap[b]? = w.heap[b]?) → wpList Try.prog ops Q rest (a.put o.dst undef) w') : wpList Try.prog ops Q (o :: rest) a w :=
  wpList_store_row hgd _ x y ho g n.cells.toArray hx hy _ old hg (NV.size ht) (hold.trans (by rw [List.size_toArray, NV.length ht])) (oneCellsN ha he)
    (hk _ (setRow_heap w g old _ _ _ hg) ⟨rfl, rfl, rfl, by simp, fun k hk' => setRow_other w g k _ (by omega)⟩ (by simp) (fun b hb => setRow_other w g b _ hb))
theorem load_needs (hgd : o.guard = none) (x : Operand) (ho : o.op = .load 66 x) (g : Nat) (n : NV) (ht : n.t.T.cls.length = 256) (h : NBox w g n) (hx : a.eval x = .pointer (some ⟨g, 0, none⟩))
    (hk : wpList Try.prog ops Q rest (a.put o.dst n.val) w) : wpList Try.prog ops Q (o :: rest) a w :=
  wpList_load_row hgd _ x ho g hx _ _ _ (.struct (Try.prog.fieldsOf 66)) h (by kernel_rfl) rfl (NV.size ht) hk
end
theorem ownsRow_keep {w w' : World} {base : Nat} {e : TypeId} {size : Nat} {v : Value} {n : Nat} {xs : List Value} (h : w.ownsRow base e size v n xs) (hk : ∀ g, v.ownBlock = some g → w'.heap[g]? = w.heap[g]?) : w'.ownsRow base e size v n xs := by
  refine ⟨h.1, ?_⟩
  rcases h.2 with h2 | ⟨g, cap, cur, rfl, hg, hr, hrest⟩
  · exact .inl h2
  · exact .inr ⟨g, cap, cur, rfl, hg, (hk g rfl).trans hr, hrest⟩
/-- The two rows that grow, the box that leads to them, the cell of the result: behind the table's box H. -/
structure NS (H : Nat) (w1 : World) (t : TV) (va ve : Value) (la le : List Int) (w : World) : Prop where
  box : NBox w (H + 1 + 1) ⟨t, va, ve⟩
  rowA : OwnsI w (H + 1 + 1 + 1) va la
  rowE : OwnsI w (H + 1 + 1 + 1) ve le
  apart : ∀ g, va.ownBlock = some g → ve.ownBlock ≠ some g
  res : w.heap[H + 1]? = some (.cells Try.zeroCells66 66 (0, 0))
  low : Below (H + 1) w1 w
  size : H + 1 + 1 + 1 ≤ w.heap.size
section
variable {H : Nat} {w1 w w' : World} {t : TV} {va ve : Value} {la le : List Int}
theorem ownsI_keep {base : Nat} {v : Value} {l : List Int} (h : OwnsI w base v l) (hb : Below w.heap.size w w') : OwnsI w' base v l :=
  World.ownsRow.kept h (row := none) ⟨hb.os, hb.tape, hb.output, hb.size, fun k hk _ => hb.block k hk⟩ (by cases v.ownBlock <;> simp)
theorem NS.keep (h : NS H w1 t va ve la le w) (hb : Below w.heap.size w w') : NS H w1 t va ve la le w' where
  box := h.box.keep (hb.block _ h.box.lt)
  rowA := ownsI_keep h.rowA hb
  rowE := ownsI_keep h.rowE hb
  apart := h.apart
  res := (hb.block _ (by have := h.size; omega)).trans h.res
  low := h.low.trans (hb.mono (by have := h.size; omega))
  size := Nat.le_trans h.size hb.size
theorem NS.pushA (h : NS H w1 t va ve la le w) (hc : t.T.cls.length = 256) {x : Int} {w7 : World} {gg capg HH : Nat} (ho : w7.ownsRow (H + 1 + 1 + 1) 3 1 (.slice (some ⟨gg, 0, none⟩) (la.length + 1) capg) (la.length + 1) (la.map (Value.int .i64) ++ [.int .i64 x])) (hg : w.grownBy w7 va.ownBlock) (hat : va.ownBlock = some gg ∨ gg = HH) (hH : w.heap.size ≤ HH) :
    NS H w1 t (.slice (some ⟨gg, 0, none⟩) (la.length + 1) capg) ve (la ++ [x]) le (w7.setCell ⟨H + 1 + 1, 259, none⟩ (.slice (some ⟨gg, 0, none⟩) (la.length + 1) capg)) := by
  have hown : ∀ k, va.ownBlock = some k → H + 1 + 1 + 1 ≤ k ∧ k < w.heap.size := fun k e => World.ownsRow.lt h.rowA k e
  have hownE : ∀ k, ve.ownBlock = some k → H + 1 + 1 + 1 ≤ k ∧ k < w.heap.size := fun k e => World.ownsRow.lt h.rowE k e
  have hsz := h.size
  have hset : ∀ k, k ≠ H + 1 + 1 → (w7.setCell ⟨H + 1 + 1, 259, none⟩ (.slice (some ⟨gg, 0, none⟩) (la.length + 1) capg)).heap[k]? = w7.heap[k]? := fun k hk => Below.heap_setCell w7 _ _ k hk
  have hlow : ∀ k, k < H + 1 + 1 + 1 → w7.heap[k]? = w.heap[k]? := fun k hk => hg.block k (by omega) (fun e => by have := hown k e.symm; omega)
  have hss : (w7.setCell ⟨H + 1 + 1, 259, none⟩ (.slice (some ⟨gg, 0, none⟩) (la.length + 1) capg)).heap.size = w7.heap.size := by simp
  refine ⟨(h.box.keep (hlow _ (by omega))).setA hc _, ?_, ?_, ?_, ?_, ?_, ?_⟩
  · unfold OwnsI
    rw [List.length_append, List.map_append]
    exact ownsRow_keep ho fun k e => hset k (by have := World.ownsRow.lt ho k e; omega)
  · refine ownsRow_keep h.rowE fun k e => ?_
    rw [hset k (by have := hownE k e; omega)]
    exact hg.block k (hownE k e).2 (fun q => h.apart k q.symm e)
  · intro g e q
    have e' : gg = g := by simpa [Value.ownBlock] using e
    subst e'
    rcases hat with k | k
    · exact h.apart gg k q
    · have := (hownE gg q).2
      omega
  · rw [hset _ (by omega), hlow _ (by omega)]
    exact h.res
  · refine h.low.trans ⟨hg.os, hg.tape, hg.output, by rw [hss]; exact hg.size, fun k hk => ?_⟩
    rw [hset k (by omega)]
    exact hlow k (by omega)
  · rw [hss]
    exact Nat.le_trans hsz hg.size
theorem NS.pushE (h : NS H w1 t va ve la le w) (hc : t.T.cls.length = 256) {x : Int} {w7 : World} {gg capg HH : Nat} (ho : w7.ownsRow (H + 1 + 1 + 1) 3 1 (.slice (some ⟨gg, 0, none⟩) (le.length + 1) capg) (le.length + 1) (le.map (Value.int .i64) ++ [.int .i64 x])) (hg : w.grownBy w7 ve.ownBlock) (hat : ve.ownBlock = some gg ∨ gg = HH) (hH : w.heap.size ≤ HH) :
    NS H w1 t va (.slice (some ⟨gg, 0, none⟩) (le.length + 1) capg) la (le ++ [x]) (w7.setCell ⟨H + 1 + 1, 260, none⟩ (.slice (some ⟨gg, 0, none⟩) (le.length + 1) capg)) := by
  have hown : ∀ k, va.ownBlock = some k → H + 1 + 1 + 1 ≤ k ∧ k < w.heap.size := fun k e => World.ownsRow.lt h.rowA k e
  have hownE : ∀ k, ve.ownBlock = some k → H + 1 + 1 + 1 ≤ k ∧ k < w.heap.size := fun k e => World.ownsRow.lt h.rowE k e
  have hsz := h.size
  have hset : ∀ k, k ≠ H + 1 + 1 → (w7.setCell ⟨H + 1 + 1, 260, none⟩ (.slice (some ⟨gg, 0, none⟩) (le.length + 1) capg)).heap[k]? = w7.heap[k]? := fun k hk => Below.heap_setCell w7 _ _ k hk
  have hlow : ∀ k, k < H + 1 + 1 + 1 → w7.heap[k]? = w.heap[k]? := fun k hk => hg.block k (by omega) (fun e => by have := hownE k e.symm; omega)
  have hss : (w7.setCell ⟨H + 1 + 1, 260, none⟩ (.slice (some ⟨gg, 0, none⟩) (le.length + 1) capg)).heap.size = w7.heap.size := by simp
  refine ⟨(h.box.keep (hlow _ (by omega))).setE hc _, ?_, ?_, ?_, ?_, ?_, ?_⟩
  · refine ownsRow_keep h.rowA fun k e => ?_
    rw [hset k (by have := hown k e; omega)]
    exact hg.block k (hown k e).2 (fun q => h.apart k e q.symm)
  · unfold OwnsI
    rw [List.length_append, List.map_append]
    exact ownsRow_keep ho fun k e => hset k (by have := World.ownsRow.lt ho k e; omega)
  · intro g e q
    have e' : gg = g := by simpa [Value.ownBlock] using q
    subst e'
    rcases hat with k | k
    · exact h.apart gg e k
    · have := (hown gg e).2
      omega
  · rw [hset _ (by omega), hlow _ (by omega)]
    exact h.res
  · refine h.low.trans ⟨hg.os, hg.tape, hg.output, by rw [hss]; exact hg.size, fun k hk => ?_⟩
    rw [hset k (by omega)]
    exact hlow k (by omega)
  · rw [hss]
    exact Nat.le_trans hsz hg.size
end
/-- The needs of the first k acts, of the first k ends. -/
def NeedA (T : TabL) (la : List Int) (k : Nat) : Prop := la.length = k ∧ ∀ j a, j < k → T.acts[j]? = some a → ∃ n : Nat, NeedIs a.2.2 n ∧ la[j]? = some (max a.1 (n : Int))
def NeedE (T : TabL) (le : List Int) (k : Nat) : Prop := le.length = k ∧ ∀ j l, j < k → T.ends[j]? = some l → ∃ n : Nat, NeedIs l n ∧ le[j]? = some (n : Int)
theorem NeedA.snoc {T : TabL} {la : List Int} {k n : Nat} {a : AcL} (h : NeedA T la k) (ha : T.acts[k]? = some a) (hn : NeedIs a.2.2 n) {x : Int} (hx : x = max a.1 (n : Int)) : NeedA T (la ++ [x]) (k + 1) := by
  refine ⟨by rw [List.length_append, h.1]; rfl, fun j b hj hb => ?_⟩
  rcases Nat.lt_or_ge j k with q | q
  · obtain ⟨m, h1, h2⟩ := h.2 j b q hb
    exact ⟨m, h1, by rw [List.getElem?_append_left (by rw [h.1]; exact q)]; exact h2⟩
  · obtain rfl : j = k := by omega
    rw [ha] at hb
    injection hb with hb
    subst hb
    exact ⟨n, hn, by rw [List.getElem?_append_right (by rw [h.1]; omega), h.1, Nat.sub_self, hx]; rfl⟩
theorem NeedE.snoc {T : TabL} {le : List Int} {k n : Nat} {l : List TmL} (h : NeedE T le k) (hl : T.ends[k]? = some l) (hn : NeedIs l n) : NeedE T (le ++ [(n : Int)]) (k + 1) := by
  refine ⟨by rw [List.length_append, h.1]; rfl, fun j b hj hb => ?_⟩
  rcases Nat.lt_or_ge j k with q | q
  · obtain ⟨m, h1, h2⟩ := h.2 j b q hb
    exact ⟨m, h1, by rw [List.getElem?_append_left (by rw [h.1]; exact q)]; exact h2⟩
  · obtain rfl : j = k := by omega
    rw [hl] at hb
    injection hb with hb
    subst hb
    exact ⟨n, hn, by rw [List.getElem?_append_right (by rw [h.1]; omega), h.1, Nat.sub_self]; rfl⟩
end Go.Proofs.Ytboaifdkoemnbaa.Pk
