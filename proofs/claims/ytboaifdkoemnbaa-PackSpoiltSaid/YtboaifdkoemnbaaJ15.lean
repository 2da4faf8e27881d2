/- Texts of this proof, joined: PkReadD, PkReadS. -/
import Derived.Test.YtboaifdkoemnbaaJ7
import Derived.Test.YtboaifdkoemnbaaJ13
import Derived.Test.YtboaifdkoemnbaaJ14
import Derived.Deep.OwnRows
import Derived.Deep.RegionHeld3
import Derived.Deep.RegionLaw
import Derived.Deep.DeepCutAuto
import Derived.Tactics2
import Derived.Laws.CopyRow
import Derived.Laws.IdiomCopy
/- The walk of (*pack.reader).node. -/
namespace Go.Proofs.Ytboaifdkoemnbaa.Pk
set_option maxRecDepth 100000
set_option linter.unusedSimpArgs false
open Go Go.RowKit Go.Proofs.Ytboaifdkoemnbaa.Sp Go.Proofs.Ytboaifdkoemnbaa.Pa Go.Proofs.Ytboaifdkoemnbaa.Te Go.Proofs.Ytboaifdkoemnbaa.Mi Go.Proofs.Ytboaifdkoemnbaa.De Go.Proofs.Ytboaifdkoemnbaa.Wo

theorem LeftLe.node (m : Nat) : LeftLe (rdNode m) := LeftLe.num.then_ fun _ => LeftLe.num.then_ fun _ => LeftLe.num.many m
/-- A node's box. -/
def DBoxN (w : World) (y : Nat) (a : Int) (v : Value) (b : Int) : Prop := w.heap[y]? = some (.cells #[.int .i64 a, v, .int .i64 b] 45 (0, 0))
theorem DBoxN.cells {w : World} {y : Nat} {a b : Int} {v : Value} (h : DBoxN w y a v b) : w.cell? ⟨y, 0, none⟩ = some (.int .i64 a) ∧ w.cell? ⟨y, 1, none⟩ = some v ∧ w.cell? ⟨y, 2, none⟩ = some (.int .i64 b) := by
  refine ⟨?_, ?_, ?_⟩ <;> (rw [cell_of_row w y _ _ _ _ h]; rfl)
theorem DBoxN.lt {w : World} {y : Nat} {a b : Int} {v : Value} (h : DBoxN w y a v b) : y < w.heap.size := (Array.getElem?_eq_some_iff.1 h).1
/-- The numbers of a node so far. -/
def nxC (l : List Int) (m : Nat) : List Value := l.map (Value.int .i64) ++ List.replicate (m - l.length) (.int .i64 0)
/-- Behind the node's making: its box y leads to a row g of m numbers. -/
structure NdS (x B0 H y g m : Nat) (a b : Int) (l : List Int) (s : Rd) (w0 w : World) : Prop where
  box : DBoxN w y a (.slice (some ⟨g, 0, none⟩) m m) b
  row : w.ownsRow H 3 1 (.slice (some ⟨g, 0, none⟩) m m) m (nxC l m)
  ne : y ≠ g
  yH : H < y
  gH : H < g
  rd : RdS x B0 s w
  keep : KeepR x w0 w
theorem own_keep1 {w w' : World} {B g n m c : Nat} {cells : List Value} (h : w.ownsRow B 3 1 (.slice (some ⟨g, 0, none⟩) m c) n cells) (hg : w'.heap[g]? = w.heap[g]?) : w'.ownsRow B 3 1 (.slice (some ⟨g, 0, none⟩) m c) n cells :=
  ownsRow_keep h fun q e => by
    have e' : q = g := by simpa [Value.ownBlock, eq_comm] using e
    rw [e']; exact hg
def NodeR (x B0 : Nat) (r : NdL × Rd) (w : World) (en : Ending) (w' : World) : Prop := ∃ A c, en = .returned (.agg #[.int .i64 r.1.1, .slice A r.1.2.2.length c, .int .i64 r.1.2.1]) ∧ FarE eInt (fun b => w.heap.size ≤ b) w' A r.1.2.2 ∧ r.1.2.2.length ≤ c ∧ (∀ z ∈ r.1.2.2, IntR z) ∧ RdS x B0 r.2 w' ∧ KeepR x w w'
theorem NdS.drew {x B0 H y g m : Nat} {a b : Int} {l : List Int} {s : Rd} {w0 w : World} (h : NdS x B0 H y g m a b l s w0 w) : NdS x B0 H y g m a b l s w0 w.drew :=
  have hb : Below w.heap.size w w.drew := (Below.refl _ _).drew
  ⟨(hb.block y h.box.lt).trans h.box, own_keep1 h.row (hb.block g (World.ownsRow.lt h.row g rfl).2), h.ne, h.yH, h.gH, h.rd.keep hb, h.keep.trans (KeepR.below hb)⟩
theorem NdS.moved {x B0 H y g m : Nat} {a b : Int} {l : List Int} {s s' : Rd} {w0 w w' : World} (h : NdS x B0 H y g m a b l s w0 w) (hr : RdS x B0 s' w') (hk : KeepR x w w') (hxH : x < H) : NdS x B0 H y g m a b l s' w0 w' :=
  ⟨(hk.block y h.box.lt (by have := h.yH; omega)).trans h.box, own_keep1 h.row (hk.block g (World.ownsRow.lt h.row g rfl).2 (by have := h.gH; omega)), h.ne, h.yH, h.gH, hr, h.keep.trans hk⟩
theorem nxC_at (l : List Int) (m k : Nat) (hl : l.length = k) (hk : k < m) : (nxC l m)[k]? = some (.int .i64 0) := by
  unfold nxC
  rw [List.getElem?_append_right (by simp; omega), List.length_map, hl, Nat.sub_self, List.getElem?_replicate]
  simp; omega
theorem IntR.num (s : Rd) (h : ∀ y ∈ s.left, y < 256) : IntR (rdNum s).1 := by
  have := sgn_in (n := accL (rdBytes 4 s).1)
  rw [(rdNum_bytes s).1]
  unfold IntR
  have hb : ∀ b ∈ (rdBytes 4 s).1, b < 256 := by
    unfold rdBytes
    split
    · exact fun b hb => h b (List.mem_of_mem_take hb)
    · exact fun b hb => (List.not_mem_nil hb).elim
  have h4 : (rdBytes 4 s).1.length ≤ 4 := by rcases (rdNum_bytes s).2.2 with q | q <;> omega
  have := this (Nat.lt_of_lt_of_le (accL_lt _ hb) (Nat.pow_le_pow_right (by decide) h4))
  unfold In32 at this
  omega
theorem rdNum_lt (s : Rd) (h : ∀ y ∈ s.left, y < 256) : ∀ y ∈ (rdNum s).2.left, y < 256 := (rdNum_tells s h).1
theorem many_in : ∀ (m : Nat) (s : Rd) (_ : ∀ y ∈ s.left, y < 256), ∀ z ∈ (rdMany rdNum m s).1, IntR z
  | 0, _, _, z, hz => by simp [rdMany] at hz
  | m + 1, s, h, z, hz => by
    rcases List.mem_cons.1 hz with rfl | hz
    · exact IntR.num s h
    · exact many_in m _ (rdNum_lt s h) z hz
theorem nxC_set (l : List Int) (m : Nat) (z : Int) (h : l.length < m) : (nxC l m).set l.length (.int .i64 z) = nxC (l ++ [z]) m := by
  unfold nxC
  obtain ⟨d, hd⟩ : ∃ d, m - l.length = d + 1 := ⟨m - l.length - 1, by omega⟩
  rw [List.length_append, List.length_singleton, hd, show m - (l.length + 1) = d by omega, List.map_append, List.replicate_succ, List.set_append, if_neg (by simp), List.length_map, Nat.sub_self, List.set_cons_zero, List.append_assoc]
  rfl
theorem NdS.stored {x B0 H y g m : Nat} {a b z : Int} {l : List Int} {s : Rd} {w0 w : World} (h : NdS x B0 H y g m a b l s w0 w) (hxH : x < H) (hH : w0.heap.size = H + 1) (hl : l.length < m) :
    NdS x B0 H y g m a b (l ++ [z]) s w0 (w.setCell ⟨g, l.length, none⟩ (.int .i64 z)) := by
  have hs := (World.ownsRow.stored h.row l.length (.int .i64 z))
  rw [nxC_set l m z hl] at hs
  have hne : ∀ b, b ≠ g → (w.setCell ⟨g, l.length, none⟩ (.int .i64 z)).heap[b]? = w.heap[b]? := fun b hb => heap_setCell_other w ⟨g, l.length, none⟩ b _ (fun e => hb e)
  have hgH := h.gH
  obtain ⟨A, c, q1, q2, q3⟩ := h.rd.box
  have hlow := h.rd.low
  refine ⟨(hne y h.ne).trans h.box, hs.1, h.ne, h.yH, h.gH, ⟨⟨A, c, (hne x (by omega)).trans q1, q2.keep fun p hp => World.cell?_of_block (hne p.block (by omega)), q3⟩, hlow, h.rd.byte⟩, h.keep.grown hs.2 (fun q e => by injection e with e; omega)⟩
theorem NdS.result {x B0 H y g m : Nat} {a b : Int} {l : List Int} {s : Rd} {w w1 wr : World} (h : NdS x B0 H y g m a b l s w1 wr) (hxH : x < H) (hH : w.heap.size = H) (hb : Below w.heap.size w w1) (hl : l.length = m) (hi : ∀ z ∈ l, IntR z) (C : Array Value) :
    NodeR x B0 ((a, b, l), s) w (.returned (.agg #[.int .i64 a, .slice (some ⟨g, 0, none⟩) m m, .int .i64 b])) (wr.setRow H C) := by
  subst hl
  have hg := World.ownsRow.lt h.row g rfl
  have hgH := h.gH
  have hlow := h.rd.low
  have ho : ∀ k, k ≠ H → (wr.setRow H C).heap[k]? = wr.heap[k]? := fun k hk => setRow_other wr H k C hk
  have hrow := own_keep1 h.row (ho g (by omega))
  obtain ⟨A, c, q1, q2, q3⟩ := h.rd.box
  refine ⟨some ⟨g, 0, none⟩, l.length, rfl, fun hn => ⟨g, 0, rfl, by omega, (World.ownsRow.lt hrow g rfl).2, fun j hj => ⟨[.int .i64 l[j]], fun i u hu => ?_, rfl⟩⟩, Nat.le_refl _, hi, ⟨⟨A, c, (ho x (by omega)).trans q1, q2.keep fun p hp => World.cell?_of_block (ho p.block (by omega)), q3⟩, hlow, h.rd.byte⟩, ⟨h.keep.os.trans hb.os, h.keep.tape.trans hb.tape, h.keep.output.trans hb.output, ?_, fun k hk hx => ?_⟩⟩
  · obtain ⟨rfl, rfl⟩ : i = 0 ∧ u = .int .i64 l[j] := by
      cases i with
      | zero => exact ⟨rfl, by simpa using hu.symm⟩
      | succ i => simp at hu
    have hcell := World.ownsRow.cellAt hrow j (by have : j < l.length := hj; omega)
    rw [show (0 : Nat) + j * eInt.sz + 0 = j from by show 0 + j * 1 + 0 = j; omega, hcell]
    unfold nxC
    rw [List.getElem?_append_left (by simpa using hj), List.getElem?_map, List.getElem?_eq_getElem (by exact hj)]
    rfl
  · have h1 : (wr.setRow H C).heap.size = wr.heap.size := by simp
    rw [h1]
    exact Nat.le_trans hb.size h.keep.size
  · exact (ho k (by omega)).trans ((h.keep.block k (Nat.lt_of_lt_of_le hk hb.size) hx).trans (hb.block k hk))
set_option maxHeartbeats 16000000 in
theorem rnode_any (x B0 m : Nat) (s : Rd) (w : World) (h : RdS x B0 s w) (hm : m ≤ 256) :
    Calls Try.prog 40 #[.pointer (some ⟨x, 0, none⟩), .int .i64 (m : Int)] w (NodeR x B0 (rdNode m s) w) := by
  have hxl := h.lt
  obtain ⟨i0, hi0, hz0, hz1, hz2⟩ := info_parts infoIntP
  obtain ⟨H, hH⟩ : ∃ H, w.heap.size = H := ⟨_, rfl⟩
  obtain ⟨w1, hw1⟩ : ∃ w1, w.alloc (.cells #[.int .i64 0, .slice none 0 0, .int .i64 0] 45) = w1 := ⟨_, rfl⟩
  have hb1 : Below w.heap.size w w1 := by rw [← hw1]; exact (Below.refl _ _).alloc (Nat.le_refl _) _
  have HRES := Lib.hid (show w1.heap[H]? = some (.cells #[.int .i64 0, .slice none 0 0, .int .i64 0] 45 (0, 0)) from by rw [← hw1, ← hH]; exact heap_alloc_new w _)
  have hs1 : w1.heap.size = H + 1 := by rw [← hw1, ← hH]; simp
  have HB1 := Lib.hid hb1
  have HRD := Lib.hid (h.keep hb1)
  have HS := Lib.hid hH
  rw [hH] at hxl
  clear h hb1
  go_enter Try.func40, Try.ntmps40
  go_upto_region 1 with (fail)
  go_cut [5] (fun v wx => ∃ y g, v = .pointer (some ⟨y, 0, none⟩) ∧ NdS x B0 H y g m (rdNum s).1 (rdNum (rdNum s).2).1 [] (rdNum (rdNum s).2).2 w1 wx)
  case first =>
    obtain ⟨we, hwe⟩ : ∃ we, w1.drew = we := ⟨_, rfl⟩
    have hbe : Below w1.heap.size w1 we := by rw [← hwe]; exact (Below.refl _ _).drew
    have hse : we.heap.size = H + 1 := by rw [← hwe]; exact hs1
    have hRd := HRD.out.keep hbe
    have hKR : KeepR x w1 we := KeepR.below hbe
    have hz : H + 1 ≤ we.heap.size := by omega
    refine wp_region_held_drew (S := fun _ => True) (by kernel_rfl) trivial (fun hHeld => ?_)
    rw [hwe]
    clear hse
    refine wpAnyH_take (i := 0) (oi := { dst := some 7, op := Go.Op.move (Go.Operand.tmp 0), type := 79, pos := "reader.go:66", after := #[], guard := none }) (v := ?_) rfl (by kernel_rfl) (by kernel_rfl) (by kernel_rfl) (fun _ _ _ h => h) (Or.inl ⟨by rfl, ?_⟩) (by assumption) ?_
    rotate_left
    · intro w' hSw
      (try dsimp only at hSw)
      go_simp
      all_goals with_reducible rfl
    try simp only [Act.put, List.setIfInBounds_toArray, List.set_cons_zero, List.set_cons_succ]
    refine wpAnyH_take (i := 2) (oi := { dst := some 9, op := Go.Op.move (Go.Operand.tmp 0), type := 79, pos := "reader.go:66", after := #[], guard := none }) (v := ?_) rfl (by kernel_rfl) (by kernel_rfl) (by kernel_rfl) (fun _ _ _ h => h) (Or.inl ⟨by rfl, ?_⟩) (by assumption) ?_
    rotate_left
    · intro w' hSw
      (try dsimp only at hSw)
      go_simp
      all_goals with_reducible rfl
    try simp only [Act.put, List.setIfInBounds_toArray, List.set_cons_zero, List.set_cons_succ]
    refine wpAnyH_take (i := 4) (oi := { dst := some 11, op := Go.Op.move (Go.Operand.tmp 1), type := 3, pos := "reader.go:66", after := #[], guard := none }) (v := ?_) rfl (by kernel_rfl) (by kernel_rfl) (by kernel_rfl) (fun _ _ _ h => h) (Or.inl ⟨by rfl, ?_⟩) (by assumption) ?_
    rotate_left
    · intro w' hSw
      (try dsimp only at hSw)
      go_simp
      all_goals with_reducible rfl
    try simp only [Act.put, List.setIfInBounds_toArray, List.set_cons_zero, List.set_cons_succ]
    refine wpAnyH_ready (rs := [1, 5, 7]) (by kernel_rfl) (by simp) ?_
    refine (AllReadyH.cons (o := { dst := some 8, op := Go.Op.call { callee := Go.Callee.value (Go.Operand.func 26), args := #[Go.Operand.tmp 7], argTypes := #[79] }, type := 3, pos := "reader.go:66", after := #[{ on := 0, ground := Go.Ground.data }], guard := none }) rfl (fun K hK => ?_) (AllReadyH.cons (o := { dst := some 12, op := Go.Op.makeSlice 43 (Go.Operand.tmp 11) (Go.Operand.tmp 11), type := 43, pos := "reader.go:66", after := #[{ on := 4, ground := Go.Ground.data }, { on := 4, ground := Go.Ground.data }], guard := none }) rfl (fun K hK => ?_) (AllReadyH.cons (o := { dst := some 5, op := Go.Op.alloc 45, type := 0, pos := "reader.go:66", after := #[], guard := none }) rfl (fun K hK => ?_) AllReadyH.nil)))
    focus
      have hC := rnumber_any x B0 s we hRd
      go_simp
      go_wp2_with (go_at_call 26; (with_reducible refine hC.mono ?_); rintro e1 wa1 ⟨rfl, hRd, hk⟩)
      clear hC
      have hKR := hKR.trans hk
      have hz : H + 1 ≤ wa1.heap.size := Nat.le_trans hz hk.size
      clear hk
      refine hK.out _ _ ?_ (fun hHeld => ?_)
      · trivial
      clear hK K
      try simp only [Act.put, List.setIfInBounds_toArray, List.set_cons_zero, List.set_cons_succ]
      refine wpAnyH_ready (rs := [3, 5, 7]) (by kernel_rfl) (by simp) ?_
      refine (AllReadyH.cons (o := { dst := some 10, op := Go.Op.call { callee := Go.Callee.value (Go.Operand.func 26), args := #[Go.Operand.tmp 9], argTypes := #[79] }, type := 3, pos := "reader.go:66", after := #[{ on := 2, ground := Go.Ground.data }, { on := 1, ground := Go.Ground.chain }], guard := none }) rfl (fun K hK => ?_) (AllReadyH.cons (o := { dst := some 12, op := Go.Op.makeSlice 43 (Go.Operand.tmp 11) (Go.Operand.tmp 11), type := 43, pos := "reader.go:66", after := #[{ on := 4, ground := Go.Ground.data }, { on := 4, ground := Go.Ground.data }], guard := none }) rfl (fun K hK => ?_) (AllReadyH.cons (o := { dst := some 5, op := Go.Op.alloc 45, type := 0, pos := "reader.go:66", after := #[], guard := none }) rfl (fun K hK => ?_) AllReadyH.nil)))
      focus
        have hC := rnumber_any x B0 (rdNum s).2 wa1 hRd
        go_simp
        go_wp2_with (go_at_call 26; (with_reducible refine hC.mono ?_); rintro e3 wa3 ⟨rfl, hRd, hk⟩)
        clear hC
        have hKR := hKR.trans hk
        have hz : H + 1 ≤ wa3.heap.size := Nat.le_trans hz hk.size
        clear hk
        refine hK.out _ _ ?_ (fun hHeld => ?_)
        · trivial
        clear hK K
        try simp only [Act.put, List.setIfInBounds_toArray, List.set_cons_zero, List.set_cons_succ]
        refine wpAnyH_ready (rs := [5, 7]) (by kernel_rfl) (by simp) ?_
        refine (AllReadyH.cons (o := { dst := some 12, op := Go.Op.makeSlice 43 (Go.Operand.tmp 11) (Go.Operand.tmp 11), type := 43, pos := "reader.go:66", after := #[{ on := 4, ground := Go.Ground.data }, { on := 4, ground := Go.Ground.data }], guard := none }) rfl (fun K hK => ?_) (AllReadyH.cons (o := { dst := some 5, op := Go.Op.alloc 45, type := 0, pos := "reader.go:66", after := #[], guard := none }) rfl (fun K hK => ?_) AllReadyH.nil))
        focus
          obtain ⟨wm, hmk, hRow, hgm⟩ := run_make_full (P := Try.prog) wa3 H 43 3 i0 (.int .i64 0) 1 Try.underlying43 hi0 hz0 hz1 .i64 .i64 m (by rw [hz2]; omega) (by unfold maxLen; omega) (by omega)
          have hb : Below wa3.heap.size wa3 wm := (Below.refl _ _).grown hgm (Nat.le_refl _) (fun q e => by cases e)
          go_simp
          obtain ⟨g, hg⟩ : ∃ g, wa3.heap.size = g := ⟨_, rfl⟩
          rw [hg] at hRow hmk
          simp only [hg]
          have hgl : g < wm.heap.size := by have := World.ownsRow.lt hRow g rfl; omega
          have hgH : H < g := by omega
          clear hgm hmk
          rw [show (madeCells (Value.int .i64 0).cells (m * 1)).toList = nxC [] m from by rw [Nat.mul_one]; exact toList_madeCells_one _ _] at hRow
          have hKR := hKR.trans (KeepR.below hb)
          have hRd := hRd.keep hb
          have hz : H + 1 ≤ wm.heap.size := Nat.le_trans hz hb.size
          clear hb
          refine hK.out _ _ ?_ (fun hHeld => ?_)
          · trivial
          clear hK K
          try simp only [Act.put, List.setIfInBounds_toArray, List.set_cons_zero, List.set_cons_succ]
          refine wpAnyH_take (i := 6) (oi := { dst := some 13, op := Go.Op.build 45 #[(0, Go.Operand.tmp 8), (2, Go.Operand.tmp 10), (1, Go.Operand.tmp 12)], type := 45, pos := "reader.go:66", after := #[{ on := 1, ground := Go.Ground.data }, { on := 3, ground := Go.Ground.data }, { on := 5, ground := Go.Ground.data }], guard := none }) (v := ?_) rfl (by kernel_rfl) (by kernel_rfl) (by kernel_rfl) (fun _ _ _ h => h) (Or.inl ⟨by rfl, ?_⟩) (by assumption) ?_
          rotate_left
          · intro w' hSw
            (try dsimp only at hSw)
            go_simp
            all_goals with_reducible rfl
          try simp only [Act.put, List.setIfInBounds_toArray, List.set_cons_zero, List.set_cons_succ]
          refine wpAnyH_ready (rs := [7]) (by kernel_rfl) (by simp) ?_
          refine (AllReadyH.cons (o := { dst := some 5, op := Go.Op.alloc 45, type := 0, pos := "reader.go:66", after := #[], guard := none }) rfl (fun K hK => ?_) AllReadyH.nil)
          obtain ⟨wy, hwy⟩ : ∃ wy, wm.alloc (.cells #[.int .i64 0, .slice none 0 0, .int .i64 0] 45) = wy := ⟨_, rfl⟩
          have hb : Below wm.heap.size wm wy := by rw [← hwy]; exact (Below.refl _ _).alloc (Nat.le_refl _) _
          have hBox : wy.heap[wm.heap.size]? = some (.cells #[.int .i64 0, .slice none 0 0, .int .i64 0] 45 (0, 0)) := by rw [← hwy]; exact heap_alloc_new wm _
          go_simp
          try rw [hwy]
          obtain ⟨y, hy⟩ : ∃ y, wm.heap.size = y := ⟨_, rfl⟩
          rw [hy] at hBox
          simp only [hy]
          have hyl : y < wy.heap.size := (Array.getElem?_eq_some_iff.1 hBox).1
          have hyH : H < y := by omega
          have hyg : y ≠ g := by omega
          have hRow := own_keep1 hRow (hb.block g hgl)
          have hgl : g < wy.heap.size := Nat.lt_of_lt_of_le hgl hb.size
          have hKR := hKR.trans (KeepR.below hb)
          have hRd := hRd.keep hb
          have hz : H + 1 ≤ wy.heap.size := Nat.le_trans hz hb.size
          clear hb
          refine hK.out _ _ ?_ (fun hHeld => ?_)
          · trivial
          clear hK K
          try simp only [Act.put, List.setIfInBounds_toArray, List.set_cons_zero, List.set_cons_succ]
          refine wpAnyH_ready (rs := [8]) (by kernel_rfl) (by simp) ?_
          refine (AllReadyH.cons (o := { dst := none, op := Go.Op.store 45 (Go.Operand.tmp 5) (Go.Operand.tmp 13), type := 0, pos := "reader.go:66", after := #[{ on := 7, ground := Go.Ground.data }, { on := 6, ground := Go.Ground.data }, { on := 3, ground := Go.Ground.chain }, { on := 0, ground := Go.Ground.phase }, { on := 1, ground := Go.Ground.phase }, { on := 2, ground := Go.Ground.phase }, { on := 3, ground := Go.Ground.phase }, { on := 4, ground := Go.Ground.phase }, { on := 5, ground := Go.Ground.phase }, { on := 6, ground := Go.Ground.phase }, { on := 7, ground := Go.Ground.phase }], guard := none }) rfl (fun K hK => ?_) AllReadyH.nil)
          refine wp_store_row 45 _ _ rfl y #[.int .i64 (rdNum s).1, .slice (some ⟨g, 0, none⟩) m m, .int .i64 (rdNum (rdNum s).2).1] rfl rfl _ _ hBox (by kernel_rfl) rfl (by simp [Value.oneCell']) ?_
          obtain ⟨wz, hwz⟩ : ∃ wz, wy.setRow y #[.int .i64 (rdNum s).1, .slice (some ⟨g, 0, none⟩) m m, .int .i64 (rdNum (rdNum s).2).1] = wz := ⟨_, rfl⟩
          have hother : ∀ b, b ≠ y → wz.heap[b]? = wy.heap[b]? := fun b hb => by rw [← hwz]; exact setRow_other wy y b _ hb
          have hszz : wz.heap.size = wy.heap.size := by rw [← hwz]; simp
          have hBox : DBoxN wz y (rdNum s).1 (.slice (some ⟨g, 0, none⟩) m m) (rdNum (rdNum s).2).1 := by rw [← hwz]; exact setRow_heap wy y _ _ _ _ hBox
          have hRow := own_keep1 hRow (hother g (fun q => hyg q.symm))
          have hRd : RdS x B0 (rdNum (rdNum s).2).2 wz := by
            obtain ⟨A, c, q1, q2, q3⟩ := hRd.box
            exact ⟨⟨A, c, (hother x (by omega)).trans q1, q2.keep fun p hp => World.cell?_of_block (hother p.block (by have := hRd.low; omega)), q3⟩, hRd.low, hRd.byte⟩
          have hKR : KeepR x w1 wz := ⟨by rw [← hwz]; exact hKR.os, by rw [← hwz]; exact hKR.tape, by rw [← hwz]; exact hKR.output, by rw [hszz]; exact hKR.size, fun b hb hx => (hother b (by omega)).trans (hKR.block b hb hx)⟩
          rw [hwz]
          clear hwz hother
          refine hK.out _ _ ?_ (fun hHeld => ?_)
          · trivial
          clear hK K
          try simp only [Act.put, List.setIfInBounds_toArray, List.set_cons_zero, List.set_cons_succ]
          obtain ⟨wl, rfl⟩ : ∃ wl : World, wl = wz := ⟨_, rfl⟩
        rotate_left 1
        focus
          obtain ⟨wy, hwy⟩ : ∃ wy, wa3.alloc (.cells #[.int .i64 0, .slice none 0 0, .int .i64 0] 45) = wy := ⟨_, rfl⟩
          have hb : Below wa3.heap.size wa3 wy := by rw [← hwy]; exact (Below.refl _ _).alloc (Nat.le_refl _) _
          have hBox : wy.heap[wa3.heap.size]? = some (.cells #[.int .i64 0, .slice none 0 0, .int .i64 0] 45 (0, 0)) := by rw [← hwy]; exact heap_alloc_new wa3 _
          go_simp
          try rw [hwy]
          obtain ⟨y, hy⟩ : ∃ y, wa3.heap.size = y := ⟨_, rfl⟩
          rw [hy] at hBox
          simp only [hy]
          have hyl : y < wy.heap.size := (Array.getElem?_eq_some_iff.1 hBox).1
          have hyH : H < y := by omega
          have hKR := hKR.trans (KeepR.below hb)
          have hRd := hRd.keep hb
          have hz : H + 1 ≤ wy.heap.size := Nat.le_trans hz hb.size
          clear hb
          refine hK.out _ _ ?_ (fun hHeld => ?_)
          · trivial
          clear hK K
          try simp only [Act.put, List.setIfInBounds_toArray, List.set_cons_zero, List.set_cons_succ]
          refine wpAnyH_ready (rs := [5]) (by kernel_rfl) (by simp) ?_
          refine (AllReadyH.cons (o := { dst := some 12, op := Go.Op.makeSlice 43 (Go.Operand.tmp 11) (Go.Operand.tmp 11), type := 43, pos := "reader.go:66", after := #[{ on := 4, ground := Go.Ground.data }, { on := 4, ground := Go.Ground.data }], guard := none }) rfl (fun K hK => ?_) AllReadyH.nil)
          obtain ⟨wm, hmk, hRow, hgm⟩ := run_make_full (P := Try.prog) wy H 43 3 i0 (.int .i64 0) 1 Try.underlying43 hi0 hz0 hz1 .i64 .i64 m (by rw [hz2]; omega) (by unfold maxLen; omega) (by omega)
          have hb : Below wy.heap.size wy wm := (Below.refl _ _).grown hgm (Nat.le_refl _) (fun q e => by cases e)
          go_simp
          obtain ⟨g, hg⟩ : ∃ g, wy.heap.size = g := ⟨_, rfl⟩
          rw [hg] at hRow hmk
          simp only [hg]
          have hgl : g < wm.heap.size := by have := World.ownsRow.lt hRow g rfl; omega
          have hgH : H < g := by omega
          clear hgm hmk
          rw [show (madeCells (Value.int .i64 0).cells (m * 1)).toList = nxC [] m from by rw [Nat.mul_one]; exact toList_madeCells_one _ _] at hRow
          have hyg : y ≠ g := by omega
          have hBox := (hb.block y hyl).trans hBox
          have hyl : y < wm.heap.size := Nat.lt_of_lt_of_le hyl hb.size
          have hKR := hKR.trans (KeepR.below hb)
          have hRd := hRd.keep hb
          have hz : H + 1 ≤ wm.heap.size := Nat.le_trans hz hb.size
          clear hb
          refine hK.out _ _ ?_ (fun hHeld => ?_)
          · trivial
          clear hK K
          try simp only [Act.put, List.setIfInBounds_toArray, List.set_cons_zero, List.set_cons_succ]
          refine wpAnyH_take (i := 6) (oi := { dst := some 13, op := Go.Op.build 45 #[(0, Go.Operand.tmp 8), (2, Go.Operand.tmp 10), (1, Go.Operand.tmp 12)], type := 45, pos := "reader.go:66", after := #[{ on := 1, ground := Go.Ground.data }, { on := 3, ground := Go.Ground.data }, { on := 5, ground := Go.Ground.data }], guard := none }) (v := ?_) rfl (by kernel_rfl) (by kernel_rfl) (by kernel_rfl) (fun _ _ _ h => h) (Or.inl ⟨by rfl, ?_⟩) (by assumption) ?_
          rotate_left
          · intro w' hSw
            (try dsimp only at hSw)
            go_simp
            all_goals with_reducible rfl
          try simp only [Act.put, List.setIfInBounds_toArray, List.set_cons_zero, List.set_cons_succ]
          refine wpAnyH_ready (rs := [8]) (by kernel_rfl) (by simp) ?_
          refine (AllReadyH.cons (o := { dst := none, op := Go.Op.store 45 (Go.Operand.tmp 5) (Go.Operand.tmp 13), type := 0, pos := "reader.go:66", after := #[{ on := 7, ground := Go.Ground.data }, { on := 6, ground := Go.Ground.data }, { on := 3, ground := Go.Ground.chain }, { on := 0, ground := Go.Ground.phase }, { on := 1, ground := Go.Ground.phase }, { on := 2, ground := Go.Ground.phase }, { on := 3, ground := Go.Ground.phase }, { on := 4, ground := Go.Ground.phase }, { on := 5, ground := Go.Ground.phase }, { on := 6, ground := Go.Ground.phase }, { on := 7, ground := Go.Ground.phase }], guard := none }) rfl (fun K hK => ?_) AllReadyH.nil)
          refine wp_store_row 45 _ _ rfl y #[.int .i64 (rdNum s).1, .slice (some ⟨g, 0, none⟩) m m, .int .i64 (rdNum (rdNum s).2).1] rfl rfl _ _ hBox (by kernel_rfl) rfl (by simp [Value.oneCell']) ?_
          obtain ⟨wz, hwz⟩ : ∃ wz, wm.setRow y #[.int .i64 (rdNum s).1, .slice (some ⟨g, 0, none⟩) m m, .int .i64 (rdNum (rdNum s).2).1] = wz := ⟨_, rfl⟩
          have hother : ∀ b, b ≠ y → wz.heap[b]? = wm.heap[b]? := fun b hb => by rw [← hwz]; exact setRow_other wm y b _ hb
          have hszz : wz.heap.size = wm.heap.size := by rw [← hwz]; simp
          have hBox : DBoxN wz y (rdNum s).1 (.slice (some ⟨g, 0, none⟩) m m) (rdNum (rdNum s).2).1 := by rw [← hwz]; exact setRow_heap wm y _ _ _ _ hBox
          have hRow := own_keep1 hRow (hother g (fun q => hyg q.symm))
          have hRd : RdS x B0 (rdNum (rdNum s).2).2 wz := by
            obtain ⟨A, c, q1, q2, q3⟩ := hRd.box
            exact ⟨⟨A, c, (hother x (by omega)).trans q1, q2.keep fun p hp => World.cell?_of_block (hother p.block (by have := hRd.low; omega)), q3⟩, hRd.low, hRd.byte⟩
          have hKR : KeepR x w1 wz := ⟨by rw [← hwz]; exact hKR.os, by rw [← hwz]; exact hKR.tape, by rw [← hwz]; exact hKR.output, by rw [hszz]; exact hKR.size, fun b hb hx => (hother b (by omega)).trans (hKR.block b hb hx)⟩
          rw [hwz]
          clear hwz hother
          refine hK.out _ _ ?_ (fun hHeld => ?_)
          · trivial
          clear hK K
          try simp only [Act.put, List.setIfInBounds_toArray, List.set_cons_zero, List.set_cons_succ]
          obtain ⟨wl, rfl⟩ : ∃ wl : World, wl = wz := ⟨_, rfl⟩
      rotate_left 2
      focus
        obtain ⟨wm, hmk, hRow, hgm⟩ := run_make_full (P := Try.prog) wa1 H 43 3 i0 (.int .i64 0) 1 Try.underlying43 hi0 hz0 hz1 .i64 .i64 m (by rw [hz2]; omega) (by unfold maxLen; omega) (by omega)
        have hb : Below wa1.heap.size wa1 wm := (Below.refl _ _).grown hgm (Nat.le_refl _) (fun q e => by cases e)
        go_simp
        obtain ⟨g, hg⟩ : ∃ g, wa1.heap.size = g := ⟨_, rfl⟩
        rw [hg] at hRow hmk
        simp only [hg]
        have hgl : g < wm.heap.size := by have := World.ownsRow.lt hRow g rfl; omega
        have hgH : H < g := by omega
        clear hgm hmk
        rw [show (madeCells (Value.int .i64 0).cells (m * 1)).toList = nxC [] m from by rw [Nat.mul_one]; exact toList_madeCells_one _ _] at hRow
        have hKR := hKR.trans (KeepR.below hb)
        have hRd := hRd.keep hb
        have hz : H + 1 ≤ wm.heap.size := Nat.le_trans hz hb.size
        clear hb
        refine hK.out _ _ ?_ (fun hHeld => ?_)
        · trivial
        clear hK K
        try simp only [Act.put, List.setIfInBounds_toArray, List.set_cons_zero, List.set_cons_succ]
        refine wpAnyH_ready (rs := [3, 7]) (by kernel_rfl) (by simp) ?_
        refine (AllReadyH.cons (o := { dst := some 10, op := Go.Op.call { callee := Go.Callee.value (Go.Operand.func 26), args := #[Go.Operand.tmp 9], argTypes := #[79] }, type := 3, pos := "reader.go:66", after := #[{ on := 2, ground := Go.Ground.data }, { on := 1, ground := Go.Ground.chain }], guard := none }) rfl (fun K hK => ?_) (AllReadyH.cons (o := { dst := some 5, op := Go.Op.alloc 45, type := 0, pos := "reader.go:66", after := #[], guard := none }) rfl (fun K hK => ?_) AllReadyH.nil))
        focus
          have hC := rnumber_any x B0 (rdNum s).2 wm hRd
          go_simp
          go_wp2_with (go_at_call 26; (with_reducible refine hC.mono ?_); rintro e3 wa3 ⟨rfl, hRd, hk⟩)
          clear hC
          have hRow := own_keep1 hRow (hk.block g hgl (by omega))
          have hgl : g < wa3.heap.size := Nat.lt_of_lt_of_le hgl hk.size
          have hKR := hKR.trans hk
          have hz : H + 1 ≤ wa3.heap.size := Nat.le_trans hz hk.size
          clear hk
          refine hK.out _ _ ?_ (fun hHeld => ?_)
          · trivial
          clear hK K
          try simp only [Act.put, List.setIfInBounds_toArray, List.set_cons_zero, List.set_cons_succ]
          refine wpAnyH_take (i := 6) (oi := { dst := some 13, op := Go.Op.build 45 #[(0, Go.Operand.tmp 8), (2, Go.Operand.tmp 10), (1, Go.Operand.tmp 12)], type := 45, pos := "reader.go:66", after := #[{ on := 1, ground := Go.Ground.data }, { on := 3, ground := Go.Ground.data }, { on := 5, ground := Go.Ground.data }], guard := none }) (v := ?_) rfl (by kernel_rfl) (by kernel_rfl) (by kernel_rfl) (fun _ _ _ h => h) (Or.inl ⟨by rfl, ?_⟩) (by assumption) ?_
          rotate_left
          · intro w' hSw
            (try dsimp only at hSw)
            go_simp
            all_goals with_reducible rfl
          try simp only [Act.put, List.setIfInBounds_toArray, List.set_cons_zero, List.set_cons_succ]
          refine wpAnyH_ready (rs := [7]) (by kernel_rfl) (by simp) ?_
          refine (AllReadyH.cons (o := { dst := some 5, op := Go.Op.alloc 45, type := 0, pos := "reader.go:66", after := #[], guard := none }) rfl (fun K hK => ?_) AllReadyH.nil)
          obtain ⟨wy, hwy⟩ : ∃ wy, wa3.alloc (.cells #[.int .i64 0, .slice none 0 0, .int .i64 0] 45) = wy := ⟨_, rfl⟩
          have hb : Below wa3.heap.size wa3 wy := by rw [← hwy]; exact (Below.refl _ _).alloc (Nat.le_refl _) _
          have hBox : wy.heap[wa3.heap.size]? = some (.cells #[.int .i64 0, .slice none 0 0, .int .i64 0] 45 (0, 0)) := by rw [← hwy]; exact heap_alloc_new wa3 _
          go_simp
          try rw [hwy]
          obtain ⟨y, hy⟩ : ∃ y, wa3.heap.size = y := ⟨_, rfl⟩
          rw [hy] at hBox
          simp only [hy]
          have hyl : y < wy.heap.size := (Array.getElem?_eq_some_iff.1 hBox).1
          have hyH : H < y := by omega
          have hyg : y ≠ g := by omega
          have hRow := own_keep1 hRow (hb.block g hgl)
          have hgl : g < wy.heap.size := Nat.lt_of_lt_of_le hgl hb.size
          have hKR := hKR.trans (KeepR.below hb)
          have hRd := hRd.keep hb
          have hz : H + 1 ≤ wy.heap.size := Nat.le_trans hz hb.size
          clear hb
          refine hK.out _ _ ?_ (fun hHeld => ?_)
          · trivial
          clear hK K
          try simp only [Act.put, List.setIfInBounds_toArray, List.set_cons_zero, List.set_cons_succ]
          refine wpAnyH_ready (rs := [8]) (by kernel_rfl) (by simp) ?_
          refine (AllReadyH.cons (o := { dst := none, op := Go.Op.store 45 (Go.Operand.tmp 5) (Go.Operand.tmp 13), type := 0, pos := "reader.go:66", after := #[{ on := 7, ground := Go.Ground.data }, { on := 6, ground := Go.Ground.data }, { on := 3, ground := Go.Ground.chain }, { on := 0, ground := Go.Ground.phase }, { on := 1, ground := Go.Ground.phase }, { on := 2, ground := Go.Ground.phase }, { on := 3, ground := Go.Ground.phase }, { on := 4, ground := Go.Ground.phase }, { on := 5, ground := Go.Ground.phase }, { on := 6, ground := Go.Ground.phase }, { on := 7, ground := Go.Ground.phase }], guard := none }) rfl (fun K hK => ?_) AllReadyH.nil)
          refine wp_store_row 45 _ _ rfl y #[.int .i64 (rdNum s).1, .slice (some ⟨g, 0, none⟩) m m, .int .i64 (rdNum (rdNum s).2).1] rfl rfl _ _ hBox (by kernel_rfl) rfl (by simp [Value.oneCell']) ?_
          obtain ⟨wz, hwz⟩ : ∃ wz, wy.setRow y #[.int .i64 (rdNum s).1, .slice (some ⟨g, 0, none⟩) m m, .int .i64 (rdNum (rdNum s).2).1] = wz := ⟨_, rfl⟩
          have hother : ∀ b, b ≠ y → wz.heap[b]? = wy.heap[b]? := fun b hb => by rw [← hwz]; exact setRow_other wy y b _ hb
          have hszz : wz.heap.size = wy.heap.size := by rw [← hwz]; simp
          have hBox : DBoxN wz y (rdNum s).1 (.slice (some ⟨g, 0, none⟩) m m) (rdNum (rdNum s).2).1 := by rw [← hwz]; exact setRow_heap wy y _ _ _ _ hBox
          have hRow := own_keep1 hRow (hother g (fun q => hyg q.symm))
          have hRd : RdS x B0 (rdNum (rdNum s).2).2 wz := by
            obtain ⟨A, c, q1, q2, q3⟩ := hRd.box
            exact ⟨⟨A, c, (hother x (by omega)).trans q1, q2.keep fun p hp => World.cell?_of_block (hother p.block (by have := hRd.low; omega)), q3⟩, hRd.low, hRd.byte⟩
          have hKR : KeepR x w1 wz := ⟨by rw [← hwz]; exact hKR.os, by rw [← hwz]; exact hKR.tape, by rw [← hwz]; exact hKR.output, by rw [hszz]; exact hKR.size, fun b hb hx => (hother b (by omega)).trans (hKR.block b hb hx)⟩
          rw [hwz]
          clear hwz hother
          refine hK.out _ _ ?_ (fun hHeld => ?_)
          · trivial
          clear hK K
          try simp only [Act.put, List.setIfInBounds_toArray, List.set_cons_zero, List.set_cons_succ]
          obtain ⟨wl, rfl⟩ : ∃ wl : World, wl = wz := ⟨_, rfl⟩
        rotate_left 1
        focus
          obtain ⟨wy, hwy⟩ : ∃ wy, wm.alloc (.cells #[.int .i64 0, .slice none 0 0, .int .i64 0] 45) = wy := ⟨_, rfl⟩
          have hb : Below wm.heap.size wm wy := by rw [← hwy]; exact (Below.refl _ _).alloc (Nat.le_refl _) _
          have hBox : wy.heap[wm.heap.size]? = some (.cells #[.int .i64 0, .slice none 0 0, .int .i64 0] 45 (0, 0)) := by rw [← hwy]; exact heap_alloc_new wm _
          go_simp
          try rw [hwy]
          obtain ⟨y, hy⟩ : ∃ y, wm.heap.size = y := ⟨_, rfl⟩
          rw [hy] at hBox
          simp only [hy]
          have hyl : y < wy.heap.size := (Array.getElem?_eq_some_iff.1 hBox).1
          have hyH : H < y := by omega
          have hyg : y ≠ g := by omega
          have hRow := own_keep1 hRow (hb.block g hgl)
          have hgl : g < wy.heap.size := Nat.lt_of_lt_of_le hgl hb.size
          have hKR := hKR.trans (KeepR.below hb)
          have hRd := hRd.keep hb
          have hz : H + 1 ≤ wy.heap.size := Nat.le_trans hz hb.size
          clear hb
          refine hK.out _ _ ?_ (fun hHeld => ?_)
          · trivial
          clear hK K
          try simp only [Act.put, List.setIfInBounds_toArray, List.set_cons_zero, List.set_cons_succ]
          refine wpAnyH_ready (rs := [3]) (by kernel_rfl) (by simp) ?_
          refine (AllReadyH.cons (o := { dst := some 10, op := Go.Op.call { callee := Go.Callee.value (Go.Operand.func 26), args := #[Go.Operand.tmp 9], argTypes := #[79] }, type := 3, pos := "reader.go:66", after := #[{ on := 2, ground := Go.Ground.data }, { on := 1, ground := Go.Ground.chain }], guard := none }) rfl (fun K hK => ?_) AllReadyH.nil)
          have hC := rnumber_any x B0 (rdNum s).2 wy hRd
          go_simp
          go_wp2_with (go_at_call 26; (with_reducible refine hC.mono ?_); rintro e3 wa3 ⟨rfl, hRd, hk⟩)
          clear hC
          have hRow := own_keep1 hRow (hk.block g hgl (by omega))
          have hgl : g < wa3.heap.size := Nat.lt_of_lt_of_le hgl hk.size
          have hBox := (hk.block y hyl (by omega)).trans hBox
          have hyl : y < wa3.heap.size := Nat.lt_of_lt_of_le hyl hk.size
          have hKR := hKR.trans hk
          have hz : H + 1 ≤ wa3.heap.size := Nat.le_trans hz hk.size
          clear hk
          refine hK.out _ _ ?_ (fun hHeld => ?_)
          · trivial
          clear hK K
          try simp only [Act.put, List.setIfInBounds_toArray, List.set_cons_zero, List.set_cons_succ]
          refine wpAnyH_take (i := 6) (oi := { dst := some 13, op := Go.Op.build 45 #[(0, Go.Operand.tmp 8), (2, Go.Operand.tmp 10), (1, Go.Operand.tmp 12)], type := 45, pos := "reader.go:66", after := #[{ on := 1, ground := Go.Ground.data }, { on := 3, ground := Go.Ground.data }, { on := 5, ground := Go.Ground.data }], guard := none }) (v := ?_) rfl (by kernel_rfl) (by kernel_rfl) (by kernel_rfl) (fun _ _ _ h => h) (Or.inl ⟨by rfl, ?_⟩) (by assumption) ?_
          rotate_left
          · intro w' hSw
            (try dsimp only at hSw)
            go_simp
            all_goals with_reducible rfl
          try simp only [Act.put, List.setIfInBounds_toArray, List.set_cons_zero, List.set_cons_succ]
          refine wpAnyH_ready (rs := [8]) (by kernel_rfl) (by simp) ?_
          refine (AllReadyH.cons (o := { dst := none, op := Go.Op.store 45 (Go.Operand.tmp 5) (Go.Operand.tmp 13), type := 0, pos := "reader.go:66", after := #[{ on := 7, ground := Go.Ground.data }, { on := 6, ground := Go.Ground.data }, { on := 3, ground := Go.Ground.chain }, { on := 0, ground := Go.Ground.phase }, { on := 1, ground := Go.Ground.phase }, { on := 2, ground := Go.Ground.phase }, { on := 3, ground := Go.Ground.phase }, { on := 4, ground := Go.Ground.phase }, { on := 5, ground := Go.Ground.phase }, { on := 6, ground := Go.Ground.phase }, { on := 7, ground := Go.Ground.phase }], guard := none }) rfl (fun K hK => ?_) AllReadyH.nil)
          refine wp_store_row 45 _ _ rfl y #[.int .i64 (rdNum s).1, .slice (some ⟨g, 0, none⟩) m m, .int .i64 (rdNum (rdNum s).2).1] rfl rfl _ _ hBox (by kernel_rfl) rfl (by simp [Value.oneCell']) ?_
          obtain ⟨wz, hwz⟩ : ∃ wz, wa3.setRow y #[.int .i64 (rdNum s).1, .slice (some ⟨g, 0, none⟩) m m, .int .i64 (rdNum (rdNum s).2).1] = wz := ⟨_, rfl⟩
          have hother : ∀ b, b ≠ y → wz.heap[b]? = wa3.heap[b]? := fun b hb => by rw [← hwz]; exact setRow_other wa3 y b _ hb
          have hszz : wz.heap.size = wa3.heap.size := by rw [← hwz]; simp
          have hBox : DBoxN wz y (rdNum s).1 (.slice (some ⟨g, 0, none⟩) m m) (rdNum (rdNum s).2).1 := by rw [← hwz]; exact setRow_heap wa3 y _ _ _ _ hBox
          have hRow := own_keep1 hRow (hother g (fun q => hyg q.symm))
          have hRd : RdS x B0 (rdNum (rdNum s).2).2 wz := by
            obtain ⟨A, c, q1, q2, q3⟩ := hRd.box
            exact ⟨⟨A, c, (hother x (by omega)).trans q1, q2.keep fun p hp => World.cell?_of_block (hother p.block (by have := hRd.low; omega)), q3⟩, hRd.low, hRd.byte⟩
          have hKR : KeepR x w1 wz := ⟨by rw [← hwz]; exact hKR.os, by rw [← hwz]; exact hKR.tape, by rw [← hwz]; exact hKR.output, by rw [hszz]; exact hKR.size, fun b hb hx => (hother b (by omega)).trans (hKR.block b hb hx)⟩
          rw [hwz]
          clear hwz hother
          refine hK.out _ _ ?_ (fun hHeld => ?_)
          · trivial
          clear hK K
          try simp only [Act.put, List.setIfInBounds_toArray, List.set_cons_zero, List.set_cons_succ]
          obtain ⟨wl, rfl⟩ : ∃ wl : World, wl = wz := ⟨_, rfl⟩
      rotate_left 2
      focus
        obtain ⟨wy, hwy⟩ : ∃ wy, wa1.alloc (.cells #[.int .i64 0, .slice none 0 0, .int .i64 0] 45) = wy := ⟨_, rfl⟩
        have hb : Below wa1.heap.size wa1 wy := by rw [← hwy]; exact (Below.refl _ _).alloc (Nat.le_refl _) _
        have hBox : wy.heap[wa1.heap.size]? = some (.cells #[.int .i64 0, .slice none 0 0, .int .i64 0] 45 (0, 0)) := by rw [← hwy]; exact heap_alloc_new wa1 _
        go_simp
        try rw [hwy]
        obtain ⟨y, hy⟩ : ∃ y, wa1.heap.size = y := ⟨_, rfl⟩
        rw [hy] at hBox
        simp only [hy]
        have hyl : y < wy.heap.size := (Array.getElem?_eq_some_iff.1 hBox).1
        have hyH : H < y := by omega
        have hKR := hKR.trans (KeepR.below hb)
        have hRd := hRd.keep hb
        have hz : H + 1 ≤ wy.heap.size := Nat.le_trans hz hb.size
        clear hb
        refine hK.out _ _ ?_ (fun hHeld => ?_)
        · trivial
        clear hK K
        try simp only [Act.put, List.setIfInBounds_toArray, List.set_cons_zero, List.set_cons_succ]
        refine wpAnyH_ready (rs := [3, 5]) (by kernel_rfl) (by simp) ?_
        refine (AllReadyH.cons (o := { dst := some 10, op := Go.Op.call { callee := Go.Callee.value (Go.Operand.func 26), args := #[Go.Operand.tmp 9], argTypes := #[79] }, type := 3, pos := "reader.go:66", after := #[{ on := 2, ground := Go.Ground.data }, { on := 1, ground := Go.Ground.chain }], guard := none }) rfl (fun K hK => ?_) (AllReadyH.cons (o := { dst := some 12, op := Go.Op.makeSlice 43 (Go.Operand.tmp 11) (Go.Operand.tmp 11), type := 43, pos := "reader.go:66", after := #[{ on := 4, ground := Go.Ground.data }, { on := 4, ground := Go.Ground.data }], guard := none }) rfl (fun K hK => ?_) AllReadyH.nil))
        focus
          have hC := rnumber_any x B0 (rdNum s).2 wy hRd
          go_simp
          go_wp2_with (go_at_call 26; (with_reducible refine hC.mono ?_); rintro e3 wa3 ⟨rfl, hRd, hk⟩)
          clear hC
          have hBox := (hk.block y hyl (by omega)).trans hBox
          have hyl : y < wa3.heap.size := Nat.lt_of_lt_of_le hyl hk.size
          have hKR := hKR.trans hk
          have hz : H + 1 ≤ wa3.heap.size := Nat.le_trans hz hk.size
          clear hk
          refine hK.out _ _ ?_ (fun hHeld => ?_)
          · trivial
          clear hK K
          try simp only [Act.put, List.setIfInBounds_toArray, List.set_cons_zero, List.set_cons_succ]
          refine wpAnyH_ready (rs := [5]) (by kernel_rfl) (by simp) ?_
          refine (AllReadyH.cons (o := { dst := some 12, op := Go.Op.makeSlice 43 (Go.Operand.tmp 11) (Go.Operand.tmp 11), type := 43, pos := "reader.go:66", after := #[{ on := 4, ground := Go.Ground.data }, { on := 4, ground := Go.Ground.data }], guard := none }) rfl (fun K hK => ?_) AllReadyH.nil)
          obtain ⟨wm, hmk, hRow, hgm⟩ := run_make_full (P := Try.prog) wa3 H 43 3 i0 (.int .i64 0) 1 Try.underlying43 hi0 hz0 hz1 .i64 .i64 m (by rw [hz2]; omega) (by unfold maxLen; omega) (by omega)
          have hb : Below wa3.heap.size wa3 wm := (Below.refl _ _).grown hgm (Nat.le_refl _) (fun q e => by cases e)
          go_simp
          obtain ⟨g, hg⟩ : ∃ g, wa3.heap.size = g := ⟨_, rfl⟩
          rw [hg] at hRow hmk
          simp only [hg]
          have hgl : g < wm.heap.size := by have := World.ownsRow.lt hRow g rfl; omega
          have hgH : H < g := by omega
          clear hgm hmk
          rw [show (madeCells (Value.int .i64 0).cells (m * 1)).toList = nxC [] m from by rw [Nat.mul_one]; exact toList_madeCells_one _ _] at hRow
          have hyg : y ≠ g := by omega
          have hBox := (hb.block y hyl).trans hBox
          have hyl : y < wm.heap.size := Nat.lt_of_lt_of_le hyl hb.size
          have hKR := hKR.trans (KeepR.below hb)
          have hRd := hRd.keep hb
          have hz : H + 1 ≤ wm.heap.size := Nat.le_trans hz hb.size
          clear hb
          refine hK.out _ _ ?_ (fun hHeld => ?_)
          · trivial
          clear hK K
          try simp only [Act.put, List.setIfInBounds_toArray, List.set_cons_zero, List.set_cons_succ]
          refine wpAnyH_take (i := 6) (oi := { dst := some 13, op := Go.Op.build 45 #[(0, Go.Operand.tmp 8), (2, Go.Operand.tmp 10), (1, Go.Operand.tmp 12)], type := 45, pos := "reader.go:66", after := #[{ on := 1, ground := Go.Ground.data }, { on := 3, ground := Go.Ground.data }, { on := 5, ground := Go.Ground.data }], guard := none }) (v := ?_) rfl (by kernel_rfl) (by kernel_rfl) (by kernel_rfl) (fun _ _ _ h => h) (Or.inl ⟨by rfl, ?_⟩) (by assumption) ?_
          rotate_left
          · intro w' hSw
            (try dsimp only at hSw)
            go_simp
            all_goals with_reducible rfl
          try simp only [Act.put, List.setIfInBounds_toArray, List.set_cons_zero, List.set_cons_succ]
          refine wpAnyH_ready (rs := [8]) (by kernel_rfl) (by simp) ?_
          refine (AllReadyH.cons (o := { dst := none, op := Go.Op.store 45 (Go.Operand.tmp 5) (Go.Operand.tmp 13), type := 0, pos := "reader.go:66", after := #[{ on := 7, ground := Go.Ground.data }, { on := 6, ground := Go.Ground.data }, { on := 3, ground := Go.Ground.chain }, { on := 0, ground := Go.Ground.phase }, { on := 1, ground := Go.Ground.phase }, { on := 2, ground := Go.Ground.phase }, { on := 3, ground := Go.Ground.phase }, { on := 4, ground := Go.Ground.phase }, { on := 5, ground := Go.Ground.phase }, { on := 6, ground := Go.Ground.phase }, { on := 7, ground := Go.Ground.phase }], guard := none }) rfl (fun K hK => ?_) AllReadyH.nil)
          refine wp_store_row 45 _ _ rfl y #[.int .i64 (rdNum s).1, .slice (some ⟨g, 0, none⟩) m m, .int .i64 (rdNum (rdNum s).2).1] rfl rfl _ _ hBox (by kernel_rfl) rfl (by simp [Value.oneCell']) ?_
          obtain ⟨wz, hwz⟩ : ∃ wz, wm.setRow y #[.int .i64 (rdNum s).1, .slice (some ⟨g, 0, none⟩) m m, .int .i64 (rdNum (rdNum s).2).1] = wz := ⟨_, rfl⟩
          have hother : ∀ b, b ≠ y → wz.heap[b]? = wm.heap[b]? := fun b hb => by rw [← hwz]; exact setRow_other wm y b _ hb
          have hszz : wz.heap.size = wm.heap.size := by rw [← hwz]; simp
          have hBox : DBoxN wz y (rdNum s).1 (.slice (some ⟨g, 0, none⟩) m m) (rdNum (rdNum s).2).1 := by rw [← hwz]; exact setRow_heap wm y _ _ _ _ hBox
          have hRow := own_keep1 hRow (hother g (fun q => hyg q.symm))
          have hRd : RdS x B0 (rdNum (rdNum s).2).2 wz := by
            obtain ⟨A, c, q1, q2, q3⟩ := hRd.box
            exact ⟨⟨A, c, (hother x (by omega)).trans q1, q2.keep fun p hp => World.cell?_of_block (hother p.block (by have := hRd.low; omega)), q3⟩, hRd.low, hRd.byte⟩
          have hKR : KeepR x w1 wz := ⟨by rw [← hwz]; exact hKR.os, by rw [← hwz]; exact hKR.tape, by rw [← hwz]; exact hKR.output, by rw [hszz]; exact hKR.size, fun b hb hx => (hother b (by omega)).trans (hKR.block b hb hx)⟩
          rw [hwz]
          clear hwz hother
          refine hK.out _ _ ?_ (fun hHeld => ?_)
          · trivial
          clear hK K
          try simp only [Act.put, List.setIfInBounds_toArray, List.set_cons_zero, List.set_cons_succ]
          obtain ⟨wl, rfl⟩ : ∃ wl : World, wl = wz := ⟨_, rfl⟩
        rotate_left 1
        focus
          obtain ⟨wm, hmk, hRow, hgm⟩ := run_make_full (P := Try.prog) wy H 43 3 i0 (.int .i64 0) 1 Try.underlying43 hi0 hz0 hz1 .i64 .i64 m (by rw [hz2]; omega) (by unfold maxLen; omega) (by omega)
          have hb : Below wy.heap.size wy wm := (Below.refl _ _).grown hgm (Nat.le_refl _) (fun q e => by cases e)
          go_simp
          obtain ⟨g, hg⟩ : ∃ g, wy.heap.size = g := ⟨_, rfl⟩
          rw [hg] at hRow hmk
          simp only [hg]
          have hgl : g < wm.heap.size := by have := World.ownsRow.lt hRow g rfl; omega
          have hgH : H < g := by omega
          clear hgm hmk
          rw [show (madeCells (Value.int .i64 0).cells (m * 1)).toList = nxC [] m from by rw [Nat.mul_one]; exact toList_madeCells_one _ _] at hRow
          have hyg : y ≠ g := by omega
          have hBox := (hb.block y hyl).trans hBox
          have hyl : y < wm.heap.size := Nat.lt_of_lt_of_le hyl hb.size
          have hKR := hKR.trans (KeepR.below hb)
          have hRd := hRd.keep hb
          have hz : H + 1 ≤ wm.heap.size := Nat.le_trans hz hb.size
          clear hb
          refine hK.out _ _ ?_ (fun hHeld => ?_)
          · trivial
          clear hK K
          try simp only [Act.put, List.setIfInBounds_toArray, List.set_cons_zero, List.set_cons_succ]
          refine wpAnyH_ready (rs := [3]) (by kernel_rfl) (by simp) ?_
          refine (AllReadyH.cons (o := { dst := some 10, op := Go.Op.call { callee := Go.Callee.value (Go.Operand.func 26), args := #[Go.Operand.tmp 9], argTypes := #[79] }, type := 3, pos := "reader.go:66", after := #[{ on := 2, ground := Go.Ground.data }, { on := 1, ground := Go.Ground.chain }], guard := none }) rfl (fun K hK => ?_) AllReadyH.nil)
          have hC := rnumber_any x B0 (rdNum s).2 wm hRd
          go_simp
          go_wp2_with (go_at_call 26; (with_reducible refine hC.mono ?_); rintro e3 wa3 ⟨rfl, hRd, hk⟩)
          clear hC
          have hRow := own_keep1 hRow (hk.block g hgl (by omega))
          have hgl : g < wa3.heap.size := Nat.lt_of_lt_of_le hgl hk.size
          have hBox := (hk.block y hyl (by omega)).trans hBox
          have hyl : y < wa3.heap.size := Nat.lt_of_lt_of_le hyl hk.size
          have hKR := hKR.trans hk
          have hz : H + 1 ≤ wa3.heap.size := Nat.le_trans hz hk.size
          clear hk
          refine hK.out _ _ ?_ (fun hHeld => ?_)
          · trivial
          clear hK K
          try simp only [Act.put, List.setIfInBounds_toArray, List.set_cons_zero, List.set_cons_succ]
          refine wpAnyH_take (i := 6) (oi := { dst := some 13, op := Go.Op.build 45 #[(0, Go.Operand.tmp 8), (2, Go.Operand.tmp 10), (1, Go.Operand.tmp 12)], type := 45, pos := "reader.go:66", after := #[{ on := 1, ground := Go.Ground.data }, { on := 3, ground := Go.Ground.data }, { on := 5, ground := Go.Ground.data }], guard := none }) (v := ?_) rfl (by kernel_rfl) (by kernel_rfl) (by kernel_rfl) (fun _ _ _ h => h) (Or.inl ⟨by rfl, ?_⟩) (by assumption) ?_
          rotate_left
          · intro w' hSw
            (try dsimp only at hSw)
            go_simp
            all_goals with_reducible rfl
          try simp only [Act.put, List.setIfInBounds_toArray, List.set_cons_zero, List.set_cons_succ]
          refine wpAnyH_ready (rs := [8]) (by kernel_rfl) (by simp) ?_
          refine (AllReadyH.cons (o := { dst := none, op := Go.Op.store 45 (Go.Operand.tmp 5) (Go.Operand.tmp 13), type := 0, pos := "reader.go:66", after := #[{ on := 7, ground := Go.Ground.data }, { on := 6, ground := Go.Ground.data }, { on := 3, ground := Go.Ground.chain }, { on := 0, ground := Go.Ground.phase }, { on := 1, ground := Go.Ground.phase }, { on := 2, ground := Go.Ground.phase }, { on := 3, ground := Go.Ground.phase }, { on := 4, ground := Go.Ground.phase }, { on := 5, ground := Go.Ground.phase }, { on := 6, ground := Go.Ground.phase }, { on := 7, ground := Go.Ground.phase }], guard := none }) rfl (fun K hK => ?_) AllReadyH.nil)
          refine wp_store_row 45 _ _ rfl y #[.int .i64 (rdNum s).1, .slice (some ⟨g, 0, none⟩) m m, .int .i64 (rdNum (rdNum s).2).1] rfl rfl _ _ hBox (by kernel_rfl) rfl (by simp [Value.oneCell']) ?_
          obtain ⟨wz, hwz⟩ : ∃ wz, wa3.setRow y #[.int .i64 (rdNum s).1, .slice (some ⟨g, 0, none⟩) m m, .int .i64 (rdNum (rdNum s).2).1] = wz := ⟨_, rfl⟩
          have hother : ∀ b, b ≠ y → wz.heap[b]? = wa3.heap[b]? := fun b hb => by rw [← hwz]; exact setRow_other wa3 y b _ hb
          have hszz : wz.heap.size = wa3.heap.size := by rw [← hwz]; simp
          have hBox : DBoxN wz y (rdNum s).1 (.slice (some ⟨g, 0, none⟩) m m) (rdNum (rdNum s).2).1 := by rw [← hwz]; exact setRow_heap wa3 y _ _ _ _ hBox
          have hRow := own_keep1 hRow (hother g (fun q => hyg q.symm))
          have hRd : RdS x B0 (rdNum (rdNum s).2).2 wz := by
            obtain ⟨A, c, q1, q2, q3⟩ := hRd.box
            exact ⟨⟨A, c, (hother x (by omega)).trans q1, q2.keep fun p hp => World.cell?_of_block (hother p.block (by have := hRd.low; omega)), q3⟩, hRd.low, hRd.byte⟩
          have hKR : KeepR x w1 wz := ⟨by rw [← hwz]; exact hKR.os, by rw [← hwz]; exact hKR.tape, by rw [← hwz]; exact hKR.output, by rw [hszz]; exact hKR.size, fun b hb hx => (hother b (by omega)).trans (hKR.block b hb hx)⟩
          rw [hwz]
          clear hwz hother
          refine hK.out _ _ ?_ (fun hHeld => ?_)
          · trivial
          clear hK K
          try simp only [Act.put, List.setIfInBounds_toArray, List.set_cons_zero, List.set_cons_succ]
          obtain ⟨wl, rfl⟩ : ∃ wl : World, wl = wz := ⟨_, rfl⟩
    rotate_left 6
    focus
      obtain ⟨wm, hmk, hRow, hgm⟩ := run_make_full (P := Try.prog) we H 43 3 i0 (.int .i64 0) 1 Try.underlying43 hi0 hz0 hz1 .i64 .i64 m (by rw [hz2]; omega) (by unfold maxLen; omega) (by omega)
      have hb : Below we.heap.size we wm := (Below.refl _ _).grown hgm (Nat.le_refl _) (fun q e => by cases e)
      go_simp
      obtain ⟨g, hg⟩ : ∃ g, we.heap.size = g := ⟨_, rfl⟩
      rw [hg] at hRow hmk
      simp only [hg]
      have hgl : g < wm.heap.size := by have := World.ownsRow.lt hRow g rfl; omega
      have hgH : H < g := by omega
      clear hgm hmk
      rw [show (madeCells (Value.int .i64 0).cells (m * 1)).toList = nxC [] m from by rw [Nat.mul_one]; exact toList_madeCells_one _ _] at hRow
      have hKR := hKR.trans (KeepR.below hb)
      have hRd := hRd.keep hb
      have hz : H + 1 ≤ wm.heap.size := Nat.le_trans hz hb.size
      clear hb
      refine hK.out _ _ ?_ (fun hHeld => ?_)
      · trivial
      clear hK K
      try simp only [Act.put, List.setIfInBounds_toArray, List.set_cons_zero, List.set_cons_succ]
      refine wpAnyH_ready (rs := [1, 7]) (by kernel_rfl) (by simp) ?_
      refine (AllReadyH.cons (o := { dst := some 8, op := Go.Op.call { callee := Go.Callee.value (Go.Operand.func 26), args := #[Go.Operand.tmp 7], argTypes := #[79] }, type := 3, pos := "reader.go:66", after := #[{ on := 0, ground := Go.Ground.data }], guard := none }) rfl (fun K hK => ?_) (AllReadyH.cons (o := { dst := some 5, op := Go.Op.alloc 45, type := 0, pos := "reader.go:66", after := #[], guard := none }) rfl (fun K hK => ?_) AllReadyH.nil))
      focus
        have hC := rnumber_any x B0 s wm hRd
        go_simp
        go_wp2_with (go_at_call 26; (with_reducible refine hC.mono ?_); rintro e1 wa1 ⟨rfl, hRd, hk⟩)
        clear hC
        have hRow := own_keep1 hRow (hk.block g hgl (by omega))
        have hgl : g < wa1.heap.size := Nat.lt_of_lt_of_le hgl hk.size
        have hKR := hKR.trans hk
        have hz : H + 1 ≤ wa1.heap.size := Nat.le_trans hz hk.size
        clear hk
        refine hK.out _ _ ?_ (fun hHeld => ?_)
        · trivial
        clear hK K
        try simp only [Act.put, List.setIfInBounds_toArray, List.set_cons_zero, List.set_cons_succ]
        refine wpAnyH_ready (rs := [3, 7]) (by kernel_rfl) (by simp) ?_
        refine (AllReadyH.cons (o := { dst := some 10, op := Go.Op.call { callee := Go.Callee.value (Go.Operand.func 26), args := #[Go.Operand.tmp 9], argTypes := #[79] }, type := 3, pos := "reader.go:66", after := #[{ on := 2, ground := Go.Ground.data }, { on := 1, ground := Go.Ground.chain }], guard := none }) rfl (fun K hK => ?_) (AllReadyH.cons (o := { dst := some 5, op := Go.Op.alloc 45, type := 0, pos := "reader.go:66", after := #[], guard := none }) rfl (fun K hK => ?_) AllReadyH.nil))
        focus
          have hC := rnumber_any x B0 (rdNum s).2 wa1 hRd
          go_simp
          go_wp2_with (go_at_call 26; (with_reducible refine hC.mono ?_); rintro e3 wa3 ⟨rfl, hRd, hk⟩)
          clear hC
          have hRow := own_keep1 hRow (hk.block g hgl (by omega))
          have hgl : g < wa3.heap.size := Nat.lt_of_lt_of_le hgl hk.size
          have hKR := hKR.trans hk
          have hz : H + 1 ≤ wa3.heap.size := Nat.le_trans hz hk.size
          clear hk
          refine hK.out _ _ ?_ (fun hHeld => ?_)
          · trivial
          clear hK K
          try simp only [Act.put, List.setIfInBounds_toArray, List.set_cons_zero, List.set_cons_succ]
          refine wpAnyH_take (i := 6) (oi := { dst := some 13, op := Go.Op.build 45 #[(0, Go.Operand.tmp 8), (2, Go.Operand.tmp 10), (1, Go.Operand.tmp 12)], type := 45, pos := "reader.go:66", after := #[{ on := 1, ground := Go.Ground.data }, { on := 3, ground := Go.Ground.data }, { on := 5, ground := Go.Ground.data }], guard := none }) (v := ?_) rfl (by kernel_rfl) (by kernel_rfl) (by kernel_rfl) (fun _ _ _ h => h) (Or.inl ⟨by rfl, ?_⟩) (by assumption) ?_
          rotate_left
          · intro w' hSw
            (try dsimp only at hSw)
            go_simp
            all_goals with_reducible rfl
          try simp only [Act.put, List.setIfInBounds_toArray, List.set_cons_zero, List.set_cons_succ]
          refine wpAnyH_ready (rs := [7]) (by kernel_rfl) (by simp) ?_
          refine (AllReadyH.cons (o := { dst := some 5, op := Go.Op.alloc 45, type := 0, pos := "reader.go:66", after := #[], guard := none }) rfl (fun K hK => ?_) AllReadyH.nil)
          obtain ⟨wy, hwy⟩ : ∃ wy, wa3.alloc (.cells #[.int .i64 0, .slice none 0 0, .int .i64 0] 45) = wy := ⟨_, rfl⟩
          have hb : Below wa3.heap.size wa3 wy := by rw [← hwy]; exact (Below.refl _ _).alloc (Nat.le_refl _) _
          have hBox : wy.heap[wa3.heap.size]? = some (.cells #[.int .i64 0, .slice none 0 0, .int .i64 0] 45 (0, 0)) := by rw [← hwy]; exact heap_alloc_new wa3 _
          go_simp
          try rw [hwy]
          obtain ⟨y, hy⟩ : ∃ y, wa3.heap.size = y := ⟨_, rfl⟩
          rw [hy] at hBox
          simp only [hy]
          have hyl : y < wy.heap.size := (Array.getElem?_eq_some_iff.1 hBox).1
          have hyH : H < y := by omega
          have hyg : y ≠ g := by omega
          have hRow := own_keep1 hRow (hb.block g hgl)
          have hgl : g < wy.heap.size := Nat.lt_of_lt_of_le hgl hb.size
          have hKR := hKR.trans (KeepR.below hb)
          have hRd := hRd.keep hb
          have hz : H + 1 ≤ wy.heap.size := Nat.le_trans hz hb.size
          clear hb
          refine hK.out _ _ ?_ (fun hHeld => ?_)
          · trivial
          clear hK K
          try simp only [Act.put, List.setIfInBounds_toArray, List.set_cons_zero, List.set_cons_succ]
          refine wpAnyH_ready (rs := [8]) (by kernel_rfl) (by simp) ?_
          refine (AllReadyH.cons (o := { dst := none, op := Go.Op.store 45 (Go.Operand.tmp 5) (Go.Operand.tmp 13), type := 0, pos := "reader.go:66", after := #[{ on := 7, ground := Go.Ground.data }, { on := 6, ground := Go.Ground.data }, { on := 3, ground := Go.Ground.chain }, { on := 0, ground := Go.Ground.phase }, { on := 1, ground := Go.Ground.phase }, { on := 2, ground := Go.Ground.phase }, { on := 3, ground := Go.Ground.phase }, { on := 4, ground := Go.Ground.phase }, { on := 5, ground := Go.Ground.phase }, { on := 6, ground := Go.Ground.phase }, { on := 7, ground := Go.Ground.phase }], guard := none }) rfl (fun K hK => ?_) AllReadyH.nil)
          refine wp_store_row 45 _ _ rfl y #[.int .i64 (rdNum s).1, .slice (some ⟨g, 0, none⟩) m m, .int .i64 (rdNum (rdNum s).2).1] rfl rfl _ _ hBox (by kernel_rfl) rfl (by simp [Value.oneCell']) ?_
          obtain ⟨wz, hwz⟩ : ∃ wz, wy.setRow y #[.int .i64 (rdNum s).1, .slice (some ⟨g, 0, none⟩) m m, .int .i64 (rdNum (rdNum s).2).1] = wz := ⟨_, rfl⟩
          have hother : ∀ b, b ≠ y → wz.heap[b]? = wy.heap[b]? := fun b hb => by rw [← hwz]; exact setRow_other wy y b _ hb
          have hszz : wz.heap.size = wy.heap.size := by rw [← hwz]; simp
          have hBox : DBoxN wz y (rdNum s).1 (.slice (some ⟨g, 0, none⟩) m m) (rdNum (rdNum s).2).1 := by rw [← hwz]; exact setRow_heap wy y _ _ _ _ hBox
          have hRow := own_keep1 hRow (hother g (fun q => hyg q.symm))
          have hRd : RdS x B0 (rdNum (rdNum s).2).2 wz := by
            obtain ⟨A, c, q1, q2, q3⟩ := hRd.box
            exact ⟨⟨A, c, (hother x (by omega)).trans q1, q2.keep fun p hp => World.cell?_of_block (hother p.block (by have := hRd.low; omega)), q3⟩, hRd.low, hRd.byte⟩
          have hKR : KeepR x w1 wz := ⟨by rw [← hwz]; exact hKR.os, by rw [← hwz]; exact hKR.tape, by rw [← hwz]; exact hKR.output, by rw [hszz]; exact hKR.size, fun b hb hx => (hother b (by omega)).trans (hKR.block b hb hx)⟩
          rw [hwz]
          clear hwz hother
          refine hK.out _ _ ?_ (fun hHeld => ?_)
          · trivial
          clear hK K
          try simp only [Act.put, List.setIfInBounds_toArray, List.set_cons_zero, List.set_cons_succ]
          obtain ⟨wl, rfl⟩ : ∃ wl : World, wl = wz := ⟨_, rfl⟩
        rotate_left 1
        focus
          obtain ⟨wy, hwy⟩ : ∃ wy, wa1.alloc (.cells #[.int .i64 0, .slice none 0 0, .int .i64 0] 45) = wy := ⟨_, rfl⟩
          have hb : Below wa1.heap.size wa1 wy := by rw [← hwy]; exact (Below.refl _ _).alloc (Nat.le_refl _) _
          have hBox : wy.heap[wa1.heap.size]? = some (.cells #[.int .i64 0, .slice none 0 0, .int .i64 0] 45 (0, 0)) := by rw [← hwy]; exact heap_alloc_new wa1 _
          go_simp
          try rw [hwy]
          obtain ⟨y, hy⟩ : ∃ y, wa1.heap.size = y := ⟨_, rfl⟩
          rw [hy] at hBox
          simp only [hy]
          have hyl : y < wy.heap.size := (Array.getElem?_eq_some_iff.1 hBox).1
          have hyH : H < y := by omega
          have hyg : y ≠ g := by omega
          have hRow := own_keep1 hRow (hb.block g hgl)
          have hgl : g < wy.heap.size := Nat.lt_of_lt_of_le hgl hb.size
          have hKR := hKR.trans (KeepR.below hb)
          have hRd := hRd.keep hb
          have hz : H + 1 ≤ wy.heap.size := Nat.le_trans hz hb.size
          clear hb
          refine hK.out _ _ ?_ (fun hHeld => ?_)
          · trivial
          clear hK K
          try simp only [Act.put, List.setIfInBounds_toArray, List.set_cons_zero, List.set_cons_succ]
          refine wpAnyH_ready (rs := [3]) (by kernel_rfl) (by simp) ?_
          refine (AllReadyH.cons (o := { dst := some 10, op := Go.Op.call { callee := Go.Callee.value (Go.Operand.func 26), args := #[Go.Operand.tmp 9], argTypes := #[79] }, type := 3, pos := "reader.go:66", after := #[{ on := 2, ground := Go.Ground.data }, { on := 1, ground := Go.Ground.chain }], guard := none }) rfl (fun K hK => ?_) AllReadyH.nil)
          have hC := rnumber_any x B0 (rdNum s).2 wy hRd
          go_simp
          go_wp2_with (go_at_call 26; (with_reducible refine hC.mono ?_); rintro e3 wa3 ⟨rfl, hRd, hk⟩)
          clear hC
          have hRow := own_keep1 hRow (hk.block g hgl (by omega))
          have hgl : g < wa3.heap.size := Nat.lt_of_lt_of_le hgl hk.size
          have hBox := (hk.block y hyl (by omega)).trans hBox
          have hyl : y < wa3.heap.size := Nat.lt_of_lt_of_le hyl hk.size
          have hKR := hKR.trans hk
          have hz : H + 1 ≤ wa3.heap.size := Nat.le_trans hz hk.size
          clear hk
          refine hK.out _ _ ?_ (fun hHeld => ?_)
          · trivial
          clear hK K
          try simp only [Act.put, List.setIfInBounds_toArray, List.set_cons_zero, List.set_cons_succ]
          refine wpAnyH_take (i := 6) (oi := { dst := some 13, op := Go.Op.build 45 #[(0, Go.Operand.tmp 8), (2, Go.Operand.tmp 10), (1, Go.Operand.tmp 12)], type := 45, pos := "reader.go:66", after := #[{ on := 1, ground := Go.Ground.data }, { on := 3, ground := Go.Ground.data }, { on := 5, ground := Go.Ground.data }], guard := none }) (v := ?_) rfl (by kernel_rfl) (by kernel_rfl) (by kernel_rfl) (fun _ _ _ h => h) (Or.inl ⟨by rfl, ?_⟩) (by assumption) ?_
          rotate_left
          · intro w' hSw
            (try dsimp only at hSw)
            go_simp
            all_goals with_reducible rfl
          try simp only [Act.put, List.setIfInBounds_toArray, List.set_cons_zero, List.set_cons_succ]
          refine wpAnyH_ready (rs := [8]) (by kernel_rfl) (by simp) ?_
          refine (AllReadyH.cons (o := { dst := none, op := Go.Op.store 45 (Go.Operand.tmp 5) (Go.Operand.tmp 13), type := 0, pos := "reader.go:66", after := #[{ on := 7, ground := Go.Ground.data }, { on := 6, ground := Go.Ground.data }, { on := 3, ground := Go.Ground.chain }, { on := 0, ground := Go.Ground.phase }, { on := 1, ground := Go.Ground.phase }, { on := 2, ground := Go.Ground.phase }, { on := 3, ground := Go.Ground.phase }, { on := 4, ground := Go.Ground.phase }, { on := 5, ground := Go.Ground.phase }, { on := 6, ground := Go.Ground.phase }, { on := 7, ground := Go.Ground.phase }], guard := none }) rfl (fun K hK => ?_) AllReadyH.nil)
          refine wp_store_row 45 _ _ rfl y #[.int .i64 (rdNum s).1, .slice (some ⟨g, 0, none⟩) m m, .int .i64 (rdNum (rdNum s).2).1] rfl rfl _ _ hBox (by kernel_rfl) rfl (by simp [Value.oneCell']) ?_
          obtain ⟨wz, hwz⟩ : ∃ wz, wa3.setRow y #[.int .i64 (rdNum s).1, .slice (some ⟨g, 0, none⟩) m m, .int .i64 (rdNum (rdNum s).2).1] = wz := ⟨_, rfl⟩
          have hother : ∀ b, b ≠ y → wz.heap[b]? = wa3.heap[b]? := fun b hb => by rw [← hwz]; exact setRow_other wa3 y b _ hb
          have hszz : wz.heap.size = wa3.heap.size := by rw [← hwz]; simp
          have hBox : DBoxN wz y (rdNum s).1 (.slice (some ⟨g, 0, none⟩) m m) (rdNum (rdNum s).2).1 := by rw [← hwz]; exact setRow_heap wa3 y _ _ _ _ hBox
          have hRow := own_keep1 hRow (hother g (fun q => hyg q.symm))
          have hRd : RdS x B0 (rdNum (rdNum s).2).2 wz := by
            obtain ⟨A, c, q1, q2, q3⟩ := hRd.box
            exact ⟨⟨A, c, (hother x (by omega)).trans q1, q2.keep fun p hp => World.cell?_of_block (hother p.block (by have := hRd.low; omega)), q3⟩, hRd.low, hRd.byte⟩
          have hKR : KeepR x w1 wz := ⟨by rw [← hwz]; exact hKR.os, by rw [← hwz]; exact hKR.tape, by rw [← hwz]; exact hKR.output, by rw [hszz]; exact hKR.size, fun b hb hx => (hother b (by omega)).trans (hKR.block b hb hx)⟩
          rw [hwz]
          clear hwz hother
          refine hK.out _ _ ?_ (fun hHeld => ?_)
          · trivial
          clear hK K
          try simp only [Act.put, List.setIfInBounds_toArray, List.set_cons_zero, List.set_cons_succ]
          obtain ⟨wl, rfl⟩ : ∃ wl : World, wl = wz := ⟨_, rfl⟩
      rotate_left 2
      focus
        obtain ⟨wy, hwy⟩ : ∃ wy, wm.alloc (.cells #[.int .i64 0, .slice none 0 0, .int .i64 0] 45) = wy := ⟨_, rfl⟩
        have hb : Below wm.heap.size wm wy := by rw [← hwy]; exact (Below.refl _ _).alloc (Nat.le_refl _) _
        have hBox : wy.heap[wm.heap.size]? = some (.cells #[.int .i64 0, .slice none 0 0, .int .i64 0] 45 (0, 0)) := by rw [← hwy]; exact heap_alloc_new wm _
        go_simp
        try rw [hwy]
        obtain ⟨y, hy⟩ : ∃ y, wm.heap.size = y := ⟨_, rfl⟩
        rw [hy] at hBox
        simp only [hy]
        have hyl : y < wy.heap.size := (Array.getElem?_eq_some_iff.1 hBox).1
        have hyH : H < y := by omega
        have hyg : y ≠ g := by omega
        have hRow := own_keep1 hRow (hb.block g hgl)
        have hgl : g < wy.heap.size := Nat.lt_of_lt_of_le hgl hb.size
        have hKR := hKR.trans (KeepR.below hb)
        have hRd := hRd.keep hb
        have hz : H + 1 ≤ wy.heap.size := Nat.le_trans hz hb.size
        clear hb
        refine hK.out _ _ ?_ (fun hHeld => ?_)
        · trivial
        clear hK K
        try simp only [Act.put, List.setIfInBounds_toArray, List.set_cons_zero, List.set_cons_succ]
        refine wpAnyH_ready (rs := [1]) (by kernel_rfl) (by simp) ?_
        refine (AllReadyH.cons (o := { dst := some 8, op := Go.Op.call { callee := Go.Callee.value (Go.Operand.func 26), args := #[Go.Operand.tmp 7], argTypes := #[79] }, type := 3, pos := "reader.go:66", after := #[{ on := 0, ground := Go.Ground.data }], guard := none }) rfl (fun K hK => ?_) AllReadyH.nil)
        have hC := rnumber_any x B0 s wy hRd
        go_simp
        go_wp2_with (go_at_call 26; (with_reducible refine hC.mono ?_); rintro e1 wa1 ⟨rfl, hRd, hk⟩)
        clear hC
        have hRow := own_keep1 hRow (hk.block g hgl (by omega))
        have hgl : g < wa1.heap.size := Nat.lt_of_lt_of_le hgl hk.size
        have hBox := (hk.block y hyl (by omega)).trans hBox
        have hyl : y < wa1.heap.size := Nat.lt_of_lt_of_le hyl hk.size
        have hKR := hKR.trans hk
        have hz : H + 1 ≤ wa1.heap.size := Nat.le_trans hz hk.size
        clear hk
        refine hK.out _ _ ?_ (fun hHeld => ?_)
        · trivial
        clear hK K
        try simp only [Act.put, List.setIfInBounds_toArray, List.set_cons_zero, List.set_cons_succ]
        refine wpAnyH_ready (rs := [3]) (by kernel_rfl) (by simp) ?_
        refine (AllReadyH.cons (o := { dst := some 10, op := Go.Op.call { callee := Go.Callee.value (Go.Operand.func 26), args := #[Go.Operand.tmp 9], argTypes := #[79] }, type := 3, pos := "reader.go:66", after := #[{ on := 2, ground := Go.Ground.data }, { on := 1, ground := Go.Ground.chain }], guard := none }) rfl (fun K hK => ?_) AllReadyH.nil)
        have hC := rnumber_any x B0 (rdNum s).2 wa1 hRd
        go_simp
        go_wp2_with (go_at_call 26; (with_reducible refine hC.mono ?_); rintro e3 wa3 ⟨rfl, hRd, hk⟩)
        clear hC
        have hRow := own_keep1 hRow (hk.block g hgl (by omega))
        have hgl : g < wa3.heap.size := Nat.lt_of_lt_of_le hgl hk.size
        have hBox := (hk.block y hyl (by omega)).trans hBox
        have hyl : y < wa3.heap.size := Nat.lt_of_lt_of_le hyl hk.size
        have hKR := hKR.trans hk
        have hz : H + 1 ≤ wa3.heap.size := Nat.le_trans hz hk.size
        clear hk
        refine hK.out _ _ ?_ (fun hHeld => ?_)
        · trivial
        clear hK K
        try simp only [Act.put, List.setIfInBounds_toArray, List.set_cons_zero, List.set_cons_succ]
        refine wpAnyH_take (i := 6) (oi := { dst := some 13, op := Go.Op.build 45 #[(0, Go.Operand.tmp 8), (2, Go.Operand.tmp 10), (1, Go.Operand.tmp 12)], type := 45, pos := "reader.go:66", after := #[{ on := 1, ground := Go.Ground.data }, { on := 3, ground := Go.Ground.data }, { on := 5, ground := Go.Ground.data }], guard := none }) (v := ?_) rfl (by kernel_rfl) (by kernel_rfl) (by kernel_rfl) (fun _ _ _ h => h) (Or.inl ⟨by rfl, ?_⟩) (by assumption) ?_
        rotate_left
        · intro w' hSw
          (try dsimp only at hSw)
          go_simp
          all_goals with_reducible rfl
        try simp only [Act.put, List.setIfInBounds_toArray, List.set_cons_zero, List.set_cons_succ]
        refine wpAnyH_ready (rs := [8]) (by kernel_rfl) (by simp) ?_
        refine (AllReadyH.cons (o := { dst := none, op := Go.Op.store 45 (Go.Operand.tmp 5) (Go.Operand.tmp 13), type := 0, pos := "reader.go:66", after := #[{ on := 7, ground := Go.Ground.data }, { on := 6, ground := Go.Ground.data }, { on := 3, ground := Go.Ground.chain }, { on := 0, ground := Go.Ground.phase }, { on := 1, ground := Go.Ground.phase }, { on := 2, ground := Go.Ground.phase }, { on := 3, ground := Go.Ground.phase }, { on := 4, ground := Go.Ground.phase }, { on := 5, ground := Go.Ground.phase }, { on := 6, ground := Go.Ground.phase }, { on := 7, ground := Go.Ground.phase }], guard := none }) rfl (fun K hK => ?_) AllReadyH.nil)
        refine wp_store_row 45 _ _ rfl y #[.int .i64 (rdNum s).1, .slice (some ⟨g, 0, none⟩) m m, .int .i64 (rdNum (rdNum s).2).1] rfl rfl _ _ hBox (by kernel_rfl) rfl (by simp [Value.oneCell']) ?_
        obtain ⟨wz, hwz⟩ : ∃ wz, wa3.setRow y #[.int .i64 (rdNum s).1, .slice (some ⟨g, 0, none⟩) m m, .int .i64 (rdNum (rdNum s).2).1] = wz := ⟨_, rfl⟩
        have hother : ∀ b, b ≠ y → wz.heap[b]? = wa3.heap[b]? := fun b hb => by rw [← hwz]; exact setRow_other wa3 y b _ hb
        have hszz : wz.heap.size = wa3.heap.size := by rw [← hwz]; simp
        have hBox : DBoxN wz y (rdNum s).1 (.slice (some ⟨g, 0, none⟩) m m) (rdNum (rdNum s).2).1 := by rw [← hwz]; exact setRow_heap wa3 y _ _ _ _ hBox
        have hRow := own_keep1 hRow (hother g (fun q => hyg q.symm))
        have hRd : RdS x B0 (rdNum (rdNum s).2).2 wz := by
          obtain ⟨A, c, q1, q2, q3⟩ := hRd.box
          exact ⟨⟨A, c, (hother x (by omega)).trans q1, q2.keep fun p hp => World.cell?_of_block (hother p.block (by have := hRd.low; omega)), q3⟩, hRd.low, hRd.byte⟩
        have hKR : KeepR x w1 wz := ⟨by rw [← hwz]; exact hKR.os, by rw [← hwz]; exact hKR.tape, by rw [← hwz]; exact hKR.output, by rw [hszz]; exact hKR.size, fun b hb hx => (hother b (by omega)).trans (hKR.block b hb hx)⟩
        rw [hwz]
        clear hwz hother
        refine hK.out _ _ ?_ (fun hHeld => ?_)
        · trivial
        clear hK K
        try simp only [Act.put, List.setIfInBounds_toArray, List.set_cons_zero, List.set_cons_succ]
        obtain ⟨wl, rfl⟩ : ∃ wl : World, wl = wz := ⟨_, rfl⟩
    rotate_left 3
    focus
      obtain ⟨wy, hwy⟩ : ∃ wy, we.alloc (.cells #[.int .i64 0, .slice none 0 0, .int .i64 0] 45) = wy := ⟨_, rfl⟩
      have hb : Below we.heap.size we wy := by rw [← hwy]; exact (Below.refl _ _).alloc (Nat.le_refl _) _
      have hBox : wy.heap[we.heap.size]? = some (.cells #[.int .i64 0, .slice none 0 0, .int .i64 0] 45 (0, 0)) := by rw [← hwy]; exact heap_alloc_new we _
      go_simp
      try rw [hwy]
      obtain ⟨y, hy⟩ : ∃ y, we.heap.size = y := ⟨_, rfl⟩
      rw [hy] at hBox
      simp only [hy]
      have hyl : y < wy.heap.size := (Array.getElem?_eq_some_iff.1 hBox).1
      have hyH : H < y := by omega
      have hKR := hKR.trans (KeepR.below hb)
      have hRd := hRd.keep hb
      have hz : H + 1 ≤ wy.heap.size := Nat.le_trans hz hb.size
      clear hb
      refine hK.out _ _ ?_ (fun hHeld => ?_)
      · trivial
      clear hK K
      try simp only [Act.put, List.setIfInBounds_toArray, List.set_cons_zero, List.set_cons_succ]
      refine wpAnyH_ready (rs := [1, 5]) (by kernel_rfl) (by simp) ?_
      refine (AllReadyH.cons (o := { dst := some 8, op := Go.Op.call { callee := Go.Callee.value (Go.Operand.func 26), args := #[Go.Operand.tmp 7], argTypes := #[79] }, type := 3, pos := "reader.go:66", after := #[{ on := 0, ground := Go.Ground.data }], guard := none }) rfl (fun K hK => ?_) (AllReadyH.cons (o := { dst := some 12, op := Go.Op.makeSlice 43 (Go.Operand.tmp 11) (Go.Operand.tmp 11), type := 43, pos := "reader.go:66", after := #[{ on := 4, ground := Go.Ground.data }, { on := 4, ground := Go.Ground.data }], guard := none }) rfl (fun K hK => ?_) AllReadyH.nil))
      focus
        have hC := rnumber_any x B0 s wy hRd
        go_simp
        go_wp2_with (go_at_call 26; (with_reducible refine hC.mono ?_); rintro e1 wa1 ⟨rfl, hRd, hk⟩)
        clear hC
        have hBox := (hk.block y hyl (by omega)).trans hBox
        have hyl : y < wa1.heap.size := Nat.lt_of_lt_of_le hyl hk.size
        have hKR := hKR.trans hk
        have hz : H + 1 ≤ wa1.heap.size := Nat.le_trans hz hk.size
        clear hk
        refine hK.out _ _ ?_ (fun hHeld => ?_)
        · trivial
        clear hK K
        try simp only [Act.put, List.setIfInBounds_toArray, List.set_cons_zero, List.set_cons_succ]
        refine wpAnyH_ready (rs := [3, 5]) (by kernel_rfl) (by simp) ?_
        refine (AllReadyH.cons (o := { dst := some 10, op := Go.Op.call { callee := Go.Callee.value (Go.Operand.func 26), args := #[Go.Operand.tmp 9], argTypes := #[79] }, type := 3, pos := "reader.go:66", after := #[{ on := 2, ground := Go.Ground.data }, { on := 1, ground := Go.Ground.chain }], guard := none }) rfl (fun K hK => ?_) (AllReadyH.cons (o := { dst := some 12, op := Go.Op.makeSlice 43 (Go.Operand.tmp 11) (Go.Operand.tmp 11), type := 43, pos := "reader.go:66", after := #[{ on := 4, ground := Go.Ground.data }, { on := 4, ground := Go.Ground.data }], guard := none }) rfl (fun K hK => ?_) AllReadyH.nil))
        focus
          have hC := rnumber_any x B0 (rdNum s).2 wa1 hRd
          go_simp
          go_wp2_with (go_at_call 26; (with_reducible refine hC.mono ?_); rintro e3 wa3 ⟨rfl, hRd, hk⟩)
          clear hC
          have hBox := (hk.block y hyl (by omega)).trans hBox
          have hyl : y < wa3.heap.size := Nat.lt_of_lt_of_le hyl hk.size
          have hKR := hKR.trans hk
          have hz : H + 1 ≤ wa3.heap.size := Nat.le_trans hz hk.size
          clear hk
          refine hK.out _ _ ?_ (fun hHeld => ?_)
          · trivial
          clear hK K
          try simp only [Act.put, List.setIfInBounds_toArray, List.set_cons_zero, List.set_cons_succ]
          refine wpAnyH_ready (rs := [5]) (by kernel_rfl) (by simp) ?_
          refine (AllReadyH.cons (o := { dst := some 12, op := Go.Op.makeSlice 43 (Go.Operand.tmp 11) (Go.Operand.tmp 11), type := 43, pos := "reader.go:66", after := #[{ on := 4, ground := Go.Ground.data }, { on := 4, ground := Go.Ground.data }], guard := none }) rfl (fun K hK => ?_) AllReadyH.nil)
          obtain ⟨wm, hmk, hRow, hgm⟩ := run_make_full (P := Try.prog) wa3 H 43 3 i0 (.int .i64 0) 1 Try.underlying43 hi0 hz0 hz1 .i64 .i64 m (by rw [hz2]; omega) (by unfold maxLen; omega) (by omega)
          have hb : Below wa3.heap.size wa3 wm := (Below.refl _ _).grown hgm (Nat.le_refl _) (fun q e => by cases e)
          go_simp
          obtain ⟨g, hg⟩ : ∃ g, wa3.heap.size = g := ⟨_, rfl⟩
          rw [hg] at hRow hmk
          simp only [hg]
          have hgl : g < wm.heap.size := by have := World.ownsRow.lt hRow g rfl; omega
          have hgH : H < g := by omega
          clear hgm hmk
          rw [show (madeCells (Value.int .i64 0).cells (m * 1)).toList = nxC [] m from by rw [Nat.mul_one]; exact toList_madeCells_one _ _] at hRow
          have hyg : y ≠ g := by omega
          have hBox := (hb.block y hyl).trans hBox
          have hyl : y < wm.heap.size := Nat.lt_of_lt_of_le hyl hb.size
          have hKR := hKR.trans (KeepR.below hb)
          have hRd := hRd.keep hb
          have hz : H + 1 ≤ wm.heap.size := Nat.le_trans hz hb.size
          clear hb
          refine hK.out _ _ ?_ (fun hHeld => ?_)
          · trivial
          clear hK K
          try simp only [Act.put, List.setIfInBounds_toArray, List.set_cons_zero, List.set_cons_succ]
          refine wpAnyH_take (i := 6) (oi := { dst := some 13, op := Go.Op.build 45 #[(0, Go.Operand.tmp 8), (2, Go.Operand.tmp 10), (1, Go.Operand.tmp 12)], type := 45, pos := "reader.go:66", after := #[{ on := 1, ground := Go.Ground.data }, { on := 3, ground := Go.Ground.data }, { on := 5, ground := Go.Ground.data }], guard := none }) (v := ?_) rfl (by kernel_rfl) (by kernel_rfl) (by kernel_rfl) (fun _ _ _ h => h) (Or.inl ⟨by rfl, ?_⟩) (by assumption) ?_
          rotate_left
          · intro w' hSw
            (try dsimp only at hSw)
            go_simp
            all_goals with_reducible rfl
          try simp only [Act.put, List.setIfInBounds_toArray, List.set_cons_zero, List.set_cons_succ]
          refine wpAnyH_ready (rs := [8]) (by kernel_rfl) (by simp) ?_
          refine (AllReadyH.cons (o := { dst := none, op := Go.Op.store 45 (Go.Operand.tmp 5) (Go.Operand.tmp 13), type := 0, pos := "reader.go:66", after := #[{ on := 7, ground := Go.Ground.data }, { on := 6, ground := Go.Ground.data }, { on := 3, ground := Go.Ground.chain }, { on := 0, ground := Go.Ground.phase }, { on := 1, ground := Go.Ground.phase }, { on := 2, ground := Go.Ground.phase }, { on := 3, ground := Go.Ground.phase }, { on := 4, ground := Go.Ground.phase }, { on := 5, ground := Go.Ground.phase }, { on := 6, ground := Go.Ground.phase }, { on := 7, ground := Go.Ground.phase }], guard := none }) rfl (fun K hK => ?_) AllReadyH.nil)
          refine wp_store_row 45 _ _ rfl y #[.int .i64 (rdNum s).1, .slice (some ⟨g, 0, none⟩) m m, .int .i64 (rdNum (rdNum s).2).1] rfl rfl _ _ hBox (by kernel_rfl) rfl (by simp [Value.oneCell']) ?_
          obtain ⟨wz, hwz⟩ : ∃ wz, wm.setRow y #[.int .i64 (rdNum s).1, .slice (some ⟨g, 0, none⟩) m m, .int .i64 (rdNum (rdNum s).2).1] = wz := ⟨_, rfl⟩
          have hother : ∀ b, b ≠ y → wz.heap[b]? = wm.heap[b]? := fun b hb => by rw [← hwz]; exact setRow_other wm y b _ hb
          have hszz : wz.heap.size = wm.heap.size := by rw [← hwz]; simp
          have hBox : DBoxN wz y (rdNum s).1 (.slice (some ⟨g, 0, none⟩) m m) (rdNum (rdNum s).2).1 := by rw [← hwz]; exact setRow_heap wm y _ _ _ _ hBox
          have hRow := own_keep1 hRow (hother g (fun q => hyg q.symm))
          have hRd : RdS x B0 (rdNum (rdNum s).2).2 wz := by
            obtain ⟨A, c, q1, q2, q3⟩ := hRd.box
            exact ⟨⟨A, c, (hother x (by omega)).trans q1, q2.keep fun p hp => World.cell?_of_block (hother p.block (by have := hRd.low; omega)), q3⟩, hRd.low, hRd.byte⟩
          have hKR : KeepR x w1 wz := ⟨by rw [← hwz]; exact hKR.os, by rw [← hwz]; exact hKR.tape, by rw [← hwz]; exact hKR.output, by rw [hszz]; exact hKR.size, fun b hb hx => (hother b (by omega)).trans (hKR.block b hb hx)⟩
          rw [hwz]
          clear hwz hother
          refine hK.out _ _ ?_ (fun hHeld => ?_)
          · trivial
          clear hK K
          try simp only [Act.put, List.setIfInBounds_toArray, List.set_cons_zero, List.set_cons_succ]
          obtain ⟨wl, rfl⟩ : ∃ wl : World, wl = wz := ⟨_, rfl⟩
        rotate_left 1
        focus
          obtain ⟨wm, hmk, hRow, hgm⟩ := run_make_full (P := Try.prog) wa1 H 43 3 i0 (.int .i64 0) 1 Try.underlying43 hi0 hz0 hz1 .i64 .i64 m (by rw [hz2]; omega) (by unfold maxLen; omega) (by omega)
          have hb : Below wa1.heap.size wa1 wm := (Below.refl _ _).grown hgm (Nat.le_refl _) (fun q e => by cases e)
          go_simp
          obtain ⟨g, hg⟩ : ∃ g, wa1.heap.size = g := ⟨_, rfl⟩
          rw [hg] at hRow hmk
          simp only [hg]
          have hgl : g < wm.heap.size := by have := World.ownsRow.lt hRow g rfl; omega
          have hgH : H < g := by omega
          clear hgm hmk
          rw [show (madeCells (Value.int .i64 0).cells (m * 1)).toList = nxC [] m from by rw [Nat.mul_one]; exact toList_madeCells_one _ _] at hRow
          have hyg : y ≠ g := by omega
          have hBox := (hb.block y hyl).trans hBox
          have hyl : y < wm.heap.size := Nat.lt_of_lt_of_le hyl hb.size
          have hKR := hKR.trans (KeepR.below hb)
          have hRd := hRd.keep hb
          have hz : H + 1 ≤ wm.heap.size := Nat.le_trans hz hb.size
          clear hb
          refine hK.out _ _ ?_ (fun hHeld => ?_)
          · trivial
          clear hK K
          try simp only [Act.put, List.setIfInBounds_toArray, List.set_cons_zero, List.set_cons_succ]
          refine wpAnyH_ready (rs := [3]) (by kernel_rfl) (by simp) ?_
          refine (AllReadyH.cons (o := { dst := some 10, op := Go.Op.call { callee := Go.Callee.value (Go.Operand.func 26), args := #[Go.Operand.tmp 9], argTypes := #[79] }, type := 3, pos := "reader.go:66", after := #[{ on := 2, ground := Go.Ground.data }, { on := 1, ground := Go.Ground.chain }], guard := none }) rfl (fun K hK => ?_) AllReadyH.nil)
          have hC := rnumber_any x B0 (rdNum s).2 wm hRd
          go_simp
          go_wp2_with (go_at_call 26; (with_reducible refine hC.mono ?_); rintro e3 wa3 ⟨rfl, hRd, hk⟩)
          clear hC
          have hRow := own_keep1 hRow (hk.block g hgl (by omega))
          have hgl : g < wa3.heap.size := Nat.lt_of_lt_of_le hgl hk.size
          have hBox := (hk.block y hyl (by omega)).trans hBox
          have hyl : y < wa3.heap.size := Nat.lt_of_lt_of_le hyl hk.size
          have hKR := hKR.trans hk
          have hz : H + 1 ≤ wa3.heap.size := Nat.le_trans hz hk.size
          clear hk
          refine hK.out _ _ ?_ (fun hHeld => ?_)
          · trivial
          clear hK K
          try simp only [Act.put, List.setIfInBounds_toArray, List.set_cons_zero, List.set_cons_succ]
          refine wpAnyH_take (i := 6) (oi := { dst := some 13, op := Go.Op.build 45 #[(0, Go.Operand.tmp 8), (2, Go.Operand.tmp 10), (1, Go.Operand.tmp 12)], type := 45, pos := "reader.go:66", after := #[{ on := 1, ground := Go.Ground.data }, { on := 3, ground := Go.Ground.data }, { on := 5, ground := Go.Ground.data }], guard := none }) (v := ?_) rfl (by kernel_rfl) (by kernel_rfl) (by kernel_rfl) (fun _ _ _ h => h) (Or.inl ⟨by rfl, ?_⟩) (by assumption) ?_
          rotate_left
          · intro w' hSw
            (try dsimp only at hSw)
            go_simp
            all_goals with_reducible rfl
          try simp only [Act.put, List.setIfInBounds_toArray, List.set_cons_zero, List.set_cons_succ]
          refine wpAnyH_ready (rs := [8]) (by kernel_rfl) (by simp) ?_
          refine (AllReadyH.cons (o := { dst := none, op := Go.Op.store 45 (Go.Operand.tmp 5) (Go.Operand.tmp 13), type := 0, pos := "reader.go:66", after := #[{ on := 7, ground := Go.Ground.data }, { on := 6, ground := Go.Ground.data }, { on := 3, ground := Go.Ground.chain }, { on := 0, ground := Go.Ground.phase }, { on := 1, ground := Go.Ground.phase }, { on := 2, ground := Go.Ground.phase }, { on := 3, ground := Go.Ground.phase }, { on := 4, ground := Go.Ground.phase }, { on := 5, ground := Go.Ground.phase }, { on := 6, ground := Go.Ground.phase }, { on := 7, ground := Go.Ground.phase }], guard := none }) rfl (fun K hK => ?_) AllReadyH.nil)
          refine wp_store_row 45 _ _ rfl y #[.int .i64 (rdNum s).1, .slice (some ⟨g, 0, none⟩) m m, .int .i64 (rdNum (rdNum s).2).1] rfl rfl _ _ hBox (by kernel_rfl) rfl (by simp [Value.oneCell']) ?_
          obtain ⟨wz, hwz⟩ : ∃ wz, wa3.setRow y #[.int .i64 (rdNum s).1, .slice (some ⟨g, 0, none⟩) m m, .int .i64 (rdNum (rdNum s).2).1] = wz := ⟨_, rfl⟩
          have hother : ∀ b, b ≠ y → wz.heap[b]? = wa3.heap[b]? := fun b hb => by rw [← hwz]; exact setRow_other wa3 y b _ hb
          have hszz : wz.heap.size = wa3.heap.size := by rw [← hwz]; simp
          have hBox : DBoxN wz y (rdNum s).1 (.slice (some ⟨g, 0, none⟩) m m) (rdNum (rdNum s).2).1 := by rw [← hwz]; exact setRow_heap wa3 y _ _ _ _ hBox
          have hRow := own_keep1 hRow (hother g (fun q => hyg q.symm))
          have hRd : RdS x B0 (rdNum (rdNum s).2).2 wz := by
            obtain ⟨A, c, q1, q2, q3⟩ := hRd.box
            exact ⟨⟨A, c, (hother x (by omega)).trans q1, q2.keep fun p hp => World.cell?_of_block (hother p.block (by have := hRd.low; omega)), q3⟩, hRd.low, hRd.byte⟩
          have hKR : KeepR x w1 wz := ⟨by rw [← hwz]; exact hKR.os, by rw [← hwz]; exact hKR.tape, by rw [← hwz]; exact hKR.output, by rw [hszz]; exact hKR.size, fun b hb hx => (hother b (by omega)).trans (hKR.block b hb hx)⟩
          rw [hwz]
          clear hwz hother
          refine hK.out _ _ ?_ (fun hHeld => ?_)
          · trivial
          clear hK K
          try simp only [Act.put, List.setIfInBounds_toArray, List.set_cons_zero, List.set_cons_succ]
          obtain ⟨wl, rfl⟩ : ∃ wl : World, wl = wz := ⟨_, rfl⟩
      rotate_left 2
      focus
        obtain ⟨wm, hmk, hRow, hgm⟩ := run_make_full (P := Try.prog) wy H 43 3 i0 (.int .i64 0) 1 Try.underlying43 hi0 hz0 hz1 .i64 .i64 m (by rw [hz2]; omega) (by unfold maxLen; omega) (by omega)
        have hb : Below wy.heap.size wy wm := (Below.refl _ _).grown hgm (Nat.le_refl _) (fun q e => by cases e)
        go_simp
        obtain ⟨g, hg⟩ : ∃ g, wy.heap.size = g := ⟨_, rfl⟩
        rw [hg] at hRow hmk
        simp only [hg]
        have hgl : g < wm.heap.size := by have := World.ownsRow.lt hRow g rfl; omega
        have hgH : H < g := by omega
        clear hgm hmk
        rw [show (madeCells (Value.int .i64 0).cells (m * 1)).toList = nxC [] m from by rw [Nat.mul_one]; exact toList_madeCells_one _ _] at hRow
        have hyg : y ≠ g := by omega
        have hBox := (hb.block y hyl).trans hBox
        have hyl : y < wm.heap.size := Nat.lt_of_lt_of_le hyl hb.size
        have hKR := hKR.trans (KeepR.below hb)
        have hRd := hRd.keep hb
        have hz : H + 1 ≤ wm.heap.size := Nat.le_trans hz hb.size
        clear hb
        refine hK.out _ _ ?_ (fun hHeld => ?_)
        · trivial
        clear hK K
        try simp only [Act.put, List.setIfInBounds_toArray, List.set_cons_zero, List.set_cons_succ]
        refine wpAnyH_ready (rs := [1]) (by kernel_rfl) (by simp) ?_
        refine (AllReadyH.cons (o := { dst := some 8, op := Go.Op.call { callee := Go.Callee.value (Go.Operand.func 26), args := #[Go.Operand.tmp 7], argTypes := #[79] }, type := 3, pos := "reader.go:66", after := #[{ on := 0, ground := Go.Ground.data }], guard := none }) rfl (fun K hK => ?_) AllReadyH.nil)
        have hC := rnumber_any x B0 s wm hRd
        go_simp
        go_wp2_with (go_at_call 26; (with_reducible refine hC.mono ?_); rintro e1 wa1 ⟨rfl, hRd, hk⟩)
        clear hC
        have hRow := own_keep1 hRow (hk.block g hgl (by omega))
        have hgl : g < wa1.heap.size := Nat.lt_of_lt_of_le hgl hk.size
        have hBox := (hk.block y hyl (by omega)).trans hBox
        have hyl : y < wa1.heap.size := Nat.lt_of_lt_of_le hyl hk.size
        have hKR := hKR.trans hk
        have hz : H + 1 ≤ wa1.heap.size := Nat.le_trans hz hk.size
        clear hk
        refine hK.out _ _ ?_ (fun hHeld => ?_)
        · trivial
        clear hK K
        try simp only [Act.put, List.setIfInBounds_toArray, List.set_cons_zero, List.set_cons_succ]
        refine wpAnyH_ready (rs := [3]) (by kernel_rfl) (by simp) ?_
        refine (AllReadyH.cons (o := { dst := some 10, op := Go.Op.call { callee := Go.Callee.value (Go.Operand.func 26), args := #[Go.Operand.tmp 9], argTypes := #[79] }, type := 3, pos := "reader.go:66", after := #[{ on := 2, ground := Go.Ground.data }, { on := 1, ground := Go.Ground.chain }], guard := none }) rfl (fun K hK => ?_) AllReadyH.nil)
        have hC := rnumber_any x B0 (rdNum s).2 wa1 hRd
        go_simp
        go_wp2_with (go_at_call 26; (with_reducible refine hC.mono ?_); rintro e3 wa3 ⟨rfl, hRd, hk⟩)
        clear hC
        have hRow := own_keep1 hRow (hk.block g hgl (by omega))
        have hgl : g < wa3.heap.size := Nat.lt_of_lt_of_le hgl hk.size
        have hBox := (hk.block y hyl (by omega)).trans hBox
        have hyl : y < wa3.heap.size := Nat.lt_of_lt_of_le hyl hk.size
        have hKR := hKR.trans hk
        have hz : H + 1 ≤ wa3.heap.size := Nat.le_trans hz hk.size
        clear hk
        refine hK.out _ _ ?_ (fun hHeld => ?_)
        · trivial
        clear hK K
        try simp only [Act.put, List.setIfInBounds_toArray, List.set_cons_zero, List.set_cons_succ]
        refine wpAnyH_take (i := 6) (oi := { dst := some 13, op := Go.Op.build 45 #[(0, Go.Operand.tmp 8), (2, Go.Operand.tmp 10), (1, Go.Operand.tmp 12)], type := 45, pos := "reader.go:66", after := #[{ on := 1, ground := Go.Ground.data }, { on := 3, ground := Go.Ground.data }, { on := 5, ground := Go.Ground.data }], guard := none }) (v := ?_) rfl (by kernel_rfl) (by kernel_rfl) (by kernel_rfl) (fun _ _ _ h => h) (Or.inl ⟨by rfl, ?_⟩) (by assumption) ?_
        rotate_left
        · intro w' hSw
          (try dsimp only at hSw)
          go_simp
          all_goals with_reducible rfl
        try simp only [Act.put, List.setIfInBounds_toArray, List.set_cons_zero, List.set_cons_succ]
        refine wpAnyH_ready (rs := [8]) (by kernel_rfl) (by simp) ?_
        refine (AllReadyH.cons (o := { dst := none, op := Go.Op.store 45 (Go.Operand.tmp 5) (Go.Operand.tmp 13), type := 0, pos := "reader.go:66", after := #[{ on := 7, ground := Go.Ground.data }, { on := 6, ground := Go.Ground.data }, { on := 3, ground := Go.Ground.chain }, { on := 0, ground := Go.Ground.phase }, { on := 1, ground := Go.Ground.phase }, { on := 2, ground := Go.Ground.phase }, { on := 3, ground := Go.Ground.phase }, { on := 4, ground := Go.Ground.phase }, { on := 5, ground := Go.Ground.phase }, { on := 6, ground := Go.Ground.phase }, { on := 7, ground := Go.Ground.phase }], guard := none }) rfl (fun K hK => ?_) AllReadyH.nil)
        refine wp_store_row 45 _ _ rfl y #[.int .i64 (rdNum s).1, .slice (some ⟨g, 0, none⟩) m m, .int .i64 (rdNum (rdNum s).2).1] rfl rfl _ _ hBox (by kernel_rfl) rfl (by simp [Value.oneCell']) ?_
        obtain ⟨wz, hwz⟩ : ∃ wz, wa3.setRow y #[.int .i64 (rdNum s).1, .slice (some ⟨g, 0, none⟩) m m, .int .i64 (rdNum (rdNum s).2).1] = wz := ⟨_, rfl⟩
        have hother : ∀ b, b ≠ y → wz.heap[b]? = wa3.heap[b]? := fun b hb => by rw [← hwz]; exact setRow_other wa3 y b _ hb
        have hszz : wz.heap.size = wa3.heap.size := by rw [← hwz]; simp
        have hBox : DBoxN wz y (rdNum s).1 (.slice (some ⟨g, 0, none⟩) m m) (rdNum (rdNum s).2).1 := by rw [← hwz]; exact setRow_heap wa3 y _ _ _ _ hBox
        have hRow := own_keep1 hRow (hother g (fun q => hyg q.symm))
        have hRd : RdS x B0 (rdNum (rdNum s).2).2 wz := by
          obtain ⟨A, c, q1, q2, q3⟩ := hRd.box
          exact ⟨⟨A, c, (hother x (by omega)).trans q1, q2.keep fun p hp => World.cell?_of_block (hother p.block (by have := hRd.low; omega)), q3⟩, hRd.low, hRd.byte⟩
        have hKR : KeepR x w1 wz := ⟨by rw [← hwz]; exact hKR.os, by rw [← hwz]; exact hKR.tape, by rw [← hwz]; exact hKR.output, by rw [hszz]; exact hKR.size, fun b hb hx => (hother b (by omega)).trans (hKR.block b hb hx)⟩
        rw [hwz]
        clear hwz hother
        refine hK.out _ _ ?_ (fun hHeld => ?_)
        · trivial
        clear hK K
        try simp only [Act.put, List.setIfInBounds_toArray, List.set_cons_zero, List.set_cons_succ]
        obtain ⟨wl, rfl⟩ : ∃ wl : World, wl = wz := ⟨_, rfl⟩
    all_goals
      refine wpAnyH_done (by kernel_rfl) ?_ _
      go_wp2_with (fail)
      go_meet
      exact ⟨y, g, rfl, hBox, hRow, hyg, hyH, hgH, hRd, hKR⟩
  case rest =>
  obtain ⟨w2, rfl⟩ : ∃ w2 : World, w2 = wc := ⟨_, rfl⟩
  obtain ⟨y, g, rfl, hN⟩ := hcut
  obtain ⟨s2, hs2⟩ : ∃ s2, (rdNum (rdNum s).2).2 = s2 := ⟨_, rfl⟩
  obtain ⟨na, hna⟩ : ∃ na, (rdNum s).1 = na := ⟨_, rfl⟩
  obtain ⟨nb, hnb⟩ : ∃ nb, (rdNum (rdNum s).2).1 = nb := ⟨_, rfl⟩
  have HR := Lib.hid (show rdNode m s = ((na, nb, (rdMany rdNum m s2).1), (rdMany rdNum m s2).2) from by rw [← hna, ← hnb, ← hs2]; rfl)
  have HAL := Lib.hid (many_in m s2 (by rw [← hs2]; exact (rdNum_lt _ (rdNum_lt s HRD.out.byte))))
  rw [hs2, hna, hnb] at hN
  clear hs2 hna hnb
  have HN := Lib.hid hN
  have c1 := hN.box.cells.2.1
  clear hN
  go_wp2_with (fail)
  go_loopw [17] (fun iv wr => ∃ k : Nat, k ≤ m ∧ iv = .int .i64 k ∧ NdS x B0 H y g m na nb (rdMany rdNum k s2).1 (rdMany rdNum k s2).2 w1 wr) (fun i _ => m - (intOf i).toNat)
  case atStart => exact ⟨0, Nat.zero_le _, rfl, HN.out⟩
  case round =>
    obtain ⟨k, hk, rfl, hN⟩ := hrel
    have hk1 : ¬ ((k : Int) < 0) := by omega
    by_cases hlt : k < m
    · have hlt' : (k : Int) < (m : Int) := by omega
      obtain ⟨sk, hsk⟩ : ∃ sk, (rdMany rdNum k s2).2 = sk := ⟨_, rfl⟩
      have HNX := Lib.hid (rdMany_snoc rdNum k s2)
      have hlen := rdMany_length rdNum k s2
      obtain ⟨lk, hlk⟩ : ∃ lk, (rdMany rdNum k s2).1 = lk := ⟨_, rfl⟩
      rw [hsk, hlk] at hN
      rw [hlk] at hlen
      rw [hlk, hsk] at HNX
      have HNK := Lib.hid hN
      have HLEN := Lib.hid hlen
      have cy := hN.box.cells.2.1
      clear hsk hlk hlen hN
      go_upto_region 5 with (fail)
      obtain ⟨we, hwe⟩ : ∃ we, wr.drew = we := ⟨_, rfl⟩
      have hNe : NdS x B0 H y g m na nb lk sk w1 we := by rw [← hwe]; exact HNK.out.drew
      have cye : we.cell? ⟨y, 1, none⟩ = some (.slice (some ⟨g, 0, none⟩) m m) := hNe.box.cells.2.1
      refine wp_region_held_drew (S := fun wS => wS.cell? ⟨y, 1, none⟩ = some (.slice (some ⟨g, 0, none⟩) m m)) (by kernel_rfl) (by rw [hwe]; exact cye) (fun hHeld => ?_)
      rw [hwe]
      clear hwe
      refine wpAnyH_take (i := 0) (oi := { dst := some 20, op := Go.Op.fieldAddr 45 (Go.Operand.tmp 5) 1, type := 0, pos := "reader.go:68", after := #[], guard := none }) (v := ?_) rfl (by kernel_rfl) (by kernel_rfl) (by kernel_rfl) (fun _ _ _ h => h) (Or.inl ⟨by rfl, ?_⟩) (by assumption) ?_
      rotate_left
      · intro w' hSw
        (try dsimp only at hSw)
        go_simp
        all_goals with_reducible rfl
      try simp only [Act.put, List.setIfInBounds_toArray, List.set_cons_zero, List.set_cons_succ]
      refine wpAnyH_take (i := 1) (oi := { dst := some 21, op := Go.Op.load 43 (Go.Operand.tmp 20), type := 43, pos := "reader.go:68", after := #[{ on := 0, ground := Go.Ground.data }], guard := none }) (v := ?_) rfl (by kernel_rfl) (by kernel_rfl) (by kernel_rfl) (fun _ _ _ h => h) (Or.inl ⟨by rfl, ?_⟩) (by assumption) ?_
      rotate_left
      · intro w' hSw
        (try dsimp only at hSw)
        go_simp
        all_goals with_reducible rfl
      try simp only [Act.put, List.setIfInBounds_toArray, List.set_cons_zero, List.set_cons_succ]
      refine wpAnyH_take (i := 2) (oi := { dst := some 22, op := Go.Op.move (Go.Operand.tmp 6), type := 3, pos := "reader.go:68", after := #[], guard := none }) (v := ?_) rfl (by kernel_rfl) (by kernel_rfl) (by kernel_rfl) (fun _ _ _ h => h) (Or.inl ⟨by rfl, ?_⟩) (by assumption) ?_
      rotate_left
      · intro w' hSw
        (try dsimp only at hSw)
        go_simp
        all_goals with_reducible rfl
      try simp only [Act.put, List.setIfInBounds_toArray, List.set_cons_zero, List.set_cons_succ]
      refine wpAnyH_take (i := 3) (oi := { dst := some 23, op := Go.Op.move (Go.Operand.tmp 0), type := 79, pos := "reader.go:68", after := #[], guard := none }) (v := ?_) rfl (by kernel_rfl) (by kernel_rfl) (by kernel_rfl) (fun _ _ _ h => h) (Or.inl ⟨by rfl, ?_⟩) (by assumption) ?_
      rotate_left
      · intro w' hSw
        (try dsimp only at hSw)
        go_simp
        all_goals with_reducible rfl
      try simp only [Act.put, List.setIfInBounds_toArray, List.set_cons_zero, List.set_cons_succ]
      refine wpAnyH_ready (rs := [4]) (by kernel_rfl) (by simp) ?_
      refine (AllReadyH.cons (o := { dst := some 24, op := Go.Op.call { callee := Go.Callee.value (Go.Operand.func 26), args := #[Go.Operand.tmp 23], argTypes := #[79] }, type := 3, pos := "reader.go:68", after := #[{ on := 3, ground := Go.Ground.data }], guard := none }) rfl (fun K hK => ?_) AllReadyH.nil)
      have hC := rnumber_any x B0 sk we hNe.rd
      go_simp
      go_wp2_with (go_at_call 26; (with_reducible refine hC.mono ?_); rintro e1 wn ⟨rfl, hRd, hk⟩)
      clear hC
      have hNm := hNe.moved hRd hk hxl
      have cym : wn.cell? ⟨y, 1, none⟩ = some (.slice (some ⟨g, 0, none⟩) m m) := hNm.box.cells.2.1
      clear hRd hk
      refine hK.out _ _ ?_ (fun hHeld => ?_)
      · exact cym
      clear hK K
      try simp only [Act.put, List.setIfInBounds_toArray, List.set_cons_zero, List.set_cons_succ]
      refine wpAnyH_take (i := 5) (oi := { dst := some 25, op := Go.Op.indexAddr 43 (Go.Operand.tmp 21) (Go.Operand.tmp 22), type := 0, pos := "reader.go:68", after := #[{ on := 1, ground := Go.Ground.data }, { on := 2, ground := Go.Ground.data }, { on := 0, ground := Go.Ground.phase }, { on := 1, ground := Go.Ground.phase }, { on := 2, ground := Go.Ground.phase }, { on := 3, ground := Go.Ground.phase }, { on := 4, ground := Go.Ground.phase }], guard := none }) (v := ?_) rfl (by kernel_rfl) (by kernel_rfl) (by kernel_rfl) (fun _ _ _ h => h) (Or.inl ⟨by rfl, ?_⟩) (by assumption) ?_
      rotate_left
      · intro w' hSw
        (try dsimp only at hSw)
        go_simp
        all_goals with_reducible rfl
      try simp only [Act.put, List.setIfInBounds_toArray, List.set_cons_zero, List.set_cons_succ]
      refine wpAnyH_ready (rs := [6]) (by kernel_rfl) (by simp) ?_
      refine (AllReadyH.cons (o := { dst := none, op := Go.Op.store 3 (Go.Operand.tmp 25) (Go.Operand.tmp 24), type := 0, pos := "reader.go:68", after := #[{ on := 5, ground := Go.Ground.data }, { on := 4, ground := Go.Ground.data }, { on := 4, ground := Go.Ground.chain }, { on := 0, ground := Go.Ground.phase }, { on := 1, ground := Go.Ground.phase }, { on := 2, ground := Go.Ground.phase }, { on := 3, ground := Go.Ground.phase }, { on := 4, ground := Go.Ground.phase }], guard := none }) rfl (fun K hK => ?_) AllReadyH.nil)
      have hcg : wn.cell? ⟨g, k, none⟩ = some (.int .i64 0) := by rw [World.ownsRow.cellAt hNm.row k (by omega), nxC_at lk m k HLEN.out hlt]
      have hfg : wn.frozen? ⟨g, k, none⟩ = false := World.ownsRow.frozenAt hNm.row k
      have hNf := hNm.stored (z := (rdNum sk).1) hxl hs1 (by rw [HLEN.out]; exact hlt)
      rw [HLEN.out] at hNf
      have cyf : (wn.setCell ⟨g, k, none⟩ (.int .i64 (rdNum sk).1)).cell? ⟨y, 1, none⟩ = some (.slice (some ⟨g, 0, none⟩) m m) := hNf.box.cells.2.1
      go_simp
      go_wp2_with (fail)
      obtain ⟨wf, hwf⟩ : ∃ wf, wn.setCell ⟨g, k, none⟩ (.int .i64 (rdNum sk).1) = wf := ⟨_, rfl⟩
      rw [hwf] at hNf cyf
      try rw [hwf]
      clear hwf
      refine hK.out _ _ ?_ (fun hHeld => ?_)
      · exact cyf
      clear hK K
      try simp only [Act.put, List.setIfInBounds_toArray, List.set_cons_zero, List.set_cons_succ]
      obtain ⟨wl, rfl⟩ : ∃ wl : World, wl = wf := ⟨_, rfl⟩
      all_goals
        refine wpAnyH_done (by kernel_rfl) ?_ _
        have HN3 := Lib.hid hNf
        clear hNf hNe
        go_wp2_with (fail)
        go_roundw
        case rel => exact ⟨k + 1, by omega, by go_num, by rw [HNX.out]; exact HN3.out⟩
        case measure => simp [intOf]; omega
    · obtain rfl : k = m := by omega
      have HNK := Lib.hid hN
      have hres := (hN.keep.block H (by omega) (by omega)).trans HRES.out
      clear hN
      go_wp2_with (first | (refine wpList_load_row rfl 45 _ rfl y rfl _ _ _ _ HNK.out.box Try.underlying45 rfl (by kernel_rfl) ?_) | (refine wpList_store_row rfl 45 _ _ rfl H #[.int .i64 na, .slice (some ⟨g, 0, none⟩) k k, .int .i64 nb] rfl rfl _ _ hres (by kernel_rfl) rfl (by simp [Value.oneCell']) ?_))
      have hs3 := setRow_heap wr H _ #[.int .i64 na, .slice (some ⟨g, 0, none⟩) k k, .int .i64 nb] _ _ hres
      have HND := HNK.out.result hxl HS.out HB1.out (rdMany_length rdNum k s2) HAL.out #[.int .i64 na, .slice (some ⟨g, 0, none⟩) k k, .int .i64 nb]
      exact bodyPost_ret (results_cell_row rfl _ _ H _ _ _ (.struct (Try.prog.fieldsOf 45)) rfl hs3 (by kernel_rfl) rfl (by kernel_rfl)) rfl (by rw [HR.out]; exact HND)
end Go.Proofs.Ytboaifdkoemnbaa.Pk
/- What (*pack.reader).table holds in its loops: the table's box, the row that grows, the reader. -/
namespace Go.Proofs.Ytboaifdkoemnbaa.Pk
set_option maxRecDepth 100000
open Go Go.RowKit Go.Proofs.Ytboaifdkoemnbaa.Sp Go.Proofs.Ytboaifdkoemnbaa.Pa Go.Proofs.Ytboaifdkoemnbaa.Te Go.Proofs.Ytboaifdkoemnbaa.Mi Go.Proofs.Ytboaifdkoemnbaa.De Go.Proofs.Ytboaifdkoemnbaa.Wo

/-- A table's cells, whatever its slices are. -/
def tbC (cls : List Nat) (a b c : Value) : List Value := clsV cls ++ [a, b, c]
section
variable {cls : List Nat} {a b c : Value}
theorem clsV_len (h : cls.length = 256) : (clsV cls).length = 256 := by unfold clsV; rw [List.length_map, h]
theorem tbC_length (h : cls.length = 256) : (tbC cls a b c).length = 259 := by
  unfold tbC
  rw [List.length_append, clsV_len h]
  rfl
theorem tbC_at0 (h : cls.length = 256) : (tbC cls a b c)[256]? = some a := by
  unfold tbC
  rw [List.getElem?_append_right (by rw [clsV_len h]; omega), clsV_len h]
  rfl
theorem tbC_at1 (h : cls.length = 256) : (tbC cls a b c)[257]? = some b := by
  unfold tbC
  rw [List.getElem?_append_right (by rw [clsV_len h]; omega), clsV_len h]
  rfl
theorem tbC_at2 (h : cls.length = 256) : (tbC cls a b c)[258]? = some c := by
  unfold tbC
  rw [List.getElem?_append_right (by rw [clsV_len h]; omega), clsV_len h]
  rfl
theorem tbC_set0 (h : cls.length = 256) (u : Value) : (tbC cls a b c).set 256 u = tbC cls u b c := by
  unfold tbC
  rw [List.set_append, if_neg (by rw [clsV_len h]; omega), clsV_len h]
  rfl
theorem tbC_set1 (h : cls.length = 256) (u : Value) : (tbC cls a b c).set 257 u = tbC cls a u c := by
  unfold tbC
  rw [List.set_append, if_neg (by rw [clsV_len h]; omega), clsV_len h]
  rfl
theorem tbC_set2 (h : cls.length = 256) (u : Value) : (tbC cls a b c).set 258 u = tbC cls a b u := by
  unfold tbC
  rw [List.set_append, if_neg (by rw [clsV_len h]; omega), clsV_len h]
  rfl
end
theorem tab_zero : Try.zeroCells27 = (tbC (List.replicate 256 0) (.slice none 0 0) (.slice none 0 0) (.slice none 0 0)).toArray := by kernel_rfl
/-- Only the reader's box and the table's are written to. -/
structure KeepT (x T : Nat) (w w' : World) : Prop where
  os : w'.os = w.os
  tape : w'.tape = w.tape
  output : w'.output = w.output
  size : w.heap.size ≤ w'.heap.size
  block : ∀ b, b < w.heap.size → b ≠ x → b ≠ T → w'.heap[b]? = w.heap[b]?
section
variable {x T : Nat} {w w1 w2 : World}
theorem KeepT.refl (x T : Nat) (w : World) : KeepT x T w w := ⟨rfl, rfl, rfl, Nat.le_refl _, fun _ _ _ _ => rfl⟩
theorem KeepT.trans (h : KeepT x T w w1) (h2 : KeepT x T w1 w2) : KeepT x T w w2 :=
  ⟨h2.os.trans h.os, h2.tape.trans h.tape, h2.output.trans h.output, Nat.le_trans h.size h2.size, fun b hb hx ht => (h2.block b (Nat.lt_of_lt_of_le hb h.size) hx ht).trans (h.block b hb hx ht)⟩
theorem KeepR.t (h : KeepR x w w1) : KeepT x T w w1 := ⟨h.os, h.tape, h.output, h.size, fun b hb hx _ => h.block b hb hx⟩
theorem KeepT.r (h : KeepT x T w1 w2) (hb : Below w.heap.size w w1) (hT : w.heap.size ≤ T) : KeepR x w w2 :=
  ⟨h.os.trans hb.os, h.tape.trans hb.tape, h.output.trans hb.output, Nat.le_trans hb.size h.size, fun b hlt hx => (h.block b (Nat.lt_of_lt_of_le hlt hb.size) hx (by omega)).trans (hb.block b hlt)⟩
theorem KeepT.q (h : KeepT x T w w1) {p : Nat → Prop} (hp : ∀ b, p b → b ≠ x ∧ b ≠ T) : KeepQ p w w1 := ⟨h.size, fun b hb hlt => h.block b hlt (hp b hb).1 (hp b hb).2⟩
theorem KeepT.set (x : Nat) (w : World) (T j : Nat) (v : Value) : KeepT x T w (w.setCell ⟨T, j, none⟩ v) := ⟨rfl, rfl, rfl, by simp, fun b _ _ hb => Below.heap_setCell w _ _ b hb⟩
theorem KeepT.setRow (x : Nat) (w : World) (T : Nat) (cs : Array Value) : KeepT x T w (w.setRow T cs) := ⟨rfl, rfl, rfl, by simp, fun b _ _ hb => setRow_other w T b cs hb⟩
theorem KeepT.grown (h : KeepT x T w w1) {row : Option Nat} (hg : w1.grownBy w2 row) (hr : ∀ g, row = some g → w.heap.size ≤ g) : KeepT x T w w2 :=
  ⟨hg.os.trans h.os, hg.tape.trans h.tape, hg.output.trans h.output, Nat.le_trans h.size hg.size, fun b hb hx ht => (hg.block b (Nat.lt_of_lt_of_le hb h.size) (fun e => by have := hr b e.symm; omega)).trans (h.block b hb hx ht)⟩
/-- A block above the reader's may be written to. -/
theorem RdS.other {B0 : Nat} {s : Rd} (h : RdS x B0 s w) (hk : ∀ b, b ≤ x → w1.heap[b]? = w.heap[b]?) : RdS x B0 s w1 := by
  obtain ⟨A, c, h1, h2, h3⟩ := h.box
  have hlow := h.low
  exact ⟨⟨A, c, (hk x (Nat.le_refl _)).trans h1, h2.keep fun p hp => World.cell?_of_block (hk p.block (by omega)), h3⟩, h.low, h.byte⟩
end
/-- A loop of the table's reader: the row v of the list l grows. -/
structure LpS {α : Type} (e : Enc α) (x B0 T : Nat) (mk : Value → List Value) (w0 : World) (v : Value) (l : List α) (s : Rd) (w : World) : Prop where
  box : w.heap[T]? = some (.cells (mk v).toArray 27 (0, 0))
  row : RowE e w0.heap.size w v l
  rd : RdS x B0 s w
  keep : KeepT x T w0 w
  xT : x < T
  T0 : T < w0.heap.size
section
variable {α : Type} {e : Enc α} {x B0 T : Nat} {mk : Value → List Value} {w0 w w' : World} {v : Value} {l : List α} {s s' : Rd}
theorem LpS.lt (h : LpS e x B0 T mk w0 v l s w) : T < w.heap.size := (Array.getElem?_eq_some_iff.1 h.box).1
theorem LpS.moved (h : LpS e x B0 T mk w0 v l s w) (hr : RdS x B0 s' w') (hk : KeepR x w w') : LpS e x B0 T mk w0 v l s' w' :=
  have h1 := h.xT
  have h2 := h.T0
  ⟨(hk.block T h.lt (by omega)).trans h.box, h.row.keep (hk.q fun b hb => by have hb : w0.heap.size ≤ b := hb; omega), hr, h.keep.trans hk.t, h1, h2⟩
theorem LpS.below (h : LpS e x B0 T mk w0 v l s w) (hb : Below w.heap.size w w') : LpS e x B0 T mk w0 v l s w' := h.moved (h.rd.keep hb) (KeepR.below hb)
theorem LpS.drew (h : LpS e x B0 T mk w0 v l s w) : LpS e x B0 T mk w0 v l s w.drew := h.below (Below.refl _ _).drew
theorem LpS.cell (h : LpS e x B0 T mk w0 v l s w) (off : Nat) : w.cell? ⟨T, off, none⟩ = (mk v)[off]? := by
  rw [cell_of_row w T off _ _ _ h.box]
  simp
theorem LpS.frozen (h : LpS e x B0 T mk w0 v l s w) (off : Nat) : w.frozen? ⟨T, off, none⟩ = false := by simp [World.frozen?, h.box]
/-- Blocks from the last call on are none of the row's. -/
theorem LpS.news (h : LpS e x B0 T mk w0 v l s w) (b : Nat) (hb : w.heap.size ≤ b) : w0.heap.size ≤ b ∧ v.ownBlock ≠ some b :=
  ⟨Nat.le_trans h.keep.size hb, fun q => by have := (h.row.lt b q).2; omega⟩
/-- The row behind an append. -/
theorem LpS.grown {w7 : World} (h : LpS e x B0 T mk w0 v l s w) (hg : w.grownBy w7 v.ownBlock) : w7.heap[T]? = w.heap[T]? :=
  hg.block T h.lt fun q => by have := (h.row.lt T q.symm).1; have := h.T0; omega
theorem LpS.push {w7 : World} {v7 : Value} {y : α} (h : LpS e x B0 T mk w0 v l s w) (hrow : RowE e w0.heap.size w7 v7 (l ++ [y])) (hg : w.grownBy w7 v.ownBlock) (off : Nat) (hset : (mk v).set off v7 = mk v7) :
    LpS e x B0 T mk w0 v7 (l ++ [y]) s (w7.setCell ⟨T, off, none⟩ v7) := by
  have h1 := h.xT
  have h2 := h.T0
  have hT : w7.heap[T]? = some (.cells (mk v).toArray 27 (0, 0)) := (hg.block T h.lt fun q => by have := (h.row.lt T q.symm).1; omega).trans h.box
  have hne : ∀ b, b ≠ T → (w7.setCell ⟨T, off, none⟩ v7).heap[b]? = w7.heap[b]? := fun b hb => heap_setCell_other w7 ⟨T, off, none⟩ b _ (fun e => hb e)
  have hxl := h.rd.lt
  refine ⟨?_, hrow.keep ⟨by simp, fun b hb _ => hne b (by have hb : w0.heap.size ≤ b := hb; omega)⟩, h.rd.other fun b hb => (hne b (by omega)).trans (hg.block b (by omega) fun q => by have := (h.row.lt b q.symm).1; omega), (h.keep.grown hg fun g q => (h.row.lt g q).1).trans (KeepT.set x w7 T off v7), h1, h2⟩
  have := heap_setCell_same w7 T off _ 27 v7 hT
  rw [this]
  congr 2
  rw [← hset]
  simp
theorem LpS.start (hT : w.heap[T]? = some (.cells (mk (.slice none 0 0)).toArray 27 (0, 0))) (hr : RdS x B0 s w) (hx : x < T) : LpS e x B0 T mk w (.slice none 0 0) [] s w :=
  ⟨hT, RowE.nil_ _ _, hr, KeepT.refl _ _ _, hx, (Array.getElem?_eq_some_iff.1 hT).1⟩
end
/-- The bytes that were read are laid into the table's box. -/
theorem wp_copy_cls {w : World} {o : Oper} {a : Act} {K : Act → World → Prop} {Q : Exit → Act → World → Prop} (d s : Operand)
    (ho : o.op = .call { callee := .builtin .copy, args := #[d, s], argTypes := #[30, 30] }) {T B0 n c : Nat} {A : Option Addr} {l : List Nat} (hd : a.eval d = .slice (some ⟨T, 0, none⟩) 256 256) (hs : a.eval s = .slice A n c)
    (hT : w.heap[T]? = some (.cells (tbC (List.replicate 256 0) (.slice none 0 0) (.slice none 0 0) (.slice none 0 0)).toArray 27 (0, 0))) (hl : l.length = n) (hn : n = 0 ∨ n = 256) (hr : RY w B0 A n (byI l))
    (h : ∀ w', w'.heap[T]? = some (.cells (tbC (l ++ List.replicate (256 - n) 0) (.slice none 0 0) (.slice none 0 0) (.slice none 0 0)).toArray 27 (0, 0)) → (∀ b, b ≠ T → w'.heap[b]? = w.heap[b]?) → (∀ x, KeepT x T w w') → K (a.put o.dst (.int .i64 (n : Int))) w') : Oper.wp Try.prog o a w K Q := by
  have hi : (Try.prog.info? 5).map (·.size) = some 1 := by kernel_rfl
  rcases hn with rfl | rfl
  · obtain rfl := List.eq_nil_of_length_eq_zero hl
    have hr := run_copy_none (P := Try.prog) w 30 30 o.type 5 (some ⟨T, 0, none⟩) A 256 256 0 c Try.underlying30 hi rfl
    unfold Oper.wp execOp
    simp only [ho, resolve, invoke, builtin, Sem.run_bind, Sem.run_pure, Result.andThen_ok, List.map_toArray, List.map_cons, List.map_nil, hd, hs, hr]
    exact h w hT (fun _ _ => rfl) fun x => KeepT.refl _ _ _
  · obtain ⟨_, h2⟩ := hr
    obtain ⟨b, off, rfl, _, hc⟩ := h2 (by omega)
    have hr := run_copy_row (P := Try.prog) w 30 30 o.type 5 T 0 256 256 ⟨b, off, none⟩ 256 c _ 27 (clsV l) Try.underlying30 hi hT (by rw [clsV_len hl]; rfl) (fun j u hu => by
      unfold clsV at hu
      rw [List.getElem?_map] at hu
      obtain ⟨z, hz, rfl⟩ := Option.map_eq_some_iff.1 hu
      obtain ⟨hj, hz⟩ := List.getElem?_eq_some_iff.1 hz
      have h3 := hc j (by rw [byI_length]; exact hj)
      rw [Addr.add_mid, h3, show (byI l)[j]'(by rw [byI_length]; exact hj) = ((l[j] : Nat) : Int) from by unfold byI; rw [List.getElem_map], hz]) (by rw [clsV_len hl, List.size_toArray, tbC_length (by simp)]; omega) (fun u hu => by
      obtain ⟨z, _, rfl⟩ := List.mem_map.1 hu
      rfl)
    unfold Oper.wp execOp
    simp only [ho, resolve, invoke, builtin, Sem.run_bind, Sem.run_pure, Result.andThen_ok, List.map_toArray, List.map_cons, List.map_nil, hd, hs, hr]
    have h9 := h (w.setRow T (tbC l (.slice none 0 0) (.slice none 0 0) (.slice none 0 0)).toArray) (by
      rw [show (256 - 256 : Nat) = 0 from rfl, List.replicate_zero, List.append_nil]
      exact setRow_heap w T _ _ _ _ hT) (fun b hb => setRow_other w T b _ hb) fun x => KeepT.setRow x w T _
    rw [clsV_len hl]
    exact h9
/-- A loop's relation. -/
def LpRel {α : Type} (e : Enc α) (f : Rd → α × Rd) (n x B0 T : Nat) (mk : Value → List Value) (s : Rd) (w0 : World) (iv : Value) (wr : World) : Prop :=
  ∃ (k : Nat) (v : Value), k ≤ n ∧ iv = .int .i64 k ∧ LpS e x B0 T mk w0 v (rdMany f k s).1 (rdMany f k s).2 wr
/-- A table whose memory lies in blocks from B on. -/
structure TF (B : Nat) (w : World) (t : TV) : Prop where
  cls : t.T.cls.length = 256
  byte : ∀ c ∈ t.T.cls, c < 256
  nodes : FarE eNode (fun b => B ≤ b) w t.A t.T.nodes
  acts : FarE eAct (fun b => B ≤ b) w t.B t.T.acts
  ends : FarE eEnd (fun b => B ≤ b) w t.C t.T.ends
  ca : t.T.nodes.length ≤ t.ca
  cb : t.T.acts.length ≤ t.cb
  cc : t.T.ends.length ≤ t.cc
  la : t.T.nodes.length ≤ maxLen
  lb : t.T.acts.length ≤ maxLen
  lc : t.T.ends.length ≤ maxLen
theorem TF.tm {B : Nat} {w : World} {t : TV} (h : TF B w t) : TM w t := ⟨h.cls, h.byte, far_nodes h.nodes, far_acts h.acts, far_ends h.ends, h.ca, h.cb, h.cc, h.la, h.lb, h.lc⟩
theorem TF.keep {B : Nat} {w w' : World} {t : TV} (h : TF B w t) (hk : KeepQ (fun b => B ≤ b) w w') : TF B w' t :=
  ⟨h.cls, h.byte, h.nodes.keep hk fun _ hb _ => hb, h.acts.keep hk fun _ hb _ => hb, h.ends.keep hk fun _ hb _ => hb, h.ca, h.cb, h.cc, h.la, h.lb, h.lc⟩
def TableR (x B0 : Nat) (s : Rd) (w : World) (en : Ending) (w' : World) : Prop := ∃ t : TV, en = .returned t.val ∧ t.T = (rdTab s).1 ∧ TF w.heap.size w' t ∧ RdS x B0 (rdTab s).2 w' ∧ KeepR x w w'
end Go.Proofs.Ytboaifdkoemnbaa.Pk
