/- The walk of (*pack.reader).node. -/
import Derived.Test.YtgmkchkaceciiaaPkReadT
import Derived.Test.YtgmkchkaceciiaaPkNeeds
import Derived.Deep.OwnRows
import Derived.Deep.RegionHeld3
import Derived.Deep.RegionLaw
import Derived.Deep.DeepCutAuto
import Derived.Tactics2
namespace Go.Proofs.Ytgmkchkaceciiaa.Pk
set_option maxRecDepth 100000
set_option linter.unusedSimpArgs false
open Go Go.RowKit Go.Proofs.Ytgmkchkaceciiaa.Sp Go.Proofs.Ytgmkchkaceciiaa.Pa Go.Proofs.Ytgmkchkaceciiaa.Te Go.Proofs.Ytgmkchkaceciiaa.Mi Go.Proofs.Ytgmkchkaceciiaa.De Go.Proofs.Ytgmkchkaceciiaa.Wo

theorem LeftLe.node (m : Nat) : LeftLe (rdNode m) := LeftLe.num.then_ fun _ => LeftLe.num.then_ fun _ => LeftLe.num.many m
/-- A node's box. -/
def DBoxN (w : World) (y : Nat) (a : Int) (v : Value) (b : Int) : Prop := w.heap[y]? = some (.cells #[.int .i64 a, v, .int .i64 b] 81 (0, 0))
theorem DBoxN.cells {w : World} {y : Nat} {a b : Int} {v : Value} (h : DBoxN w y a v b) : w.cell? ⟨y, 0, none⟩ = some (.int .i64 a) ∧ w.cell? ⟨y, 1, none⟩ = some v ∧ w.cell? ⟨y, 2, none⟩ = some (.int .i64 b) := by
  refine ⟨?_, ?_, ?_⟩ <;> (rw [cell_of_row w y _ _ _ _ h]; rfl)
theorem DBoxN.lt {w : World} {y : Nat} {a b : Int} {v : Value} (h : DBoxN w y a v b) : y < w.heap.size := (Array.getElem?_eq_some_iff.1 h).1
/-- The numbers of a node so far. -/
def nxC (l : List Int) (m : Nat) : List Value := l.map (Value.int .i64) ++ List.replicate (m - l.length) (.int .i64 0)
/-- Behind the node's making: its box y leads to a row g of m numbers. -/
structure NdS (x B0 H y g m : Nat) (a b : Int) (l : List Int) (s : Rd) (w0 w : World) : Prop where
  box : DBoxN w y a (.slice (some ⟨g, 0, none⟩) m m) b
  row : w.ownsRow H 3 1 (.slice (some ⟨g, 0, none⟩) m m) m (nxC l m)
  ne : y ≠ g
  yH : H < y
  gH : H < g
  rd : RdS x B0 s w
  keep : KeepR x w0 w
theorem own_keep1 {w w' : World} {B g n m c : Nat} {cells : List Value} (h : w.ownsRow B 3 1 (.slice (some ⟨g, 0, none⟩) m c) n cells) (hg : w'.heap[g]? = w.heap[g]?) : w'.ownsRow B 3 1 (.slice (some ⟨g, 0, none⟩) m c) n cells :=
  ownsRow_keep h fun q e => by
    have e' : q = g := by simpa [Value.ownBlock, eq_comm] using e
    rw [e']; exact hg
def NodeR (x B0 : Nat) (r : NdL × Rd) (w : World) (en : Ending) (w' : World) : Prop := ∃ A c, en = .returned (.agg #[.int .i64 r.1.1, .slice A r.1.2.2.length c, .int .i64 r.1.2.1]) ∧ FarE eInt (fun b => w.heap.size ≤ b) w' A r.1.2.2 ∧ r.1.2.2.length ≤ c ∧ (∀ z ∈ r.1.2.2, IntR z) ∧ RdS x B0 r.2 w' ∧ KeepR x w w'
theorem NdS.drew {x B0 H y g m : Nat} {a b : Int} {l : List Int} {s : Rd} {w0 w : World} (h : NdS x B0 H y g m a b l s w0 w) : NdS x B0 H y g m a b l s w0 w.drew :=
  have hb : Below w.heap.size w w.drew := (Below.refl _ _).drew
  ⟨(hb.block y h.box.lt).trans h.box, own_keep1 h.row (hb.block g (World.ownsRow.lt h.row g rfl).2), h.ne, h.yH, h.gH, h.rd.keep hb, h.keep.trans (KeepR.below hb)⟩
theorem NdS.moved {x B0 H y g m : Nat} {a b : Int} {l : List Int} {s s' : Rd} {w0 w w' : World} (h : NdS x B0 H y g m a b l s w0 w) (hr : RdS x B0 s' w') (hk : KeepR x w w') (hxH : x < H) : NdS x B0 H y g m a b l s' w0 w' :=
  ⟨(hk.block y h.box.lt (by have := h.yH; omega)).trans h.box, own_keep1 h.row (hk.block g (World.ownsRow.lt h.row g rfl).2 (by have := h.gH; omega)), h.ne, h.yH, h.gH, hr, h.keep.trans hk⟩
theorem nxC_at (l : List Int) (m k : Nat) (hl : l.length = k) (hk : k < m) : (nxC l m)[k]? = some (.int .i64 0) := by
  unfold nxC
  rw [List.getElem?_append_right (by simp; omega), List.length_map, hl, Nat.sub_self, List.getElem?_replicate]
  simp; omega
theorem IntR.num (s : Rd) (h : ∀ y ∈ s.left, y < 256) : IntR (rdNum s).1 := by
  have := sgn_in (n := accL (rdBytes 4 s).1)
  rw [(rdNum_bytes s).1]
  unfold IntR
  have hb : ∀ b ∈ (rdBytes 4 s).1, b < 256 := by
    unfold rdBytes
    split
    · exact fun b hb => h b (List.mem_of_mem_take hb)
    · exact fun b hb => (List.not_mem_nil hb).elim
  have h4 : (rdBytes 4 s).1.length ≤ 4 := by rcases (rdNum_bytes s).2.2 with q | q <;> omega
  have := this (Nat.lt_of_lt_of_le (accL_lt _ hb) (Nat.pow_le_pow_right (by decide) h4))
  unfold In32 at this
  omega
theorem rdNum_lt (s : Rd) (h : ∀ y ∈ s.left, y < 256) : ∀ y ∈ (rdNum s).2.left, y < 256 := (rdNum_tells s h).1
theorem many_in : ∀ (m : Nat) (s : Rd) (_ : ∀ y ∈ s.left, y < 256), ∀ z ∈ (rdMany rdNum m s).1, IntR z
  | 0, _, _, z, hz => by simp [rdMany] at hz
  | m + 1, s, h, z, hz => by
    rcases List.mem_cons.1 hz with rfl | hz
    · exact IntR.num s h
    · exact many_in m _ (rdNum_lt s h) z hz
theorem nxC_set (l : List Int) (m : Nat) (z : Int) (h : l.length < m) : (nxC l m).set l.length (.int .i64 z) = nxC (l ++ [z]) m := by
  unfold nxC
  obtain ⟨d, hd⟩ : ∃ d, m - l.length = d + 1 := ⟨m - l.length - 1, by omega⟩
  rw [List.length_append, List.length_singleton, hd, show m - (l.length + 1) = d by omega, List.map_append, List.replicate_succ, List.set_append, if_neg (by simp), List.length_map, Nat.sub_self, List.set_cons_zero, List.append_assoc]
  rfl
theorem NdS.stored {x B0 H y g m : Nat} {a b z : Int} {l : List Int} {s : Rd} {w0 w : World} (h : NdS x B0 H y g m a b l s w0 w) (hxH : x < H) (hH : w0.heap.size = H + 1) (hl : l.length < m) :
    NdS x B0 H y g m a b (l ++ [z]) s w0 (w.setCell ⟨g, l.length, none⟩ (.int .i64 z)) := by
  have hs := (World.ownsRow.stored h.row l.length (.int .i64 z))
  rw [nxC_set l m z hl] at hs
  have hne : ∀ b, b ≠ g → (w.setCell ⟨g, l.length, none⟩ (.int .i64 z)).heap[b]? = w.heap[b]? := fun b hb => heap_setCell_other w ⟨g, l.length, none⟩ b _ (fun e => hb e)
  have hgH := h.gH
  obtain ⟨A, c, q1, q2, q3⟩ := h.rd.box
  have hlow := h.rd.low
  refine ⟨(hne y h.ne).trans h.box, hs.1, h.ne, h.yH, h.gH, ⟨⟨A, c, (hne x (by omega)).trans q1, q2.keep fun p hp => World.cell?_of_block (hne p.block (by omega)), q3⟩, hlow, h.rd.byte⟩, h.keep.grown hs.2 (fun q e => by injection e with e; omega)⟩
theorem NdS.result {x B0 H y g m : Nat} {a b : Int} {l : List Int} {s : Rd} {w w1 wr : World} (h : NdS x B0 H y g m a b l s w1 wr) (hxH : x < H) (hH : w.heap.size = H) (hb : Below w.heap.size w w1) (hl : l.length = m) (hi : ∀ z ∈ l, IntR z) (C : Array Value) :
    NodeR x B0 ((a, b, l), s) w (.returned (.agg #[.int .i64 a, .slice (some ⟨g, 0, none⟩) m m, .int .i64 b])) (wr.setRow H C) := by
  subst hl
  have hg := World.ownsRow.lt h.row g rfl
  have hgH := h.gH
  have hlow := h.rd.low
  have ho : ∀ k, k ≠ H → (wr.setRow H C).heap[k]? = wr.heap[k]? := fun k hk => setRow_other wr H k C hk
  have hrow := own_keep1 h.row (ho g (by omega))
  obtain ⟨A, c, q1, q2, q3⟩ := h.rd.box
  refine ⟨some ⟨g, 0, none⟩, l.length, rfl, fun hn => ⟨g, 0, rfl, by omega, (World.ownsRow.lt hrow g rfl).2, fun j hj => ⟨[.int .i64 l[j]], fun i u hu => ?_, rfl⟩⟩, Nat.le_refl _, hi, ⟨⟨A, c, (ho x (by omega)).trans q1, q2.keep fun p hp => World.cell?_of_block (ho p.block (by omega)), q3⟩, hlow, h.rd.byte⟩, ⟨h.keep.os.trans hb.os, h.keep.tape.trans hb.tape, h.keep.output.trans hb.output, ?_, fun k hk hx => ?_⟩⟩
  · obtain ⟨rfl, rfl⟩ : i = 0 ∧ u = .int .i64 l[j] := by
      cases i with
      | zero => exact ⟨rfl, by simpa using hu.symm⟩
      | succ i => simp at hu
    have hcell := World.ownsRow.cellAt hrow j (by have : j < l.length := hj; omega)
    rw [show (0 : Nat) + j * eInt.sz + 0 = j from by show 0 + j * 1 + 0 = j; omega, hcell]
    unfold nxC
    rw [List.getElem?_append_left (by simpa using hj), List.getElem?_map, List.getElem?_eq_getElem (by exact hj)]
    rfl
  · have h1 : (wr.setRow H C).heap.size = wr.heap.size := by simp
    rw [h1]
    exact Nat.le_trans hb.size h.keep.size
  · exact (ho k (by omega)).trans ((h.keep.block k (Nat.lt_of_lt_of_le hk hb.size) hx).trans (hb.block k hk))
set_option maxHeartbeats 16000000 in
theorem rnode_any (x B0 m : Nat) (s : Rd) (w : World) (h : RdS x B0 s w) (hm : m ≤ 256) :
    Calls Try.prog 89 #[.pointer (some ⟨x, 0, none⟩), .int .i64 (m : Int)] w (NodeR x B0 (rdNode m s) w) := by
  have hxl := h.lt
  obtain ⟨i0, hi0, hz0, hz1, hz2⟩ := info_parts infoIntP
  obtain ⟨H, hH⟩ : ∃ H, w.heap.size = H := ⟨_, rfl⟩
  obtain ⟨w1, hw1⟩ : ∃ w1, w.alloc (.cells #[.int .i64 0, .slice none 0 0, .int .i64 0] 81) = w1 := ⟨_, rfl⟩
  have hb1 : Below w.heap.size w w1 := by rw [← hw1]; exact (Below.refl _ _).alloc (Nat.le_refl _) _
  have HRES := Lib.hid (show w1.heap[H]? = some (.cells #[.int .i64 0, .slice none 0 0, .int .i64 0] 81 (0, 0)) from by rw [← hw1, ← hH]; exact heap_alloc_new w _)
  have hs1 : w1.heap.size = H + 1 := by rw [← hw1, ← hH]; simp
  have HB1 := Lib.hid hb1
  have HRD := Lib.hid (h.keep hb1)
  have HS := Lib.hid hH
  rw [hH] at hxl
  clear h hb1
  go_enter Try.func89, Try.ntmps89
  go_upto_region 1 with (fail)
  go_cut [5] (fun v wx => ∃ y g, v = .pointer (some ⟨y, 0, none⟩) ∧ NdS x B0 H y g m (rdNum s).1 (rdNum (rdNum s).2).1 [] (rdNum (rdNum s).2).2 w1 wx)
  case first =>
    obtain ⟨we, hwe⟩ : ∃ we, w1.drew = we := ⟨_, rfl⟩
    have hbe : Below w1.heap.size w1 we := by rw [← hwe]; exact (Below.refl _ _).drew
    have hse : we.heap.size = H + 1 := by rw [← hwe]; exact hs1
    have hRd := HRD.out.keep hbe
    have hKR : KeepR x w1 we := KeepR.below hbe
    have hz : H + 1 ≤ we.heap.size := by omega
    refine wp_region_held_drew (S := fun _ => True) (by kernel_rfl) trivial (fun hHeld => ?_)
    rw [hwe]
    clear hse
    refine wpAnyH_take (i := 0) (oi := { dst := some 7, op := Go.Op.move (Go.Operand.tmp 0), type := 121, pos := "reader.go:66", after := #[], guard := none }) (v := ?_) rfl (by kernel_rfl) (by kernel_rfl) (by kernel_rfl) (fun _ _ _ h => h) (Or.inl ⟨by rfl, ?_⟩) (by assumption) ?_
    rotate_left
    · intro w' hSw
      (try dsimp only at hSw)
      go_simp
      all_goals with_reducible rfl
    try simp only [Act.put, List.setIfInBounds_toArray, List.set_cons_zero, List.set_cons_succ]
    refine wpAnyH_take (i := 2) (oi := { dst := some 9, op := Go.Op.move (Go.Operand.tmp 0), type := 121, pos := "reader.go:66", after := #[], guard := none }) (v := ?_) rfl (by kernel_rfl) (by kernel_rfl) (by kernel_rfl) (fun _ _ _ h => h) (Or.inl ⟨by rfl, ?_⟩) (by assumption) ?_
    rotate_left
    · intro w' hSw
      (try dsimp only at hSw)
      go_simp
      all_goals with_reducible rfl
    try simp only [Act.put, List.setIfInBounds_toArray, List.set_cons_zero, List.set_cons_succ]
    refine wpAnyH_take (i := 4) (oi := { dst := some 11, op := Go.Op.move (Go.Operand.tmp 1), type := 3, pos := "reader.go:66", after := #[], guard := none }) (v := ?_) rfl (by kernel_rfl) (by kernel_rfl) (by kernel_rfl) (fun _ _ _ h => h) (Or.inl ⟨by rfl, ?_⟩) (by assumption) ?_
    rotate_left
    · intro w' hSw
      (try dsimp only at hSw)
      go_simp
      all_goals with_reducible rfl
    try simp only [Act.put, List.setIfInBounds_toArray, List.set_cons_zero, List.set_cons_succ]
    refine wpAnyH_ready (rs := [1, 5, 7]) (by kernel_rfl) (by simp) ?_
    refine (AllReadyH.cons (o := { dst := some 8, op := Go.Op.call { callee := Go.Callee.value (Go.Operand.func 62), args := #[Go.Operand.tmp 7], argTypes := #[121] }, type := 3, pos := "reader.go:66", after := #[{ on := 0, ground := Go.Ground.data }], guard := none }) rfl (fun K hK => ?_) (AllReadyH.cons (o := { dst := some 12, op := Go.Op.makeSlice 63 (Go.Operand.tmp 11) (Go.Operand.tmp 11), type := 63, pos := "reader.go:66", after := #[{ on := 4, ground := Go.Ground.data }, { on := 4, ground := Go.Ground.data }], guard := none }) rfl (fun K hK => ?_) (AllReadyH.cons (o := { dst := some 5, op := Go.Op.alloc 81, type := 0, pos := "reader.go:66", after := #[], guard := none }) rfl (fun K hK => ?_) AllReadyH.nil)))
    focus
      have hC := rnumber_any x B0 s we hRd
      go_simp
      go_wp2_with (go_at_call 62; (with_reducible refine hC.mono ?_); rintro e1 wa1 ⟨rfl, hRd, hk⟩)
      clear hC
      have hKR := hKR.trans hk
      have hz : H + 1 ≤ wa1.heap.size := Nat.le_trans hz hk.size
      clear hk
      refine hK.out _ _ ?_ (fun hHeld => ?_)
      · trivial
      clear hK K
      try simp only [Act.put, List.setIfInBounds_toArray, List.set_cons_zero, List.set_cons_succ]
      refine wpAnyH_ready (rs := [3, 5, 7]) (by kernel_rfl) (by simp) ?_
      refine (AllReadyH.cons (o := { dst := some 10, op := Go.Op.call { callee := Go.Callee.value (Go.Operand.func 62), args := #[Go.Operand.tmp 9], argTypes := #[121] }, type := 3, pos := "reader.go:66", after := #[{ on := 2, ground := Go.Ground.data }, { on := 1, ground := Go.Ground.chain }], guard := none }) rfl (fun K hK => ?_) (AllReadyH.cons (o := { dst := some 12, op := Go.Op.makeSlice 63 (Go.Operand.tmp 11) (Go.Operand.tmp 11), type := 63, pos := "reader.go:66", after := #[{ on := 4, ground := Go.Ground.data }, { on := 4, ground := Go.Ground.data }], guard := none }) rfl (fun K hK => ?_) (AllReadyH.cons (o := { dst := some 5, op := Go.Op.alloc 81, type := 0, pos := "reader.go:66", after := #[], guard := none }) rfl (fun K hK => ?_) AllReadyH.nil)))
      focus
        have hC := rnumber_any x B0 (rdNum s).2 wa1 hRd
        go_simp
        go_wp2_with (go_at_call 62; (with_reducible refine hC.mono ?_); rintro e3 wa3 ⟨rfl, hRd, hk⟩)
        clear hC
        have hKR := hKR.trans hk
        have hz : H + 1 ≤ wa3.heap.size := Nat.le_trans hz hk.size
        clear hk
        refine hK.out _ _ ?_ (fun hHeld => ?_)
        · trivial
        clear hK K
        try simp only [Act.put, List.setIfInBounds_toArray, List.set_cons_zero, List.set_cons_succ]
        refine wpAnyH_ready (rs := [5, 7]) (by kernel_rfl) (by simp) ?_
        refine (AllReadyH.cons (o := { dst := some 12, op := Go.Op.makeSlice 63 (Go.Operand.tmp 11) (Go.Operand.tmp 11), type := 63, pos := "reader.go:66", after := #[{ on := 4, ground := Go.Ground.data }, { on := 4, ground := Go.Ground.data }], guard := none }) rfl (fun K hK => ?_) (AllReadyH.cons (o := { dst := some 5, op := Go.Op.alloc 81, type := 0, pos := "reader.go:66", after := #[], guard := none }) rfl (fun K hK => ?_) AllReadyH.nil))
        focus
          obtain ⟨wm, hmk, hRow, hgm⟩ := run_make_full (P := Try.prog) wa3 H 63 3 i0 (.int .i64 0) 1 Try.underlying63 hi0 hz0 hz1 .i64 .i64 m (by rw [hz2]; omega) (by unfold maxLen; omega) (by omega)
          have hb : Below wa3.heap.size wa3 wm := (Below.refl _ _).grown hgm (Nat.le_refl _) (fun q e => by cases e)
          go_simp
          obtain ⟨g, hg⟩ : ∃ g, wa3.heap.size = g := ⟨_, rfl⟩
          rw [hg] at hRow hmk
          simp only [hg]
          have hgl : g < wm.heap.size := by have := World.ownsRow.lt hRow g rfl; omega
          have hgH : H < g := by omega
          clear hgm hmk
          rw [show (madeCells (Value.int .i64 0).cells (m * 1)).toList = nxC [] m from by rw [Nat.mul_one]; exact toList_madeCells_one _ _] at hRow
          have hKR := hKR.trans (KeepR.below hb)
          have hRd := hRd.keep hb
          have hz : H + 1 ≤ wm.heap.size := Nat.le_trans hz hb.size
          clear hb
          refine hK.out _ _ ?_ (fun hHeld => ?_)
          · trivial
          clear hK K
          try simp only [Act.put, List.setIfInBounds_toArray, List.set_cons_zero, List.set_cons_succ]
          refine wpAnyH_take (i := 6) (oi := { dst := some 13, op := Go.Op.build 81 #[(0, Go.Operand.tmp 8), (2, Go.Operand.tmp 10), (1, Go.Operand.tmp 12)], type := 81, pos := "reader.go:66", after := #[{ on := 1, ground := Go.Ground.data }, { on := 3, ground := Go.Ground.data }, { on := 5, ground := Go.Ground.data }], guard := none }) (v := ?_) rfl (by kernel_rfl) (by kernel_rfl) (by kernel_rfl) (fun _ _ _ h => h) (Or.inl ⟨by rfl, ?_⟩) (by assumption) ?_
          rotate_left
          · intro w' hSw
            (try dsimp only at hSw)
            go_simp
            all_goals with_reducible rfl
          try simp only [Act.put, List.setIfInBounds_toArray, List.set_cons_zero, List.set_cons_succ]
          refine wpAnyH_ready (rs := [7]) (by kernel_rfl) (by simp) ?_
          refine (AllReadyH.cons (o := { dst := some 5, op := Go.Op.alloc 81, type := 0, pos := "reader.go:66", after := #[], guard := none }) rfl (fun K hK => ?_) AllReadyH.nil)
          obtain ⟨wy, hwy⟩ : ∃ wy, wm.alloc (.cells #[.int .i64 0, .slice none 0 0, .int .i64 0] 81) = wy := ⟨_, rfl⟩
          have hb : Below wm.heap.size wm wy := by rw [← hwy]; exact (Below.refl _ _).alloc (Nat.le_refl _) _
          have hBox : wy.heap[wm.heap.size]? = some (.cells #[.int .i64 0, .slice none 0 0, .int .i64 0] 81 (0, 0)) := by rw [← hwy]; exact heap_alloc_new wm _
          go_simp
          try rw [hwy]
          obtain ⟨y, hy⟩ : ∃ y, wm.heap.size = y := ⟨_, rfl⟩
          rw [hy] at hBox
          simp only [hy]
          have hyl : y < wy.heap.size := (Array.getElem?_eq_some_iff.1 hBox).1
          have hyH : H < y := by omega
          have hyg : y ≠ g := by omega
          have hRow := own_keep1 hRow (hb.block g hgl)
          have hgl : g < wy.heap.size := Nat.lt_of_lt_of_le hgl hb.size
          have hKR := hKR.trans (KeepR.below hb)
          have hRd := hRd.keep hb
          have hz : H + 1 ≤ wy.heap.size := Nat.le_trans hz hb.size
          clear hb
          refine hK.out _ _ ?_ (fun hHeld => ?_)
          · trivial
          clear hK K
          try simp only [Act.put, List.setIfInBounds_toArray, List.set_cons_zero, List.set_cons_succ]
          refine wpAnyH_ready (rs := [8]) (by kernel_rfl) (by simp) ?_
          refine (AllReadyH.cons (o := { dst := none, op := Go.Op.store 81 (Go.Operand.tmp 5) (Go.Operand.tmp 13), type := 0, pos := "reader.go:66", after := #[{ on := 7, ground := Go.Ground.data }, { on := 6, ground := Go.Ground.data }, { on := 3, ground := Go.Ground.chain }, { on := 0, ground := Go.Ground.phase }, { on := 1, ground := Go.Ground.phase }, { on := 2, ground := Go.Ground.phase }, { on := 3, ground := Go.Ground.phase }, { on := 4, ground := Go.Ground.phase }, { on := 5, ground := Go.Ground.phase }, { on := 6, ground := Go.Ground.phase }, { on := 7, ground := Go.Ground.phase }], guard := none }) rfl (fun K hK => ?_) AllReadyH.nil)
          refine wp_store_row 81 _ _ rfl y #[.int .i64 (rdNum s).1, .slice (some ⟨g, 0, none⟩) m m, .int .i64 (rdNum (rdNum s).2).1] rfl rfl _ _ hBox (by kernel_rfl) rfl (by simp [Value.oneCell']) ?_
          obtain ⟨wz, hwz⟩ : ∃ wz, wy.setRow y #[.int .i64 (rdNum s).1, .slice (some ⟨g, 0, none⟩) m m, .int .i64 (rdNum (rdNum s).2).1] = wz := ⟨_, rfl⟩
          have hother : ∀ b, b ≠ y → wz.heap[b]? = wy.heap[b]? := fun b hb => by rw [← hwz]; exact setRow_other wy y b _ hb
          have hszz : wz.heap.size = wy.heap.size := by rw [← hwz]; simp
          have hBox : DBoxN wz y (rdNum s).1 (.slice (some ⟨g, 0, none⟩) m m) (rdNum (rdNum s).2).1 := by rw [← hwz]; exact setRow_heap wy y _ _ _ _ hBox
          have hRow := own_keep1 hRow (hother g (fun q => hyg q.symm))
          have hRd : RdS x B0 (rdNum (rdNum s).2).2 wz := by
            obtain ⟨A, c, q1, q2, q3⟩ := hRd.box
            exact ⟨⟨A, c, (hother x (by omega)).trans q1, q2.keep fun p hp => World.cell?_of_block (hother p.block (by have := hRd.low; omega)), q3⟩, hRd.low, hRd.byte⟩
          have hKR : KeepR x w1 wz := ⟨by rw [← hwz]; exact hKR.os, by rw [← hwz]; exact hKR.tape, by rw [← hwz]; exact hKR.output, by rw [hszz]; exact hKR.size, fun b hb hx => (hother b (by omega)).trans (hKR.block b hb hx)⟩
          rw [hwz]
          clear hwz hother
          refine hK.out _ _ ?_ (fun hHeld => ?_)
          · trivial
          clear hK K
          try simp only [Act.put, List.setIfInBounds_toArray, List.set_cons_zero, List.set_cons_succ]
          obtain ⟨wl, rfl⟩ : ∃ wl : World, wl = wz := ⟨_, rfl⟩
        rotate_left 1
        focus
          obtain ⟨wy, hwy⟩ : ∃ wy, wa3.alloc (.cells #[.int .i64 0, .slice none 0 0, .int .i64 0] 81) = wy := ⟨_, rfl⟩
          have hb : Below wa3.heap.size wa3 wy := by rw [← hwy]; exact (Below.refl _ _).alloc (Nat.le_refl _) _
          have hBox : wy.heap[wa3.heap.size]? = some (.cells #[.int .i64 0, .slice none 0 0, .int .i64 0] 81 (0, 0)) := by rw [← hwy]; exact heap_alloc_new wa3 _
          go_simp
          try rw [hwy]
          obtain ⟨y, hy⟩ : ∃ y, wa3.heap.size = y := ⟨_, rfl⟩
          rw [hy] at hBox
          simp only [hy]
          have hyl : y < wy.heap.size := (Array.getElem?_eq_some_iff.1 hBox).1
          have hyH : H < y := by omega
          have hKR := hKR.trans (KeepR.below hb)
          have hRd := hRd.keep hb
          have hz : H + 1 ≤ wy.heap.size := Nat.le_trans hz hb.size
          clear hb
          refine hK.out _ _ ?_ (fun hHeld => ?_)
          · trivial
          clear hK K
          try simp only [Act.put, List.setIfInBounds_toArray, List.set_cons_zero, List.set_cons_succ]
          refine wpAnyH_ready (rs := [5]) (by kernel_rfl) (by simp) ?_
          refine (AllReadyH.cons (o := { dst := some 12, op := Go.Op.makeSlice 63 (Go.Operand.tmp 11) (Go.Operand.tmp 11), type := 63, pos := "reader.go:66", after := #[{ on := 4, ground := Go.Ground.data }, { on := 4, ground := Go.Ground.data }], guard := none }) rfl (fun K hK => ?_) AllReadyH.nil)
          obtain ⟨wm, hmk, hRow, hgm⟩ := run_make_full (P := Try.prog) wy H 63 3 i0 (.int .i64 0) 1 Try.underlying63 hi0 hz0 hz1 .i64 .i64 m (by rw [hz2]; omega) (by unfold maxLen; omega) (by omega)
          have hb : Below wy.heap.size wy wm := (Below.refl _ _).grown hgm (Nat.le_refl _) (fun q e => by cases e)
          go_simp
          obtain ⟨g, hg⟩ : ∃ g, wy.heap.size = g := ⟨_, rfl⟩
          rw [hg] at hRow hmk
          simp only [hg]
          have hgl : g < wm.heap.size := by have := World.ownsRow.lt hRow g rfl; omega
          have hgH : H < g := by omega
          clear hgm hmk
          rw [show (madeCells (Value.int .i64 0).cells (m * 1)).toList = nxC [] m from by rw [Nat.mul_one]; exact toList_madeCells_one _ _] at hRow
          have hyg : y ≠ g := by omega
          have hBox := (hb.block y hyl).trans hBox
          have hyl : y < wm.heap.size := Nat.lt_of_lt_of_le hyl hb.size
          have hKR := hKR.trans (KeepR.below hb)
          have hRd := hRd.keep hb
          have hz : H + 1 ≤ wm.heap.size := Nat.le_trans hz hb.size
          clear hb
          refine hK.out _ _ ?_ (fun hHeld => ?_)
          · trivial
          clear hK K
          try simp only [Act.put, List.setIfInBounds_toArray, List.set_cons_zero, List.set_cons_succ]
          refine wpAnyH_take (i := 6) (oi := { dst := some 13, op := Go.Op.build 81 #[(0, Go.Operand.tmp 8), (2, Go.Operand.tmp 10), (1, Go.Operand.tmp 12)], type := 81, pos := "reader.go:66", after := #[{ on := 1, ground := Go.Ground.data }, { on := 3, ground := Go.Ground.data }, { on := 5, ground := Go.Ground.data }], guard := none }) (v := ?_) rfl (by kernel_rfl) (by kernel_rfl) (by kernel_rfl) (fun _ _ _ h => h) (Or.inl ⟨by rfl, ?_⟩) (by assumption) ?_
          rotate_left
          · intro w' hSw
            (try dsimp only at hSw)
            go_simp
            all_goals with_reducible rfl
          try simp only [Act.put, List.setIfInBounds_toArray, List.set_cons_zero, List.set_cons_succ]
          refine wpAnyH_ready (rs := [8]) (by kernel_rfl) (by simp) ?_
          refine (AllReadyH.cons (o := { dst := none, op := Go.Op.store 81 (Go.Operand.tmp 5) (Go.Operand.tmp 13), type := 0, pos := "reader.go:66", after := #[{ on := 7, ground := Go.Ground.data }, { on := 6, ground := Go.Ground.data }, { on := 3, ground := Go.Ground.chain }, { on := 0, ground := Go.Ground.phase }, { on := 1, ground := Go.Ground.phase }, { on := 2, ground := Go.Ground.phase }, { on := 3, ground := Go.Ground.phase }, { on := 4, ground := Go.Ground.phase }, { on := 5, ground := Go.Ground.phase }, { on := 6, ground := Go.Ground.phase }, { on := 7, ground := Go.Ground.phase }], guard := none }) rfl (fun K hK => ?_) AllReadyH.nil)
          refine wp_store_row 81 _ _ rfl y #[.int .i64 (rdNum s).1, .slice (some ⟨g, 0, none⟩) m m, .int .i64 (rdNum (rdNum s).2).1] rfl rfl _ _ hBox (by kernel_rfl) rfl (by simp [Value.oneCell']) ?_
          obtain ⟨wz, hwz⟩ : ∃ wz, wm.setRow y #[.int .i64 (rdNum s).1, .slice (some ⟨g, 0, none⟩) m m, .int .i64 (rdNum (rdNum s).2).1] = wz := ⟨_, rfl⟩
          have hother : ∀ b, b ≠ y → wz.heap[b]? = wm.heap[b]? := fun b hb => by rw [← hwz]; exact setRow_other wm y b _ hb
          have hszz : wz.heap.size = wm.heap.size := by rw [← hwz]; simp
          have hBox : DBoxN wz y (rdNum s).1 (.slice (some ⟨g, 0, none⟩) m m) (rdNum (rdNum s).2).1 := by rw [← hwz]; exact setRow_heap wm y _ _ _ _ hBox
          have hRow := own_keep1 hRow (hother g (fun q => hyg q.symm))
          have hRd : RdS x B0 (rdNum (rdNum s).2).2 wz := by
            obtain ⟨A, c, q1, q2, q3⟩ := hRd.box
            exact ⟨⟨A, c, (hother x (by omega)).trans q1, q2.keep fun p hp => World.cell?_of_block (hother p.block (by have := hRd.low; omega)), q3⟩, hRd.low, hRd.byte⟩
          have hKR : KeepR x w1 wz := ⟨by rw [← hwz]; exact hKR.os, by rw [← hwz]; exact hKR.tape, by rw [← hwz]; exact hKR.output, by rw [hszz]; exact hKR.size, fun b hb hx => (hother b (by omega)).trans (hKR.block b hb hx)⟩
          rw [hwz]
          clear hwz hother
          refine hK.out _ _ ?_ (fun hHeld => ?_)
          · trivial
          clear hK K
          try simp only [Act.put, List.setIfInBounds_toArray, List.set_cons_zero, List.set_cons_succ]
          obtain ⟨wl, rfl⟩ : ∃ wl : World, wl = wz := ⟨_, rfl⟩
      rotate_left 2
      focus
        obtain ⟨wm, hmk, hRow, hgm⟩ := run_make_full (P := Try.prog) wa1 H 63 3 i0 (.int .i64 0) 1 Try.underlying63 hi0 hz0 hz1 .i64 .i64 m (by rw [hz2]; omega) (by unfold maxLen; omega) (by omega)
        have hb : Below wa1.heap.size wa1 wm := (Below.refl _ _).grown hgm (Nat.le_refl _) (fun q e => by cases e)
        go_simp
        obtain ⟨g, hg⟩ : ∃ g, wa1.heap.size = g := ⟨_, rfl⟩
        rw [hg] at hRow hmk
        simp only [hg]
        have hgl : g < wm.heap.size := by have := World.ownsRow.lt hRow g rfl; omega
        have hgH : H < g := by omega
        clear hgm hmk
        rw [show (madeCells (Value.int .i64 0).cells (m * 1)).toList = nxC [] m from by rw [Nat.mul_one]; exact toList_madeCells_one _ _] at hRow
        have hKR := hKR.trans (KeepR.below hb)
        have hRd := hRd.keep hb
        have hz : H + 1 ≤ wm.heap.size := Nat.le_trans hz hb.size
        clear hb
        refine hK.out _ _ ?_ (fun hHeld => ?_)
        · trivial
        clear hK K
        try simp only [Act.put, List.setIfInBounds_toArray, List.set_cons_zero, List.set_cons_succ]
        refine wpAnyH_ready (rs := [3, 7]) (by kernel_rfl) (by simp) ?_
        refine (AllReadyH.cons (o := { dst := some 10, op := Go.Op.call { callee := Go.Callee.value (Go.Operand.func 62), args := #[Go.Operand.tmp 9], argTypes := #[121] }, type := 3, pos := "reader.go:66", after := #[{ on := 2, ground := Go.Ground.data }, { on := 1, ground := Go.Ground.chain }], guard := none }) rfl (fun K hK => ?_) (AllReadyH.cons (o := { dst := some 5, op := Go.Op.alloc 81, type := 0, pos := "reader.go:66", after := #[], guard := none }) rfl (fun K hK => ?_) AllReadyH.nil))
        focus
          have hC := rnumber_any x B0 (rdNum s).2 wm hRd
          go_simp
          go_wp2_with (go_at_call 62; (with_reducible refine hC.mono ?_); rintro e3 wa3 ⟨rfl, hRd, hk⟩)
          clear hC
          have hRow := own_keep1 hRow (hk.block g hgl (by omega))
          have hgl : g < wa3.heap.size := Nat.lt_of_lt_of_le hgl hk.size
          have hKR := hKR.trans hk
          have hz : H + 1 ≤ wa3.heap.size := Nat.le_trans hz hk.size
          clear hk
          refine hK.out _ _ ?_ (fun hHeld => ?_)
          · trivial
          clear hK K
          try simp only [Act.put, List.setIfInBounds_toArray, List.set_cons_zero, List.set_cons_succ]
          refine wpAnyH_take (i := 6) (oi := { dst := some 13, op := Go.Op.build 81 #[(0, Go.Operand.tmp 8), (2, Go.Operand.tmp 10), (1, Go.Operand.tmp 12)], type := 81, pos := "reader.go:66", after := #[{ on := 1, ground := Go.Ground.data }, { on := 3, ground := Go.Ground.data }, { on := 5, ground := Go.Ground.data }], guard := none }) (v := ?_) rfl (by kernel_rfl) (by kernel_rfl) (by kernel_rfl) (fun _ _ _ h => h) (Or.inl ⟨by rfl, ?_⟩) (by assumption) ?_
          rotate_left
          · intro w' hSw
            (try dsimp only at hSw)
            go_simp
            all_goals with_reducible rfl
          try simp only [Act.put, List.setIfInBounds_toArray, List.set_cons_zero, List.set_cons_succ]
          refine wpAnyH_ready (rs := [7]) (by kernel_rfl) (by simp) ?_
          refine (AllReadyH.cons (o := { dst := some 5, op := Go.Op.alloc 81, type := 0, pos := "reader.go:66", after := #[], guard := none }) rfl (fun K hK => ?_) AllReadyH.nil)
          obtain ⟨wy, hwy⟩ : ∃ wy, wa3.alloc (.cells #[.int .i64 0, .slice none 0 0, .int .i64 0] 81) = wy := ⟨_, rfl⟩
          have hb : Below wa3.heap.size wa3 wy := by rw [← hwy]; exact (Below.refl _ _).alloc (Nat.le_refl _) _
          have hBox : wy.heap[wa3.heap.size]? = some (.cells #[.int .i64 0, .slice none 0 0, .int .i64 0] 81 (0, 0)) := by rw [← hwy]; exact heap_alloc_new wa3 _
          go_simp
          try rw [hwy]
          obtain ⟨y, hy⟩ : ∃ y, wa3.heap.size = y := ⟨_, rfl⟩
          rw [hy] at hBox
          simp only [hy]
          have hyl : y < wy.heap.size := (Array.getElem?_eq_some_iff.1 hBox).1
          have hyH : H < y := by omega
          have hyg : y ≠ g := by omega
          have hRow := own_keep1 hRow (hb.block g hgl)
          have hgl : g < wy.heap.size := Nat.lt_of_lt_of_le hgl hb.size
          have hKR := hKR.trans (KeepR.below hb)
          have hRd := hRd.keep hb
          have hz : H + 1 ≤ wy.heap.size := Nat.le_trans hz hb.size
          clear hb
          refine hK.out _ _ ?_ (fun hHeld => ?_)
          · trivial
          clear hK K
          try simp only [Act.put, List.setIfInBounds_toArray, List.set_cons_zero, List.set_cons_succ]
          refine wpAnyH_ready (rs := [8]) (by kernel_rfl) (by simp) ?_
          refine (AllReadyH.cons (o := { dst := none, op := Go.Op.store 81 (Go.Operand.tmp 5) (Go.Operand.tmp 13), type := 0, pos := "reader.go:66", after := #[{ on := 7, ground := Go.Ground.data }, { on := 6, ground := Go.Ground.data }, { on := 3, ground := Go.Ground.chain }, { on := 0, ground := Go.Ground.phase }, { on := 1, ground := Go.Ground.phase }, { on := 2, ground := Go.Ground.phase }, { on := 3, ground := Go.Ground.phase }, { on := 4, ground := Go.Ground.phase }, { on := 5, ground := Go.Ground.phase }, { on := 6, ground := Go.Ground.phase }, { on := 7, ground := Go.Ground.phase }], guard := none }) rfl (fun K hK => ?_) AllReadyH.nil)
          refine wp_store_row 81 _ _ rfl y #[.int .i64 (rdNum s).1, .slice (some ⟨g, 0, none⟩) m m, .int .i64 (rdNum (rdNum s).2).1] rfl rfl _ _ hBox (by kernel_rfl) rfl (by simp [Value.oneCell']) ?_
          obtain ⟨wz, hwz⟩ : ∃ wz, wy.setRow y #[.int .i64 (rdNum s).1, .slice (some ⟨g, 0, none⟩) m m, .int .i64 (rdNum (rdNum s).2).1] = wz := ⟨_, rfl⟩
          have hother : ∀ b, b ≠ y → wz.heap[b]? = wy.heap[b]? := fun b hb => by rw [← hwz]; exact setRow_other wy y b _ hb
          have hszz : wz.heap.size = wy.heap.size := by rw [← hwz]; simp
          have hBox : DBoxN wz y (rdNum s).1 (.slice (some ⟨g, 0, none⟩) m m) (rdNum (rdNum s).2).1 := by rw [← hwz]; exact setRow_heap wy y _ _ _ _ hBox
          have hRow := own_keep1 hRow (hother g (fun q => hyg q.symm))
          have hRd : RdS x B0 (rdNum (rdNum s).2).2 wz := by
            obtain ⟨A, c, q1, q2, q3⟩ := hRd.box
            exact ⟨⟨A, c, (hother x (by omega)).trans q1, q2.keep fun p hp => World.cell?_of_block (hother p.block (by have := hRd.low; omega)), q3⟩, hRd.low, hRd.byte⟩
          have hKR : KeepR x w1 wz := ⟨by rw [← hwz]; exact hKR.os, by rw [← hwz]; exact hKR.tape, by rw [← hwz]; exact hKR.output, by rw [hszz]; exact hKR.size, fun b hb hx => (hother b (by omega)).trans (hKR.block b hb hx)⟩
          rw [hwz]
          clear hwz hother
          refine hK.out _ _ ?_ (fun hHeld => ?_)
          · trivial
          clear hK K
          try simp only [Act.put, List.setIfInBounds_toArray, List.set_cons_zero, List.set_cons_succ]
          obtain ⟨wl, rfl⟩ : ∃ wl : World, wl = wz := ⟨_, rfl⟩
        rotate_left 1
        focus
          obtain ⟨wy, hwy⟩ : ∃ wy, wm.alloc (.cells #[.int .i64 0, .slice none 0 0, .int .i64 0] 81) = wy := ⟨_, rfl⟩
          have hb : Below wm.heap.size wm wy := by rw [← hwy]; exact (Below.refl _ _).alloc (Nat.le_refl _) _
          have hBox : wy.heap[wm.heap.size]? = some (.cells #[.int .i64 0, .slice none 0 0, .int .i64 0] 81 (0, 0)) := by rw [← hwy]; exact heap_alloc_new wm _
          go_simp
          try rw [hwy]
          obtain ⟨y, hy⟩ : ∃ y, wm.heap.size = y := ⟨_, rfl⟩
          rw [hy] at hBox
          simp only [hy]
          have hyl : y < wy.heap.size := (Array.getElem?_eq_some_iff.1 hBox).1
          have hyH : H < y := by omega
          have hyg : y ≠ g := by omega
          have hRow := own_keep1 hRow (hb.block g hgl)
          have hgl : g < wy.heap.size := Nat.lt_of_lt_of_le hgl hb.size
          have hKR := hKR.trans (KeepR.below hb)
          have hRd := hRd.keep hb
          have hz : H + 1 ≤ wy.heap.size := Nat.le_trans hz hb.size
          clear hb
          refine hK.out _ _ ?_ (fun hHeld => ?_)
          · trivial
          clear hK K
          try simp only [Act.put, List.setIfInBounds_toArray, List.set_cons_zero, List.set_cons_succ]
          refine wpAnyH_ready (rs := [3]) (by kernel_rfl) (by simp) ?_
          refine (AllReadyH.cons (o := { dst := some 10, op := Go.Op.call { callee := Go.Callee.value (Go.Operand.func 62), args := #[Go.Operand.tmp 9], argTypes := #[121] }, type := 3, pos := "reader.go:66", after := #[{ on := 2, ground := Go.Ground.data }, { on := 1, ground := Go.Ground.chain }], guard := none }) rfl (fun K hK => ?_) AllReadyH.nil)
          have hC := rnumber_any x B0 (rdNum s).2 wy hRd
          go_simp
          go_wp2_with (go_at_call 62; (with_reducible refine hC.mono ?_); rintro e3 wa3 ⟨rfl, hRd, hk⟩)
          clear hC
          have hRow := own_keep1 hRow (hk.block g hgl (by omega))
          have hgl : g < wa3.heap.size := Nat.lt_of_lt_of_le hgl hk.size
          have hBox := (hk.block y hyl (by omega)).trans hBox
          have hyl : y < wa3.heap.size := Nat.lt_of_lt_of_le hyl hk.size
          have hKR := hKR.trans hk
          have hz : H + 1 ≤ wa3.heap.size := Nat.le_trans hz hk.size
          clear hk
          refine hK.out _ _ ?_ (fun hHeld => ?_)
          · trivial
          clear hK K
          try simp only [Act.put, List.setIfInBounds_toArray, List.set_cons_zero, List.set_cons_succ]
          refine wpAnyH_take (i := 6) (oi := { dst := some 13, op := Go.Op.build 81 #[(0, Go.Operand.tmp 8), (2, Go.Operand.tmp 10), (1, Go.Operand.tmp 12)], type := 81, pos := "reader.go:66", after := #[{ on := 1, ground := Go.Ground.data }, { on := 3, ground := Go.Ground.data }, { on := 5, ground := Go.Ground.data }], guard := none }) (v := ?_) rfl (by kernel_rfl) (by kernel_rfl) (by kernel_rfl) (fun _ _ _ h => h) (Or.inl ⟨by rfl, ?_⟩) (by assumption) ?_
          rotate_left
          · intro w' hSw
            (try dsimp only at hSw)
            go_simp
            all_goals with_reducible rfl
          try simp only [Act.put, List.setIfInBounds_toArray, List.set_cons_zero, List.set_cons_succ]
          refine wpAnyH_ready (rs := [8]) (by kernel_rfl) (by simp) ?_
          refine (AllReadyH.cons (o := { dst := none, op := Go.Op.store 81 (Go.Operand.tmp 5) (Go.Operand.tmp 13), type := 0, pos := "reader.go:66", after := #[{ on := 7, ground := Go.Ground.data }, { on := 6, ground := Go.Ground.data }, { on := 3, ground := Go.Ground.chain }, { on := 0, ground := Go.Ground.phase }, { on := 1, ground := Go.Ground.phase }, { on := 2, ground := Go.Ground.phase }, { on := 3, ground := Go.Ground.phase }, { on := 4, ground := Go.Ground.phase }, { on := 5, ground := Go.Ground.phase }, { on := 6, ground := Go.Ground.phase }, { on := 7, ground := Go.Ground.phase }], guard := none }) rfl (fun K hK => ?_) AllReadyH.nil)
          refine wp_store_row 81 _ _ rfl y #[.int .i64 (rdNum s).1, .slice (some ⟨g, 0, none⟩) m m, .int .i64 (rdNum (rdNum s).2).1] rfl rfl _ _ hBox (by kernel_rfl) rfl (by simp [Value.oneCell']) ?_
          obtain ⟨wz, hwz⟩ : ∃ wz, wa3.setRow y #[.int .i64 (rdNum s).1, .slice (some ⟨g, 0, none⟩) m m, .int .i64 (rdNum (rdNum s).2).1] = wz := ⟨_, rfl⟩
          have hother : ∀ b, b ≠ y → wz.heap[b]? = wa3.heap[b]? := fun b hb => by rw [← hwz]; exact setRow_other wa3 y b _ hb
          have hszz : wz.heap.size = wa3.heap.size := by rw [← hwz]; simp
          have hBox : DBoxN wz y (rdNum s).1 (.slice (some ⟨g, 0, none⟩) m m) (rdNum (rdNum s).2).1 := by rw [← hwz]; exact setRow_heap wa3 y _ _ _ _ hBox
          have hRow := own_keep1 hRow (hother g (fun q => hyg q.symm))
          have hRd : RdS x B0 (rdNum (rdNum s).2).2 wz := by
            obtain ⟨A, c, q1, q2, q3⟩ := hRd.box
            exact ⟨⟨A, c, (hother x (by omega)).trans q1, q2.keep fun p hp => World.cell?_of_block (hother p.block (by have := hRd.low; omega)), q3⟩, hRd.low, hRd.byte⟩
          have hKR : KeepR x w1 wz := ⟨by rw [← hwz]; exact hKR.os, by rw [← hwz]; exact hKR.tape, by rw [← hwz]; exact hKR.output, by rw [hszz]; exact hKR.size, fun b hb hx => (hother b (by omega)).trans (hKR.block b hb hx)⟩
          rw [hwz]
          clear hwz hother
          refine hK.out _ _ ?_ (fun hHeld => ?_)
          · trivial
          clear hK K
          try simp only [Act.put, List.setIfInBounds_toArray, List.set_cons_zero, List.set_cons_succ]
          obtain ⟨wl, rfl⟩ : ∃ wl : World, wl = wz := ⟨_, rfl⟩
      rotate_left 2
      focus
        obtain ⟨wy, hwy⟩ : ∃ wy, wa1.alloc (.cells #[.int .i64 0, .slice none 0 0, .int .i64 0] 81) = wy := ⟨_, rfl⟩
        have hb : Below wa1.heap.size wa1 wy := by rw [← hwy]; exact (Below.refl _ _).alloc (Nat.le_refl _) _
        have hBox : wy.heap[wa1.heap.size]? = some (.cells #[.int .i64 0, .slice none 0 0, .int .i64 0] 81 (0, 0)) := by rw [← hwy]; exact heap_alloc_new wa1 _
        go_simp
        try rw [hwy]
        obtain ⟨y, hy⟩ : ∃ y, wa1.heap.size = y := ⟨_, rfl⟩
        rw [hy] at hBox
        simp only [hy]
        have hyl : y < wy.heap.size := (Array.getElem?_eq_some_iff.1 hBox).1
        have hyH : H < y := by omega
        have hKR := hKR.trans (KeepR.below hb)
        have hRd := hRd.keep hb
        have hz : H + 1 ≤ wy.heap.size := Nat.le_trans hz hb.size
        clear hb
        refine hK.out _ _ ?_ (fun hHeld => ?_)
        · trivial
        clear hK K
        try simp only [Act.put, List.setIfInBounds_toArray, List.set_cons_zero, List.set_cons_succ]
        refine wpAnyH_ready (rs := [3, 5]) (by kernel_rfl) (by simp) ?_
        refine (AllReadyH.cons (o := { dst := some 10, op := Go.Op.call { callee := Go.Callee.value (Go.Operand.func 62), args := #[Go.Operand.tmp 9], argTypes := #[121] }, type := 3, pos := "reader.go:66", after := #[{ on := 2, ground := Go.Ground.data }, { on := 1, ground := Go.Ground.chain }], guard := none }) rfl (fun K hK => ?_) (AllReadyH.cons (o := { dst := some 12, op := Go.Op.makeSlice 63 (Go.Operand.tmp 11) (Go.Operand.tmp 11), type := 63, pos := "reader.go:66", after := #[{ on := 4, ground := Go.Ground.data }, { on := 4, ground := Go.Ground.data }], guard := none }) rfl (fun K hK => ?_) AllReadyH.nil))
        focus
          have hC := rnumber_any x B0 (rdNum s).2 wy hRd
          go_simp
          go_wp2_with (go_at_call 62; (with_reducible refine hC.mono ?_); rintro e3 wa3 ⟨rfl, hRd, hk⟩)
          clear hC
          have hBox := (hk.block y hyl (by omega)).trans hBox
          have hyl : y < wa3.heap.size := Nat.lt_of_lt_of_le hyl hk.size
          have hKR := hKR.trans hk
          have hz : H + 1 ≤ wa3.heap.size := Nat.le_trans hz hk.size
          clear hk
          refine hK.out _ _ ?_ (fun hHeld => ?_)
          · trivial
          clear hK K
          try simp only [Act.put, List.setIfInBounds_toArray, List.set_cons_zero, List.set_cons_succ]
          refine wpAnyH_ready (rs := [5]) (by kernel_rfl) (by simp) ?_
          refine (AllReadyH.cons (o := { dst := some 12, op := Go.Op.makeSlice 63 (Go.Operand.tmp 11) (Go.Operand.tmp 11), type := 63, pos := "reader.go:66", after := #[{ on := 4, ground := Go.Ground.data }, { on := 4, ground := Go.Ground.data }], guard := none }) rfl (fun K hK => ?_) AllReadyH.nil)
          obtain ⟨wm, hmk, hRow, hgm⟩ := run_make_full (P := Try.prog) wa3 H 63 3 i0 (.int .i64 0) 1 Try.underlying63 hi0 hz0 hz1 .i64 .i64 m (by rw [hz2]; omega) (by unfold maxLen; omega) (by omega)
          have hb : Below wa3.heap.size wa3 wm := (Below.refl _ _).grown hgm (Nat.le_refl _) (fun q e => by cases e)
          go_simp
          obtain ⟨g, hg⟩ : ∃ g, wa3.heap.size = g := ⟨_, rfl⟩
          rw [hg] at hRow hmk
          simp only [hg]
          have hgl : g < wm.heap.size := by have := World.ownsRow.lt hRow g rfl; omega
          have hgH : H < g := by omega
          clear hgm hmk
          rw [show (madeCells (Value.int .i64 0).cells (m * 1)).toList = nxC [] m from by rw [Nat.mul_one]; exact toList_madeCells_one _ _] at hRow
          have hyg : y ≠ g := by omega
          have hBox := (hb.block y hyl).trans hBox
          have hyl : y < wm.heap.size := Nat.lt_of_lt_of_le hyl hb.size
          have hKR := hKR.trans (KeepR.below hb)
          have hRd := hRd.keep hb
          have hz : H + 1 ≤ wm.heap.size := Nat.le_trans hz hb.size
          clear hb
          refine hK.out _ _ ?_ (fun hHeld => ?_)
          · trivial
          clear hK K
          try simp only [Act.put, List.setIfInBounds_toArray, List.set_cons_zero, List.set_cons_succ]
          refine wpAnyH_take (i := 6) (oi := { dst := some 13, op := Go.Op.build 81 #[(0, Go.Operand.tmp 8), (2, Go.Operand.tmp 10), (1, Go.Operand.tmp 12)], type := 81, pos := "reader.go:66", after := #[{ on := 1, ground := Go.Ground.data }, { on := 3, ground := Go.Ground.data }, { on := 5, ground := Go.Ground.data }], guard := none }) (v := ?_) rfl (by kernel_rfl) (by kernel_rfl) (by kernel_rfl) (fun _ _ _ h => h) (Or.inl ⟨by rfl, ?_⟩) (by assumption) ?_
          rotate_left
          · intro w' hSw
            (try dsimp only at hSw)
            go_simp
            all_goals with_reducible rfl
          try simp only [Act.put, List.setIfInBounds_toArray, List.set_cons_zero, List.set_cons_succ]
          refine wpAnyH_ready (rs := [8]) (by kernel_rfl) (by simp) ?_
          refine (AllReadyH.cons (o := { dst := none, op := Go.Op.store 81 (Go.Operand.tmp 5) (Go.Operand.tmp 13), type := 0, pos := "reader.go:66", after := #[{ on := 7, ground := Go.Ground.data }, { on := 6, ground := Go.Ground.data }, { on := 3, ground := Go.Ground.chain }, { on := 0, ground := Go.Ground.phase }, { on := 1, ground := Go.Ground.phase }, { on := 2, ground := Go.Ground.phase }, { on := 3, ground := Go.Ground.phase }, { on := 4, ground := Go.Ground.phase }, { on := 5, ground := Go.Ground.phase }, { on := 6, ground := Go.Ground.phase }, { on := 7, ground := Go.Ground.phase }], guard := none }) rfl (fun K hK => ?_) AllReadyH.nil)
          refine wp_store_row 81 _ _ rfl y #[.int .i64 (rdNum s).1, .slice (some ⟨g, 0, none⟩) m m, .int .i64 (rdNum (rdNum s).2).1] rfl rfl _ _ hBox (by kernel_rfl) rfl (by simp [Value.oneCell']) ?_
          obtain ⟨wz, hwz⟩ : ∃ wz, wm.setRow y #[.int .i64 (rdNum s).1, .slice (some ⟨g, 0, none⟩) m m, .int .i64 (rdNum (rdNum s).2).1] = wz := ⟨_, rfl⟩
          have hother : ∀ b, b ≠ y → wz.heap[b]? = wm.heap[b]? := fun b hb => by rw [← hwz]; exact setRow_other wm y b _ hb
          have hszz : wz.heap.size = wm.heap.size := by rw [← hwz]; simp
          have hBox : DBoxN wz y (rdNum s).1 (.slice (some ⟨g, 0, none⟩) m m) (rdNum (rdNum s).2).1 := by rw [← hwz]; exact setRow_heap wm y _ _ _ _ hBox
          have hRow := own_keep1 hRow (hother g (fun q => hyg q.symm))
          have hRd : RdS x B0 (rdNum (rdNum s).2).2 wz := by
            obtain ⟨A, c, q1, q2, q3⟩ := hRd.box
            exact ⟨⟨A, c, (hother x (by omega)).trans q1, q2.keep fun p hp => World.cell?_of_block (hother p.block (by have := hRd.low; omega)), q3⟩, hRd.low, hRd.byte⟩
          have hKR : KeepR x w1 wz := ⟨by rw [← hwz]; exact hKR.os, by rw [← hwz]; exact hKR.tape, by rw [← hwz]; exact hKR.output, by rw [hszz]; exact hKR.size, fun b hb hx => (hother b (by omega)).trans (hKR.block b hb hx)⟩
          rw [hwz]
          clear hwz hother
          refine hK.out _ _ ?_ (fun hHeld => ?_)
          · trivial
          clear hK K
          try simp only [Act.put, List.setIfInBounds_toArray, List.set_cons_zero, List.set_cons_succ]
          obtain ⟨wl, rfl⟩ : ∃ wl : World, wl = wz := ⟨_, rfl⟩
        rotate_left 1
        focus
          obtain ⟨wm, hmk, hRow, hgm⟩ := run_make_full (P := Try.prog) wy H 63 3 i0 (.int .i64 0) 1 Try.underlying63 hi0 hz0 hz1 .i64 .i64 m (by rw [hz2]; omega) (by unfold maxLen; omega) (by omega)
          have hb : Below wy.heap.size wy wm := (Below.refl _ _).grown hgm (Nat.le_refl _) (fun q e => by cases e)
          go_simp
          obtain ⟨g, hg⟩ : ∃ g, wy.heap.size = g := ⟨_, rfl⟩
          rw [hg] at hRow hmk
          simp only [hg]
          have hgl : g < wm.heap.size := by have := World.ownsRow.lt hRow g rfl; omega
          have hgH : H < g := by omega
          clear hgm hmk
          rw [show (madeCells (Value.int .i64 0).cells (m * 1)).toList = nxC [] m from by rw [Nat.mul_one]; exact toList_madeCells_one _ _] at hRow
          have hyg : y ≠ g := by omega
          have hBox := (hb.block y hyl).trans hBox
          have hyl : y < wm.heap.size := Nat.lt_of_lt_of_le hyl hb.size
          have hKR := hKR.trans (KeepR.below hb)
          have hRd := hRd.keep hb
          have hz : H + 1 ≤ wm.heap.size := Nat.le_trans hz hb.size
          clear hb
          refine hK.out _ _ ?_ (fun hHeld => ?_)
          · trivial
          clear hK K
          try simp only [Act.put, List.setIfInBounds_toArray, List.set_cons_zero, List.set_cons_succ]
          refine wpAnyH_ready (rs := [3]) (by kernel_rfl) (by simp) ?_
          refine (AllReadyH.cons (o := { dst := some 10, op := Go.Op.call { callee := Go.Callee.value (Go.Operand.func 62), args := #[Go.Operand.tmp 9], argTypes := #[121] }, type := 3, pos := "reader.go:66", after := #[{ on := 2, ground := Go.Ground.data }, { on := 1, ground := Go.Ground.chain }], guard := none }) rfl (fun K hK => ?_) AllReadyH.nil)
          have hC := rnumber_any x B0 (rdNum s).2 wm hRd
          go_simp
          go_wp2_with (go_at_call 62; (with_reducible refine hC.mono ?_); rintro e3 wa3 ⟨rfl, hRd, hk⟩)
          clear hC
          have hRow := own_keep1 hRow (hk.block g hgl (by omega))
          have hgl : g < wa3.heap.size := Nat.lt_of_lt_of_le hgl hk.size
          have hBox := (hk.block y hyl (by omega)).trans hBox
          have hyl : y < wa3.heap.size := Nat.lt_of_lt_of_le hyl hk.size
          have hKR := hKR.trans hk
          have hz : H + 1 ≤ wa3.heap.size := Nat.le_trans hz hk.size
          clear hk
          refine hK.out _ _ ?_ (fun hHeld => ?_)
          · trivial
          clear hK K
          try simp only [Act.put, List.setIfInBounds_toArray, List.set_cons_zero, List.set_cons_succ]
          refine wpAnyH_take (i := 6) (oi := { dst := some 13, op := Go.Op.build 81 #[(0, Go.Operand.tmp 8), (2, Go.Operand.tmp 10), (1, Go.Operand.tmp 12)], type := 81, pos := "reader.go:66", after := #[{ on := 1, ground := Go.Ground.data }, { on := 3, ground := Go.Ground.data }, { on := 5, ground := Go.Ground.data }], guard := none }) (v := ?_) rfl (by kernel_rfl) (by kernel_rfl) (by kernel_rfl) (fun _ _ _ h => h) (Or.inl ⟨by rfl, ?_⟩) (by assumption) ?_
          rotate_left
          · intro w' hSw
            (try dsimp only at hSw)
            go_simp
            all_goals with_reducible rfl
          try simp only [Act.put, List.setIfInBounds_toArray, List.set_cons_zero, List.set_cons_succ]
          refine wpAnyH_ready (rs := [8]) (by kernel_rfl) (by simp) ?_
          refine (AllReadyH.cons (o := { dst := none, op := Go.Op.store 81 (Go.Operand.tmp 5) (Go.Operand.tmp 13), type := 0, pos := "reader.go:66", after := #[{ on := 7, ground := Go.Ground.data }, { on := 6, ground := Go.Ground.data }, { on := 3, ground := Go.Ground.chain }, { on := 0, ground := Go.Ground.phase }, { on := 1, ground := Go.Ground.phase }, { on := 2, ground := Go.Ground.phase }, { on := 3, ground := Go.Ground.phase }, { on := 4, ground := Go.Ground.phase }, { on := 5, ground := Go.Ground.phase }, { on := 6, ground := Go.Ground.phase }, { on := 7, ground := Go.Ground.phase }], guard := none }) rfl (fun K hK => ?_) AllReadyH.nil)
          refine wp_store_row 81 _ _ rfl y #[.int .i64 (rdNum s).1, .slice (some ⟨g, 0, none⟩) m m, .int .i64 (rdNum (rdNum s).2).1] rfl rfl _ _ hBox (by kernel_rfl) rfl (by simp [Value.oneCell']) ?_
          obtain ⟨wz, hwz⟩ : ∃ wz, wa3.setRow y #[.int .i64 (rdNum s).1, .slice (some ⟨g, 0, none⟩) m m, .int .i64 (rdNum (rdNum s).2).1] = wz := ⟨_, rfl⟩
          have hother : ∀ b, b ≠ y → wz.heap[b]? = wa3.heap[b]? := fun b hb => by rw [← hwz]; exact setRow_other wa3 y b _ hb
          have hszz : wz.heap.size = wa3.heap.size := by rw [← hwz]; simp
          have hBox : DBoxN wz y (rdNum s).1 (.slice (some ⟨g, 0, none⟩) m m) (rdNum (rdNum s).2).1 := by rw [← hwz]; exact setRow_heap wa3 y _ _ _ _ hBox
          have hRow := own_keep1 hRow (hother g (fun q => hyg q.symm))
          have hRd : RdS x B0 (rdNum (rdNum s).2).2 wz := by
            obtain ⟨A, c, q1, q2, q3⟩ := hRd.box
            exact ⟨⟨A, c, (hother x (by omega)).trans q1, q2.keep fun p hp => World.cell?_of_block (hother p.block (by have := hRd.low; omega)), q3⟩, hRd.low, hRd.byte⟩
          have hKR : KeepR x w1 wz := ⟨by rw [← hwz]; exact hKR.os, by rw [← hwz]; exact hKR.tape, by rw [← hwz]; exact hKR.output, by rw [hszz]; exact hKR.size, fun b hb hx => (hother b (by omega)).trans (hKR.block b hb hx)⟩
          rw [hwz]
          clear hwz hother
          refine hK.out _ _ ?_ (fun hHeld => ?_)
          · trivial
          clear hK K
          try simp only [Act.put, List.setIfInBounds_toArray, List.set_cons_zero, List.set_cons_succ]
          obtain ⟨wl, rfl⟩ : ∃ wl : World, wl = wz := ⟨_, rfl⟩
    rotate_left 6
    focus
      obtain ⟨wm, hmk, hRow, hgm⟩ := run_make_full (P := Try.prog) we H 63 3 i0 (.int .i64 0) 1 Try.underlying63 hi0 hz0 hz1 .i64 .i64 m (by rw [hz2]; omega) (by unfold maxLen; omega) (by omega)
      have hb : Below we.heap.size we wm := (Below.refl _ _).grown hgm (Nat.le_refl _) (fun q e => by cases e)
      go_simp
      obtain ⟨g, hg⟩ : ∃ g, we.heap.size = g := ⟨_, rfl⟩
      rw [hg] at hRow hmk
      simp only [hg]
      have hgl : g < wm.heap.size := by have := World.ownsRow.lt hRow g rfl; omega
      have hgH : H < g := by omega
      clear hgm hmk
      rw [show (madeCells (Value.int .i64 0).cells (m * 1)).toList = nxC [] m from by rw [Nat.mul_one]; exact toList_madeCells_one _ _] at hRow
      have hKR := hKR.trans (KeepR.below hb)
      have hRd := hRd.keep hb
      have hz : H + 1 ≤ wm.heap.size := Nat.le_trans hz hb.size
      clear hb
      refine hK.out _ _ ?_ (fun hHeld => ?_)
      · trivial
      clear hK K
      try simp only [Act.put, List.setIfInBounds_toArray, List.set_cons_zero, List.set_cons_succ]
      refine wpAnyH_ready (rs := [1, 7]) (by kernel_rfl) (by simp) ?_
      refine (AllReadyH.cons (o := { dst := some 8, op := Go.Op.call { callee := Go.Callee.value (Go.Operand.func 62), args := #[Go.Operand.tmp 7], argTypes := #[121] }, type := 3, pos := "reader.go:66", after := #[{ on := 0, ground := Go.Ground.data }], guard := none }) rfl (fun K hK => ?_) (AllReadyH.cons (o := { dst := some 5, op := Go.Op.alloc 81, type := 0, pos := "reader.go:66", after := #[], guard := none }) rfl (fun K hK => ?_) AllReadyH.nil))
      focus
        have hC := rnumber_any x B0 s wm hRd
        go_simp
        go_wp2_with (go_at_call 62; (with_reducible refine hC.mono ?_); rintro e1 wa1 ⟨rfl, hRd, hk⟩)
        clear hC
        have hRow := own_keep1 hRow (hk.block g hgl (by omega))
        have hgl : g < wa1.heap.size := Nat.lt_of_lt_of_le hgl hk.size
        have hKR := hKR.trans hk
        have hz : H + 1 ≤ wa1.heap.size := Nat.le_trans hz hk.size
        clear hk
        refine hK.out _ _ ?_ (fun hHeld => ?_)
        · trivial
        clear hK K
        try simp only [Act.put, List.setIfInBounds_toArray, List.set_cons_zero, List.set_cons_succ]
        refine wpAnyH_ready (rs := [3, 7]) (by kernel_rfl) (by simp) ?_
        refine (AllReadyH.cons (o := { dst := some 10, op := Go.Op.call { callee := Go.Callee.value (Go.Operand.func 62), args := #[Go.Operand.tmp 9], argTypes := #[121] }, type := 3, pos := "reader.go:66", after := #[{ on := 2, ground := Go.Ground.data }, { on := 1, ground := Go.Ground.chain }], guard := none }) rfl (fun K hK => ?_) (AllReadyH.cons (o := { dst := some 5, op := Go.Op.alloc 81, type := 0, pos := "reader.go:66", after := #[], guard := none }) rfl (fun K hK => ?_) AllReadyH.nil))
        focus
          have hC := rnumber_any x B0 (rdNum s).2 wa1 hRd
          go_simp
          go_wp2_with (go_at_call 62; (with_reducible refine hC.mono ?_); rintro e3 wa3 ⟨rfl, hRd, hk⟩)
          clear hC
          have hRow := own_keep1 hRow (hk.block g hgl (by omega))
          have hgl : g < wa3.heap.size := Nat.lt_of_lt_of_le hgl hk.size
          have hKR := hKR.trans hk
          have hz : H + 1 ≤ wa3.heap.size := Nat.le_trans hz hk.size
          clear hk
          refine hK.out _ _ ?_ (fun hHeld => ?_)
          · trivial
          clear hK K
          try simp only [Act.put, List.setIfInBounds_toArray, List.set_cons_zero, List.set_cons_succ]
          refine wpAnyH_take (i := 6) (oi := { dst := some 13, op := Go.Op.build 81 #[(0, Go.Operand.tmp 8), (2, Go.Operand.tmp 10), (1, Go.Operand.tmp 12)], type := 81, pos := "reader.go:66", after := #[{ on := 1, ground := Go.Ground.data }, { on := 3, ground := Go.Ground.data }, { on := 5, ground := Go.Ground.data }], guard := none }) (v := ?_) rfl (by kernel_rfl) (by kernel_rfl) (by kernel_rfl) (fun _ _ _ h => h) (Or.inl ⟨by rfl, ?_⟩) (by assumption) ?_
          rotate_left
          · intro w' hSw
            (try dsimp only at hSw)
            go_simp
            all_goals with_reducible rfl
          try simp only [Act.put, List.setIfInBounds_toArray, List.set_cons_zero, List.set_cons_succ]
          refine wpAnyH_ready (rs := [7]) (by kernel_rfl) (by simp) ?_
          refine (AllReadyH.cons (o := { dst := some 5, op := Go.Op.alloc 81, type := 0, pos := "reader.go:66", after := #[], guard := none }) rfl (fun K hK => ?_) AllReadyH.nil)
          obtain ⟨wy, hwy⟩ : ∃ wy, wa3.alloc (.cells #[.int .i64 0, .slice none 0 0, .int .i64 0] 81) = wy := ⟨_, rfl⟩
          have hb : Below wa3.heap.size wa3 wy := by rw [← hwy]; exact (Below.refl _ _).alloc (Nat.le_refl _) _
          have hBox : wy.heap[wa3.heap.size]? = some (.cells #[.int .i64 0, .slice none 0 0, .int .i64 0] 81 (0, 0)) := by rw [← hwy]; exact heap_alloc_new wa3 _
          go_simp
          try rw [hwy]
          obtain ⟨y, hy⟩ : ∃ y, wa3.heap.size = y := ⟨_, rfl⟩
          rw [hy] at hBox
          simp only [hy]
          have hyl : y < wy.heap.size := (Array.getElem?_eq_some_iff.1 hBox).1
          have hyH : H < y := by omega
          have hyg : y ≠ g := by omega
          have hRow := own_keep1 hRow (hb.block g hgl)
          have hgl : g < wy.heap.size := Nat.lt_of_lt_of_le hgl hb.size
          have hKR := hKR.trans (KeepR.below hb)
          have hRd := hRd.keep hb
          have hz : H + 1 ≤ wy.heap.size := Nat.le_trans hz hb.size
          clear hb
          refine hK.out _ _ ?_ (fun hHeld => ?_)
          · trivial
          clear hK K
          try simp only [Act.put, List.setIfInBounds_toArray, List.set_cons_zero, List.set_cons_succ]
          refine wpAnyH_ready (rs := [8]) (by kernel_rfl) (by simp) ?_
          refine (AllReadyH.cons (o := { dst := none, op := Go.Op.store 81 (Go.Operand.tmp 5) (Go.Operand.tmp 13), type := 0, pos := "reader.go:66", after := #[{ on := 7, ground := Go.Ground.data }, { on := 6, ground := Go.Ground.data }, { on := 3, ground := Go.Ground.chain }, { on := 0, ground := Go.Ground.phase }, { on := 1, ground := Go.Ground.phase }, { on := 2, ground := Go.Ground.phase }, { on := 3, ground := Go.Ground.phase }, { on := 4, ground := Go.Ground.phase }, { on := 5, ground := Go.Ground.phase }, { on := 6, ground := Go.Ground.phase }, { on := 7, ground := Go.Ground.phase }], guard := none }) rfl (fun K hK => ?_) AllReadyH.nil)
          refine wp_store_row 81 _ _ rfl y #[.int .i64 (rdNum s).1, .slice (some ⟨g, 0, none⟩) m m, .int .i64 (rdNum (rdNum s).2).1] rfl rfl _ _ hBox (by kernel_rfl) rfl (by simp [Value.oneCell']) ?_
          obtain ⟨wz, hwz⟩ : ∃ wz, wy.setRow y #[.int .i64 (rdNum s).1, .slice (some ⟨g, 0, none⟩) m m, .int .i64 (rdNum (rdNum s).2).1] = wz := ⟨_, rfl⟩
          have hother : ∀ b, b ≠ y → wz.heap[b]? = wy.heap[b]? := fun b hb => by rw [← hwz]; exact setRow_other wy y b _ hb
          have hszz : wz.heap.size = wy.heap.size := by rw [← hwz]; simp
          have hBox : DBoxN wz y (rdNum s).1 (.slice (some ⟨g, 0, none⟩) m m) (rdNum (rdNum s).2).1 := by rw [← hwz]; exact setRow_heap wy y _ _ _ _ hBox
          have hRow := own_keep1 hRow (hother g (fun q => hyg q.symm))
          have hRd : RdS x B0 (rdNum (rdNum s).2).2 wz := by
            obtain ⟨A, c, q1, q2, q3⟩ := hRd.box
            exact ⟨⟨A, c, (hother x (by omega)).trans q1, q2.keep fun p hp => World.cell?_of_block (hother p.block (by have := hRd.low; omega)), q3⟩, hRd.low, hRd.byte⟩
          have hKR : KeepR x w1 wz := ⟨by rw [← hwz]; exact hKR.os, by rw [← hwz]; exact hKR.tape, by rw [← hwz]; exact hKR.output, by rw [hszz]; exact hKR.size, fun b hb hx => (hother b (by omega)).trans (hKR.block b hb hx)⟩
          rw [hwz]
          clear hwz hother
          refine hK.out _ _ ?_ (fun hHeld => ?_)
          · trivial
          clear hK K
          try simp only [Act.put, List.setIfInBounds_toArray, List.set_cons_zero, List.set_cons_succ]
          obtain ⟨wl, rfl⟩ : ∃ wl : World, wl = wz := ⟨_, rfl⟩
        rotate_left 1
        focus
          obtain ⟨wy, hwy⟩ : ∃ wy, wa1.alloc (.cells #[.int .i64 0, .slice none 0 0, .int .i64 0] 81) = wy := ⟨_, rfl⟩
          have hb : Below wa1.heap.size wa1 wy := by rw [← hwy]; exact (Below.refl _ _).alloc (Nat.le_refl _) _
          have hBox : wy.heap[wa1.heap.size]? = some (.cells #[.int .i64 0, .slice none 0 0, .int .i64 0] 81 (0, 0)) := by rw [← hwy]; exact heap_alloc_new wa1 _
          go_simp
          try rw [hwy]
          obtain ⟨y, hy⟩ : ∃ y, wa1.heap.size = y := ⟨_, rfl⟩
          rw [hy] at hBox
          simp only [hy]
          have hyl : y < wy.heap.size := (Array.getElem?_eq_some_iff.1 hBox).1
          have hyH : H < y := by omega
          have hyg : y ≠ g := by omega
          have hRow := own_keep1 hRow (hb.block g hgl)
          have hgl : g < wy.heap.size := Nat.lt_of_lt_of_le hgl hb.size
          have hKR := hKR.trans (KeepR.below hb)
          have hRd := hRd.keep hb
          have hz : H + 1 ≤ wy.heap.size := Nat.le_trans hz hb.size
          clear hb
          refine hK.out _ _ ?_ (fun hHeld => ?_)
          · trivial
          clear hK K
          try simp only [Act.put, List.setIfInBounds_toArray, List.set_cons_zero, List.set_cons_succ]
          refine wpAnyH_ready (rs := [3]) (by kernel_rfl) (by simp) ?_
          refine (AllReadyH.cons (o := { dst := some 10, op := Go.Op.call { callee := Go.Callee.value (Go.Operand.func 62), args := #[Go.Operand.tmp 9], argTypes := #[121] }, type := 3, pos := "reader.go:66", after := #[{ on := 2, ground := Go.Ground.data }, { on := 1, ground := Go.Ground.chain }], guard := none }) rfl (fun K hK => ?_) AllReadyH.nil)
          have hC := rnumber_any x B0 (rdNum s).2 wy hRd
          go_simp
          go_wp2_with (go_at_call 62; (with_reducible refine hC.mono ?_); rintro e3 wa3 ⟨rfl, hRd, hk⟩)
          clear hC
          have hRow := own_keep1 hRow (hk.block g hgl (by omega))
          have hgl : g < wa3.heap.size := Nat.lt_of_lt_of_le hgl hk.size
          have hBox := (hk.block y hyl (by omega)).trans hBox
          have hyl : y < wa3.heap.size := Nat.lt_of_lt_of_le hyl hk.size
          have hKR := hKR.trans hk
          have hz : H + 1 ≤ wa3.heap.size := Nat.le_trans hz hk.size
          clear hk
          refine hK.out _ _ ?_ (fun hHeld => ?_)
          · trivial
          clear hK K
          try simp only [Act.put, List.setIfInBounds_toArray, List.set_cons_zero, List.set_cons_succ]
          refine wpAnyH_take (i := 6) (oi := { dst := some 13, op := Go.Op.build 81 #[(0, Go.Operand.tmp 8), (2, Go.Operand.tmp 10), (1, Go.Operand.tmp 12)], type := 81, pos := "reader.go:66", after := #[{ on := 1, ground := Go.Ground.data }, { on := 3, ground := Go.Ground.data }, { on := 5, ground := Go.Ground.data }], guard := none }) (v := ?_) rfl (by kernel_rfl) (by kernel_rfl) (by kernel_rfl) (fun _ _ _ h => h) (Or.inl ⟨by rfl, ?_⟩) (by assumption) ?_
          rotate_left
          · intro w' hSw
            (try dsimp only at hSw)
            go_simp
            all_goals with_reducible rfl
          try simp only [Act.put, List.setIfInBounds_toArray, List.set_cons_zero, List.set_cons_succ]
          refine wpAnyH_ready (rs := [8]) (by kernel_rfl) (by simp) ?_
          refine (AllReadyH.cons (o := { dst := none, op := Go.Op.store 81 (Go.Operand.tmp 5) (Go.Operand.tmp 13), type := 0, pos := "reader.go:66", after := #[{ on := 7, ground := Go.Ground.data }, { on := 6, ground := Go.Ground.data }, { on := 3, ground := Go.Ground.chain }, { on := 0, ground := Go.Ground.phase }, { on := 1, ground := Go.Ground.phase }, { on := 2, ground := Go.Ground.phase }, { on := 3, ground := Go.Ground.phase }, { on := 4, ground := Go.Ground.phase }, { on := 5, ground := Go.Ground.phase }, { on := 6, ground := Go.Ground.phase }, { on := 7, ground := Go.Ground.phase }], guard := none }) rfl (fun K hK => ?_) AllReadyH.nil)
          refine wp_store_row 81 _ _ rfl y #[.int .i64 (rdNum s).1, .slice (some ⟨g, 0, none⟩) m m, .int .i64 (rdNum (rdNum s).2).1] rfl rfl _ _ hBox (by kernel_rfl) rfl (by simp [Value.oneCell']) ?_
          obtain ⟨wz, hwz⟩ : ∃ wz, wa3.setRow y #[.int .i64 (rdNum s).1, .slice (some ⟨g, 0, none⟩) m m, .int .i64 (rdNum (rdNum s).2).1] = wz := ⟨_, rfl⟩
          have hother : ∀ b, b ≠ y → wz.heap[b]? = wa3.heap[b]? := fun b hb => by rw [← hwz]; exact setRow_other wa3 y b _ hb
          have hszz : wz.heap.size = wa3.heap.size := by rw [← hwz]; simp
          have hBox : DBoxN wz y (rdNum s).1 (.slice (some ⟨g, 0, none⟩) m m) (rdNum (rdNum s).2).1 := by rw [← hwz]; exact setRow_heap wa3 y _ _ _ _ hBox
          have hRow := own_keep1 hRow (hother g (fun q => hyg q.symm))
          have hRd : RdS x B0 (rdNum (rdNum s).2).2 wz := by
            obtain ⟨A, c, q1, q2, q3⟩ := hRd.box
            exact ⟨⟨A, c, (hother x (by omega)).trans q1, q2.keep fun p hp => World.cell?_of_block (hother p.block (by have := hRd.low; omega)), q3⟩, hRd.low, hRd.byte⟩
          have hKR : KeepR x w1 wz := ⟨by rw [← hwz]; exact hKR.os, by rw [← hwz]; exact hKR.tape, by rw [← hwz]; exact hKR.output, by rw [hszz]; exact hKR.size, fun b hb hx => (hother b (by omega)).trans (hKR.block b hb hx)⟩
          rw [hwz]
          clear hwz hother
          refine hK.out _ _ ?_ (fun hHeld => ?_)
          · trivial
          clear hK K
          try simp only [Act.put, List.setIfInBounds_toArray, List.set_cons_zero, List.set_cons_succ]
          obtain ⟨wl, rfl⟩ : ∃ wl : World, wl = wz := ⟨_, rfl⟩
      rotate_left 2
      focus
        obtain ⟨wy, hwy⟩ : ∃ wy, wm.alloc (.cells #[.int .i64 0, .slice none 0 0, .int .i64 0] 81) = wy := ⟨_, rfl⟩
        have hb : Below wm.heap.size wm wy := by rw [← hwy]; exact (Below.refl _ _).alloc (Nat.le_refl _) _
        have hBox : wy.heap[wm.heap.size]? = some (.cells #[.int .i64 0, .slice none 0 0, .int .i64 0] 81 (0, 0)) := by rw [← hwy]; exact heap_alloc_new wm _
        go_simp
        try rw [hwy]
        obtain ⟨y, hy⟩ : ∃ y, wm.heap.size = y := ⟨_, rfl⟩
        rw [hy] at hBox
        simp only [hy]
        have hyl : y < wy.heap.size := (Array.getElem?_eq_some_iff.1 hBox).1
        have hyH : H < y := by omega
        have hyg : y ≠ g := by omega
        have hRow := own_keep1 hRow (hb.block g hgl)
        have hgl : g < wy.heap.size := Nat.lt_of_lt_of_le hgl hb.size
        have hKR := hKR.trans (KeepR.below hb)
        have hRd := hRd.keep hb
        have hz : H + 1 ≤ wy.heap.size := Nat.le_trans hz hb.size
        clear hb
        refine hK.out _ _ ?_ (fun hHeld => ?_)
        · trivial
        clear hK K
        try simp only [Act.put, List.setIfInBounds_toArray, List.set_cons_zero, List.set_cons_succ]
        refine wpAnyH_ready (rs := [1]) (by kernel_rfl) (by simp) ?_
        refine (AllReadyH.cons (o := { dst := some 8, op := Go.Op.call { callee := Go.Callee.value (Go.Operand.func 62), args := #[Go.Operand.tmp 7], argTypes := #[121] }, type := 3, pos := "reader.go:66", after := #[{ on := 0, ground := Go.Ground.data }], guard := none }) rfl (fun K hK => ?_) AllReadyH.nil)
        have hC := rnumber_any x B0 s wy hRd
        go_simp
        go_wp2_with (go_at_call 62; (with_reducible refine hC.mono ?_); rintro e1 wa1 ⟨rfl, hRd, hk⟩)
        clear hC
        have hRow := own_keep1 hRow (hk.block g hgl (by omega))
        have hgl : g < wa1.heap.size := Nat.lt_of_lt_of_le hgl hk.size
        have hBox := (hk.block y hyl (by omega)).trans hBox
        have hyl : y < wa1.heap.size := Nat.lt_of_lt_of_le hyl hk.size
        have hKR := hKR.trans hk
        have hz : H + 1 ≤ wa1.heap.size := Nat.le_trans hz hk.size
        clear hk
        refine hK.out _ _ ?_ (fun hHeld => ?_)
        · trivial
        clear hK K
        try simp only [Act.put, List.setIfInBounds_toArray, List.set_cons_zero, List.set_cons_succ]
        refine wpAnyH_ready (rs := [3]) (by kernel_rfl) (by simp) ?_
        refine (AllReadyH.cons (o := { dst := some 10, op := Go.Op.call { callee := Go.Callee.value (Go.Operand.func 62), args := #[Go.Operand.tmp 9], argTypes := #[121] }, type := 3, pos := "reader.go:66", after := #[{ on := 2, ground := Go.Ground.data }, { on := 1, ground := Go.Ground.chain }], guard := none }) rfl (fun K hK => ?_) AllReadyH.nil)
        have hC := rnumber_any x B0 (rdNum s).2 wa1 hRd
        go_simp
        go_wp2_with (go_at_call 62; (with_reducible refine hC.mono ?_); rintro e3 wa3 ⟨rfl, hRd, hk⟩)
        clear hC
        have hRow := own_keep1 hRow (hk.block g hgl (by omega))
        have hgl : g < wa3.heap.size := Nat.lt_of_lt_of_le hgl hk.size
        have hBox := (hk.block y hyl (by omega)).trans hBox
        have hyl : y < wa3.heap.size := Nat.lt_of_lt_of_le hyl hk.size
        have hKR := hKR.trans hk
        have hz : H + 1 ≤ wa3.heap.size := Nat.le_trans hz hk.size
        clear hk
        refine hK.out _ _ ?_ (fun hHeld => ?_)
        · trivial
        clear hK K
        try simp only [Act.put, List.setIfInBounds_toArray, List.set_cons_zero, List.set_cons_succ]
        refine wpAnyH_take (i := 6) (oi := { dst := some 13, op := Go.Op.build 81 #[(0, Go.Operand.tmp 8), (2, Go.Operand.tmp 10), (1, Go.Operand.tmp 12)], type := 81, pos := "reader.go:66", after := #[{ on := 1, ground := Go.Ground.data }, { on := 3, ground := Go.Ground.data }, { on := 5, ground := Go.Ground.data }], guard := none }) (v := ?_) rfl (by kernel_rfl) (by kernel_rfl) (by kernel_rfl) (fun _ _ _ h => h) (Or.inl ⟨by rfl, ?_⟩) (by assumption) ?_
        rotate_left
        · intro w' hSw
          (try dsimp only at hSw)
          go_simp
          all_goals with_reducible rfl
        try simp only [Act.put, List.setIfInBounds_toArray, List.set_cons_zero, List.set_cons_succ]
        refine wpAnyH_ready (rs := [8]) (by kernel_rfl) (by simp) ?_
        refine (AllReadyH.cons (o := { dst := none, op := Go.Op.store 81 (Go.Operand.tmp 5) (Go.Operand.tmp 13), type := 0, pos := "reader.go:66", after := #[{ on := 7, ground := Go.Ground.data }, { on := 6, ground := Go.Ground.data }, { on := 3, ground := Go.Ground.chain }, { on := 0, ground := Go.Ground.phase }, { on := 1, ground := Go.Ground.phase }, { on := 2, ground := Go.Ground.phase }, { on := 3, ground := Go.Ground.phase }, { on := 4, ground := Go.Ground.phase }, { on := 5, ground := Go.Ground.phase }, { on := 6, ground := Go.Ground.phase }, { on := 7, ground := Go.Ground.phase }], guard := none }) rfl (fun K hK => ?_) AllReadyH.nil)
        refine wp_store_row 81 _ _ rfl y #[.int .i64 (rdNum s).1, .slice (some ⟨g, 0, none⟩) m m, .int .i64 (rdNum (rdNum s).2).1] rfl rfl _ _ hBox (by kernel_rfl) rfl (by simp [Value.oneCell']) ?_
        obtain ⟨wz, hwz⟩ : ∃ wz, wa3.setRow y #[.int .i64 (rdNum s).1, .slice (some ⟨g, 0, none⟩) m m, .int .i64 (rdNum (rdNum s).2).1] = wz := ⟨_, rfl⟩
        have hother : ∀ b, b ≠ y → wz.heap[b]? = wa3.heap[b]? := fun b hb => by rw [← hwz]; exact setRow_other wa3 y b _ hb
        have hszz : wz.heap.size = wa3.heap.size := by rw [← hwz]; simp
        have hBox : DBoxN wz y (rdNum s).1 (.slice (some ⟨g, 0, none⟩) m m) (rdNum (rdNum s).2).1 := by rw [← hwz]; exact setRow_heap wa3 y _ _ _ _ hBox
        have hRow := own_keep1 hRow (hother g (fun q => hyg q.symm))
        have hRd : RdS x B0 (rdNum (rdNum s).2).2 wz := by
          obtain ⟨A, c, q1, q2, q3⟩ := hRd.box
          exact ⟨⟨A, c, (hother x (by omega)).trans q1, q2.keep fun p hp => World.cell?_of_block (hother p.block (by have := hRd.low; omega)), q3⟩, hRd.low, hRd.byte⟩
        have hKR : KeepR x w1 wz := ⟨by rw [← hwz]; exact hKR.os, by rw [← hwz]; exact hKR.tape, by rw [← hwz]; exact hKR.output, by rw [hszz]; exact hKR.size, fun b hb hx => (hother b (by omega)).trans (hKR.block b hb hx)⟩
        rw [hwz]
        clear hwz hother
        refine hK.out _ _ ?_ (fun hHeld => ?_)
        · trivial
        clear hK K
        try simp only [Act.put, List.setIfInBounds_toArray, List.set_cons_zero, List.set_cons_succ]
        obtain ⟨wl, rfl⟩ : ∃ wl : World, wl = wz := ⟨_, rfl⟩
    rotate_left 3
    focus
      obtain ⟨wy, hwy⟩ : ∃ wy, we.alloc (.cells #[.int .i64 0, .slice none 0 0, .int .i64 0] 81) = wy := ⟨_, rfl⟩
      have hb : Below we.heap.size we wy := by rw [← hwy]; exact (Below.refl _ _).alloc (Nat.le_refl _) _
      have hBox : wy.heap[we.heap.size]? = some (.cells #[.int .i64 0, .slice none 0 0, .int .i64 0] 81 (0, 0)) := by rw [← hwy]; exact heap_alloc_new we _
      go_simp
      try rw [hwy]
      obtain ⟨y, hy⟩ : ∃ y, we.heap.size = y := ⟨_, rfl⟩
      rw [hy] at hBox
      simp only [hy]
      have hyl : y < wy.heap.size := (Array.getElem?_eq_some_iff.1 hBox).1
      have hyH : H < y := by omega
      have hKR := hKR.trans (KeepR.below hb)
      have hRd := hRd.keep hb
      have hz : H + 1 ≤ wy.heap.size := Nat.le_trans hz hb.size
      clear hb
      refine hK.out _ _ ?_ (fun hHeld => ?_)
      · trivial
      clear hK K
      try simp only [Act.put, List.setIfInBounds_toArray, List.set_cons_zero, List.set_cons_succ]
      refine wpAnyH_ready (rs := [1, 5]) (by kernel_rfl) (by simp) ?_
      refine (AllReadyH.cons (o := { dst := some 8, op := Go.Op.call { callee := Go.Callee.value (Go.Operand.func 62), args := #[Go.Operand.tmp 7], argTypes := #[121] }, type := 3, pos := "reader.go:66", after := #[{ on := 0, ground := Go.Ground.data }], guard := none }) rfl (fun K hK => ?_) (AllReadyH.cons (o := { dst := some 12, op := Go.Op.makeSlice 63 (Go.Operand.tmp 11) (Go.Operand.tmp 11), type := 63, pos := "reader.go:66", after := #[{ on := 4, ground := Go.Ground.data }, { on := 4, ground := Go.Ground.data }], guard := none }) rfl (fun K hK => ?_) AllReadyH.nil))
      focus
        have hC := rnumber_any x B0 s wy hRd
        go_simp
        go_wp2_with (go_at_call 62; (with_reducible refine hC.mono ?_); rintro e1 wa1 ⟨rfl, hRd, hk⟩)
        clear hC
        have hBox := (hk.block y hyl (by omega)).trans hBox
        have hyl : y < wa1.heap.size := Nat.lt_of_lt_of_le hyl hk.size
        have hKR := hKR.trans hk
        have hz : H + 1 ≤ wa1.heap.size := Nat.le_trans hz hk.size
        clear hk
        refine hK.out _ _ ?_ (fun hHeld => ?_)
        · trivial
        clear hK K
        try simp only [Act.put, List.setIfInBounds_toArray, List.set_cons_zero, List.set_cons_succ]
        refine wpAnyH_ready (rs := [3, 5]) (by kernel_rfl) (by simp) ?_
        refine (AllReadyH.cons (o := { dst := some 10, op := Go.Op.call { callee := Go.Callee.value (Go.Operand.func 62), args := #[Go.Operand.tmp 9], argTypes := #[121] }, type := 3, pos := "reader.go:66", after := #[{ on := 2, ground := Go.Ground.data }, { on := 1, ground := Go.Ground.chain }], guard := none }) rfl (fun K hK => ?_) (AllReadyH.cons (o := { dst := some 12, op := Go.Op.makeSlice 63 (Go.Operand.tmp 11) (Go.Operand.tmp 11), type := 63, pos := "reader.go:66", after := #[{ on := 4, ground := Go.Ground.data }, { on := 4, ground := Go.Ground.data }], guard := none }) rfl (fun K hK => ?_) AllReadyH.nil))
        focus
          have hC := rnumber_any x B0 (rdNum s).2 wa1 hRd
          go_simp
          go_wp2_with (go_at_call 62; (with_reducible refine hC.mono ?_); rintro e3 wa3 ⟨rfl, hRd, hk⟩)
          clear hC
          have hBox := (hk.block y hyl (by omega)).trans hBox
          have hyl : y < wa3.heap.size := Nat.lt_of_lt_of_le hyl hk.size
          have hKR := hKR.trans hk
          have hz : H + 1 ≤ wa3.heap.size := Nat.le_trans hz hk.size
          clear hk
          refine hK.out _ _ ?_ (fun hHeld => ?_)
          · trivial
          clear hK K
          try simp only [Act.put, List.setIfInBounds_toArray, List.set_cons_zero, List.set_cons_succ]
          refine wpAnyH_ready (rs := [5]) (by kernel_rfl) (by simp) ?_
          refine (AllReadyH.cons (o := { dst := some 12, op := Go.Op.makeSlice 63 (Go.Operand.tmp 11) (Go.Operand.tmp 11), type := 63, pos := "reader.go:66", after := #[{ on := 4, ground := Go.Ground.data }, { on := 4, ground := Go.Ground.data }], guard := none }) rfl (fun K hK => ?_) AllReadyH.nil)
          obtain ⟨wm, hmk, hRow, hgm⟩ := run_make_full (P := Try.prog) wa3 H 63 3 i0 (.int .i64 0) 1 Try.underlying63 hi0 hz0 hz1 .i64 .i64 m (by rw [hz2]; omega) (by unfold maxLen; omega) (by omega)
          have hb : Below wa3.heap.size wa3 wm := (Below.refl _ _).grown hgm (Nat.le_refl _) (fun q e => by cases e)
          go_simp
          obtain ⟨g, hg⟩ : ∃ g, wa3.heap.size = g := ⟨_, rfl⟩
          rw [hg] at hRow hmk
          simp only [hg]
          have hgl : g < wm.heap.size := by have := World.ownsRow.lt hRow g rfl; omega
          have hgH : H < g := by omega
          clear hgm hmk
          rw [show (madeCells (Value.int .i64 0).cells (m * 1)).toList = nxC [] m from by rw [Nat.mul_one]; exact toList_madeCells_one _ _] at hRow
          have hyg : y ≠ g := by omega
          have hBox := (hb.block y hyl).trans hBox
          have hyl : y < wm.heap.size := Nat.lt_of_lt_of_le hyl hb.size
          have hKR := hKR.trans (KeepR.below hb)
          have hRd := hRd.keep hb
          have hz : H + 1 ≤ wm.heap.size := Nat.le_trans hz hb.size
          clear hb
          refine hK.out _ _ ?_ (fun hHeld => ?_)
          · trivial
          clear hK K
          try simp only [Act.put, List.setIfInBounds_toArray, List.set_cons_zero, List.set_cons_succ]
          refine wpAnyH_take (i := 6) (oi := { dst := some 13, op := Go.Op.build 81 #[(0, Go.Operand.tmp 8), (2, Go.Operand.tmp 10), (1, Go.Operand.tmp 12)], type := 81, pos := "reader.go:66", after := #[{ on := 1, ground := Go.Ground.data }, { on := 3, ground := Go.Ground.data }, { on := 5, ground := Go.Ground.data }], guard := none }) (v := ?_) rfl (by kernel_rfl) (by kernel_rfl) (by kernel_rfl) (fun _ _ _ h => h) (Or.inl ⟨by rfl, ?_⟩) (by assumption) ?_
          rotate_left
          · intro w' hSw
            (try dsimp only at hSw)
            go_simp
            all_goals with_reducible rfl
          try simp only [Act.put, List.setIfInBounds_toArray, List.set_cons_zero, List.set_cons_succ]
          refine wpAnyH_ready (rs := [8]) (by kernel_rfl) (by simp) ?_
          refine (AllReadyH.cons (o := { dst := none, op := Go.Op.store 81 (Go.Operand.tmp 5) (Go.Operand.tmp 13), type := 0, pos := "reader.go:66", after := #[{ on := 7, ground := Go.Ground.data }, { on := 6, ground := Go.Ground.data }, { on := 3, ground := Go.Ground.chain }, { on := 0, ground := Go.Ground.phase }, { on := 1, ground := Go.Ground.phase }, { on := 2, ground := Go.Ground.phase }, { on := 3, ground := Go.Ground.phase }, { on := 4, ground := Go.Ground.phase }, { on := 5, ground := Go.Ground.phase }, { on := 6, ground := Go.Ground.phase }, { on := 7, ground := Go.Ground.phase }], guard := none }) rfl (fun K hK => ?_) AllReadyH.nil)
          refine wp_store_row 81 _ _ rfl y #[.int .i64 (rdNum s).1, .slice (some ⟨g, 0, none⟩) m m, .int .i64 (rdNum (rdNum s).2).1] rfl rfl _ _ hBox (by kernel_rfl) rfl (by simp [Value.oneCell']) ?_
          obtain ⟨wz, hwz⟩ : ∃ wz, wm.setRow y #[.int .i64 (rdNum s).1, .slice (some ⟨g, 0, none⟩) m m, .int .i64 (rdNum (rdNum s).2).1] = wz := ⟨_, rfl⟩
          have hother : ∀ b, b ≠ y → wz.heap[b]? = wm.heap[b]? := fun b hb => by rw [← hwz]; exact setRow_other wm y b _ hb
          have hszz : wz.heap.size = wm.heap.size := by rw [← hwz]; simp
          have hBox : DBoxN wz y (rdNum s).1 (.slice (some ⟨g, 0, none⟩) m m) (rdNum (rdNum s).2).1 := by rw [← hwz]; exact setRow_heap wm y _ _ _ _ hBox
          have hRow := own_keep1 hRow (hother g (fun q => hyg q.symm))
          have hRd : RdS x B0 (rdNum (rdNum s).2).2 wz := by
            obtain ⟨A, c, q1, q2, q3⟩ := hRd.box
            exact ⟨⟨A, c, (hother x (by omega)).trans q1, q2.keep fun p hp => World.cell?_of_block (hother p.block (by have := hRd.low; omega)), q3⟩, hRd.low, hRd.byte⟩
          have hKR : KeepR x w1 wz := ⟨by rw [← hwz]; exact hKR.os, by rw [← hwz]; exact hKR.tape, by rw [← hwz]; exact hKR.output, by rw [hszz]; exact hKR.size, fun b hb hx => (hother b (by omega)).trans (hKR.block b hb hx)⟩
          rw [hwz]
          clear hwz hother
          refine hK.out _ _ ?_ (fun hHeld => ?_)
          · trivial
          clear hK K
          try simp only [Act.put, List.setIfInBounds_toArray, List.set_cons_zero, List.set_cons_succ]
          obtain ⟨wl, rfl⟩ : ∃ wl : World, wl = wz := ⟨_, rfl⟩
        rotate_left 1
        focus
          obtain ⟨wm, hmk, hRow, hgm⟩ := run_make_full (P := Try.prog) wa1 H 63 3 i0 (.int .i64 0) 1 Try.underlying63 hi0 hz0 hz1 .i64 .i64 m (by rw [hz2]; omega) (by unfold maxLen; omega) (by omega)
          have hb : Below wa1.heap.size wa1 wm := (Below.refl _ _).grown hgm (Nat.le_refl _) (fun q e => by cases e)
          go_simp
          obtain ⟨g, hg⟩ : ∃ g, wa1.heap.size = g := ⟨_, rfl⟩
          rw [hg] at hRow hmk
          simp only [hg]
          have hgl : g < wm.heap.size := by have := World.ownsRow.lt hRow g rfl; omega
          have hgH : H < g := by omega
          clear hgm hmk
          rw [show (madeCells (Value.int .i64 0).cells (m * 1)).toList = nxC [] m from by rw [Nat.mul_one]; exact toList_madeCells_one _ _] at hRow
          have hyg : y ≠ g := by omega
          have hBox := (hb.block y hyl).trans hBox
          have hyl : y < wm.heap.size := Nat.lt_of_lt_of_le hyl hb.size
          have hKR := hKR.trans (KeepR.below hb)
          have hRd := hRd.keep hb
          have hz : H + 1 ≤ wm.heap.size := Nat.le_trans hz hb.size
          clear hb
          refine hK.out _ _ ?_ (fun hHeld => ?_)
          · trivial
          clear hK K
          try simp only [Act.put, List.setIfInBounds_toArray, List.set_cons_zero, List.set_cons_succ]
          refine wpAnyH_ready (rs := [3]) (by kernel_rfl) (by simp) ?_
          refine (AllReadyH.cons (o := { dst := some 10, op := Go.Op.call { callee := Go.Callee.value (Go.Operand.func 62), args := #[Go.Operand.tmp 9], argTypes := #[121] }, type := 3, pos := "reader.go:66", after := #[{ on := 2, ground := Go.Ground.data }, { on := 1, ground := Go.Ground.chain }], guard := none }) rfl (fun K hK => ?_) AllReadyH.nil)
          have hC := rnumber_any x B0 (rdNum s).2 wm hRd
          go_simp
          go_wp2_with (go_at_call 62; (with_reducible refine hC.mono ?_); rintro e3 wa3 ⟨rfl, hRd, hk⟩)
          clear hC
          have hRow := own_keep1 hRow (hk.block g hgl (by omega))
          have hgl : g < wa3.heap.size := Nat.lt_of_lt_of_le hgl hk.size
          have hBox := (hk.block y hyl (by omega)).trans hBox
          have hyl : y < wa3.heap.size := Nat.lt_of_lt_of_le hyl hk.size
          have hKR := hKR.trans hk
          have hz : H + 1 ≤ wa3.heap.size := Nat.le_trans hz hk.size
          clear hk
          refine hK.out _ _ ?_ (fun hHeld => ?_)
          · trivial
          clear hK K
          try simp only [Act.put, List.setIfInBounds_toArray, List.set_cons_zero, List.set_cons_succ]
          refine wpAnyH_take (i := 6) (oi := { dst := some 13, op := Go.Op.build 81 #[(0, Go.Operand.tmp 8), (2, Go.Operand.tmp 10), (1, Go.Operand.tmp 12)], type := 81, pos := "reader.go:66", after := #[{ on := 1, ground := Go.Ground.data }, { on := 3, ground := Go.Ground.data }, { on := 5, ground := Go.Ground.data }], guard := none }) (v := ?_) rfl (by kernel_rfl) (by kernel_rfl) (by kernel_rfl) (fun _ _ _ h => h) (Or.inl ⟨by rfl, ?_⟩) (by assumption) ?_
          rotate_left
          · intro w' hSw
            (try dsimp only at hSw)
            go_simp
            all_goals with_reducible rfl
          try simp only [Act.put, List.setIfInBounds_toArray, List.set_cons_zero, List.set_cons_succ]
          refine wpAnyH_ready (rs := [8]) (by kernel_rfl) (by simp) ?_
          refine (AllReadyH.cons (o := { dst := none, op := Go.Op.store 81 (Go.Operand.tmp 5) (Go.Operand.tmp 13), type := 0, pos := "reader.go:66", after := #[{ on := 7, ground := Go.Ground.data }, { on := 6, ground := Go.Ground.data }, { on := 3, ground := Go.Ground.chain }, { on := 0, ground := Go.Ground.phase }, { on := 1, ground := Go.Ground.phase }, { on := 2, ground := Go.Ground.phase }, { on := 3, ground := Go.Ground.phase }, { on := 4, ground := Go.Ground.phase }, { on := 5, ground := Go.Ground.phase }, { on := 6, ground := Go.Ground.phase }, { on := 7, ground := Go.Ground.phase }], guard := none }) rfl (fun K hK => ?_) AllReadyH.nil)
          refine wp_store_row 81 _ _ rfl y #[.int .i64 (rdNum s).1, .slice (some ⟨g, 0, none⟩) m m, .int .i64 (rdNum (rdNum s).2).1] rfl rfl _ _ hBox (by kernel_rfl) rfl (by simp [Value.oneCell']) ?_
          obtain ⟨wz, hwz⟩ : ∃ wz, wa3.setRow y #[.int .i64 (rdNum s).1, .slice (some ⟨g, 0, none⟩) m m, .int .i64 (rdNum (rdNum s).2).1] = wz := ⟨_, rfl⟩
          have hother : ∀ b, b ≠ y → wz.heap[b]? = wa3.heap[b]? := fun b hb => by rw [← hwz]; exact setRow_other wa3 y b _ hb
          have hszz : wz.heap.size = wa3.heap.size := by rw [← hwz]; simp
          have hBox : DBoxN wz y (rdNum s).1 (.slice (some ⟨g, 0, none⟩) m m) (rdNum (rdNum s).2).1 := by rw [← hwz]; exact setRow_heap wa3 y _ _ _ _ hBox
          have hRow := own_keep1 hRow (hother g (fun q => hyg q.symm))
          have hRd : RdS x B0 (rdNum (rdNum s).2).2 wz := by
            obtain ⟨A, c, q1, q2, q3⟩ := hRd.box
            exact ⟨⟨A, c, (hother x (by omega)).trans q1, q2.keep fun p hp => World.cell?_of_block (hother p.block (by have := hRd.low; omega)), q3⟩, hRd.low, hRd.byte⟩
          have hKR : KeepR x w1 wz := ⟨by rw [← hwz]; exact hKR.os, by rw [← hwz]; exact hKR.tape, by rw [← hwz]; exact hKR.output, by rw [hszz]; exact hKR.size, fun b hb hx => (hother b (by omega)).trans (hKR.block b hb hx)⟩
          rw [hwz]
          clear hwz hother
          refine hK.out _ _ ?_ (fun hHeld => ?_)
          · trivial
          clear hK K
          try simp only [Act.put, List.setIfInBounds_toArray, List.set_cons_zero, List.set_cons_succ]
          obtain ⟨wl, rfl⟩ : ∃ wl : World, wl = wz := ⟨_, rfl⟩
      rotate_left 2
      focus
        obtain ⟨wm, hmk, hRow, hgm⟩ := run_make_full (P := Try.prog) wy H 63 3 i0 (.int .i64 0) 1 Try.underlying63 hi0 hz0 hz1 .i64 .i64 m (by rw [hz2]; omega) (by unfold maxLen; omega) (by omega)
        have hb : Below wy.heap.size wy wm := (Below.refl _ _).grown hgm (Nat.le_refl _) (fun q e => by cases e)
        go_simp
        obtain ⟨g, hg⟩ : ∃ g, wy.heap.size = g := ⟨_, rfl⟩
        rw [hg] at hRow hmk
        simp only [hg]
        have hgl : g < wm.heap.size := by have := World.ownsRow.lt hRow g rfl; omega
        have hgH : H < g := by omega
        clear hgm hmk
        rw [show (madeCells (Value.int .i64 0).cells (m * 1)).toList = nxC [] m from by rw [Nat.mul_one]; exact toList_madeCells_one _ _] at hRow
        have hyg : y ≠ g := by omega
        have hBox := (hb.block y hyl).trans hBox
        have hyl : y < wm.heap.size := Nat.lt_of_lt_of_le hyl hb.size
        have hKR := hKR.trans (KeepR.below hb)
        have hRd := hRd.keep hb
        have hz : H + 1 ≤ wm.heap.size := Nat.le_trans hz hb.size
        clear hb
        refine hK.out _ _ ?_ (fun hHeld => ?_)
        · trivial
        clear hK K
        try simp only [Act.put, List.setIfInBounds_toArray, List.set_cons_zero, List.set_cons_succ]
        refine wpAnyH_ready (rs := [1]) (by kernel_rfl) (by simp) ?_
        refine (AllReadyH.cons (o := { dst := some 8, op := Go.Op.call { callee := Go.Callee.value (Go.Operand.func 62), args := #[Go.Operand.tmp 7], argTypes := #[121] }, type := 3, pos := "reader.go:66", after := #[{ on := 0, ground := Go.Ground.data }], guard := none }) rfl (fun K hK => ?_) AllReadyH.nil)
        have hC := rnumber_any x B0 s wm hRd
        go_simp
        go_wp2_with (go_at_call 62; (with_reducible refine hC.mono ?_); rintro e1 wa1 ⟨rfl, hRd, hk⟩)
        clear hC
        have hRow := own_keep1 hRow (hk.block g hgl (by omega))
        have hgl : g < wa1.heap.size := Nat.lt_of_lt_of_le hgl hk.size
        have hBox := (hk.block y hyl (by omega)).trans hBox
        have hyl : y < wa1.heap.size := Nat.lt_of_lt_of_le hyl hk.size
        have hKR := hKR.trans hk
        have hz : H + 1 ≤ wa1.heap.size := Nat.le_trans hz hk.size
        clear hk
        refine hK.out _ _ ?_ (fun hHeld => ?_)
        · trivial
        clear hK K
        try simp only [Act.put, List.setIfInBounds_toArray, List.set_cons_zero, List.set_cons_succ]
        refine wpAnyH_ready (rs := [3]) (by kernel_rfl) (by simp) ?_
        refine (AllReadyH.cons (o := { dst := some 10, op := Go.Op.call { callee := Go.Callee.value (Go.Operand.func 62), args := #[Go.Operand.tmp 9], argTypes := #[121] }, type := 3, pos := "reader.go:66", after := #[{ on := 2, ground := Go.Ground.data }, { on := 1, ground := Go.Ground.chain }], guard := none }) rfl (fun K hK => ?_) AllReadyH.nil)
        have hC := rnumber_any x B0 (rdNum s).2 wa1 hRd
        go_simp
        go_wp2_with (go_at_call 62; (with_reducible refine hC.mono ?_); rintro e3 wa3 ⟨rfl, hRd, hk⟩)
        clear hC
        have hRow := own_keep1 hRow (hk.block g hgl (by omega))
        have hgl : g < wa3.heap.size := Nat.lt_of_lt_of_le hgl hk.size
        have hBox := (hk.block y hyl (by omega)).trans hBox
        have hyl : y < wa3.heap.size := Nat.lt_of_lt_of_le hyl hk.size
        have hKR := hKR.trans hk
        have hz : H + 1 ≤ wa3.heap.size := Nat.le_trans hz hk.size
        clear hk
        refine hK.out _ _ ?_ (fun hHeld => ?_)
        · trivial
        clear hK K
        try simp only [Act.put, List.setIfInBounds_toArray, List.set_cons_zero, List.set_cons_succ]
        refine wpAnyH_take (i := 6) (oi := { dst := some 13, op := Go.Op.build 81 #[(0, Go.Operand.tmp 8), (2, Go.Operand.tmp 10), (1, Go.Operand.tmp 12)], type := 81, pos := "reader.go:66", after := #[{ on := 1, ground := Go.Ground.data }, { on := 3, ground := Go.Ground.data }, { on := 5, ground := Go.Ground.data }], guard := none }) (v := ?_) rfl (by kernel_rfl) (by kernel_rfl) (by kernel_rfl) (fun _ _ _ h => h) (Or.inl ⟨by rfl, ?_⟩) (by assumption) ?_
        rotate_left
        · intro w' hSw
          (try dsimp only at hSw)
          go_simp
          all_goals with_reducible rfl
        try simp only [Act.put, List.setIfInBounds_toArray, List.set_cons_zero, List.set_cons_succ]
        refine wpAnyH_ready (rs := [8]) (by kernel_rfl) (by simp) ?_
        refine (AllReadyH.cons (o := { dst := none, op := Go.Op.store 81 (Go.Operand.tmp 5) (Go.Operand.tmp 13), type := 0, pos := "reader.go:66", after := #[{ on := 7, ground := Go.Ground.data }, { on := 6, ground := Go.Ground.data }, { on := 3, ground := Go.Ground.chain }, { on := 0, ground := Go.Ground.phase }, { on := 1, ground := Go.Ground.phase }, { on := 2, ground := Go.Ground.phase }, { on := 3, ground := Go.Ground.phase }, { on := 4, ground := Go.Ground.phase }, { on := 5, ground := Go.Ground.phase }, { on := 6, ground := Go.Ground.phase }, { on := 7, ground := Go.Ground.phase }], guard := none }) rfl (fun K hK => ?_) AllReadyH.nil)
        refine wp_store_row 81 _ _ rfl y #[.int .i64 (rdNum s).1, .slice (some ⟨g, 0, none⟩) m m, .int .i64 (rdNum (rdNum s).2).1] rfl rfl _ _ hBox (by kernel_rfl) rfl (by simp [Value.oneCell']) ?_
        obtain ⟨wz, hwz⟩ : ∃ wz, wa3.setRow y #[.int .i64 (rdNum s).1, .slice (some ⟨g, 0, none⟩) m m, .int .i64 (rdNum (rdNum s).2).1] = wz := ⟨_, rfl⟩
        have hother : ∀ b, b ≠ y → wz.heap[b]? = wa3.heap[b]? := fun b hb => by rw [← hwz]; exact setRow_other wa3 y b _ hb
        have hszz : wz.heap.size = wa3.heap.size := by rw [← hwz]; simp
        have hBox : DBoxN wz y (rdNum s).1 (.slice (some ⟨g, 0, none⟩) m m) (rdNum (rdNum s).2).1 := by rw [← hwz]; exact setRow_heap wa3 y _ _ _ _ hBox
        have hRow := own_keep1 hRow (hother g (fun q => hyg q.symm))
        have hRd : RdS x B0 (rdNum (rdNum s).2).2 wz := by
          obtain ⟨A, c, q1, q2, q3⟩ := hRd.box
          exact ⟨⟨A, c, (hother x (by omega)).trans q1, q2.keep fun p hp => World.cell?_of_block (hother p.block (by have := hRd.low; omega)), q3⟩, hRd.low, hRd.byte⟩
        have hKR : KeepR x w1 wz := ⟨by rw [← hwz]; exact hKR.os, by rw [← hwz]; exact hKR.tape, by rw [← hwz]; exact hKR.output, by rw [hszz]; exact hKR.size, fun b hb hx => (hother b (by omega)).trans (hKR.block b hb hx)⟩
        rw [hwz]
        clear hwz hother
        refine hK.out _ _ ?_ (fun hHeld => ?_)
        · trivial
        clear hK K
        try simp only [Act.put, List.setIfInBounds_toArray, List.set_cons_zero, List.set_cons_succ]
        obtain ⟨wl, rfl⟩ : ∃ wl : World, wl = wz := ⟨_, rfl⟩
    all_goals
      refine wpAnyH_done (by kernel_rfl) ?_ _
      go_wp2_with (fail)
      go_meet
      exact ⟨y, g, rfl, hBox, hRow, hyg, hyH, hgH, hRd, hKR⟩
  case rest =>
  obtain ⟨w2, rfl⟩ : ∃ w2 : World, w2 = wc := ⟨_, rfl⟩
  obtain ⟨y, g, rfl, hN⟩ := hcut
  obtain ⟨s2, hs2⟩ : ∃ s2, (rdNum (rdNum s).2).2 = s2 := ⟨_, rfl⟩
  obtain ⟨na, hna⟩ : ∃ na, (rdNum s).1 = na := ⟨_, rfl⟩
  obtain ⟨nb, hnb⟩ : ∃ nb, (rdNum (rdNum s).2).1 = nb := ⟨_, rfl⟩
  have HR := Lib.hid (show rdNode m s = ((na, nb, (rdMany rdNum m s2).1), (rdMany rdNum m s2).2) from by rw [← hna, ← hnb, ← hs2]; rfl)
  have HAL := Lib.hid (many_in m s2 (by rw [← hs2]; exact (rdNum_lt _ (rdNum_lt s HRD.out.byte))))
  rw [hs2, hna, hnb] at hN
  clear hs2 hna hnb
  have HN := Lib.hid hN
  have c1 := hN.box.cells.2.1
  clear hN
  go_wp2_with (fail)
  go_loopw [17] (fun iv wr => ∃ k : Nat, k ≤ m ∧ iv = .int .i64 k ∧ NdS x B0 H y g m na nb (rdMany rdNum k s2).1 (rdMany rdNum k s2).2 w1 wr) (fun i _ => m - (intOf i).toNat)
  case atStart => exact ⟨0, Nat.zero_le _, rfl, HN.out⟩
  case round =>
    obtain ⟨k, hk, rfl, hN⟩ := hrel
    have hk1 : ¬ ((k : Int) < 0) := by omega
    by_cases hlt : k < m
    · have hlt' : (k : Int) < (m : Int) := by omega
      obtain ⟨sk, hsk⟩ : ∃ sk, (rdMany rdNum k s2).2 = sk := ⟨_, rfl⟩
      have HNX := Lib.hid (rdMany_snoc rdNum k s2)
      have hlen := rdMany_length rdNum k s2
      obtain ⟨lk, hlk⟩ : ∃ lk, (rdMany rdNum k s2).1 = lk := ⟨_, rfl⟩
      rw [hsk, hlk] at hN
      rw [hlk] at hlen
      rw [hlk, hsk] at HNX
      have HNK := Lib.hid hN
      have HLEN := Lib.hid hlen
      have cy := hN.box.cells.2.1
      clear hsk hlk hlen hN
      go_upto_region 5 with (fail)
      obtain ⟨we, hwe⟩ : ∃ we, wr.drew = we := ⟨_, rfl⟩
      have hNe : NdS x B0 H y g m na nb lk sk w1 we := by rw [← hwe]; exact HNK.out.drew
      have cye : we.cell? ⟨y, 1, none⟩ = some (.slice (some ⟨g, 0, none⟩) m m) := hNe.box.cells.2.1
      refine wp_region_held_drew (S := fun wS => wS.cell? ⟨y, 1, none⟩ = some (.slice (some ⟨g, 0, none⟩) m m)) (by kernel_rfl) (by rw [hwe]; exact cye) (fun hHeld => ?_)
      rw [hwe]
      clear hwe
      refine wpAnyH_take (i := 0) (oi := { dst := some 20, op := Go.Op.fieldAddr 81 (Go.Operand.tmp 5) 1, type := 0, pos := "reader.go:68", after := #[], guard := none }) (v := ?_) rfl (by kernel_rfl) (by kernel_rfl) (by kernel_rfl) (fun _ _ _ h => h) (Or.inl ⟨by rfl, ?_⟩) (by assumption) ?_
      rotate_left
      · intro w' hSw
        (try dsimp only at hSw)
        go_simp
        all_goals with_reducible rfl
      try simp only [Act.put, List.setIfInBounds_toArray, List.set_cons_zero, List.set_cons_succ]
      refine wpAnyH_take (i := 1) (oi := { dst := some 21, op := Go.Op.load 63 (Go.Operand.tmp 20), type := 63, pos := "reader.go:68", after := #[{ on := 0, ground := Go.Ground.data }], guard := none }) (v := ?_) rfl (by kernel_rfl) (by kernel_rfl) (by kernel_rfl) (fun _ _ _ h => h) (Or.inl ⟨by rfl, ?_⟩) (by assumption) ?_
      rotate_left
      · intro w' hSw
        (try dsimp only at hSw)
        go_simp
        all_goals with_reducible rfl
      try simp only [Act.put, List.setIfInBounds_toArray, List.set_cons_zero, List.set_cons_succ]
      refine wpAnyH_take (i := 2) (oi := { dst := some 22, op := Go.Op.move (Go.Operand.tmp 6), type := 3, pos := "reader.go:68", after := #[], guard := none }) (v := ?_) rfl (by kernel_rfl) (by kernel_rfl) (by kernel_rfl) (fun _ _ _ h => h) (Or.inl ⟨by rfl, ?_⟩) (by assumption) ?_
      rotate_left
      · intro w' hSw
        (try dsimp only at hSw)
        go_simp
        all_goals with_reducible rfl
      try simp only [Act.put, List.setIfInBounds_toArray, List.set_cons_zero, List.set_cons_succ]
      refine wpAnyH_take (i := 3) (oi := { dst := some 23, op := Go.Op.move (Go.Operand.tmp 0), type := 121, pos := "reader.go:68", after := #[], guard := none }) (v := ?_) rfl (by kernel_rfl) (by kernel_rfl) (by kernel_rfl) (fun _ _ _ h => h) (Or.inl ⟨by rfl, ?_⟩) (by assumption) ?_
      rotate_left
      · intro w' hSw
        (try dsimp only at hSw)
        go_simp
        all_goals with_reducible rfl
      try simp only [Act.put, List.setIfInBounds_toArray, List.set_cons_zero, List.set_cons_succ]
      refine wpAnyH_ready (rs := [4]) (by kernel_rfl) (by simp) ?_
      refine (AllReadyH.cons (o := { dst := some 24, op := Go.Op.call { callee := Go.Callee.value (Go.Operand.func 62), args := #[Go.Operand.tmp 23], argTypes := #[121] }, type := 3, pos := "reader.go:68", after := #[{ on := 3, ground := Go.Ground.data }], guard := none }) rfl (fun K hK => ?_) AllReadyH.nil)
      have hC := rnumber_any x B0 sk we hNe.rd
      go_simp
      go_wp2_with (go_at_call 62; (with_reducible refine hC.mono ?_); rintro e1 wn ⟨rfl, hRd, hk⟩)
      clear hC
      have hNm := hNe.moved hRd hk hxl
      have cym : wn.cell? ⟨y, 1, none⟩ = some (.slice (some ⟨g, 0, none⟩) m m) := hNm.box.cells.2.1
      clear hRd hk
      refine hK.out _ _ ?_ (fun hHeld => ?_)
      · exact cym
      clear hK K
      try simp only [Act.put, List.setIfInBounds_toArray, List.set_cons_zero, List.set_cons_succ]
      refine wpAnyH_take (i := 5) (oi := { dst := some 25, op := Go.Op.indexAddr 63 (Go.Operand.tmp 21) (Go.Operand.tmp 22), type := 0, pos := "reader.go:68", after := #[{ on := 1, ground := Go.Ground.data }, { on := 2, ground := Go.Ground.data }, { on := 0, ground := Go.Ground.phase }, { on := 1, ground := Go.Ground.phase }, { on := 2, ground := Go.Ground.phase }, { on := 3, ground := Go.Ground.phase }, { on := 4, ground := Go.Ground.phase }], guard := none }) (v := ?_) rfl (by kernel_rfl) (by kernel_rfl) (by kernel_rfl) (fun _ _ _ h => h) (Or.inl ⟨by rfl, ?_⟩) (by assumption) ?_
      rotate_left
      · intro w' hSw
        (try dsimp only at hSw)
        go_simp
        all_goals with_reducible rfl
      try simp only [Act.put, List.setIfInBounds_toArray, List.set_cons_zero, List.set_cons_succ]
      refine wpAnyH_ready (rs := [6]) (by kernel_rfl) (by simp) ?_
      refine (AllReadyH.cons (o := { dst := none, op := Go.Op.store 3 (Go.Operand.tmp 25) (Go.Operand.tmp 24), type := 0, pos := "reader.go:68", after := #[{ on := 5, ground := Go.Ground.data }, { on := 4, ground := Go.Ground.data }, { on := 4, ground := Go.Ground.chain }, { on := 0, ground := Go.Ground.phase }, { on := 1, ground := Go.Ground.phase }, { on := 2, ground := Go.Ground.phase }, { on := 3, ground := Go.Ground.phase }, { on := 4, ground := Go.Ground.phase }], guard := none }) rfl (fun K hK => ?_) AllReadyH.nil)
      have hcg : wn.cell? ⟨g, k, none⟩ = some (.int .i64 0) := by rw [World.ownsRow.cellAt hNm.row k (by omega), nxC_at lk m k HLEN.out hlt]
      have hfg : wn.frozen? ⟨g, k, none⟩ = false := World.ownsRow.frozenAt hNm.row k
      have hNf := hNm.stored (z := (rdNum sk).1) hxl hs1 (by rw [HLEN.out]; exact hlt)
      rw [HLEN.out] at hNf
      have cyf : (wn.setCell ⟨g, k, none⟩ (.int .i64 (rdNum sk).1)).cell? ⟨y, 1, none⟩ = some (.slice (some ⟨g, 0, none⟩) m m) := hNf.box.cells.2.1
      go_simp
      go_wp2_with (fail)
      obtain ⟨wf, hwf⟩ : ∃ wf, wn.setCell ⟨g, k, none⟩ (.int .i64 (rdNum sk).1) = wf := ⟨_, rfl⟩
      rw [hwf] at hNf cyf
      try rw [hwf]
      clear hwf
      refine hK.out _ _ ?_ (fun hHeld => ?_)
      · exact cyf
      clear hK K
      try simp only [Act.put, List.setIfInBounds_toArray, List.set_cons_zero, List.set_cons_succ]
      obtain ⟨wl, rfl⟩ : ∃ wl : World, wl = wf := ⟨_, rfl⟩
      all_goals
        refine wpAnyH_done (by kernel_rfl) ?_ _
        have HN3 := Lib.hid hNf
        clear hNf hNe
        go_wp2_with (fail)
        go_roundw
        case rel => exact ⟨k + 1, by omega, by go_num, by rw [HNX.out]; exact HN3.out⟩
        case measure => simp [intOf]; omega
    · obtain rfl : k = m := by omega
      have HNK := Lib.hid hN
      have hres := (hN.keep.block H (by omega) (by omega)).trans HRES.out
      clear hN
      go_wp2_with (first | (refine wpList_load_row rfl 81 _ rfl y rfl _ _ _ _ HNK.out.box Try.underlying81 rfl (by kernel_rfl) ?_) | (refine wpList_store_row rfl 81 _ _ rfl H #[.int .i64 na, .slice (some ⟨g, 0, none⟩) k k, .int .i64 nb] rfl rfl _ _ hres (by kernel_rfl) rfl (by simp [Value.oneCell']) ?_))
      have hs3 := setRow_heap wr H _ #[.int .i64 na, .slice (some ⟨g, 0, none⟩) k k, .int .i64 nb] _ _ hres
      have HND := HNK.out.result hxl HS.out HB1.out (rdMany_length rdNum k s2) HAL.out #[.int .i64 na, .slice (some ⟨g, 0, none⟩) k k, .int .i64 nb]
      exact bodyPost_ret (results_cell_row rfl _ _ H _ _ _ (.struct (Try.prog.fieldsOf 81)) rfl hs3 (by kernel_rfl) rfl (by kernel_rfl)) rfl (by rw [HR.out]; exact HND)
end Go.Proofs.Ytgmkchkaceciiaa.Pk
