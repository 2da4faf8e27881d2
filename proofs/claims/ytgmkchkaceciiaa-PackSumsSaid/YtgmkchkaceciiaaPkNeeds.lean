/- The walk of table.needsOf. -/
import Derived.Test.YtgmkchkaceciiaaPkNeedsS
import Derived.Deep.RegionHeld3
import Derived.Deep.RegionLaw
import Derived.Deep.DeepCutAuto
import Derived.Tactics2
namespace Go.Proofs.Ytgmkchkaceciiaa.Pk
set_option maxRecDepth 100000
open Go Go.RowKit Go.Proofs.Ytgmkchkaceciiaa.Sp Go.Proofs.Ytgmkchkaceciiaa.Pa Go.Proofs.Ytgmkchkaceciiaa.Te Go.Proofs.Ytgmkchkaceciiaa.Mi Go.Proofs.Ytgmkchkaceciiaa.De

theorem infoIntP : (Try.prog.info? 3).map (fun i => (i.zero, i.size, i.bytes)) = some (some (.int .i64 0), 1, 8) := by kernel_rfl
def NeedsOut (t : TV) (w : World) (e : Ending) (w' : World) : Prop := ∃ (va ve : Value) (la le : List Int), e = .returned (NV.val ⟨t, va, ve⟩) ∧ NeedA t.T la t.T.acts.length ∧ NeedE t.T le t.T.ends.length ∧ OwnsI w' w.heap.size va la ∧ OwnsI w' w.heap.size ve le ∧ Below w.heap.size w w'
def NaRel (H : Nat) (w1 : World) (t : TV) (iv : Value) (wr : World) : Prop := ∃ (k : Nat) (va : Value) (la : List Int), k ≤ t.T.acts.length ∧ iv = .int .i64 k ∧ NeedA t.T la k ∧ NS H w1 t va (.slice none 0 0) la [] wr
def NeRel2 (H : Nat) (w1 : World) (t : TV) (va : Value) (la : List Int) (iv : Value) (wr : World) : Prop := ∃ (k : Nat) (ve : Value) (le : List Int), k ≤ t.T.ends.length ∧ iv = .int .i64 k ∧ NeedE t.T le k ∧ NS H w1 t va ve la le wr
theorem ownsI_mono2 {w : World} {base base' : Nat} {v : Value} {l : List Int} (h : OwnsI w base v l) (hb : base' ≤ base) : OwnsI w base' v l := by
  refine ⟨h.1, ?_⟩
  rcases h.2 with h2 | ⟨g, cap, cur, rfl, hg, hr⟩
  · exact .inl h2
  · exact .inr ⟨g, cap, cur, rfl, by omega, hr⟩
theorem max_if (a b : Int) : (if a < b then b else a) = max a b := by rw [Int.max_def]; split <;> split <;> omega
/-- One integer in a new block. -/
theorem new_int (w : World) (x : Int) : ∃ ws, w.alloc (.cells #[.int .i64 x] 3) = ws ∧ ws.heap[w.heap.size]? = some (.cells #[.int .i64 x] 3 (0, 0)) ∧ Below w.heap.size w ws ∧ ws.heap.size = w.heap.size + 1 :=
  ⟨_, rfl, heap_alloc_new w _, (Below.refl _ _).alloc (Nat.le_refl _) _, by simp⟩
set_option maxHeartbeats 8000000 in
theorem needsOf_any (t : TV) (w : World) (h : TM w t) (hA4 : t.T.acts.length ≤ 4096) (hE4 : t.T.ends.length ≤ 4096) : Calls Try.prog 68 #[t.val] w (NeedsOut t w) := by
  have hcl := h.cls
  obtain ⟨H, hH⟩ : ∃ H, w.heap.size = H := ⟨_, rfl⟩
  obtain ⟨w1, hw1⟩ : ∃ w1, w.alloc (.cells t.cells.toArray 44) = w1 := ⟨_, rfl⟩
  have hT : TW w1 H t := by rw [← hw1, ← hH]; exact TW.boxed h
  have hs1 : w1.heap.size = H + 1 := by rw [← hw1, ← hH]; simp
  have HB := Lib.hid (show Below H w w1 by rw [← hw1, ← hH]; exact (Below.refl _ _).alloc (Nat.le_refl _) _)
  obtain ⟨w2, hw2⟩ : ∃ w2, w1.alloc (.cells Try.zeroCells101 101) = w2 := ⟨_, rfl⟩
  have hb2 : Below w1.heap.size w1 w2 := by rw [← hw2]; exact (Below.refl _ _).alloc (Nat.le_refl _) _
  have hs2 : w2.heap.size = H + 1 + 1 := by rw [← hw2, ← hs1]; simp
  have hr2 : w2.heap[H + 1]? = some (.cells Try.zeroCells101 101 (0, 0)) := by rw [← hw2, ← hs1]; exact heap_alloc_new w1 _
  obtain ⟨w3, hw3⟩ : ∃ w3, w2.alloc (.cells Try.zeroCells101 101) = w3 := ⟨_, rfl⟩
  have hb3 : Below w2.heap.size w2 w3 := by rw [← hw3]; exact (Below.refl _ _).alloc (Nat.le_refl _) _
  have hs3 : w3.heap.size = H + 1 + 1 + 1 := by rw [← hw3, ← hs2]; simp
  have hr3 : w3.heap[H + 1 + 1]? = some (.cells Try.zeroCells101 101 (0, 0)) := by rw [← hw3, ← hs2]; exact heap_alloc_new w2 _
  have HT := Lib.hid hT
  have HT2 := Lib.hid (hT.below hb2)
  have HR2 := Lib.hid hr2
  have HR3 := Lib.hid hr3
  have HB2 := Lib.hid hb2
  have HB3 := Lib.hid hb3
  have HCL := Lib.hid hcl
  have HS := Lib.hid hH
  clear h hT hb2 hb3 hr2 hr3 hcl
  unfold TV.val
  go_enter Try.func68, Try.ntmps68
  go_wp2_with (first | (refine load_tab rfl _ rfl H t HT2.out rfl ?_) | (refine build_needs rfl _ rfl t HCL.out rfl ?_) | (refine store_needs rfl _ _ rfl (H + 1 + 1) ⟨t, .slice none 0 0, .slice none 0 0⟩ HCL.out rfl rfl rfl rfl _ HR3.out needs_zsize ?_; intro w4 hn4 hb4 hs4 hk4; have hT4 := HT2.out.below (HB3.out.trans (hb4.mono (by omega))); have c4B := hT4.cB; have HT4 := Lib.hid hT4; have HB4 := Lib.hid (show Below (H + 1) w1 w4 from (HB2.out.mono (by omega)).trans ((HB3.out.mono (by omega)).trans (hb4.mono (by omega)))); have HN4 := Lib.hid (show NS H w1 t (.slice none 0 0) (.slice none 0 0) [] [] w4 from ⟨hn4, World.ownsRow_nil _ _ _ _, World.ownsRow_nil _ _ _ _, fun _ e => (by cases e), (hk4 _ (by omega)).trans ((HB3.out.block _ (by omega)).trans HR2.out), HB4.out, by omega⟩); clear hn4 hb4 hk4 hT4))
  obtain ⟨i0, hi0, hz0, hz1, hz2⟩ := info_parts infoIntP
  go_loopw [13] (fun iv wr => NaRel H w1 t iv wr) (fun i _ => t.T.acts.length - (intOf i).toNat)
  case atStart => exact ⟨0, _, [], Nat.zero_le _, rfl, ⟨rfl, fun j a hj => absurd hj (by omega)⟩, HN4.out⟩
  case round =>
    obtain ⟨k, va, la, hk, rfl, hna, hns⟩ := hrel
    obtain ⟨wo, rfl⟩ : ∃ wo : World, wo = wr := ⟨_, rfl⟩
    have HNA := Lib.hid hna
    have HNS := Lib.hid hns
    have hTr := HT.out.below ((by rw [hs1]; exact hns.low) : Below w1.heap.size w1 wo)
    have hz := hns.size
    by_cases hlt : k < t.T.acts.length
    · obtain ⟨b, off, hA, hbB, d0, d1, A', c', d2, hrt, hcc, hm⟩ := hTr.mem.acts.at_ hlt
      obtain ⟨a, ha⟩ : ∃ a, t.T.acts[k] = a := ⟨_, rfl⟩
      have HAK := Lib.hid (show t.T.acts[k]? = some a by rw [← ha]; exact List.getElem?_eq_getElem hlt)
      rw [ha] at d0 d1 d2 hrt hcc hm
      obtain ⟨eat, to_, out⟩ := a
      simp only at d0 d1 d2 hrt hcc hm
      obtain ⟨w5, hw5⟩ : ∃ w5, wo.alloc (.cells #[.int .i64 eat, .int .i64 to_, .slice A' out.length c'] 85) = w5 := ⟨_, rfl⟩
      have hb5 : Below wo.heap.size wo w5 := by rw [← hw5]; exact (Below.refl _ _).alloc (Nat.le_refl _) _
      have hs5 : w5.heap.size = wo.heap.size + 1 := by rw [← hw5]; simp
      have q0 : w5.cell? ⟨wo.heap.size, 0, none⟩ = some (.int .i64 eat) := by rw [← hw5]; simp
      have q2 : w5.cell? ⟨wo.heap.size, 2, none⟩ = some (.slice A' out.length c') := by rw [← hw5]; simp
      have HN5 := Lib.hid (hns.keep hb5)
      have HND := Lib.hid (fun W (hW : Below wo.heap.size wo W) => need_any A' c' out W (hrt.belowM hW) hm)
      have HB5 := Lib.hid hb5
      have hla : la.length ≤ 4096 := by have := hna.1; omega
      have hvb : ∀ q, va.ownBlock = some q → H + 1 + 1 + 1 ≤ q ∧ q < wo.heap.size := fun q e => World.ownsRow.lt hns.rowA q e
      have HFIN := Lib.hid (fun (n : Nat) (hn : NeedIs out n) (W w7 : World) (hW : Below w5.heap.size w5 W) (gg capg : Nat) (h1 : w7.ownsRow (H + 1 + 1 + 1) 3 1 (.slice (some ⟨gg, 0, none⟩) (la.length + 1) capg) (la.length + 1) (la.map (Value.int .i64) ++ [.int .i64 (max eat (n : Int))])) (h2 : W.grownBy w7 va.ownBlock) (HH : Nat) (h3 : va.ownBlock = some gg ∨ gg = HH) (h4 : W.heap.size ≤ HH) =>
        show NaRel H w1 t (.int .i64 ((k : Int) + 1)) (w7.setCell ⟨H + 1 + 1, 259, none⟩ (.slice (some ⟨gg, 0, none⟩) (la.length + 1) capg)) from
          ⟨k + 1, _, la ++ [max eat (n : Int)], by omega, by go_num, HNA.out.snoc HAK.out hn rfl, (HN5.out.keep hW).pushA HCL.out h1 h2 h3 h4⟩)
      have HBX := Lib.hid (fun (W : World) (hW : Below w5.heap.size w5 W) => show NBox W (H + 1 + 1) ⟨t, va, .slice none 0 0⟩ from (HN5.out.keep hW).box)
      have HBG := Lib.hid (fun (W w7 : World) (hW : Below w5.heap.size w5 W) (h2 : W.grownBy w7 va.ownBlock) => show NBox w7 (H + 1 + 1) ⟨t, va, .slice none 0 0⟩ from (HN5.out.keep hW).box.keep (h2.block _ (by have := (HN5.out.keep hW).size; omega) (fun e => by have := hvb _ e.symm; omega)))
      have HRA := Lib.hid (fun (W : World) (hW : Below w5.heap.size w5 W) => (HN5.out.keep hW).rowA)
      have HSZ := Lib.hid (fun (W : World) (hW : Below w5.heap.size w5 W) => show H + 1 + 1 + 1 ≤ W.heap.size from (HN5.out.keep hW).size)
      have HQ := Lib.hid (fun (W : World) (hW : Below w5.heap.size w5 W) => show W.cell? ⟨wo.heap.size, 0, none⟩ = some (.int .i64 eat) ∧ W.cell? ⟨wo.heap.size, 2, none⟩ = some (.slice A' out.length c') from ⟨(hW.cell (by simp only; omega)).trans q0, (hW.cell (by simp only; omega)).trans q2⟩)
      have HQ7 := Lib.hid (fun (W w7 : World) (hW : Below w5.heap.size w5 W) (h2 : W.grownBy w7 va.ownBlock) => show w7.cell? ⟨wo.heap.size, 0, none⟩ = some (.int .i64 eat) ∧ w7.cell? ⟨wo.heap.size, 2, none⟩ = some (.slice A' out.length c') from ⟨(h2.cell (HQ.out W hW).1 (fun e => absurd (hvb _ e.symm).2 (Nat.lt_irrefl _))), (h2.cell (HQ.out W hW).2 (fun e => absurd (hvb _ e.symm).2 (Nat.lt_irrefl _)))⟩)
      obtain ⟨Aa, ca, hva⟩ := own_shape hns.rowA
      subst hva
      rw [hA]
      clear hA ha hna hns hTr hrt hcc hm hb5 hvb c4B
      
      go_upto_region 5 with (fail)
      obtain ⟨we, hwe⟩ : ∃ we, w5.drew = we := ⟨_, rfl⟩
      have hB : Below w5.heap.size w5 we := by rw [← hwe]; exact (Below.refl _ _).drew
      refine wp_region_held_drew (S := fun W => W.cell? ⟨wo.heap.size, 0, none⟩ = some (.int .i64 eat) ∧ W.cell? ⟨wo.heap.size, 2, none⟩ = some (.slice A' out.length c')) (by kernel_rfl) (by rw [hwe]; exact HQ.out _ hB) (fun hHeld => ?_)
      rw [hwe] at hHeld ⊢
      refine wpAnyH_take (i := 0) (oi := { dst := some 17, op := Go.Op.fieldAddr 101 (Go.Operand.tmp 3) 1, type := 0, pos := "right.go:60", after := #[], guard := none }) (v := ?_) rfl (by kernel_rfl) (by kernel_rfl) (by kernel_rfl) (fun _ _ _ h => h) (Or.inl ⟨by rfl, ?_⟩) (by assumption) ?_
      rotate_left
      · intro w' hSw
        (try dsimp only at hSw)
        obtain ⟨z2, z3⟩ := hSw
        go_simp
        all_goals with_reducible rfl
      try simp only [Act.put, List.setIfInBounds_toArray, List.set_cons_zero, List.set_cons_succ]
      refine wpAnyH_take (i := 2) (oi := { dst := some 19, op := Go.Op.fieldAddr 85 (Go.Operand.tmp 5) 0, type := 0, pos := "right.go:60", after := #[], guard := none }) (v := ?_) rfl (by kernel_rfl) (by kernel_rfl) (by kernel_rfl) (fun _ _ _ h => h) (Or.inl ⟨by rfl, ?_⟩) (by assumption) ?_
      rotate_left
      · intro w' hSw
        (try dsimp only at hSw)
        obtain ⟨z2, z3⟩ := hSw
        go_simp
        all_goals with_reducible rfl
      try simp only [Act.put, List.setIfInBounds_toArray, List.set_cons_zero, List.set_cons_succ]
      refine wpAnyH_take (i := 3) (oi := { dst := some 20, op := Go.Op.load 3 (Go.Operand.tmp 19), type := 3, pos := "right.go:60", after := #[{ on := 2, ground := Go.Ground.data }], guard := none }) (v := ?_) rfl (by kernel_rfl) (by kernel_rfl) (by kernel_rfl) (fun _ _ _ h => h) (Or.inl ⟨by rfl, ?_⟩) (by assumption) ?_
      rotate_left
      · intro w' hSw
        (try dsimp only at hSw)
        obtain ⟨z2, z3⟩ := hSw
        go_simp
        all_goals with_reducible rfl
      try simp only [Act.put, List.setIfInBounds_toArray, List.set_cons_zero, List.set_cons_succ]
      refine wpAnyH_take (i := 4) (oi := { dst := some 21, op := Go.Op.fieldAddr 85 (Go.Operand.tmp 5) 2, type := 0, pos := "right.go:60", after := #[], guard := none }) (v := ?_) rfl (by kernel_rfl) (by kernel_rfl) (by kernel_rfl) (fun _ _ _ h => h) (Or.inl ⟨by rfl, ?_⟩) (by assumption) ?_
      rotate_left
      · intro w' hSw
        (try dsimp only at hSw)
        obtain ⟨z2, z3⟩ := hSw
        go_simp
        all_goals with_reducible rfl
      try simp only [Act.put, List.setIfInBounds_toArray, List.set_cons_zero, List.set_cons_succ]
      refine wpAnyH_take (i := 5) (oi := { dst := some 22, op := Go.Op.load 83 (Go.Operand.tmp 21), type := 83, pos := "right.go:60", after := #[{ on := 4, ground := Go.Ground.data }], guard := none }) (v := ?_) rfl (by kernel_rfl) (by kernel_rfl) (by kernel_rfl) (fun _ _ _ h => h) (Or.inl ⟨by rfl, ?_⟩) (by assumption) ?_
      rotate_left
      · intro w' hSw
        (try dsimp only at hSw)
        obtain ⟨z2, z3⟩ := hSw
        go_simp
        all_goals with_reducible rfl
      try simp only [Act.put, List.setIfInBounds_toArray, List.set_cons_zero, List.set_cons_succ]
      refine wpAnyH_ready (rs := [1, 6]) (by kernel_rfl) (by simp) ?_
      refine (AllReadyH.cons (o := { dst := some 18, op := Go.Op.load 63 (Go.Operand.tmp 17), type := 63, pos := "right.go:60", after := #[{ on := 0, ground := Go.Ground.data }], guard := none }) rfl (fun K hK => ?_) (AllReadyH.cons (o := { dst := some 23, op := Go.Op.call { callee := Go.Callee.value (Go.Operand.func 92), args := #[Go.Operand.tmp 22], argTypes := #[83] }, type := 3, pos := "right.go:60", after := #[{ on := 5, ground := Go.Ground.data }], guard := none }) rfl (fun K hK => ?_) AllReadyH.nil))
      focus
        have p5 := (HBX.out _ hB).ca HCL.out
        simp only at p5
        go_simp
        clear p5
        refine hK.out _ _ ?_ (fun hHeld => ?_)
        · exact HQ.out _ hB
        clear hK K
        try simp only [Act.put, List.setIfInBounds_toArray, List.set_cons_zero, List.set_cons_succ]
        refine wpAnyH_ready (rs := [6]) (by kernel_rfl) (by simp) ?_
        refine (AllReadyH.cons (o := { dst := some 23, op := Go.Op.call { callee := Go.Callee.value (Go.Operand.func 92), args := #[Go.Operand.tmp 22], argTypes := #[83] }, type := 3, pos := "right.go:60", after := #[{ on := 5, ground := Go.Ground.data }], guard := none }) rfl (fun K hK => ?_) AllReadyH.nil)
        go_simp
        go_wp2_with (go_at_call 92; (with_reducible refine (HND.out _ (HB5.out.trans (hB.mono HB5.out.size))).mono ?_); rintro e5 wn ⟨n, hn, rfl, hbn⟩)
        have hB := hB.trans (hbn.mono hB.size)
        clear hbn
        refine hK.out _ _ ?_ (fun hHeld => ?_)
        · exact HQ.out _ hB
        clear hK K
        try simp only [Act.put, List.setIfInBounds_toArray, List.set_cons_zero, List.set_cons_succ]
        refine wpAnyH_take (i := 7) (oi := { dst := some 24, op := Go.Op.call { callee := Go.Callee.builtin Go.Builtin.max, args := #[Go.Operand.tmp 20, Go.Operand.tmp 23], argTypes := #[3, 3] }, type := 3, pos := "right.go:60", after := #[{ on := 3, ground := Go.Ground.data }, { on := 6, ground := Go.Ground.data }], guard := none }) (v := ?_) rfl (by kernel_rfl) (by kernel_rfl) (by kernel_rfl) (fun _ _ _ h => h) (Or.inl ⟨by rfl, ?_⟩) (by assumption) ?_
        rotate_left
        · intro w' hSw
          (try dsimp only at hSw)
          obtain ⟨z2, z3⟩ := hSw
          go_simp
          all_goals with_reducible rfl
        try simp only [Act.put, List.setIfInBounds_toArray, List.set_cons_zero, List.set_cons_succ]
        refine wpAnyH_ready (rs := [8]) (by kernel_rfl) (by simp) ?_
        refine (AllReadyH.cons (o := { dst := some 25, op := Go.Op.buildSlice 63 1 #[(0, Go.Operand.tmp 24)], type := 63, pos := "right.go:60", after := #[{ on := 7, ground := Go.Ground.data }], guard := none }) rfl (fun K hK => ?_) AllReadyH.nil)
        obtain ⟨ws, hws, hqs, hbS, hls⟩ := new_int wn (max eat (n : Int))
        go_simp
        try rw [max_if]
        try rw [hws]
        have hBn := hB
        have hB := hB.trans (hbS.mono hB.size)
        clear hbS
        refine hK.out _ _ ?_ (fun hHeld => ?_)
        · exact HQ.out _ hB
        clear hK K
        try simp only [Act.put, List.setIfInBounds_toArray, List.set_cons_zero, List.set_cons_succ]
        refine wpAnyH_ready (rs := [9]) (by kernel_rfl) (by simp) ?_
        refine (AllReadyH.cons (o := { dst := some 26, op := Go.Op.call { callee := Go.Callee.builtin Go.Builtin.append, args := #[Go.Operand.tmp 18, Go.Operand.tmp 25], argTypes := #[63, 63] }, type := 63, pos := "right.go:60", after := #[{ on := 1, ground := Go.Ground.data }, { on := 8, ground := Go.Ground.data }, { on := 6, ground := Go.Ground.chain }], guard := none }) rfl (fun K hK => ?_) AllReadyH.nil)
        have hx := HSZ.out _ hB
        refine wp_append_lies ws _ _ _ rfl (H + 1 + 1 + 1) 3 i0 _ 1 8 Try.underlying63 hi0 hz0 hz1 hz2 rfl (by omega) (.slice Aa la.length ca) la.length (la.map (Value.int .i64)) rfl (HRA.out ws hB) ⟨wn.heap.size, 0, none⟩ 1 1 [.int .i64 (max eat (n : Int))] rfl rfl (World.news_of_block (cs := #[.int .i64 (max eat (n : Int))]) (t := 3) (fr := (0, 0)) hqs) (by simp [Value.oneCell']) (by omega) (by simp only [maxLen]; omega) (by omega) hx ws.heap.size rfl ?_
        intro gg capg w7 hown7 hg7 hat7 hlt7
        have hbq := HBG.out _ w7 hB hg7
        have p7 := hbq.ca HCL.out
        have f7 := hbq.frozen 259
        simp only at p7
        refine hK.out _ _ ?_ (fun hHeld => ?_)
        · exact HQ7.out _ _ hB hg7
        clear hK K
        try simp only [Act.put, List.setIfInBounds_toArray, List.set_cons_zero, List.set_cons_succ]
        refine wpAnyH_take (i := 10) (oi := { dst := some 27, op := Go.Op.fieldAddr 101 (Go.Operand.tmp 3) 1, type := 0, pos := "right.go:60", after := #[{ on := 0, ground := Go.Ground.phase }, { on := 1, ground := Go.Ground.phase }, { on := 2, ground := Go.Ground.phase }, { on := 3, ground := Go.Ground.phase }, { on := 4, ground := Go.Ground.phase }, { on := 5, ground := Go.Ground.phase }, { on := 6, ground := Go.Ground.phase }, { on := 7, ground := Go.Ground.phase }, { on := 8, ground := Go.Ground.phase }, { on := 9, ground := Go.Ground.phase }], guard := none }) (v := ?_) rfl (by kernel_rfl) (by kernel_rfl) (by kernel_rfl) (fun _ _ _ h => h) (Or.inl ⟨by rfl, ?_⟩) (by assumption) ?_
        rotate_left
        · intro w' hSw
          (try dsimp only at hSw)
          obtain ⟨z2, z3⟩ := hSw
          go_simp
          all_goals with_reducible rfl
        try simp only [Act.put, List.setIfInBounds_toArray, List.set_cons_zero, List.set_cons_succ]
        refine wpAnyH_ready (rs := [11]) (by kernel_rfl) (by simp) ?_
        refine (AllReadyH.cons (o := { dst := none, op := Go.Op.store 63 (Go.Operand.tmp 27) (Go.Operand.tmp 26), type := 0, pos := "right.go:60", after := #[{ on := 10, ground := Go.Ground.data }, { on := 9, ground := Go.Ground.data }, { on := 9, ground := Go.Ground.chain }, { on := 0, ground := Go.Ground.phase }, { on := 1, ground := Go.Ground.phase }, { on := 2, ground := Go.Ground.phase }, { on := 3, ground := Go.Ground.phase }, { on := 4, ground := Go.Ground.phase }, { on := 5, ground := Go.Ground.phase }, { on := 6, ground := Go.Ground.phase }, { on := 7, ground := Go.Ground.phase }, { on := 8, ground := Go.Ground.phase }, { on := 9, ground := Go.Ground.phase }], guard := none }) rfl (fun K hK => ?_) AllReadyH.nil)
        have HQ8 := HQ7.out _ _ hB hg7
        have HREL := Lib.hid (HFIN.out n hn ws w7 hB gg capg hown7 hg7 _ hat7 (Nat.le_refl _))
        clear hown7 hg7 hat7 hlt7
        go_simp
        obtain ⟨w8, hw8⟩ : ∃ w8, w7.setCell ⟨H + 1 + 1, 259, none⟩ (.slice (some ⟨gg, 0, none⟩) (la.length + 1) capg) = w8 := ⟨_, rfl⟩
        have HQ8 := Lib.hid (show w8.cell? ⟨wo.heap.size, 0, none⟩ = some (.int .i64 eat) ∧ w8.cell? ⟨wo.heap.size, 2, none⟩ = some (.slice A' out.length c') from by rw [← hw8]; exact ⟨(World.cell?_setCell_other _ _ _ _ (fun q => by injection q with q; omega)).trans HQ8.1, (World.cell?_setCell_other _ _ _ _ (fun q => by injection q with q; omega)).trans HQ8.2⟩)
        rw [hw8] at HREL ⊢
        refine hK.out _ _ ?_ (fun hHeld => ?_)
        · exact HQ8.out
        clear hK K
        try simp only [Act.put, List.setIfInBounds_toArray, List.set_cons_zero, List.set_cons_succ]
        obtain ⟨wl, rfl⟩ : ∃ wl : World, wl = w8 := ⟨_, rfl⟩
      rotate_left 1
      focus
        go_simp
        go_wp2_with (go_at_call 92; (with_reducible refine (HND.out _ (HB5.out.trans (hB.mono HB5.out.size))).mono ?_); rintro e5 wn ⟨n, hn, rfl, hbn⟩)
        have hB := hB.trans (hbn.mono hB.size)
        clear hbn
        refine hK.out _ _ ?_ (fun hHeld => ?_)
        · exact HQ.out _ hB
        clear hK K
        try simp only [Act.put, List.setIfInBounds_toArray, List.set_cons_zero, List.set_cons_succ]
        refine wpAnyH_take (i := 7) (oi := { dst := some 24, op := Go.Op.call { callee := Go.Callee.builtin Go.Builtin.max, args := #[Go.Operand.tmp 20, Go.Operand.tmp 23], argTypes := #[3, 3] }, type := 3, pos := "right.go:60", after := #[{ on := 3, ground := Go.Ground.data }, { on := 6, ground := Go.Ground.data }], guard := none }) (v := ?_) rfl (by kernel_rfl) (by kernel_rfl) (by kernel_rfl) (fun _ _ _ h => h) (Or.inl ⟨by rfl, ?_⟩) (by assumption) ?_
        rotate_left
        · intro w' hSw
          (try dsimp only at hSw)
          obtain ⟨z2, z3⟩ := hSw
          go_simp
          all_goals with_reducible rfl
        try simp only [Act.put, List.setIfInBounds_toArray, List.set_cons_zero, List.set_cons_succ]
        refine wpAnyH_ready (rs := [1, 8]) (by kernel_rfl) (by simp) ?_
        refine (AllReadyH.cons (o := { dst := some 18, op := Go.Op.load 63 (Go.Operand.tmp 17), type := 63, pos := "right.go:60", after := #[{ on := 0, ground := Go.Ground.data }], guard := none }) rfl (fun K hK => ?_) (AllReadyH.cons (o := { dst := some 25, op := Go.Op.buildSlice 63 1 #[(0, Go.Operand.tmp 24)], type := 63, pos := "right.go:60", after := #[{ on := 7, ground := Go.Ground.data }], guard := none }) rfl (fun K hK => ?_) AllReadyH.nil))
        focus
          have p5 := (HBX.out _ hB).ca HCL.out
          simp only at p5
          go_simp
          clear p5
          refine hK.out _ _ ?_ (fun hHeld => ?_)
          · exact HQ.out _ hB
          clear hK K
          try simp only [Act.put, List.setIfInBounds_toArray, List.set_cons_zero, List.set_cons_succ]
          refine wpAnyH_ready (rs := [8]) (by kernel_rfl) (by simp) ?_
          refine (AllReadyH.cons (o := { dst := some 25, op := Go.Op.buildSlice 63 1 #[(0, Go.Operand.tmp 24)], type := 63, pos := "right.go:60", after := #[{ on := 7, ground := Go.Ground.data }], guard := none }) rfl (fun K hK => ?_) AllReadyH.nil)
          obtain ⟨ws, hws, hqs, hbS, hls⟩ := new_int wn (max eat (n : Int))
          go_simp
          try rw [max_if]
          try rw [hws]
          have hBn := hB
          have hB := hB.trans (hbS.mono hB.size)
          clear hbS
          refine hK.out _ _ ?_ (fun hHeld => ?_)
          · exact HQ.out _ hB
          clear hK K
          try simp only [Act.put, List.setIfInBounds_toArray, List.set_cons_zero, List.set_cons_succ]
          refine wpAnyH_ready (rs := [9]) (by kernel_rfl) (by simp) ?_
          refine (AllReadyH.cons (o := { dst := some 26, op := Go.Op.call { callee := Go.Callee.builtin Go.Builtin.append, args := #[Go.Operand.tmp 18, Go.Operand.tmp 25], argTypes := #[63, 63] }, type := 63, pos := "right.go:60", after := #[{ on := 1, ground := Go.Ground.data }, { on := 8, ground := Go.Ground.data }, { on := 6, ground := Go.Ground.chain }], guard := none }) rfl (fun K hK => ?_) AllReadyH.nil)
          have hx := HSZ.out _ hB
          refine wp_append_lies ws _ _ _ rfl (H + 1 + 1 + 1) 3 i0 _ 1 8 Try.underlying63 hi0 hz0 hz1 hz2 rfl (by omega) (.slice Aa la.length ca) la.length (la.map (Value.int .i64)) rfl (HRA.out ws hB) ⟨wn.heap.size, 0, none⟩ 1 1 [.int .i64 (max eat (n : Int))] rfl rfl (World.news_of_block (cs := #[.int .i64 (max eat (n : Int))]) (t := 3) (fr := (0, 0)) hqs) (by simp [Value.oneCell']) (by omega) (by simp only [maxLen]; omega) (by omega) hx ws.heap.size rfl ?_
          intro gg capg w7 hown7 hg7 hat7 hlt7
          have hbq := HBG.out _ w7 hB hg7
          have p7 := hbq.ca HCL.out
          have f7 := hbq.frozen 259
          simp only at p7
          refine hK.out _ _ ?_ (fun hHeld => ?_)
          · exact HQ7.out _ _ hB hg7
          clear hK K
          try simp only [Act.put, List.setIfInBounds_toArray, List.set_cons_zero, List.set_cons_succ]
          refine wpAnyH_take (i := 10) (oi := { dst := some 27, op := Go.Op.fieldAddr 101 (Go.Operand.tmp 3) 1, type := 0, pos := "right.go:60", after := #[{ on := 0, ground := Go.Ground.phase }, { on := 1, ground := Go.Ground.phase }, { on := 2, ground := Go.Ground.phase }, { on := 3, ground := Go.Ground.phase }, { on := 4, ground := Go.Ground.phase }, { on := 5, ground := Go.Ground.phase }, { on := 6, ground := Go.Ground.phase }, { on := 7, ground := Go.Ground.phase }, { on := 8, ground := Go.Ground.phase }, { on := 9, ground := Go.Ground.phase }], guard := none }) (v := ?_) rfl (by kernel_rfl) (by kernel_rfl) (by kernel_rfl) (fun _ _ _ h => h) (Or.inl ⟨by rfl, ?_⟩) (by assumption) ?_
          rotate_left
          · intro w' hSw
            (try dsimp only at hSw)
            obtain ⟨z2, z3⟩ := hSw
            go_simp
            all_goals with_reducible rfl
          try simp only [Act.put, List.setIfInBounds_toArray, List.set_cons_zero, List.set_cons_succ]
          refine wpAnyH_ready (rs := [11]) (by kernel_rfl) (by simp) ?_
          refine (AllReadyH.cons (o := { dst := none, op := Go.Op.store 63 (Go.Operand.tmp 27) (Go.Operand.tmp 26), type := 0, pos := "right.go:60", after := #[{ on := 10, ground := Go.Ground.data }, { on := 9, ground := Go.Ground.data }, { on := 9, ground := Go.Ground.chain }, { on := 0, ground := Go.Ground.phase }, { on := 1, ground := Go.Ground.phase }, { on := 2, ground := Go.Ground.phase }, { on := 3, ground := Go.Ground.phase }, { on := 4, ground := Go.Ground.phase }, { on := 5, ground := Go.Ground.phase }, { on := 6, ground := Go.Ground.phase }, { on := 7, ground := Go.Ground.phase }, { on := 8, ground := Go.Ground.phase }, { on := 9, ground := Go.Ground.phase }], guard := none }) rfl (fun K hK => ?_) AllReadyH.nil)
          have HQ8 := HQ7.out _ _ hB hg7
          have HREL := Lib.hid (HFIN.out n hn ws w7 hB gg capg hown7 hg7 _ hat7 (Nat.le_refl _))
          clear hown7 hg7 hat7 hlt7
          go_simp
          obtain ⟨w8, hw8⟩ : ∃ w8, w7.setCell ⟨H + 1 + 1, 259, none⟩ (.slice (some ⟨gg, 0, none⟩) (la.length + 1) capg) = w8 := ⟨_, rfl⟩
          have HQ8 := Lib.hid (show w8.cell? ⟨wo.heap.size, 0, none⟩ = some (.int .i64 eat) ∧ w8.cell? ⟨wo.heap.size, 2, none⟩ = some (.slice A' out.length c') from by rw [← hw8]; exact ⟨(World.cell?_setCell_other _ _ _ _ (fun q => by injection q with q; omega)).trans HQ8.1, (World.cell?_setCell_other _ _ _ _ (fun q => by injection q with q; omega)).trans HQ8.2⟩)
          rw [hw8] at HREL ⊢
          refine hK.out _ _ ?_ (fun hHeld => ?_)
          · exact HQ8.out
          clear hK K
          try simp only [Act.put, List.setIfInBounds_toArray, List.set_cons_zero, List.set_cons_succ]
          obtain ⟨wl, rfl⟩ : ∃ wl : World, wl = w8 := ⟨_, rfl⟩
        rotate_left 1
        focus
          obtain ⟨ws, hws, hqs, hbS, hls⟩ := new_int wn (max eat (n : Int))
          go_simp
          try rw [max_if]
          try rw [hws]
          have hBn := hB
          have hB := hB.trans (hbS.mono hB.size)
          clear hbS
          refine hK.out _ _ ?_ (fun hHeld => ?_)
          · exact HQ.out _ hB
          clear hK K
          try simp only [Act.put, List.setIfInBounds_toArray, List.set_cons_zero, List.set_cons_succ]
          refine wpAnyH_ready (rs := [1]) (by kernel_rfl) (by simp) ?_
          refine (AllReadyH.cons (o := { dst := some 18, op := Go.Op.load 63 (Go.Operand.tmp 17), type := 63, pos := "right.go:60", after := #[{ on := 0, ground := Go.Ground.data }], guard := none }) rfl (fun K hK => ?_) AllReadyH.nil)
          have p5 := (HBX.out _ hB).ca HCL.out
          simp only at p5
          go_simp
          clear p5
          refine hK.out _ _ ?_ (fun hHeld => ?_)
          · exact HQ.out _ hB
          clear hK K
          try simp only [Act.put, List.setIfInBounds_toArray, List.set_cons_zero, List.set_cons_succ]
          refine wpAnyH_ready (rs := [9]) (by kernel_rfl) (by simp) ?_
          refine (AllReadyH.cons (o := { dst := some 26, op := Go.Op.call { callee := Go.Callee.builtin Go.Builtin.append, args := #[Go.Operand.tmp 18, Go.Operand.tmp 25], argTypes := #[63, 63] }, type := 63, pos := "right.go:60", after := #[{ on := 1, ground := Go.Ground.data }, { on := 8, ground := Go.Ground.data }, { on := 6, ground := Go.Ground.chain }], guard := none }) rfl (fun K hK => ?_) AllReadyH.nil)
          have hx := HSZ.out _ hB
          refine wp_append_lies ws _ _ _ rfl (H + 1 + 1 + 1) 3 i0 _ 1 8 Try.underlying63 hi0 hz0 hz1 hz2 rfl (by omega) (.slice Aa la.length ca) la.length (la.map (Value.int .i64)) rfl (HRA.out ws hB) ⟨wn.heap.size, 0, none⟩ 1 1 [.int .i64 (max eat (n : Int))] rfl rfl (World.news_of_block (cs := #[.int .i64 (max eat (n : Int))]) (t := 3) (fr := (0, 0)) hqs) (by simp [Value.oneCell']) (by omega) (by simp only [maxLen]; omega) (by omega) hx ws.heap.size rfl ?_
          intro gg capg w7 hown7 hg7 hat7 hlt7
          have hbq := HBG.out _ w7 hB hg7
          have p7 := hbq.ca HCL.out
          have f7 := hbq.frozen 259
          simp only at p7
          refine hK.out _ _ ?_ (fun hHeld => ?_)
          · exact HQ7.out _ _ hB hg7
          clear hK K
          try simp only [Act.put, List.setIfInBounds_toArray, List.set_cons_zero, List.set_cons_succ]
          refine wpAnyH_take (i := 10) (oi := { dst := some 27, op := Go.Op.fieldAddr 101 (Go.Operand.tmp 3) 1, type := 0, pos := "right.go:60", after := #[{ on := 0, ground := Go.Ground.phase }, { on := 1, ground := Go.Ground.phase }, { on := 2, ground := Go.Ground.phase }, { on := 3, ground := Go.Ground.phase }, { on := 4, ground := Go.Ground.phase }, { on := 5, ground := Go.Ground.phase }, { on := 6, ground := Go.Ground.phase }, { on := 7, ground := Go.Ground.phase }, { on := 8, ground := Go.Ground.phase }, { on := 9, ground := Go.Ground.phase }], guard := none }) (v := ?_) rfl (by kernel_rfl) (by kernel_rfl) (by kernel_rfl) (fun _ _ _ h => h) (Or.inl ⟨by rfl, ?_⟩) (by assumption) ?_
          rotate_left
          · intro w' hSw
            (try dsimp only at hSw)
            obtain ⟨z2, z3⟩ := hSw
            go_simp
            all_goals with_reducible rfl
          try simp only [Act.put, List.setIfInBounds_toArray, List.set_cons_zero, List.set_cons_succ]
          refine wpAnyH_ready (rs := [11]) (by kernel_rfl) (by simp) ?_
          refine (AllReadyH.cons (o := { dst := none, op := Go.Op.store 63 (Go.Operand.tmp 27) (Go.Operand.tmp 26), type := 0, pos := "right.go:60", after := #[{ on := 10, ground := Go.Ground.data }, { on := 9, ground := Go.Ground.data }, { on := 9, ground := Go.Ground.chain }, { on := 0, ground := Go.Ground.phase }, { on := 1, ground := Go.Ground.phase }, { on := 2, ground := Go.Ground.phase }, { on := 3, ground := Go.Ground.phase }, { on := 4, ground := Go.Ground.phase }, { on := 5, ground := Go.Ground.phase }, { on := 6, ground := Go.Ground.phase }, { on := 7, ground := Go.Ground.phase }, { on := 8, ground := Go.Ground.phase }, { on := 9, ground := Go.Ground.phase }], guard := none }) rfl (fun K hK => ?_) AllReadyH.nil)
          have HQ8 := HQ7.out _ _ hB hg7
          have HREL := Lib.hid (HFIN.out n hn ws w7 hB gg capg hown7 hg7 _ hat7 (Nat.le_refl _))
          clear hown7 hg7 hat7 hlt7
          go_simp
          obtain ⟨w8, hw8⟩ : ∃ w8, w7.setCell ⟨H + 1 + 1, 259, none⟩ (.slice (some ⟨gg, 0, none⟩) (la.length + 1) capg) = w8 := ⟨_, rfl⟩
          have HQ8 := Lib.hid (show w8.cell? ⟨wo.heap.size, 0, none⟩ = some (.int .i64 eat) ∧ w8.cell? ⟨wo.heap.size, 2, none⟩ = some (.slice A' out.length c') from by rw [← hw8]; exact ⟨(World.cell?_setCell_other _ _ _ _ (fun q => by injection q with q; omega)).trans HQ8.1, (World.cell?_setCell_other _ _ _ _ (fun q => by injection q with q; omega)).trans HQ8.2⟩)
          rw [hw8] at HREL ⊢
          refine hK.out _ _ ?_ (fun hHeld => ?_)
          · exact HQ8.out
          clear hK K
          try simp only [Act.put, List.setIfInBounds_toArray, List.set_cons_zero, List.set_cons_succ]
          obtain ⟨wl, rfl⟩ : ∃ wl : World, wl = w8 := ⟨_, rfl⟩
      all_goals
        refine wpAnyH_done (by kernel_rfl) ?_ _
        go_wp2_with (fail)
        go_roundw
      all_goals first
        | exact HREL.out
        | (simp [intOf]; done)
        | (simp [intOf]; omega)
    · have HNF := Lib.hid (show NeedA t.T la t.T.acts.length from (show k = t.T.acts.length by omega) ▸ hna)
      have HNS1 := Lib.hid hns
      have c4C := hTr.cC
      have HNA1 := Lib.hid hns
      obtain ⟨wA, hwA⟩ : ∃ wA : World, wA = wo := ⟨_, rfl⟩
      subst hwA
      clear hna hns hTr c4B
      go_wp2_with (fail)
      go_loopw [32] (fun iv wr => NeRel2 H w1 t va la iv wr) (fun i _ => t.T.ends.length - (intOf i).toNat)
      case atStart => exact ⟨0, _, [], Nat.zero_le _, rfl, ⟨rfl, fun j a hj => absurd hj (by omega)⟩, HNA1.out⟩
      case round =>
        obtain ⟨k, ve, le, hk, rfl, hna, hns⟩ := hrel
        obtain ⟨wo, rfl⟩ : ∃ wo : World, wo = wr := ⟨_, rfl⟩
        have HNA := Lib.hid hna
        have HNS := Lib.hid hns
        have hTr := HT.out.below ((by rw [hs1]; exact hns.low) : Below w1.heap.size w1 wo)
        have hz := hns.size
        by_cases hlt : k < t.T.ends.length
        · obtain ⟨b, off, hA, hbB, A', c', d2, hrt, hcc, hm⟩ := hTr.mem.ends.at_ hlt
          obtain ⟨out, ha⟩ : ∃ a, t.T.ends[k] = a := ⟨_, rfl⟩
          have HAK := Lib.hid (show t.T.ends[k]? = some out by rw [← ha]; exact List.getElem?_eq_getElem hlt)
          rw [ha] at d2 hrt hcc hm
          obtain ⟨w5, hw5⟩ : ∃ w5 : World, wo = w5 := ⟨_, rfl⟩
          have hb5 : Below wo.heap.size wo w5 := by rw [← hw5]; exact Below.refl _ _
          have hs5 : w5.heap.size = wo.heap.size := by rw [← hw5]
          have HN5 := Lib.hid (hns.keep hb5)
          have HND := Lib.hid (fun W (hW : Below wo.heap.size wo W) => need_any A' c' out W (hrt.belowM hW) hm)
          have HB5 := Lib.hid hb5
          have hla : le.length ≤ 4096 := by have := hna.1; omega
          have hvb : ∀ q, ve.ownBlock = some q → H + 1 + 1 + 1 ≤ q ∧ q < wo.heap.size := fun q e => World.ownsRow.lt hns.rowE q e
          have HFIN := Lib.hid (fun (n : Nat) (hn : NeedIs out n) (W w7 : World) (hW : Below w5.heap.size w5 W) (gg capg : Nat) (h1 : w7.ownsRow (H + 1 + 1 + 1) 3 1 (.slice (some ⟨gg, 0, none⟩) (le.length + 1) capg) (le.length + 1) (le.map (Value.int .i64) ++ [.int .i64 ((n : Int))])) (h2 : W.grownBy w7 ve.ownBlock) (HH : Nat) (h3 : ve.ownBlock = some gg ∨ gg = HH) (h4 : W.heap.size ≤ HH) =>
            show NeRel2 H w1 t va la (.int .i64 ((k : Int) + 1)) (w7.setCell ⟨H + 1 + 1, 260, none⟩ (.slice (some ⟨gg, 0, none⟩) (le.length + 1) capg)) from
              ⟨k + 1, _, le ++ [(n : Int)], by omega, by go_num, HNA.out.snoc HAK.out hn, (HN5.out.keep hW).pushE HCL.out h1 h2 h3 h4⟩)
          have HBX := Lib.hid (fun (W : World) (hW : Below w5.heap.size w5 W) => show NBox W (H + 1 + 1) ⟨t, va, ve⟩ from (HN5.out.keep hW).box)
          have HBG := Lib.hid (fun (W w7 : World) (hW : Below w5.heap.size w5 W) (h2 : W.grownBy w7 ve.ownBlock) => show NBox w7 (H + 1 + 1) ⟨t, va, ve⟩ from (HN5.out.keep hW).box.keep (h2.block _ (by have := (HN5.out.keep hW).size; omega) (fun e => by have := hvb _ e.symm; omega)))
          have HRA := Lib.hid (fun (W : World) (hW : Below w5.heap.size w5 W) => (HN5.out.keep hW).rowE)
          have HSZ := Lib.hid (fun (W : World) (hW : Below w5.heap.size w5 W) => show H + 1 + 1 + 1 ≤ W.heap.size from (HN5.out.keep hW).size)
          have HQ := Lib.hid (fun (W : World) (hW : Below w5.heap.size w5 W) => show True from trivial)
          have HQ7 := Lib.hid (fun (W w7 : World) (hW : Below w5.heap.size w5 W) (h2 : W.grownBy w7 ve.ownBlock) => show True from trivial)
          obtain ⟨Aa, ca, hva⟩ := own_shape hns.rowE
          subst hva
          rw [hA]
          clear hA ha hna hns hTr hrt hcc hm hb5 hvb
          subst hw5
          go_upto_region 10 with (fail)
          obtain ⟨we, hwe⟩ : ∃ we, wo.drew = we := ⟨_, rfl⟩
          have hB : Below wo.heap.size wo we := by rw [← hwe]; exact (Below.refl _ _).drew
          refine wp_region_held_drew (S := fun _ => True) (by kernel_rfl) trivial (fun hHeld => ?_)
          rw [hwe]
          refine wpAnyH_take (i := 0) (oi := { dst := some 36, op := Go.Op.fieldAddr 101 (Go.Operand.tmp 3) 2, type := 0, pos := "right.go:63", after := #[], guard := none }) (v := ?_) rfl (by kernel_rfl) (by kernel_rfl) (by kernel_rfl) (fun _ _ _ h => h) (Or.inl ⟨by rfl, ?_⟩) (by assumption) ?_
          rotate_left
          · intro w' hSw
            (try dsimp only at hSw)
            go_simp
            all_goals with_reducible rfl
          try simp only [Act.put, List.setIfInBounds_toArray, List.set_cons_zero, List.set_cons_succ]
          refine wpAnyH_take (i := 2) (oi := { dst := some 38, op := Go.Op.move (Go.Operand.tmp 7), type := 83, pos := "right.go:63", after := #[], guard := none }) (v := ?_) rfl (by kernel_rfl) (by kernel_rfl) (by kernel_rfl) (fun _ _ _ h => h) (Or.inl ⟨by rfl, ?_⟩) (by assumption) ?_
          rotate_left
          · intro w' hSw
            (try dsimp only at hSw)
            go_simp
            all_goals with_reducible rfl
          try simp only [Act.put, List.setIfInBounds_toArray, List.set_cons_zero, List.set_cons_succ]
          refine wpAnyH_ready (rs := [1, 3]) (by kernel_rfl) (by simp) ?_
          refine (AllReadyH.cons (o := { dst := some 37, op := Go.Op.load 63 (Go.Operand.tmp 36), type := 63, pos := "right.go:63", after := #[{ on := 0, ground := Go.Ground.data }], guard := none }) rfl (fun K hK => ?_) (AllReadyH.cons (o := { dst := some 39, op := Go.Op.call { callee := Go.Callee.value (Go.Operand.func 92), args := #[Go.Operand.tmp 38], argTypes := #[83] }, type := 3, pos := "right.go:63", after := #[{ on := 2, ground := Go.Ground.data }], guard := none }) rfl (fun K hK => ?_) AllReadyH.nil))
          focus
            have p5 := (HBX.out _ hB).ce HCL.out
            simp only at p5
            go_simp
            clear p5
            refine hK.out _ _ ?_ (fun hHeld => ?_)
            · trivial
            clear hK K
            try simp only [Act.put, List.setIfInBounds_toArray, List.set_cons_zero, List.set_cons_succ]
            refine wpAnyH_ready (rs := [3]) (by kernel_rfl) (by simp) ?_
            refine (AllReadyH.cons (o := { dst := some 39, op := Go.Op.call { callee := Go.Callee.value (Go.Operand.func 92), args := #[Go.Operand.tmp 38], argTypes := #[83] }, type := 3, pos := "right.go:63", after := #[{ on := 2, ground := Go.Ground.data }], guard := none }) rfl (fun K hK => ?_) AllReadyH.nil)
            go_simp
            go_wp2_with (go_at_call 92; (with_reducible refine (HND.out _ (hB)).mono ?_); rintro e5 wn ⟨n, hn, rfl, hbn⟩)
            have hB := hB.trans (hbn.mono hB.size)
            clear hbn
            refine hK.out _ _ ?_ (fun hHeld => ?_)
            · trivial
            clear hK K
            try simp only [Act.put, List.setIfInBounds_toArray, List.set_cons_zero, List.set_cons_succ]
            refine wpAnyH_ready (rs := [4]) (by kernel_rfl) (by simp) ?_
            refine (AllReadyH.cons (o := { dst := some 40, op := Go.Op.buildSlice 63 1 #[(0, Go.Operand.tmp 39)], type := 63, pos := "right.go:63", after := #[{ on := 3, ground := Go.Ground.data }], guard := none }) rfl (fun K hK => ?_) AllReadyH.nil)
            obtain ⟨ws, hws, hqs, hbS, hls⟩ := new_int wn ((n : Int))
            go_simp
            skip
            try rw [hws]
            have hBn := hB
            have hB := hB.trans (hbS.mono hB.size)
            clear hbS
            refine hK.out _ _ ?_ (fun hHeld => ?_)
            · trivial
            clear hK K
            try simp only [Act.put, List.setIfInBounds_toArray, List.set_cons_zero, List.set_cons_succ]
            refine wpAnyH_ready (rs := [5]) (by kernel_rfl) (by simp) ?_
            refine (AllReadyH.cons (o := { dst := some 41, op := Go.Op.call { callee := Go.Callee.builtin Go.Builtin.append, args := #[Go.Operand.tmp 37, Go.Operand.tmp 40], argTypes := #[63, 63] }, type := 63, pos := "right.go:63", after := #[{ on := 1, ground := Go.Ground.data }, { on := 4, ground := Go.Ground.data }, { on := 3, ground := Go.Ground.chain }], guard := none }) rfl (fun K hK => ?_) AllReadyH.nil)
            have hx := HSZ.out _ hB
            refine wp_append_lies ws _ _ _ rfl (H + 1 + 1 + 1) 3 i0 _ 1 8 Try.underlying63 hi0 hz0 hz1 hz2 rfl (by omega) (.slice Aa le.length ca) le.length (le.map (Value.int .i64)) rfl (HRA.out ws hB) ⟨wn.heap.size, 0, none⟩ 1 1 [.int .i64 ((n : Int))] rfl rfl (World.news_of_block (cs := #[.int .i64 ((n : Int))]) (t := 3) (fr := (0, 0)) hqs) (by simp [Value.oneCell']) (by omega) (by simp only [maxLen]; omega) (by omega) hx ws.heap.size rfl ?_
            intro gg capg w7 hown7 hg7 hat7 hlt7
            have hbq := HBG.out _ w7 hB hg7
            have p7 := hbq.ce HCL.out
            have f7 := hbq.frozen 260
            simp only at p7
            refine hK.out _ _ ?_ (fun hHeld => ?_)
            · trivial
            clear hK K
            try simp only [Act.put, List.setIfInBounds_toArray, List.set_cons_zero, List.set_cons_succ]
            refine wpAnyH_take (i := 6) (oi := { dst := some 42, op := Go.Op.fieldAddr 101 (Go.Operand.tmp 3) 2, type := 0, pos := "right.go:63", after := #[{ on := 0, ground := Go.Ground.phase }, { on := 1, ground := Go.Ground.phase }, { on := 2, ground := Go.Ground.phase }, { on := 3, ground := Go.Ground.phase }, { on := 4, ground := Go.Ground.phase }, { on := 5, ground := Go.Ground.phase }], guard := none }) (v := ?_) rfl (by kernel_rfl) (by kernel_rfl) (by kernel_rfl) (fun _ _ _ h => h) (Or.inl ⟨by rfl, ?_⟩) (by assumption) ?_
            rotate_left
            · intro w' hSw
              (try dsimp only at hSw)
              go_simp
              all_goals with_reducible rfl
            try simp only [Act.put, List.setIfInBounds_toArray, List.set_cons_zero, List.set_cons_succ]
            refine wpAnyH_ready (rs := [7]) (by kernel_rfl) (by simp) ?_
            refine (AllReadyH.cons (o := { dst := none, op := Go.Op.store 63 (Go.Operand.tmp 42) (Go.Operand.tmp 41), type := 0, pos := "right.go:63", after := #[{ on := 6, ground := Go.Ground.data }, { on := 5, ground := Go.Ground.data }, { on := 5, ground := Go.Ground.chain }, { on := 0, ground := Go.Ground.phase }, { on := 1, ground := Go.Ground.phase }, { on := 2, ground := Go.Ground.phase }, { on := 3, ground := Go.Ground.phase }, { on := 4, ground := Go.Ground.phase }, { on := 5, ground := Go.Ground.phase }], guard := none }) rfl (fun K hK => ?_) AllReadyH.nil)
            skip
            have HREL := Lib.hid (HFIN.out n hn ws w7 hB gg capg hown7 hg7 _ hat7 (Nat.le_refl _))
            clear hown7 hg7 hat7 hlt7
            go_simp
            obtain ⟨w8, hw8⟩ : ∃ w8, w7.setCell ⟨H + 1 + 1, 260, none⟩ (.slice (some ⟨gg, 0, none⟩) (le.length + 1) capg) = w8 := ⟨_, rfl⟩
            skip
            rw [hw8] at HREL ⊢
            refine hK.out _ _ ?_ (fun hHeld => ?_)
            · trivial
            clear hK K
            try simp only [Act.put, List.setIfInBounds_toArray, List.set_cons_zero, List.set_cons_succ]
            obtain ⟨wl, rfl⟩ : ∃ wl : World, wl = w8 := ⟨_, rfl⟩
          rotate_left 1
          focus
            go_simp
            go_wp2_with (go_at_call 92; (with_reducible refine (HND.out _ (hB)).mono ?_); rintro e5 wn ⟨n, hn, rfl, hbn⟩)
            have hB := hB.trans (hbn.mono hB.size)
            clear hbn
            refine hK.out _ _ ?_ (fun hHeld => ?_)
            · trivial
            clear hK K
            try simp only [Act.put, List.setIfInBounds_toArray, List.set_cons_zero, List.set_cons_succ]
            refine wpAnyH_ready (rs := [1, 4]) (by kernel_rfl) (by simp) ?_
            refine (AllReadyH.cons (o := { dst := some 37, op := Go.Op.load 63 (Go.Operand.tmp 36), type := 63, pos := "right.go:63", after := #[{ on := 0, ground := Go.Ground.data }], guard := none }) rfl (fun K hK => ?_) (AllReadyH.cons (o := { dst := some 40, op := Go.Op.buildSlice 63 1 #[(0, Go.Operand.tmp 39)], type := 63, pos := "right.go:63", after := #[{ on := 3, ground := Go.Ground.data }], guard := none }) rfl (fun K hK => ?_) AllReadyH.nil))
            focus
              have p5 := (HBX.out _ hB).ce HCL.out
              simp only at p5
              go_simp
              clear p5
              refine hK.out _ _ ?_ (fun hHeld => ?_)
              · trivial
              clear hK K
              try simp only [Act.put, List.setIfInBounds_toArray, List.set_cons_zero, List.set_cons_succ]
              refine wpAnyH_ready (rs := [4]) (by kernel_rfl) (by simp) ?_
              refine (AllReadyH.cons (o := { dst := some 40, op := Go.Op.buildSlice 63 1 #[(0, Go.Operand.tmp 39)], type := 63, pos := "right.go:63", after := #[{ on := 3, ground := Go.Ground.data }], guard := none }) rfl (fun K hK => ?_) AllReadyH.nil)
              obtain ⟨ws, hws, hqs, hbS, hls⟩ := new_int wn ((n : Int))
              go_simp
              skip
              try rw [hws]
              have hBn := hB
              have hB := hB.trans (hbS.mono hB.size)
              clear hbS
              refine hK.out _ _ ?_ (fun hHeld => ?_)
              · trivial
              clear hK K
              try simp only [Act.put, List.setIfInBounds_toArray, List.set_cons_zero, List.set_cons_succ]
              refine wpAnyH_ready (rs := [5]) (by kernel_rfl) (by simp) ?_
              refine (AllReadyH.cons (o := { dst := some 41, op := Go.Op.call { callee := Go.Callee.builtin Go.Builtin.append, args := #[Go.Operand.tmp 37, Go.Operand.tmp 40], argTypes := #[63, 63] }, type := 63, pos := "right.go:63", after := #[{ on := 1, ground := Go.Ground.data }, { on := 4, ground := Go.Ground.data }, { on := 3, ground := Go.Ground.chain }], guard := none }) rfl (fun K hK => ?_) AllReadyH.nil)
              have hx := HSZ.out _ hB
              refine wp_append_lies ws _ _ _ rfl (H + 1 + 1 + 1) 3 i0 _ 1 8 Try.underlying63 hi0 hz0 hz1 hz2 rfl (by omega) (.slice Aa le.length ca) le.length (le.map (Value.int .i64)) rfl (HRA.out ws hB) ⟨wn.heap.size, 0, none⟩ 1 1 [.int .i64 ((n : Int))] rfl rfl (World.news_of_block (cs := #[.int .i64 ((n : Int))]) (t := 3) (fr := (0, 0)) hqs) (by simp [Value.oneCell']) (by omega) (by simp only [maxLen]; omega) (by omega) hx ws.heap.size rfl ?_
              intro gg capg w7 hown7 hg7 hat7 hlt7
              have hbq := HBG.out _ w7 hB hg7
              have p7 := hbq.ce HCL.out
              have f7 := hbq.frozen 260
              simp only at p7
              refine hK.out _ _ ?_ (fun hHeld => ?_)
              · trivial
              clear hK K
              try simp only [Act.put, List.setIfInBounds_toArray, List.set_cons_zero, List.set_cons_succ]
              refine wpAnyH_take (i := 6) (oi := { dst := some 42, op := Go.Op.fieldAddr 101 (Go.Operand.tmp 3) 2, type := 0, pos := "right.go:63", after := #[{ on := 0, ground := Go.Ground.phase }, { on := 1, ground := Go.Ground.phase }, { on := 2, ground := Go.Ground.phase }, { on := 3, ground := Go.Ground.phase }, { on := 4, ground := Go.Ground.phase }, { on := 5, ground := Go.Ground.phase }], guard := none }) (v := ?_) rfl (by kernel_rfl) (by kernel_rfl) (by kernel_rfl) (fun _ _ _ h => h) (Or.inl ⟨by rfl, ?_⟩) (by assumption) ?_
              rotate_left
              · intro w' hSw
                (try dsimp only at hSw)
                go_simp
                all_goals with_reducible rfl
              try simp only [Act.put, List.setIfInBounds_toArray, List.set_cons_zero, List.set_cons_succ]
              refine wpAnyH_ready (rs := [7]) (by kernel_rfl) (by simp) ?_
              refine (AllReadyH.cons (o := { dst := none, op := Go.Op.store 63 (Go.Operand.tmp 42) (Go.Operand.tmp 41), type := 0, pos := "right.go:63", after := #[{ on := 6, ground := Go.Ground.data }, { on := 5, ground := Go.Ground.data }, { on := 5, ground := Go.Ground.chain }, { on := 0, ground := Go.Ground.phase }, { on := 1, ground := Go.Ground.phase }, { on := 2, ground := Go.Ground.phase }, { on := 3, ground := Go.Ground.phase }, { on := 4, ground := Go.Ground.phase }, { on := 5, ground := Go.Ground.phase }], guard := none }) rfl (fun K hK => ?_) AllReadyH.nil)
              skip
              have HREL := Lib.hid (HFIN.out n hn ws w7 hB gg capg hown7 hg7 _ hat7 (Nat.le_refl _))
              clear hown7 hg7 hat7 hlt7
              go_simp
              obtain ⟨w8, hw8⟩ : ∃ w8, w7.setCell ⟨H + 1 + 1, 260, none⟩ (.slice (some ⟨gg, 0, none⟩) (le.length + 1) capg) = w8 := ⟨_, rfl⟩
              skip
              rw [hw8] at HREL ⊢
              refine hK.out _ _ ?_ (fun hHeld => ?_)
              · trivial
              clear hK K
              try simp only [Act.put, List.setIfInBounds_toArray, List.set_cons_zero, List.set_cons_succ]
              obtain ⟨wl, rfl⟩ : ∃ wl : World, wl = w8 := ⟨_, rfl⟩
            rotate_left 1
            focus
              obtain ⟨ws, hws, hqs, hbS, hls⟩ := new_int wn ((n : Int))
              go_simp
              skip
              try rw [hws]
              have hBn := hB
              have hB := hB.trans (hbS.mono hB.size)
              clear hbS
              refine hK.out _ _ ?_ (fun hHeld => ?_)
              · trivial
              clear hK K
              try simp only [Act.put, List.setIfInBounds_toArray, List.set_cons_zero, List.set_cons_succ]
              refine wpAnyH_ready (rs := [1]) (by kernel_rfl) (by simp) ?_
              refine (AllReadyH.cons (o := { dst := some 37, op := Go.Op.load 63 (Go.Operand.tmp 36), type := 63, pos := "right.go:63", after := #[{ on := 0, ground := Go.Ground.data }], guard := none }) rfl (fun K hK => ?_) AllReadyH.nil)
              have p5 := (HBX.out _ hB).ce HCL.out
              simp only at p5
              go_simp
              clear p5
              refine hK.out _ _ ?_ (fun hHeld => ?_)
              · trivial
              clear hK K
              try simp only [Act.put, List.setIfInBounds_toArray, List.set_cons_zero, List.set_cons_succ]
              refine wpAnyH_ready (rs := [5]) (by kernel_rfl) (by simp) ?_
              refine (AllReadyH.cons (o := { dst := some 41, op := Go.Op.call { callee := Go.Callee.builtin Go.Builtin.append, args := #[Go.Operand.tmp 37, Go.Operand.tmp 40], argTypes := #[63, 63] }, type := 63, pos := "right.go:63", after := #[{ on := 1, ground := Go.Ground.data }, { on := 4, ground := Go.Ground.data }, { on := 3, ground := Go.Ground.chain }], guard := none }) rfl (fun K hK => ?_) AllReadyH.nil)
              have hx := HSZ.out _ hB
              refine wp_append_lies ws _ _ _ rfl (H + 1 + 1 + 1) 3 i0 _ 1 8 Try.underlying63 hi0 hz0 hz1 hz2 rfl (by omega) (.slice Aa le.length ca) le.length (le.map (Value.int .i64)) rfl (HRA.out ws hB) ⟨wn.heap.size, 0, none⟩ 1 1 [.int .i64 ((n : Int))] rfl rfl (World.news_of_block (cs := #[.int .i64 ((n : Int))]) (t := 3) (fr := (0, 0)) hqs) (by simp [Value.oneCell']) (by omega) (by simp only [maxLen]; omega) (by omega) hx ws.heap.size rfl ?_
              intro gg capg w7 hown7 hg7 hat7 hlt7
              have hbq := HBG.out _ w7 hB hg7
              have p7 := hbq.ce HCL.out
              have f7 := hbq.frozen 260
              simp only at p7
              refine hK.out _ _ ?_ (fun hHeld => ?_)
              · trivial
              clear hK K
              try simp only [Act.put, List.setIfInBounds_toArray, List.set_cons_zero, List.set_cons_succ]
              refine wpAnyH_take (i := 6) (oi := { dst := some 42, op := Go.Op.fieldAddr 101 (Go.Operand.tmp 3) 2, type := 0, pos := "right.go:63", after := #[{ on := 0, ground := Go.Ground.phase }, { on := 1, ground := Go.Ground.phase }, { on := 2, ground := Go.Ground.phase }, { on := 3, ground := Go.Ground.phase }, { on := 4, ground := Go.Ground.phase }, { on := 5, ground := Go.Ground.phase }], guard := none }) (v := ?_) rfl (by kernel_rfl) (by kernel_rfl) (by kernel_rfl) (fun _ _ _ h => h) (Or.inl ⟨by rfl, ?_⟩) (by assumption) ?_
              rotate_left
              · intro w' hSw
                (try dsimp only at hSw)
                go_simp
                all_goals with_reducible rfl
              try simp only [Act.put, List.setIfInBounds_toArray, List.set_cons_zero, List.set_cons_succ]
              refine wpAnyH_ready (rs := [7]) (by kernel_rfl) (by simp) ?_
              refine (AllReadyH.cons (o := { dst := none, op := Go.Op.store 63 (Go.Operand.tmp 42) (Go.Operand.tmp 41), type := 0, pos := "right.go:63", after := #[{ on := 6, ground := Go.Ground.data }, { on := 5, ground := Go.Ground.data }, { on := 5, ground := Go.Ground.chain }, { on := 0, ground := Go.Ground.phase }, { on := 1, ground := Go.Ground.phase }, { on := 2, ground := Go.Ground.phase }, { on := 3, ground := Go.Ground.phase }, { on := 4, ground := Go.Ground.phase }, { on := 5, ground := Go.Ground.phase }], guard := none }) rfl (fun K hK => ?_) AllReadyH.nil)
              skip
              have HREL := Lib.hid (HFIN.out n hn ws w7 hB gg capg hown7 hg7 _ hat7 (Nat.le_refl _))
              clear hown7 hg7 hat7 hlt7
              go_simp
              obtain ⟨w8, hw8⟩ : ∃ w8, w7.setCell ⟨H + 1 + 1, 260, none⟩ (.slice (some ⟨gg, 0, none⟩) (le.length + 1) capg) = w8 := ⟨_, rfl⟩
              skip
              rw [hw8] at HREL ⊢
              refine hK.out _ _ ?_ (fun hHeld => ?_)
              · trivial
              clear hK K
              try simp only [Act.put, List.setIfInBounds_toArray, List.set_cons_zero, List.set_cons_succ]
              obtain ⟨wl, rfl⟩ : ∃ wl : World, wl = w8 := ⟨_, rfl⟩
          all_goals
            refine wpAnyH_done (by kernel_rfl) ?_ _
            go_wp2_with (fail)
            go_roundw
          all_goals first
            | exact HREL.out
            | (simp [intOf]; done)
            | (simp [intOf]; omega)
        · have HEF := Lib.hid (show NeedE t.T le t.T.ends.length from (show k = t.T.ends.length by omega) ▸ hna)
          have HOA := Lib.hid (own_one hns.rowA)
          have HOE := Lib.hid (own_one hns.rowE)
          clear hna hns hTr c4C
          go_wp2_with (first | (refine load_needs rfl _ rfl (H + 1 + 1) ⟨t, va, ve⟩ HCL.out HNS.out.box rfl ?_) | (refine store_needs rfl _ _ rfl (H + 1) ⟨t, va, ve⟩ HCL.out HOA.out HOE.out rfl rfl _ HNS.out.res needs_zsize ?_; intro w9 hn9 hb9 hs9 hk9))
          have hra : OwnsI w9 H va la := ownsI_mono2 (ownsRow_keep HNS.out.rowA fun g e => hk9 g (by have := (World.ownsRow.lt HNS.out.rowA g e).1; omega)) (by omega)
          have hre : OwnsI w9 H ve le := ownsI_mono2 (ownsRow_keep HNS.out.rowE fun g e => hk9 g (by have := (World.ownsRow.lt HNS.out.rowE g e).1; omega)) (by omega)
          exact bodyPost_ret (v := NV.val ⟨t, va, ve⟩) (results_cell_row rfl _ _ (H + 1) _ _ _ (.struct (Try.prog.fieldsOf 101)) rfl hn9 (by kernel_rfl) rfl (NV.size HCL.out)) rfl ⟨va, ve, la, le, rfl, HNF.out, HEF.out, by rw [HS.out]; exact hra, by rw [HS.out]; exact hre, by rw [HS.out]; exact (HB.out.trans ((HNS.out.low.mono (by omega)).trans (hb9.mono (by omega))))⟩
end Go.Proofs.Ytgmkchkaceciiaa.Pk
