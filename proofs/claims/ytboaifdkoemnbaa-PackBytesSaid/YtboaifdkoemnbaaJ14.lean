/- Texts of this proof, joined: PkNeeds, PkNode, PkCheck. -/
import Derived.Test.YtboaifdkoemnbaaJ7
import Derived.Test.YtboaifdkoemnbaaJ12
import Derived.Deep.RegionHeld3
import Derived.Deep.RegionLaw
import Derived.Deep.DeepCutAuto
import Derived.Tactics2
import Derived.BigQuiet
import Derived.Deep.QuietTactic
/- The walk of table.needsOf. -/
namespace Go.Proofs.Ytboaifdkoemnbaa.Pk
set_option maxRecDepth 100000
open Go Go.RowKit Go.Proofs.Ytboaifdkoemnbaa.Sp Go.Proofs.Ytboaifdkoemnbaa.Pa Go.Proofs.Ytboaifdkoemnbaa.Te Go.Proofs.Ytboaifdkoemnbaa.Mi Go.Proofs.Ytboaifdkoemnbaa.De

theorem infoIntP : (Try.prog.info? 3).map (fun i => (i.zero, i.size, i.bytes)) = some (some (.int .i64 0), 1, 8) := by kernel_rfl
def NeedsOut (t : TV) (w : World) (e : Ending) (w' : World) : Prop := ∃ (va ve : Value) (la le : List Int), e = .returned (NV.val ⟨t, va, ve⟩) ∧ NeedA t.T la t.T.acts.length ∧ NeedE t.T le t.T.ends.length ∧ OwnsI w' w.heap.size va la ∧ OwnsI w' w.heap.size ve le ∧ Below w.heap.size w w'
def NaRel (H : Nat) (w1 : World) (t : TV) (iv : Value) (wr : World) : Prop := ∃ (k : Nat) (va : Value) (la : List Int), k ≤ t.T.acts.length ∧ iv = .int .i64 k ∧ NeedA t.T la k ∧ NS H w1 t va (.slice none 0 0) la [] wr
def NeRel2 (H : Nat) (w1 : World) (t : TV) (va : Value) (la : List Int) (iv : Value) (wr : World) : Prop := ∃ (k : Nat) (ve : Value) (le : List Int), k ≤ t.T.ends.length ∧ iv = .int .i64 k ∧ NeedE t.T le k ∧ NS H w1 t va ve la le wr
theorem ownsI_mono2 {w : World} {base base' : Nat} {v : Value} {l : List Int} (h : OwnsI w base v l) (hb : base' ≤ base) : OwnsI w base' v l := by
  refine ⟨h.1, ?_⟩
  rcases h.2 with h2 | ⟨g, cap, cur, rfl, hg, hr⟩
  · exact .inl h2
  · exact .inr ⟨g, cap, cur, rfl, by omega, hr⟩
theorem max_if (a b : Int) : (if a < b then b else a) = max a b := by rw [Int.max_def]; split <;> split <;> omega
/-- One integer in a new block. -/
theorem new_int (w : World) (x : Int) : ∃ ws, w.alloc (.cells #[.int .i64 x] 3) = ws ∧ ws.heap[w.heap.size]? = some (.cells #[.int .i64 x] 3 (0, 0)) ∧ Below w.heap.size w ws ∧ ws.heap.size = w.heap.size + 1 :=
  ⟨_, rfl, heap_alloc_new w _, (Below.refl _ _).alloc (Nat.le_refl _) _, by simp⟩
set_option maxHeartbeats 8000000 in
theorem needsOf_any (t : TV) (w : World) (h : TM w t) (hA4 : t.T.acts.length ≤ 4096) (hE4 : t.T.ends.length ≤ 4096) : Calls Try.prog 32 #[t.val] w (NeedsOut t w) := by
  have hcl := h.cls
  obtain ⟨H, hH⟩ : ∃ H, w.heap.size = H := ⟨_, rfl⟩
  obtain ⟨w1, hw1⟩ : ∃ w1, w.alloc (.cells t.cells.toArray 27) = w1 := ⟨_, rfl⟩
  have hT : TW w1 H t := by rw [← hw1, ← hH]; exact TW.boxed h
  have hs1 : w1.heap.size = H + 1 := by rw [← hw1, ← hH]; simp
  have HB := Lib.hid (show Below H w w1 by rw [← hw1, ← hH]; exact (Below.refl _ _).alloc (Nat.le_refl _) _)
  obtain ⟨w2, hw2⟩ : ∃ w2, w1.alloc (.cells Try.zeroCells66 66) = w2 := ⟨_, rfl⟩
  have hb2 : Below w1.heap.size w1 w2 := by rw [← hw2]; exact (Below.refl _ _).alloc (Nat.le_refl _) _
  have hs2 : w2.heap.size = H + 1 + 1 := by rw [← hw2, ← hs1]; simp
  have hr2 : w2.heap[H + 1]? = some (.cells Try.zeroCells66 66 (0, 0)) := by rw [← hw2, ← hs1]; exact heap_alloc_new w1 _
  obtain ⟨w3, hw3⟩ : ∃ w3, w2.alloc (.cells Try.zeroCells66 66) = w3 := ⟨_, rfl⟩
  have hb3 : Below w2.heap.size w2 w3 := by rw [← hw3]; exact (Below.refl _ _).alloc (Nat.le_refl _) _
  have hs3 : w3.heap.size = H + 1 + 1 + 1 := by rw [← hw3, ← hs2]; simp
  have hr3 : w3.heap[H + 1 + 1]? = some (.cells Try.zeroCells66 66 (0, 0)) := by rw [← hw3, ← hs2]; exact heap_alloc_new w2 _
  have HT := Lib.hid hT
  have HT2 := Lib.hid (hT.below hb2)
  have HR2 := Lib.hid hr2
  have HR3 := Lib.hid hr3
  have HB2 := Lib.hid hb2
  have HB3 := Lib.hid hb3
  have HCL := Lib.hid hcl
  have HS := Lib.hid hH
  clear h hT hb2 hb3 hr2 hr3 hcl
  unfold TV.val
  go_enter Try.func32, Try.ntmps32
  go_wp2_with (first | (refine load_tab rfl _ rfl H t HT2.out rfl ?_) | (refine build_needs rfl _ rfl t HCL.out rfl ?_) | (refine store_needs rfl _ _ rfl (H + 1 + 1) ⟨t, .slice none 0 0, .slice none 0 0⟩ HCL.out rfl rfl rfl rfl _ HR3.out needs_zsize ?_; intro w4 hn4 hb4 hs4 hk4; have hT4 := HT2.out.below (HB3.out.trans (hb4.mono (by omega))); have c4B := hT4.cB; have HT4 := Lib.hid hT4; have HB4 := Lib.hid (show Below (H + 1) w1 w4 from (HB2.out.mono (by omega)).trans ((HB3.out.mono (by omega)).trans (hb4.mono (by omega)))); have HN4 := Lib.hid (show NS H w1 t (.slice none 0 0) (.slice none 0 0) [] [] w4 from ⟨hn4, World.ownsRow_nil _ _ _ _, World.ownsRow_nil _ _ _ _, fun _ e => (by cases e), (hk4 _ (by omega)).trans ((HB3.out.block _ (by omega)).trans HR2.out), HB4.out, by omega⟩); clear hn4 hb4 hk4 hT4))
  obtain ⟨i0, hi0, hz0, hz1, hz2⟩ := info_parts infoIntP
  go_loopw [13] (fun iv wr => NaRel H w1 t iv wr) (fun i _ => t.T.acts.length - (intOf i).toNat)
  case atStart => exact ⟨0, _, [], Nat.zero_le _, rfl, ⟨rfl, fun j a hj => absurd hj (by omega)⟩, HN4.out⟩
  case round =>
    obtain ⟨k, va, la, hk, rfl, hna, hns⟩ := hrel
    obtain ⟨wo, rfl⟩ : ∃ wo : World, wo = wr := ⟨_, rfl⟩
    have HNA := Lib.hid hna
    have HNS := Lib.hid hns
    have hTr := HT.out.below ((by rw [hs1]; exact hns.low) : Below w1.heap.size w1 wo)
    have hz := hns.size
    by_cases hlt : k < t.T.acts.length
    · obtain ⟨b, off, hA, hbB, d0, d1, A', c', d2, hrt, hcc, hm⟩ := hTr.mem.acts.at_ hlt
      obtain ⟨a, ha⟩ : ∃ a, t.T.acts[k] = a := ⟨_, rfl⟩
      have HAK := Lib.hid (show t.T.acts[k]? = some a by rw [← ha]; exact List.getElem?_eq_getElem hlt)
      rw [ha] at d0 d1 d2 hrt hcc hm
      obtain ⟨eat, to_, out⟩ := a
      simp only at d0 d1 d2 hrt hcc hm
      obtain ⟨w5, hw5⟩ : ∃ w5, wo.alloc (.cells #[.int .i64 eat, .int .i64 to_, .slice A' out.length c'] 49) = w5 := ⟨_, rfl⟩
      have hb5 : Below wo.heap.size wo w5 := by rw [← hw5]; exact (Below.refl _ _).alloc (Nat.le_refl _) _
      have hs5 : w5.heap.size = wo.heap.size + 1 := by rw [← hw5]; simp
      have q0 : w5.cell? ⟨wo.heap.size, 0, none⟩ = some (.int .i64 eat) := by rw [← hw5]; simp
      have q2 : w5.cell? ⟨wo.heap.size, 2, none⟩ = some (.slice A' out.length c') := by rw [← hw5]; simp
      have HN5 := Lib.hid (hns.keep hb5)
      have HND := Lib.hid (fun W (hW : Below wo.heap.size wo W) => need_any A' c' out W (hrt.belowM hW) hm)
      have HB5 := Lib.hid hb5
      have hla : la.length ≤ 4096 := by have := hna.1; omega
      have hvb : ∀ q, va.ownBlock = some q → H + 1 + 1 + 1 ≤ q ∧ q < wo.heap.size := fun q e => World.ownsRow.lt hns.rowA q e
      have HFIN := Lib.hid (fun (n : Nat) (hn : NeedIs out n) (W w7 : World) (hW : Below w5.heap.size w5 W) (gg capg : Nat) (h1 : w7.ownsRow (H + 1 + 1 + 1) 3 1 (.slice (some ⟨gg, 0, none⟩) (la.length + 1) capg) (la.length + 1) (la.map (Value.int .i64) ++ [.int .i64 (max eat (n : Int))])) (h2 : W.grownBy w7 va.ownBlock) (HH : Nat) (h3 : va.ownBlock = some gg ∨ gg = HH) (h4 : W.heap.size ≤ HH) =>
        show NaRel H w1 t (.int .i64 ((k : Int) + 1)) (w7.setCell ⟨H + 1 + 1, 259, none⟩ (.slice (some ⟨gg, 0, none⟩) (la.length + 1) capg)) from
          ⟨k + 1, _, la ++ [max eat (n : Int)], by omega, by go_num, HNA.out.snoc HAK.out hn rfl, (HN5.out.keep hW).pushA HCL.out h1 h2 h3 h4⟩)
      have HBX := Lib.hid (fun (W : World) (hW : Below w5.heap.size w5 W) => show NBox W (H + 1 + 1) ⟨t, va, .slice none 0 0⟩ from (HN5.out.keep hW).box)
      have HBG := Lib.hid (fun (W w7 : World) (hW : Below w5.heap.size w5 W) (h2 : W.grownBy w7 va.ownBlock) => show NBox w7 (H + 1 + 1) ⟨t, va, .slice none 0 0⟩ from (HN5.out.keep hW).box.keep (h2.block _ (by have := (HN5.out.keep hW).size; omega) (fun e => by have := hvb _ e.symm; omega)))
      have HRA := Lib.hid (fun (W : World) (hW : Below w5.heap.size w5 W) => (HN5.out.keep hW).rowA)
      have HSZ := Lib.hid (fun (W : World) (hW : Below w5.heap.size w5 W) => show H + 1 + 1 + 1 ≤ W.heap.size from (HN5.out.keep hW).size)
      have HQ := Lib.hid (fun (W : World) (hW : Below w5.heap.size w5 W) => show W.cell? ⟨wo.heap.size, 0, none⟩ = some (.int .i64 eat) ∧ W.cell? ⟨wo.heap.size, 2, none⟩ = some (.slice A' out.length c') from ⟨(hW.cell (by simp only; omega)).trans q0, (hW.cell (by simp only; omega)).trans q2⟩)
      have HQ7 := Lib.hid (fun (W w7 : World) (hW : Below w5.heap.size w5 W) (h2 : W.grownBy w7 va.ownBlock) => show w7.cell? ⟨wo.heap.size, 0, none⟩ = some (.int .i64 eat) ∧ w7.cell? ⟨wo.heap.size, 2, none⟩ = some (.slice A' out.length c') from ⟨(h2.cell (HQ.out W hW).1 (fun e => absurd (hvb _ e.symm).2 (Nat.lt_irrefl _))), (h2.cell (HQ.out W hW).2 (fun e => absurd (hvb _ e.symm).2 (Nat.lt_irrefl _)))⟩)
      obtain ⟨Aa, ca, hva⟩ := own_shape hns.rowA
      subst hva
      rw [hA]
      clear hA ha hna hns hTr hrt hcc hm hb5 hvb c4B
      
      go_upto_region 5 with (fail)
      obtain ⟨we, hwe⟩ : ∃ we, w5.drew = we := ⟨_, rfl⟩
      have hB : Below w5.heap.size w5 we := by rw [← hwe]; exact (Below.refl _ _).drew
      refine wp_region_held_drew (S := fun W => W.cell? ⟨wo.heap.size, 0, none⟩ = some (.int .i64 eat) ∧ W.cell? ⟨wo.heap.size, 2, none⟩ = some (.slice A' out.length c')) (by kernel_rfl) (by rw [hwe]; exact HQ.out _ hB) (fun hHeld => ?_)
      rw [hwe] at hHeld ⊢
      refine wpAnyH_take (i := 0) (oi := { dst := some 17, op := Go.Op.fieldAddr 66 (Go.Operand.tmp 3) 1, type := 0, pos := "right.go:60", after := #[], guard := none }) (v := ?_) rfl (by kernel_rfl) (by kernel_rfl) (by kernel_rfl) (fun _ _ _ h => h) (Or.inl ⟨by rfl, ?_⟩) (by assumption) ?_
      rotate_left
      · intro w' hSw
        (try dsimp only at hSw)
        obtain ⟨z2, z3⟩ := hSw
        go_simp
        all_goals with_reducible rfl
      try simp only [Act.put, List.setIfInBounds_toArray, List.set_cons_zero, List.set_cons_succ]
      refine wpAnyH_take (i := 2) (oi := { dst := some 19, op := Go.Op.fieldAddr 49 (Go.Operand.tmp 5) 0, type := 0, pos := "right.go:60", after := #[], guard := none }) (v := ?_) rfl (by kernel_rfl) (by kernel_rfl) (by kernel_rfl) (fun _ _ _ h => h) (Or.inl ⟨by rfl, ?_⟩) (by assumption) ?_
      rotate_left
      · intro w' hSw
        (try dsimp only at hSw)
        obtain ⟨z2, z3⟩ := hSw
        go_simp
        all_goals with_reducible rfl
      try simp only [Act.put, List.setIfInBounds_toArray, List.set_cons_zero, List.set_cons_succ]
      refine wpAnyH_take (i := 3) (oi := { dst := some 20, op := Go.Op.load 3 (Go.Operand.tmp 19), type := 3, pos := "right.go:60", after := #[{ on := 2, ground := Go.Ground.data }], guard := none }) (v := ?_) rfl (by kernel_rfl) (by kernel_rfl) (by kernel_rfl) (fun _ _ _ h => h) (Or.inl ⟨by rfl, ?_⟩) (by assumption) ?_
      rotate_left
      · intro w' hSw
        (try dsimp only at hSw)
        obtain ⟨z2, z3⟩ := hSw
        go_simp
        all_goals with_reducible rfl
      try simp only [Act.put, List.setIfInBounds_toArray, List.set_cons_zero, List.set_cons_succ]
      refine wpAnyH_take (i := 4) (oi := { dst := some 21, op := Go.Op.fieldAddr 49 (Go.Operand.tmp 5) 2, type := 0, pos := "right.go:60", after := #[], guard := none }) (v := ?_) rfl (by kernel_rfl) (by kernel_rfl) (by kernel_rfl) (fun _ _ _ h => h) (Or.inl ⟨by rfl, ?_⟩) (by assumption) ?_
      rotate_left
      · intro w' hSw
        (try dsimp only at hSw)
        obtain ⟨z2, z3⟩ := hSw
        go_simp
        all_goals with_reducible rfl
      try simp only [Act.put, List.setIfInBounds_toArray, List.set_cons_zero, List.set_cons_succ]
      refine wpAnyH_take (i := 5) (oi := { dst := some 22, op := Go.Op.load 47 (Go.Operand.tmp 21), type := 47, pos := "right.go:60", after := #[{ on := 4, ground := Go.Ground.data }], guard := none }) (v := ?_) rfl (by kernel_rfl) (by kernel_rfl) (by kernel_rfl) (fun _ _ _ h => h) (Or.inl ⟨by rfl, ?_⟩) (by assumption) ?_
      rotate_left
      · intro w' hSw
        (try dsimp only at hSw)
        obtain ⟨z2, z3⟩ := hSw
        go_simp
        all_goals with_reducible rfl
      try simp only [Act.put, List.setIfInBounds_toArray, List.set_cons_zero, List.set_cons_succ]
      refine wpAnyH_ready (rs := [1, 6]) (by kernel_rfl) (by simp) ?_
      refine (AllReadyH.cons (o := { dst := some 18, op := Go.Op.load 43 (Go.Operand.tmp 17), type := 43, pos := "right.go:60", after := #[{ on := 0, ground := Go.Ground.data }], guard := none }) rfl (fun K hK => ?_) (AllReadyH.cons (o := { dst := some 23, op := Go.Op.call { callee := Go.Callee.value (Go.Operand.func 43), args := #[Go.Operand.tmp 22], argTypes := #[47] }, type := 3, pos := "right.go:60", after := #[{ on := 5, ground := Go.Ground.data }], guard := none }) rfl (fun K hK => ?_) AllReadyH.nil))
      focus
        have p5 := (HBX.out _ hB).ca HCL.out
        simp only at p5
        go_simp
        clear p5
        refine hK.out _ _ ?_ (fun hHeld => ?_)
        · exact HQ.out _ hB
        clear hK K
        try simp only [Act.put, List.setIfInBounds_toArray, List.set_cons_zero, List.set_cons_succ]
        refine wpAnyH_ready (rs := [6]) (by kernel_rfl) (by simp) ?_
        refine (AllReadyH.cons (o := { dst := some 23, op := Go.Op.call { callee := Go.Callee.value (Go.Operand.func 43), args := #[Go.Operand.tmp 22], argTypes := #[47] }, type := 3, pos := "right.go:60", after := #[{ on := 5, ground := Go.Ground.data }], guard := none }) rfl (fun K hK => ?_) AllReadyH.nil)
        go_simp
        go_wp2_with (go_at_call 43; (with_reducible refine (HND.out _ (HB5.out.trans (hB.mono HB5.out.size))).mono ?_); rintro e5 wn ⟨n, hn, rfl, hbn⟩)
        have hB := hB.trans (hbn.mono hB.size)
        clear hbn
        refine hK.out _ _ ?_ (fun hHeld => ?_)
        · exact HQ.out _ hB
        clear hK K
        try simp only [Act.put, List.setIfInBounds_toArray, List.set_cons_zero, List.set_cons_succ]
        refine wpAnyH_take (i := 7) (oi := { dst := some 24, op := Go.Op.call { callee := Go.Callee.builtin Go.Builtin.max, args := #[Go.Operand.tmp 20, Go.Operand.tmp 23], argTypes := #[3, 3] }, type := 3, pos := "right.go:60", after := #[{ on := 3, ground := Go.Ground.data }, { on := 6, ground := Go.Ground.data }], guard := none }) (v := ?_) rfl (by kernel_rfl) (by kernel_rfl) (by kernel_rfl) (fun _ _ _ h => h) (Or.inl ⟨by rfl, ?_⟩) (by assumption) ?_
        rotate_left
        · intro w' hSw
          (try dsimp only at hSw)
          obtain ⟨z2, z3⟩ := hSw
          go_simp
          all_goals with_reducible rfl
        try simp only [Act.put, List.setIfInBounds_toArray, List.set_cons_zero, List.set_cons_succ]
        refine wpAnyH_ready (rs := [8]) (by kernel_rfl) (by simp) ?_
        refine (AllReadyH.cons (o := { dst := some 25, op := Go.Op.buildSlice 43 1 #[(0, Go.Operand.tmp 24)], type := 43, pos := "right.go:60", after := #[{ on := 7, ground := Go.Ground.data }], guard := none }) rfl (fun K hK => ?_) AllReadyH.nil)
        obtain ⟨ws, hws, hqs, hbS, hls⟩ := new_int wn (max eat (n : Int))
        go_simp
        try rw [max_if]
        try rw [hws]
        have hBn := hB
        have hB := hB.trans (hbS.mono hB.size)
        clear hbS
        refine hK.out _ _ ?_ (fun hHeld => ?_)
        · exact HQ.out _ hB
        clear hK K
        try simp only [Act.put, List.setIfInBounds_toArray, List.set_cons_zero, List.set_cons_succ]
        refine wpAnyH_ready (rs := [9]) (by kernel_rfl) (by simp) ?_
        refine (AllReadyH.cons (o := { dst := some 26, op := Go.Op.call { callee := Go.Callee.builtin Go.Builtin.append, args := #[Go.Operand.tmp 18, Go.Operand.tmp 25], argTypes := #[43, 43] }, type := 43, pos := "right.go:60", after := #[{ on := 1, ground := Go.Ground.data }, { on := 8, ground := Go.Ground.data }, { on := 6, ground := Go.Ground.chain }], guard := none }) rfl (fun K hK => ?_) AllReadyH.nil)
        have hx := HSZ.out _ hB
        refine wp_append_lies ws _ _ _ rfl (H + 1 + 1 + 1) 3 i0 _ 1 8 Try.underlying43 hi0 hz0 hz1 hz2 rfl (by omega) (.slice Aa la.length ca) la.length (la.map (Value.int .i64)) rfl (HRA.out ws hB) ⟨wn.heap.size, 0, none⟩ 1 1 [.int .i64 (max eat (n : Int))] rfl rfl (World.news_of_block (cs := #[.int .i64 (max eat (n : Int))]) (t := 3) (fr := (0, 0)) hqs) (by simp [Value.oneCell']) (by omega) (by simp only [maxLen]; omega) (by omega) hx ws.heap.size rfl ?_
        intro gg capg w7 hown7 hg7 hat7 hlt7
        have hbq := HBG.out _ w7 hB hg7
        have p7 := hbq.ca HCL.out
        have f7 := hbq.frozen 259
        simp only at p7
        refine hK.out _ _ ?_ (fun hHeld => ?_)
        · exact HQ7.out _ _ hB hg7
        clear hK K
        try simp only [Act.put, List.setIfInBounds_toArray, List.set_cons_zero, List.set_cons_succ]
        refine wpAnyH_take (i := 10) (oi := { dst := some 27, op := Go.Op.fieldAddr 66 (Go.Operand.tmp 3) 1, type := 0, pos := "right.go:60", after := #[{ on := 0, ground := Go.Ground.phase }, { on := 1, ground := Go.Ground.phase }, { on := 2, ground := Go.Ground.phase }, { on := 3, ground := Go.Ground.phase }, { on := 4, ground := Go.Ground.phase }, { on := 5, ground := Go.Ground.phase }, { on := 6, ground := Go.Ground.phase }, { on := 7, ground := Go.Ground.phase }, { on := 8, ground := Go.Ground.phase }, { on := 9, ground := Go.Ground.phase }], guard := none }) (v := ?_) rfl (by kernel_rfl) (by kernel_rfl) (by kernel_rfl) (fun _ _ _ h => h) (Or.inl ⟨by rfl, ?_⟩) (by assumption) ?_
        rotate_left
        · intro w' hSw
          (try dsimp only at hSw)
          obtain ⟨z2, z3⟩ := hSw
          go_simp
          all_goals with_reducible rfl
        try simp only [Act.put, List.setIfInBounds_toArray, List.set_cons_zero, List.set_cons_succ]
        refine wpAnyH_ready (rs := [11]) (by kernel_rfl) (by simp) ?_
        refine (AllReadyH.cons (o := { dst := none, op := Go.Op.store 43 (Go.Operand.tmp 27) (Go.Operand.tmp 26), type := 0, pos := "right.go:60", after := #[{ on := 10, ground := Go.Ground.data }, { on := 9, ground := Go.Ground.data }, { on := 9, ground := Go.Ground.chain }, { on := 0, ground := Go.Ground.phase }, { on := 1, ground := Go.Ground.phase }, { on := 2, ground := Go.Ground.phase }, { on := 3, ground := Go.Ground.phase }, { on := 4, ground := Go.Ground.phase }, { on := 5, ground := Go.Ground.phase }, { on := 6, ground := Go.Ground.phase }, { on := 7, ground := Go.Ground.phase }, { on := 8, ground := Go.Ground.phase }, { on := 9, ground := Go.Ground.phase }], guard := none }) rfl (fun K hK => ?_) AllReadyH.nil)
        have HQ8 := HQ7.out _ _ hB hg7
        have HREL := Lib.hid (HFIN.out n hn ws w7 hB gg capg hown7 hg7 _ hat7 (Nat.le_refl _))
        clear hown7 hg7 hat7 hlt7
        go_simp
        obtain ⟨w8, hw8⟩ : ∃ w8, w7.setCell ⟨H + 1 + 1, 259, none⟩ (.slice (some ⟨gg, 0, none⟩) (la.length + 1) capg) = w8 := ⟨_, rfl⟩
        have HQ8 := Lib.hid (show w8.cell? ⟨wo.heap.size, 0, none⟩ = some (.int .i64 eat) ∧ w8.cell? ⟨wo.heap.size, 2, none⟩ = some (.slice A' out.length c') from by rw [← hw8]; exact ⟨(World.cell?_setCell_other _ _ _ _ (fun q => by injection q with q; omega)).trans HQ8.1, (World.cell?_setCell_other _ _ _ _ (fun q => by injection q with q; omega)).trans HQ8.2⟩)
        rw [hw8] at HREL ⊢
        refine hK.out _ _ ?_ (fun hHeld => ?_)
        · exact HQ8.out
        clear hK K
        try simp only [Act.put, List.setIfInBounds_toArray, List.set_cons_zero, List.set_cons_succ]
        obtain ⟨wl, rfl⟩ : ∃ wl : World, wl = w8 := ⟨_, rfl⟩
      rotate_left 1
      focus
        go_simp
        go_wp2_with (go_at_call 43; (with_reducible refine (HND.out _ (HB5.out.trans (hB.mono HB5.out.size))).mono ?_); rintro e5 wn ⟨n, hn, rfl, hbn⟩)
        have hB := hB.trans (hbn.mono hB.size)
        clear hbn
        refine hK.out _ _ ?_ (fun hHeld => ?_)
        · exact HQ.out _ hB
        clear hK K
        try simp only [Act.put, List.setIfInBounds_toArray, List.set_cons_zero, List.set_cons_succ]
        refine wpAnyH_take (i := 7) (oi := { dst := some 24, op := Go.Op.call { callee := Go.Callee.builtin Go.Builtin.max, args := #[Go.Operand.tmp 20, Go.Operand.tmp 23], argTypes := #[3, 3] }, type := 3, pos := "right.go:60", after := #[{ on := 3, ground := Go.Ground.data }, { on := 6, ground := Go.Ground.data }], guard := none }) (v := ?_) rfl (by kernel_rfl) (by kernel_rfl) (by kernel_rfl) (fun _ _ _ h => h) (Or.inl ⟨by rfl, ?_⟩) (by assumption) ?_
        rotate_left
        · intro w' hSw
          (try dsimp only at hSw)
          obtain ⟨z2, z3⟩ := hSw
          go_simp
          all_goals with_reducible rfl
        try simp only [Act.put, List.setIfInBounds_toArray, List.set_cons_zero, List.set_cons_succ]
        refine wpAnyH_ready (rs := [1, 8]) (by kernel_rfl) (by simp) ?_
        refine (AllReadyH.cons (o := { dst := some 18, op := Go.Op.load 43 (Go.Operand.tmp 17), type := 43, pos := "right.go:60", after := #[{ on := 0, ground := Go.Ground.data }], guard := none }) rfl (fun K hK => ?_) (AllReadyH.cons (o := { dst := some 25, op := Go.Op.buildSlice 43 1 #[(0, Go.Operand.tmp 24)], type := 43, pos := "right.go:60", after := #[{ on := 7, ground := Go.Ground.data }], guard := none }) rfl (fun K hK => ?_) AllReadyH.nil))
        focus
          have p5 := (HBX.out _ hB).ca HCL.out
          simp only at p5
          go_simp
          clear p5
          refine hK.out _ _ ?_ (fun hHeld => ?_)
          · exact HQ.out _ hB
          clear hK K
          try simp only [Act.put, List.setIfInBounds_toArray, List.set_cons_zero, List.set_cons_succ]
          refine wpAnyH_ready (rs := [8]) (by kernel_rfl) (by simp) ?_
          refine (AllReadyH.cons (o := { dst := some 25, op := Go.Op.buildSlice 43 1 #[(0, Go.Operand.tmp 24)], type := 43, pos := "right.go:60", after := #[{ on := 7, ground := Go.Ground.data }], guard := none }) rfl (fun K hK => ?_) AllReadyH.nil)
          obtain ⟨ws, hws, hqs, hbS, hls⟩ := new_int wn (max eat (n : Int))
          go_simp
          try rw [max_if]
          try rw [hws]
          have hBn := hB
          have hB := hB.trans (hbS.mono hB.size)
          clear hbS
          refine hK.out _ _ ?_ (fun hHeld => ?_)
          · exact HQ.out _ hB
          clear hK K
          try simp only [Act.put, List.setIfInBounds_toArray, List.set_cons_zero, List.set_cons_succ]
          refine wpAnyH_ready (rs := [9]) (by kernel_rfl) (by simp) ?_
          refine (AllReadyH.cons (o := { dst := some 26, op := Go.Op.call { callee := Go.Callee.builtin Go.Builtin.append, args := #[Go.Operand.tmp 18, Go.Operand.tmp 25], argTypes := #[43, 43] }, type := 43, pos := "right.go:60", after := #[{ on := 1, ground := Go.Ground.data }, { on := 8, ground := Go.Ground.data }, { on := 6, ground := Go.Ground.chain }], guard := none }) rfl (fun K hK => ?_) AllReadyH.nil)
          have hx := HSZ.out _ hB
          refine wp_append_lies ws _ _ _ rfl (H + 1 + 1 + 1) 3 i0 _ 1 8 Try.underlying43 hi0 hz0 hz1 hz2 rfl (by omega) (.slice Aa la.length ca) la.length (la.map (Value.int .i64)) rfl (HRA.out ws hB) ⟨wn.heap.size, 0, none⟩ 1 1 [.int .i64 (max eat (n : Int))] rfl rfl (World.news_of_block (cs := #[.int .i64 (max eat (n : Int))]) (t := 3) (fr := (0, 0)) hqs) (by simp [Value.oneCell']) (by omega) (by simp only [maxLen]; omega) (by omega) hx ws.heap.size rfl ?_
          intro gg capg w7 hown7 hg7 hat7 hlt7
          have hbq := HBG.out _ w7 hB hg7
          have p7 := hbq.ca HCL.out
          have f7 := hbq.frozen 259
          simp only at p7
          refine hK.out _ _ ?_ (fun hHeld => ?_)
          · exact HQ7.out _ _ hB hg7
          clear hK K
          try simp only [Act.put, List.setIfInBounds_toArray, List.set_cons_zero, List.set_cons_succ]
          refine wpAnyH_take (i := 10) (oi := { dst := some 27, op := Go.Op.fieldAddr 66 (Go.Operand.tmp 3) 1, type := 0, pos := "right.go:60", after := #[{ on := 0, ground := Go.Ground.phase }, { on := 1, ground := Go.Ground.phase }, { on := 2, ground := Go.Ground.phase }, { on := 3, ground := Go.Ground.phase }, { on := 4, ground := Go.Ground.phase }, { on := 5, ground := Go.Ground.phase }, { on := 6, ground := Go.Ground.phase }, { on := 7, ground := Go.Ground.phase }, { on := 8, ground := Go.Ground.phase }, { on := 9, ground := Go.Ground.phase }], guard := none }) (v := ?_) rfl (by kernel_rfl) (by kernel_rfl) (by kernel_rfl) (fun _ _ _ h => h) (Or.inl ⟨by rfl, ?_⟩) (by assumption) ?_
          rotate_left
          · intro w' hSw
            (try dsimp only at hSw)
            obtain ⟨z2, z3⟩ := hSw
            go_simp
            all_goals with_reducible rfl
          try simp only [Act.put, List.setIfInBounds_toArray, List.set_cons_zero, List.set_cons_succ]
          refine wpAnyH_ready (rs := [11]) (by kernel_rfl) (by simp) ?_
          refine (AllReadyH.cons (o := { dst := none, op := Go.Op.store 43 (Go.Operand.tmp 27) (Go.Operand.tmp 26), type := 0, pos := "right.go:60", after := #[{ on := 10, ground := Go.Ground.data }, { on := 9, ground := Go.Ground.data }, { on := 9, ground := Go.Ground.chain }, { on := 0, ground := Go.Ground.phase }, { on := 1, ground := Go.Ground.phase }, { on := 2, ground := Go.Ground.phase }, { on := 3, ground := Go.Ground.phase }, { on := 4, ground := Go.Ground.phase }, { on := 5, ground := Go.Ground.phase }, { on := 6, ground := Go.Ground.phase }, { on := 7, ground := Go.Ground.phase }, { on := 8, ground := Go.Ground.phase }, { on := 9, ground := Go.Ground.phase }], guard := none }) rfl (fun K hK => ?_) AllReadyH.nil)
          have HQ8 := HQ7.out _ _ hB hg7
          have HREL := Lib.hid (HFIN.out n hn ws w7 hB gg capg hown7 hg7 _ hat7 (Nat.le_refl _))
          clear hown7 hg7 hat7 hlt7
          go_simp
          obtain ⟨w8, hw8⟩ : ∃ w8, w7.setCell ⟨H + 1 + 1, 259, none⟩ (.slice (some ⟨gg, 0, none⟩) (la.length + 1) capg) = w8 := ⟨_, rfl⟩
          have HQ8 := Lib.hid (show w8.cell? ⟨wo.heap.size, 0, none⟩ = some (.int .i64 eat) ∧ w8.cell? ⟨wo.heap.size, 2, none⟩ = some (.slice A' out.length c') from by rw [← hw8]; exact ⟨(World.cell?_setCell_other _ _ _ _ (fun q => by injection q with q; omega)).trans HQ8.1, (World.cell?_setCell_other _ _ _ _ (fun q => by injection q with q; omega)).trans HQ8.2⟩)
          rw [hw8] at HREL ⊢
          refine hK.out _ _ ?_ (fun hHeld => ?_)
          · exact HQ8.out
          clear hK K
          try simp only [Act.put, List.setIfInBounds_toArray, List.set_cons_zero, List.set_cons_succ]
          obtain ⟨wl, rfl⟩ : ∃ wl : World, wl = w8 := ⟨_, rfl⟩
        rotate_left 1
        focus
          obtain ⟨ws, hws, hqs, hbS, hls⟩ := new_int wn (max eat (n : Int))
          go_simp
          try rw [max_if]
          try rw [hws]
          have hBn := hB
          have hB := hB.trans (hbS.mono hB.size)
          clear hbS
          refine hK.out _ _ ?_ (fun hHeld => ?_)
          · exact HQ.out _ hB
          clear hK K
          try simp only [Act.put, List.setIfInBounds_toArray, List.set_cons_zero, List.set_cons_succ]
          refine wpAnyH_ready (rs := [1]) (by kernel_rfl) (by simp) ?_
          refine (AllReadyH.cons (o := { dst := some 18, op := Go.Op.load 43 (Go.Operand.tmp 17), type := 43, pos := "right.go:60", after := #[{ on := 0, ground := Go.Ground.data }], guard := none }) rfl (fun K hK => ?_) AllReadyH.nil)
          have p5 := (HBX.out _ hB).ca HCL.out
          simp only at p5
          go_simp
          clear p5
          refine hK.out _ _ ?_ (fun hHeld => ?_)
          · exact HQ.out _ hB
          clear hK K
          try simp only [Act.put, List.setIfInBounds_toArray, List.set_cons_zero, List.set_cons_succ]
          refine wpAnyH_ready (rs := [9]) (by kernel_rfl) (by simp) ?_
          refine (AllReadyH.cons (o := { dst := some 26, op := Go.Op.call { callee := Go.Callee.builtin Go.Builtin.append, args := #[Go.Operand.tmp 18, Go.Operand.tmp 25], argTypes := #[43, 43] }, type := 43, pos := "right.go:60", after := #[{ on := 1, ground := Go.Ground.data }, { on := 8, ground := Go.Ground.data }, { on := 6, ground := Go.Ground.chain }], guard := none }) rfl (fun K hK => ?_) AllReadyH.nil)
          have hx := HSZ.out _ hB
          refine wp_append_lies ws _ _ _ rfl (H + 1 + 1 + 1) 3 i0 _ 1 8 Try.underlying43 hi0 hz0 hz1 hz2 rfl (by omega) (.slice Aa la.length ca) la.length (la.map (Value.int .i64)) rfl (HRA.out ws hB) ⟨wn.heap.size, 0, none⟩ 1 1 [.int .i64 (max eat (n : Int))] rfl rfl (World.news_of_block (cs := #[.int .i64 (max eat (n : Int))]) (t := 3) (fr := (0, 0)) hqs) (by simp [Value.oneCell']) (by omega) (by simp only [maxLen]; omega) (by omega) hx ws.heap.size rfl ?_
          intro gg capg w7 hown7 hg7 hat7 hlt7
          have hbq := HBG.out _ w7 hB hg7
          have p7 := hbq.ca HCL.out
          have f7 := hbq.frozen 259
          simp only at p7
          refine hK.out _ _ ?_ (fun hHeld => ?_)
          · exact HQ7.out _ _ hB hg7
          clear hK K
          try simp only [Act.put, List.setIfInBounds_toArray, List.set_cons_zero, List.set_cons_succ]
          refine wpAnyH_take (i := 10) (oi := { dst := some 27, op := Go.Op.fieldAddr 66 (Go.Operand.tmp 3) 1, type := 0, pos := "right.go:60", after := #[{ on := 0, ground := Go.Ground.phase }, { on := 1, ground := Go.Ground.phase }, { on := 2, ground := Go.Ground.phase }, { on := 3, ground := Go.Ground.phase }, { on := 4, ground := Go.Ground.phase }, { on := 5, ground := Go.Ground.phase }, { on := 6, ground := Go.Ground.phase }, { on := 7, ground := Go.Ground.phase }, { on := 8, ground := Go.Ground.phase }, { on := 9, ground := Go.Ground.phase }], guard := none }) (v := ?_) rfl (by kernel_rfl) (by kernel_rfl) (by kernel_rfl) (fun _ _ _ h => h) (Or.inl ⟨by rfl, ?_⟩) (by assumption) ?_
          rotate_left
          · intro w' hSw
            (try dsimp only at hSw)
            obtain ⟨z2, z3⟩ := hSw
            go_simp
            all_goals with_reducible rfl
          try simp only [Act.put, List.setIfInBounds_toArray, List.set_cons_zero, List.set_cons_succ]
          refine wpAnyH_ready (rs := [11]) (by kernel_rfl) (by simp) ?_
          refine (AllReadyH.cons (o := { dst := none, op := Go.Op.store 43 (Go.Operand.tmp 27) (Go.Operand.tmp 26), type := 0, pos := "right.go:60", after := #[{ on := 10, ground := Go.Ground.data }, { on := 9, ground := Go.Ground.data }, { on := 9, ground := Go.Ground.chain }, { on := 0, ground := Go.Ground.phase }, { on := 1, ground := Go.Ground.phase }, { on := 2, ground := Go.Ground.phase }, { on := 3, ground := Go.Ground.phase }, { on := 4, ground := Go.Ground.phase }, { on := 5, ground := Go.Ground.phase }, { on := 6, ground := Go.Ground.phase }, { on := 7, ground := Go.Ground.phase }, { on := 8, ground := Go.Ground.phase }, { on := 9, ground := Go.Ground.phase }], guard := none }) rfl (fun K hK => ?_) AllReadyH.nil)
          have HQ8 := HQ7.out _ _ hB hg7
          have HREL := Lib.hid (HFIN.out n hn ws w7 hB gg capg hown7 hg7 _ hat7 (Nat.le_refl _))
          clear hown7 hg7 hat7 hlt7
          go_simp
          obtain ⟨w8, hw8⟩ : ∃ w8, w7.setCell ⟨H + 1 + 1, 259, none⟩ (.slice (some ⟨gg, 0, none⟩) (la.length + 1) capg) = w8 := ⟨_, rfl⟩
          have HQ8 := Lib.hid (show w8.cell? ⟨wo.heap.size, 0, none⟩ = some (.int .i64 eat) ∧ w8.cell? ⟨wo.heap.size, 2, none⟩ = some (.slice A' out.length c') from by rw [← hw8]; exact ⟨(World.cell?_setCell_other _ _ _ _ (fun q => by injection q with q; omega)).trans HQ8.1, (World.cell?_setCell_other _ _ _ _ (fun q => by injection q with q; omega)).trans HQ8.2⟩)
          rw [hw8] at HREL ⊢
          refine hK.out _ _ ?_ (fun hHeld => ?_)
          · exact HQ8.out
          clear hK K
          try simp only [Act.put, List.setIfInBounds_toArray, List.set_cons_zero, List.set_cons_succ]
          obtain ⟨wl, rfl⟩ : ∃ wl : World, wl = w8 := ⟨_, rfl⟩
      all_goals
        refine wpAnyH_done (by kernel_rfl) ?_ _
        go_wp2_with (fail)
        go_roundw
      all_goals first
        | exact HREL.out
        | (simp [intOf]; done)
        | (simp [intOf]; omega)
    · have HNF := Lib.hid (show NeedA t.T la t.T.acts.length from (show k = t.T.acts.length by omega) ▸ hna)
      have HNS1 := Lib.hid hns
      have c4C := hTr.cC
      have HNA1 := Lib.hid hns
      obtain ⟨wA, hwA⟩ : ∃ wA : World, wA = wo := ⟨_, rfl⟩
      subst hwA
      clear hna hns hTr c4B
      go_wp2_with (fail)
      go_loopw [32] (fun iv wr => NeRel2 H w1 t va la iv wr) (fun i _ => t.T.ends.length - (intOf i).toNat)
      case atStart => exact ⟨0, _, [], Nat.zero_le _, rfl, ⟨rfl, fun j a hj => absurd hj (by omega)⟩, HNA1.out⟩
      case round =>
        obtain ⟨k, ve, le, hk, rfl, hna, hns⟩ := hrel
        obtain ⟨wo, rfl⟩ : ∃ wo : World, wo = wr := ⟨_, rfl⟩
        have HNA := Lib.hid hna
        have HNS := Lib.hid hns
        have hTr := HT.out.below ((by rw [hs1]; exact hns.low) : Below w1.heap.size w1 wo)
        have hz := hns.size
        by_cases hlt : k < t.T.ends.length
        · obtain ⟨b, off, hA, hbB, A', c', d2, hrt, hcc, hm⟩ := hTr.mem.ends.at_ hlt
          obtain ⟨out, ha⟩ : ∃ a, t.T.ends[k] = a := ⟨_, rfl⟩
          have HAK := Lib.hid (show t.T.ends[k]? = some out by rw [← ha]; exact List.getElem?_eq_getElem hlt)
          rw [ha] at d2 hrt hcc hm
          obtain ⟨w5, hw5⟩ : ∃ w5 : World, wo = w5 := ⟨_, rfl⟩
          have hb5 : Below wo.heap.size wo w5 := by rw [← hw5]; exact Below.refl _ _
          have hs5 : w5.heap.size = wo.heap.size := by rw [← hw5]
          have HN5 := Lib.hid (hns.keep hb5)
          have HND := Lib.hid (fun W (hW : Below wo.heap.size wo W) => need_any A' c' out W (hrt.belowM hW) hm)
          have HB5 := Lib.hid hb5
          have hla : le.length ≤ 4096 := by have := hna.1; omega
          have hvb : ∀ q, ve.ownBlock = some q → H + 1 + 1 + 1 ≤ q ∧ q < wo.heap.size := fun q e => World.ownsRow.lt hns.rowE q e
          have HFIN := Lib.hid (fun (n : Nat) (hn : NeedIs out n) (W w7 : World) (hW : Below w5.heap.size w5 W) (gg capg : Nat) (h1 : w7.ownsRow (H + 1 + 1 + 1) 3 1 (.slice (some ⟨gg, 0, none⟩) (le.length + 1) capg) (le.length + 1) (le.map (Value.int .i64) ++ [.int .i64 ((n : Int))])) (h2 : W.grownBy w7 ve.ownBlock) (HH : Nat) (h3 : ve.ownBlock = some gg ∨ gg = HH) (h4 : W.heap.size ≤ HH) =>
            show NeRel2 H w1 t va la (.int .i64 ((k : Int) + 1)) (w7.setCell ⟨H + 1 + 1, 260, none⟩ (.slice (some ⟨gg, 0, none⟩) (le.length + 1) capg)) from
              ⟨k + 1, _, le ++ [(n : Int)], by omega, by go_num, HNA.out.snoc HAK.out hn, (HN5.out.keep hW).pushE HCL.out h1 h2 h3 h4⟩)
          have HBX := Lib.hid (fun (W : World) (hW : Below w5.heap.size w5 W) => show NBox W (H + 1 + 1) ⟨t, va, ve⟩ from (HN5.out.keep hW).box)
          have HBG := Lib.hid (fun (W w7 : World) (hW : Below w5.heap.size w5 W) (h2 : W.grownBy w7 ve.ownBlock) => show NBox w7 (H + 1 + 1) ⟨t, va, ve⟩ from (HN5.out.keep hW).box.keep (h2.block _ (by have := (HN5.out.keep hW).size; omega) (fun e => by have := hvb _ e.symm; omega)))
          have HRA := Lib.hid (fun (W : World) (hW : Below w5.heap.size w5 W) => (HN5.out.keep hW).rowE)
          have HSZ := Lib.hid (fun (W : World) (hW : Below w5.heap.size w5 W) => show H + 1 + 1 + 1 ≤ W.heap.size from (HN5.out.keep hW).size)
          have HQ := Lib.hid (fun (W : World) (hW : Below w5.heap.size w5 W) => show True from trivial)
          have HQ7 := Lib.hid (fun (W w7 : World) (hW : Below w5.heap.size w5 W) (h2 : W.grownBy w7 ve.ownBlock) => show True from trivial)
          obtain ⟨Aa, ca, hva⟩ := own_shape hns.rowE
          subst hva
          rw [hA]
          clear hA ha hna hns hTr hrt hcc hm hb5 hvb
          subst hw5
          go_upto_region 10 with (fail)
          obtain ⟨we, hwe⟩ : ∃ we, wo.drew = we := ⟨_, rfl⟩
          have hB : Below wo.heap.size wo we := by rw [← hwe]; exact (Below.refl _ _).drew
          refine wp_region_held_drew (S := fun _ => True) (by kernel_rfl) trivial (fun hHeld => ?_)
          rw [hwe]
          refine wpAnyH_take (i := 0) (oi := { dst := some 36, op := Go.Op.fieldAddr 66 (Go.Operand.tmp 3) 2, type := 0, pos := "right.go:63", after := #[], guard := none }) (v := ?_) rfl (by kernel_rfl) (by kernel_rfl) (by kernel_rfl) (fun _ _ _ h => h) (Or.inl ⟨by rfl, ?_⟩) (by assumption) ?_
          rotate_left
          · intro w' hSw
            (try dsimp only at hSw)
            go_simp
            all_goals with_reducible rfl
          try simp only [Act.put, List.setIfInBounds_toArray, List.set_cons_zero, List.set_cons_succ]
          refine wpAnyH_take (i := 2) (oi := { dst := some 38, op := Go.Op.move (Go.Operand.tmp 7), type := 47, pos := "right.go:63", after := #[], guard := none }) (v := ?_) rfl (by kernel_rfl) (by kernel_rfl) (by kernel_rfl) (fun _ _ _ h => h) (Or.inl ⟨by rfl, ?_⟩) (by assumption) ?_
          rotate_left
          · intro w' hSw
            (try dsimp only at hSw)
            go_simp
            all_goals with_reducible rfl
          try simp only [Act.put, List.setIfInBounds_toArray, List.set_cons_zero, List.set_cons_succ]
          refine wpAnyH_ready (rs := [1, 3]) (by kernel_rfl) (by simp) ?_
          refine (AllReadyH.cons (o := { dst := some 37, op := Go.Op.load 43 (Go.Operand.tmp 36), type := 43, pos := "right.go:63", after := #[{ on := 0, ground := Go.Ground.data }], guard := none }) rfl (fun K hK => ?_) (AllReadyH.cons (o := { dst := some 39, op := Go.Op.call { callee := Go.Callee.value (Go.Operand.func 43), args := #[Go.Operand.tmp 38], argTypes := #[47] }, type := 3, pos := "right.go:63", after := #[{ on := 2, ground := Go.Ground.data }], guard := none }) rfl (fun K hK => ?_) AllReadyH.nil))
          focus
            have p5 := (HBX.out _ hB).ce HCL.out
            simp only at p5
            go_simp
            clear p5
            refine hK.out _ _ ?_ (fun hHeld => ?_)
            · trivial
            clear hK K
            try simp only [Act.put, List.setIfInBounds_toArray, List.set_cons_zero, List.set_cons_succ]
            refine wpAnyH_ready (rs := [3]) (by kernel_rfl) (by simp) ?_
            refine (AllReadyH.cons (o := { dst := some 39, op := Go.Op.call { callee := Go.Callee.value (Go.Operand.func 43), args := #[Go.Operand.tmp 38], argTypes := #[47] }, type := 3, pos := "right.go:63", after := #[{ on := 2, ground := Go.Ground.data }], guard := none }) rfl (fun K hK => ?_) AllReadyH.nil)
            go_simp
            go_wp2_with (go_at_call 43; (with_reducible refine (HND.out _ (hB)).mono ?_); rintro e5 wn ⟨n, hn, rfl, hbn⟩)
            have hB := hB.trans (hbn.mono hB.size)
            clear hbn
            refine hK.out _ _ ?_ (fun hHeld => ?_)
            · trivial
            clear hK K
            try simp only [Act.put, List.setIfInBounds_toArray, List.set_cons_zero, List.set_cons_succ]
            refine wpAnyH_ready (rs := [4]) (by kernel_rfl) (by simp) ?_
            refine (AllReadyH.cons (o := { dst := some 40, op := Go.Op.buildSlice 43 1 #[(0, Go.Operand.tmp 39)], type := 43, pos := "right.go:63", after := #[{ on := 3, ground := Go.Ground.data }], guard := none }) rfl (fun K hK => ?_) AllReadyH.nil)
            obtain ⟨ws, hws, hqs, hbS, hls⟩ := new_int wn ((n : Int))
            go_simp
            skip
            try rw [hws]
            have hBn := hB
            have hB := hB.trans (hbS.mono hB.size)
            clear hbS
            refine hK.out _ _ ?_ (fun hHeld => ?_)
            · trivial
            clear hK K
            try simp only [Act.put, List.setIfInBounds_toArray, List.set_cons_zero, List.set_cons_succ]
            refine wpAnyH_ready (rs := [5]) (by kernel_rfl) (by simp) ?_
            refine (AllReadyH.cons (o := { dst := some 41, op := Go.Op.call { callee := Go.Callee.builtin Go.Builtin.append, args := #[Go.Operand.tmp 37, Go.Operand.tmp 40], argTypes := #[43, 43] }, type := 43, pos := "right.go:63", after := #[{ on := 1, ground := Go.Ground.data }, { on := 4, ground := Go.Ground.data }, { on := 3, ground := Go.Ground.chain }], guard := none }) rfl (fun K hK => ?_) AllReadyH.nil)
            have hx := HSZ.out _ hB
            refine wp_append_lies ws _ _ _ rfl (H + 1 + 1 + 1) 3 i0 _ 1 8 Try.underlying43 hi0 hz0 hz1 hz2 rfl (by omega) (.slice Aa le.length ca) le.length (le.map (Value.int .i64)) rfl (HRA.out ws hB) ⟨wn.heap.size, 0, none⟩ 1 1 [.int .i64 ((n : Int))] rfl rfl (World.news_of_block (cs := #[.int .i64 ((n : Int))]) (t := 3) (fr := (0, 0)) hqs) (by simp [Value.oneCell']) (by omega) (by simp only [maxLen]; omega) (by omega) hx ws.heap.size rfl ?_
            intro gg capg w7 hown7 hg7 hat7 hlt7
            have hbq := HBG.out _ w7 hB hg7
            have p7 := hbq.ce HCL.out
            have f7 := hbq.frozen 260
            simp only at p7
            refine hK.out _ _ ?_ (fun hHeld => ?_)
            · trivial
            clear hK K
            try simp only [Act.put, List.setIfInBounds_toArray, List.set_cons_zero, List.set_cons_succ]
            refine wpAnyH_take (i := 6) (oi := { dst := some 42, op := Go.Op.fieldAddr 66 (Go.Operand.tmp 3) 2, type := 0, pos := "right.go:63", after := #[{ on := 0, ground := Go.Ground.phase }, { on := 1, ground := Go.Ground.phase }, { on := 2, ground := Go.Ground.phase }, { on := 3, ground := Go.Ground.phase }, { on := 4, ground := Go.Ground.phase }, { on := 5, ground := Go.Ground.phase }], guard := none }) (v := ?_) rfl (by kernel_rfl) (by kernel_rfl) (by kernel_rfl) (fun _ _ _ h => h) (Or.inl ⟨by rfl, ?_⟩) (by assumption) ?_
            rotate_left
            · intro w' hSw
              (try dsimp only at hSw)
              go_simp
              all_goals with_reducible rfl
            try simp only [Act.put, List.setIfInBounds_toArray, List.set_cons_zero, List.set_cons_succ]
            refine wpAnyH_ready (rs := [7]) (by kernel_rfl) (by simp) ?_
            refine (AllReadyH.cons (o := { dst := none, op := Go.Op.store 43 (Go.Operand.tmp 42) (Go.Operand.tmp 41), type := 0, pos := "right.go:63", after := #[{ on := 6, ground := Go.Ground.data }, { on := 5, ground := Go.Ground.data }, { on := 5, ground := Go.Ground.chain }, { on := 0, ground := Go.Ground.phase }, { on := 1, ground := Go.Ground.phase }, { on := 2, ground := Go.Ground.phase }, { on := 3, ground := Go.Ground.phase }, { on := 4, ground := Go.Ground.phase }, { on := 5, ground := Go.Ground.phase }], guard := none }) rfl (fun K hK => ?_) AllReadyH.nil)
            skip
            have HREL := Lib.hid (HFIN.out n hn ws w7 hB gg capg hown7 hg7 _ hat7 (Nat.le_refl _))
            clear hown7 hg7 hat7 hlt7
            go_simp
            obtain ⟨w8, hw8⟩ : ∃ w8, w7.setCell ⟨H + 1 + 1, 260, none⟩ (.slice (some ⟨gg, 0, none⟩) (le.length + 1) capg) = w8 := ⟨_, rfl⟩
            skip
            rw [hw8] at HREL ⊢
            refine hK.out _ _ ?_ (fun hHeld => ?_)
            · trivial
            clear hK K
            try simp only [Act.put, List.setIfInBounds_toArray, List.set_cons_zero, List.set_cons_succ]
            obtain ⟨wl, rfl⟩ : ∃ wl : World, wl = w8 := ⟨_, rfl⟩
          rotate_left 1
          focus
            go_simp
            go_wp2_with (go_at_call 43; (with_reducible refine (HND.out _ (hB)).mono ?_); rintro e5 wn ⟨n, hn, rfl, hbn⟩)
            have hB := hB.trans (hbn.mono hB.size)
            clear hbn
            refine hK.out _ _ ?_ (fun hHeld => ?_)
            · trivial
            clear hK K
            try simp only [Act.put, List.setIfInBounds_toArray, List.set_cons_zero, List.set_cons_succ]
            refine wpAnyH_ready (rs := [1, 4]) (by kernel_rfl) (by simp) ?_
            refine (AllReadyH.cons (o := { dst := some 37, op := Go.Op.load 43 (Go.Operand.tmp 36), type := 43, pos := "right.go:63", after := #[{ on := 0, ground := Go.Ground.data }], guard := none }) rfl (fun K hK => ?_) (AllReadyH.cons (o := { dst := some 40, op := Go.Op.buildSlice 43 1 #[(0, Go.Operand.tmp 39)], type := 43, pos := "right.go:63", after := #[{ on := 3, ground := Go.Ground.data }], guard := none }) rfl (fun K hK => ?_) AllReadyH.nil))
            focus
              have p5 := (HBX.out _ hB).ce HCL.out
              simp only at p5
              go_simp
              clear p5
              refine hK.out _ _ ?_ (fun hHeld => ?_)
              · trivial
              clear hK K
              try simp only [Act.put, List.setIfInBounds_toArray, List.set_cons_zero, List.set_cons_succ]
              refine wpAnyH_ready (rs := [4]) (by kernel_rfl) (by simp) ?_
              refine (AllReadyH.cons (o := { dst := some 40, op := Go.Op.buildSlice 43 1 #[(0, Go.Operand.tmp 39)], type := 43, pos := "right.go:63", after := #[{ on := 3, ground := Go.Ground.data }], guard := none }) rfl (fun K hK => ?_) AllReadyH.nil)
              obtain ⟨ws, hws, hqs, hbS, hls⟩ := new_int wn ((n : Int))
              go_simp
              skip
              try rw [hws]
              have hBn := hB
              have hB := hB.trans (hbS.mono hB.size)
              clear hbS
              refine hK.out _ _ ?_ (fun hHeld => ?_)
              · trivial
              clear hK K
              try simp only [Act.put, List.setIfInBounds_toArray, List.set_cons_zero, List.set_cons_succ]
              refine wpAnyH_ready (rs := [5]) (by kernel_rfl) (by simp) ?_
              refine (AllReadyH.cons (o := { dst := some 41, op := Go.Op.call { callee := Go.Callee.builtin Go.Builtin.append, args := #[Go.Operand.tmp 37, Go.Operand.tmp 40], argTypes := #[43, 43] }, type := 43, pos := "right.go:63", after := #[{ on := 1, ground := Go.Ground.data }, { on := 4, ground := Go.Ground.data }, { on := 3, ground := Go.Ground.chain }], guard := none }) rfl (fun K hK => ?_) AllReadyH.nil)
              have hx := HSZ.out _ hB
              refine wp_append_lies ws _ _ _ rfl (H + 1 + 1 + 1) 3 i0 _ 1 8 Try.underlying43 hi0 hz0 hz1 hz2 rfl (by omega) (.slice Aa le.length ca) le.length (le.map (Value.int .i64)) rfl (HRA.out ws hB) ⟨wn.heap.size, 0, none⟩ 1 1 [.int .i64 ((n : Int))] rfl rfl (World.news_of_block (cs := #[.int .i64 ((n : Int))]) (t := 3) (fr := (0, 0)) hqs) (by simp [Value.oneCell']) (by omega) (by simp only [maxLen]; omega) (by omega) hx ws.heap.size rfl ?_
              intro gg capg w7 hown7 hg7 hat7 hlt7
              have hbq := HBG.out _ w7 hB hg7
              have p7 := hbq.ce HCL.out
              have f7 := hbq.frozen 260
              simp only at p7
              refine hK.out _ _ ?_ (fun hHeld => ?_)
              · trivial
              clear hK K
              try simp only [Act.put, List.setIfInBounds_toArray, List.set_cons_zero, List.set_cons_succ]
              refine wpAnyH_take (i := 6) (oi := { dst := some 42, op := Go.Op.fieldAddr 66 (Go.Operand.tmp 3) 2, type := 0, pos := "right.go:63", after := #[{ on := 0, ground := Go.Ground.phase }, { on := 1, ground := Go.Ground.phase }, { on := 2, ground := Go.Ground.phase }, { on := 3, ground := Go.Ground.phase }, { on := 4, ground := Go.Ground.phase }, { on := 5, ground := Go.Ground.phase }], guard := none }) (v := ?_) rfl (by kernel_rfl) (by kernel_rfl) (by kernel_rfl) (fun _ _ _ h => h) (Or.inl ⟨by rfl, ?_⟩) (by assumption) ?_
              rotate_left
              · intro w' hSw
                (try dsimp only at hSw)
                go_simp
                all_goals with_reducible rfl
              try simp only [Act.put, List.setIfInBounds_toArray, List.set_cons_zero, List.set_cons_succ]
              refine wpAnyH_ready (rs := [7]) (by kernel_rfl) (by simp) ?_
              refine (AllReadyH.cons (o := { dst := none, op := Go.Op.store 43 (Go.Operand.tmp 42) (Go.Operand.tmp 41), type := 0, pos := "right.go:63", after := #[{ on := 6, ground := Go.Ground.data }, { on := 5, ground := Go.Ground.data }, { on := 5, ground := Go.Ground.chain }, { on := 0, ground := Go.Ground.phase }, { on := 1, ground := Go.Ground.phase }, { on := 2, ground := Go.Ground.phase }, { on := 3, ground := Go.Ground.phase }, { on := 4, ground := Go.Ground.phase }, { on := 5, ground := Go.Ground.phase }], guard := none }) rfl (fun K hK => ?_) AllReadyH.nil)
              skip
              have HREL := Lib.hid (HFIN.out n hn ws w7 hB gg capg hown7 hg7 _ hat7 (Nat.le_refl _))
              clear hown7 hg7 hat7 hlt7
              go_simp
              obtain ⟨w8, hw8⟩ : ∃ w8, w7.setCell ⟨H + 1 + 1, 260, none⟩ (.slice (some ⟨gg, 0, none⟩) (le.length + 1) capg) = w8 := ⟨_, rfl⟩
              skip
              rw [hw8] at HREL ⊢
              refine hK.out _ _ ?_ (fun hHeld => ?_)
              · trivial
              clear hK K
              try simp only [Act.put, List.setIfInBounds_toArray, List.set_cons_zero, List.set_cons_succ]
              obtain ⟨wl, rfl⟩ : ∃ wl : World, wl = w8 := ⟨_, rfl⟩
            rotate_left 1
            focus
              obtain ⟨ws, hws, hqs, hbS, hls⟩ := new_int wn ((n : Int))
              go_simp
              skip
              try rw [hws]
              have hBn := hB
              have hB := hB.trans (hbS.mono hB.size)
              clear hbS
              refine hK.out _ _ ?_ (fun hHeld => ?_)
              · trivial
              clear hK K
              try simp only [Act.put, List.setIfInBounds_toArray, List.set_cons_zero, List.set_cons_succ]
              refine wpAnyH_ready (rs := [1]) (by kernel_rfl) (by simp) ?_
              refine (AllReadyH.cons (o := { dst := some 37, op := Go.Op.load 43 (Go.Operand.tmp 36), type := 43, pos := "right.go:63", after := #[{ on := 0, ground := Go.Ground.data }], guard := none }) rfl (fun K hK => ?_) AllReadyH.nil)
              have p5 := (HBX.out _ hB).ce HCL.out
              simp only at p5
              go_simp
              clear p5
              refine hK.out _ _ ?_ (fun hHeld => ?_)
              · trivial
              clear hK K
              try simp only [Act.put, List.setIfInBounds_toArray, List.set_cons_zero, List.set_cons_succ]
              refine wpAnyH_ready (rs := [5]) (by kernel_rfl) (by simp) ?_
              refine (AllReadyH.cons (o := { dst := some 41, op := Go.Op.call { callee := Go.Callee.builtin Go.Builtin.append, args := #[Go.Operand.tmp 37, Go.Operand.tmp 40], argTypes := #[43, 43] }, type := 43, pos := "right.go:63", after := #[{ on := 1, ground := Go.Ground.data }, { on := 4, ground := Go.Ground.data }, { on := 3, ground := Go.Ground.chain }], guard := none }) rfl (fun K hK => ?_) AllReadyH.nil)
              have hx := HSZ.out _ hB
              refine wp_append_lies ws _ _ _ rfl (H + 1 + 1 + 1) 3 i0 _ 1 8 Try.underlying43 hi0 hz0 hz1 hz2 rfl (by omega) (.slice Aa le.length ca) le.length (le.map (Value.int .i64)) rfl (HRA.out ws hB) ⟨wn.heap.size, 0, none⟩ 1 1 [.int .i64 ((n : Int))] rfl rfl (World.news_of_block (cs := #[.int .i64 ((n : Int))]) (t := 3) (fr := (0, 0)) hqs) (by simp [Value.oneCell']) (by omega) (by simp only [maxLen]; omega) (by omega) hx ws.heap.size rfl ?_
              intro gg capg w7 hown7 hg7 hat7 hlt7
              have hbq := HBG.out _ w7 hB hg7
              have p7 := hbq.ce HCL.out
              have f7 := hbq.frozen 260
              simp only at p7
              refine hK.out _ _ ?_ (fun hHeld => ?_)
              · trivial
              clear hK K
              try simp only [Act.put, List.setIfInBounds_toArray, List.set_cons_zero, List.set_cons_succ]
              refine wpAnyH_take (i := 6) (oi := { dst := some 42, op := Go.Op.fieldAddr 66 (Go.Operand.tmp 3) 2, type := 0, pos := "right.go:63", after := #[{ on := 0, ground := Go.Ground.phase }, { on := 1, ground := Go.Ground.phase }, { on := 2, ground := Go.Ground.phase }, { on := 3, ground := Go.Ground.phase }, { on := 4, ground := Go.Ground.phase }, { on := 5, ground := Go.Ground.phase }], guard := none }) (v := ?_) rfl (by kernel_rfl) (by kernel_rfl) (by kernel_rfl) (fun _ _ _ h => h) (Or.inl ⟨by rfl, ?_⟩) (by assumption) ?_
              rotate_left
              · intro w' hSw
                (try dsimp only at hSw)
                go_simp
                all_goals with_reducible rfl
              try simp only [Act.put, List.setIfInBounds_toArray, List.set_cons_zero, List.set_cons_succ]
              refine wpAnyH_ready (rs := [7]) (by kernel_rfl) (by simp) ?_
              refine (AllReadyH.cons (o := { dst := none, op := Go.Op.store 43 (Go.Operand.tmp 42) (Go.Operand.tmp 41), type := 0, pos := "right.go:63", after := #[{ on := 6, ground := Go.Ground.data }, { on := 5, ground := Go.Ground.data }, { on := 5, ground := Go.Ground.chain }, { on := 0, ground := Go.Ground.phase }, { on := 1, ground := Go.Ground.phase }, { on := 2, ground := Go.Ground.phase }, { on := 3, ground := Go.Ground.phase }, { on := 4, ground := Go.Ground.phase }, { on := 5, ground := Go.Ground.phase }], guard := none }) rfl (fun K hK => ?_) AllReadyH.nil)
              skip
              have HREL := Lib.hid (HFIN.out n hn ws w7 hB gg capg hown7 hg7 _ hat7 (Nat.le_refl _))
              clear hown7 hg7 hat7 hlt7
              go_simp
              obtain ⟨w8, hw8⟩ : ∃ w8, w7.setCell ⟨H + 1 + 1, 260, none⟩ (.slice (some ⟨gg, 0, none⟩) (le.length + 1) capg) = w8 := ⟨_, rfl⟩
              skip
              rw [hw8] at HREL ⊢
              refine hK.out _ _ ?_ (fun hHeld => ?_)
              · trivial
              clear hK K
              try simp only [Act.put, List.setIfInBounds_toArray, List.set_cons_zero, List.set_cons_succ]
              obtain ⟨wl, rfl⟩ : ∃ wl : World, wl = w8 := ⟨_, rfl⟩
          all_goals
            refine wpAnyH_done (by kernel_rfl) ?_ _
            go_wp2_with (fail)
            go_roundw
          all_goals first
            | exact HREL.out
            | (simp [intOf]; done)
            | (simp [intOf]; omega)
        · have HEF := Lib.hid (show NeedE t.T le t.T.ends.length from (show k = t.T.ends.length by omega) ▸ hna)
          have HOA := Lib.hid (own_one hns.rowA)
          have HOE := Lib.hid (own_one hns.rowE)
          clear hna hns hTr c4C
          go_wp2_with (first | (refine load_needs rfl _ rfl (H + 1 + 1) ⟨t, va, ve⟩ HCL.out HNS.out.box rfl ?_) | (refine store_needs rfl _ _ rfl (H + 1) ⟨t, va, ve⟩ HCL.out HOA.out HOE.out rfl rfl _ HNS.out.res needs_zsize ?_; intro w9 hn9 hb9 hs9 hk9))
          have hra : OwnsI w9 H va la := ownsI_mono2 (ownsRow_keep HNS.out.rowA fun g e => hk9 g (by have := (World.ownsRow.lt HNS.out.rowA g e).1; omega)) (by omega)
          have hre : OwnsI w9 H ve le := ownsI_mono2 (ownsRow_keep HNS.out.rowE fun g e => hk9 g (by have := (World.ownsRow.lt HNS.out.rowE g e).1; omega)) (by omega)
          exact bodyPost_ret (v := NV.val ⟨t, va, ve⟩) (results_cell_row rfl _ _ (H + 1) _ _ _ (.struct (Try.prog.fieldsOf 66)) rfl hn9 (by kernel_rfl) rfl (NV.size HCL.out)) rfl ⟨va, ve, la, le, rfl, HNF.out, HEF.out, by rw [HS.out]; exact hra, by rw [HS.out]; exact hre, by rw [HS.out]; exact (HB.out.trans ((HNS.out.low.mono (by omega)).trans (hb9.mono (by omega))))⟩
end Go.Proofs.Ytboaifdkoemnbaa.Pk
/- The walks of (table.needs).nextRight and nodeRight. -/
namespace Go.Proofs.Ytboaifdkoemnbaa.Pk
set_option maxRecDepth 100000
open Go Go.RowKit Go.Proofs.Ytboaifdkoemnbaa.Sp Go.Proofs.Ytboaifdkoemnbaa.Pa Go.Proofs.Ytboaifdkoemnbaa.Te Go.Proofs.Ytboaifdkoemnbaa.Mi Go.Proofs.Ytboaifdkoemnbaa.De

/-- A slice value that reads as a list of integers, from its block's head on. -/
def RowI (w : World) (v : Value) (l : List Int) : Prop := ∃ A c, v = .slice A l.length c ∧ l.length ≤ c ∧ (0 < l.length → ∃ b, A = some ⟨b, 0, none⟩ ∧ b < w.heap.size ∧ ∀ (j : Nat) (h : j < l.length), w.cell? ⟨b, j, none⟩ = some (.int .i64 l[j]))
theorem RowI.of_own {w : World} {base : Nat} {v : Value} {l : List Int} (h : OwnsI w base v l) : RowI w v l := by
  rcases h.2 with ⟨rfl, hn⟩ | ⟨g, cap, cur, rfl, hg, hr⟩
  · obtain rfl := List.eq_nil_of_length_eq_zero hn
    exact ⟨none, 0, rfl, Nat.le_refl _, fun h => absurd h (by simp)⟩
  · refine ⟨some ⟨g, 0, none⟩, cap, rfl, hr.2.1, fun _ => ⟨g, rfl, (h.lt g rfl).2, fun j hj => ?_⟩⟩
    rw [World.ownsRow.cellAt h j (by omega)]
    simp [hj]
theorem RowI.belowM {w w' : World} {v : Value} {l : List Int} (h : RowI w v l) (hb : Below w.heap.size w w') : RowI w' v l := by
  obtain ⟨A, c, e, hc, hr⟩ := h
  refine ⟨A, c, e, hc, fun hn => ?_⟩
  obtain ⟨b, e2, hlt, hcell⟩ := hr hn
  exact ⟨b, e2, by have := hb.size; omega, fun j hj => (hb.cell hlt).trans (hcell j hj)⟩
/-- The value of needs, with its memory. -/
structure NM (w : World) (n : NV) (la le : List Int) : Prop where
  tab : TM w n.t
  rowA : RowI w n.va la
  rowE : RowI w n.ve le
  needA : NeedA n.t.T la n.t.T.acts.length
  needE : NeedE n.t.T le n.t.T.ends.length
  a4 : n.t.T.acts.length ≤ 4096
  e4 : n.t.T.ends.length ≤ 4096
theorem NM.below {w w' : World} {n : NV} {la le : List Int} (h : NM w n la le) (hb : Below w.heap.size w w') : NM w' n la le := ⟨h.tab.belowM hb, h.rowA.belowM hb, h.rowE.belowM hb, h.needA, h.needE, h.a4, h.e4⟩
theorem nextOk_act {T : TabL} {la : List Int} {held : Int} {j : Nat} (hn : NeedA T la T.acts.length) (h0 : 0 ≤ held) (h3 : held ≤ 3) (hj : j < T.acts.length) : ∃ y, (∃ h : j < la.length, la[j] = y) ∧ (y ≤ held + 1 ↔ NextOk T held (-2 - (j : Int))) := by
  obtain ⟨n, h1, h2⟩ := hn.2 j T.acts[j] hj (List.getElem?_eq_getElem hj)
  obtain ⟨hl, he⟩ := List.getElem?_eq_some_iff.1 h2
  refine ⟨_, ⟨hl, he⟩, ?_⟩
  have hle := h1.le (k := held + 1) (by omega) (by omega)
  have e : (-2 - (-2 - (j : Int))).toNat = j := by omega
  constructor
  · intro h
    refine .inr ⟨by omega, .inr ⟨by omega, T.acts[j], by rw [e]; exact List.getElem?_eq_getElem hj, by omega, hle.1 (by omega)⟩⟩
  · intro h
    rcases h with h | ⟨_, ⟨h, _⟩ | ⟨_, a, ha, h3, h4⟩⟩
    · omega
    · omega
    · rw [e, List.getElem?_eq_getElem hj] at ha
      injection ha with ha
      subst ha
      have := hle.2 h4
      omega
set_option maxHeartbeats 4000000 in
theorem nextRight_any (n : NV) (la le : List Int) (held x : Int) (w : World) (h : NM w n la le) (h0 : 0 ≤ held) (h4 : held ≤ 4) (hx : IntR x) :
    Calls Try.prog 44 #[n.val, .int .i64 held, .int .i64 x] w (RetB (propB (NextOk n.t.T held x)) w) := by
  have hla := h.tab.la
  have ha4 := h.a4
  unfold maxLen at hla
  unfold IntR at hx
  obtain ⟨w1, hw1⟩ : ∃ w1, w.alloc (.cells n.cells.toArray 66) = w1 := ⟨_, rfl⟩
  have hb1 : Below w.heap.size w w1 := by rw [← hw1]; exact (Below.refl _ _).alloc (Nat.le_refl _) _
  have hN : NBox w1 w.heap.size n := by rw [← hw1]; exact NBox.boxed w n
  have HM := Lib.hid (h.below hb1)
  have HB := Lib.hid hb1
  have cA := hN.cA h.tab.cls
  have ca := hN.ca h.tab.cls
  obtain ⟨v, hv⟩ : ∃ v, propB (NextOk n.t.T held x) = v := ⟨_, rfl⟩
  rw [hv]
  have HNO := Lib.hid (show ¬ NextOk n.t.T held x → v = false from fun q => hv.symm.trans (propB_false q))
  have HYES := Lib.hid (show NextOk n.t.T held x → v = true from fun q => hv.symm.trans (propB_true q))
  clear h hN hv hb1
  unfold NV.val
  by_cases k1 : x = -1
  · have HP := Lib.hid (HYES.out (.inl k1))
    subst k1
    go_enter Try.func44, Try.ntmps44
    go_wp2_with (fail)
    go_ret
    exact ⟨ret_bool HP.out.symm, HB.out⟩
  have k1' : (x == -1) = false := by simpa using k1
  by_cases k2 : held = 4
  · subst k2
    have HP := Lib.hid (HNO.out fun q => by
      rcases q with q | ⟨q, _⟩
      · exact k1 q
      · exact q rfl)
    go_enter Try.func44, Try.ntmps44
    go_wp2_with (fail)
    go_ret
    exact ⟨ret_bool HP.out.symm, HB.out⟩
  have k2' : (held == 4) = false := by simpa using k2
  by_cases k3 : 0 ≤ x
  · obtain ⟨j, rfl⟩ := Int.eq_ofNat_of_zero_le k3
    by_cases k4 : j < n.t.T.nodes.length
    case neg =>
      have HP := Lib.hid (HNO.out fun q => by
        rcases q with q | ⟨_, ⟨_, nd, hq, _⟩ | ⟨q, _⟩⟩
        · omega
        · rw [Int.toNat_natCast] at hq
          exact k4 (List.getElem?_eq_some_iff.1 hq).1
        · omega)
      go_enter Try.func44, Try.ntmps44
      go_wp2_with (fail)
      go_ret
      exact ⟨ret_bool HP.out.symm, HB.out⟩
    obtain ⟨b, off, hA, hbB, d0, _, _⟩ := HM.out.tab.nodes.at_ k4
    rw [hA] at cA
    obtain ⟨nd, hnd⟩ : ∃ nd, n.t.T.nodes[j] = nd := ⟨_, rfl⟩
    have HND := Lib.hid (show n.t.T.nodes[j]? = some nd by rw [← hnd]; exact List.getElem?_eq_getElem k4)
    rw [hnd] at d0
    have HXA := Lib.hid hA
    clear hA hnd
    obtain ⟨hh, ee, nx⟩ := nd
    simp only at d0
    by_cases k5 : hh = held + 1
    · subst k5
      have HP := Lib.hid (HYES.out (.inr ⟨k2, .inl ⟨by omega, _, by rw [Int.toNat_natCast]; exact HND.out, rfl⟩⟩))
      go_enter Try.func44, Try.ntmps44
      go_wp2_with (fail)
      go_ret
      exact ⟨ret_bool HP.out.symm, HB.out⟩
    · have HP := Lib.hid (HNO.out fun q => by
        rcases q with q | ⟨_, ⟨_, nd, hq, hq2⟩ | ⟨q, _⟩⟩
        · omega
        · rw [Int.toNat_natCast, HND.out] at hq
          injection hq with hq
          subst hq
          exact k5 hq2
        · omega)
      have k5' : (hh == held + 1) = false := by simpa using k5
      go_enter Try.func44, Try.ntmps44
      go_wp2_with (fail)
      go_ret
      exact ⟨ret_bool HP.out.symm, HB.out⟩
  · obtain ⟨j, hj⟩ : ∃ j : Nat, x = -2 - (j : Int) := ⟨(-2 - x).toNat, by omega⟩
    subst hj
    have s1 : IntKind.i64.wrap (-2 - (-2 - (j : Int))) = (j : Int) := by rw [IntWalk.i64_in _ (by omega)]; omega
    have hlen := HM.out.needA.1
    obtain ⟨Aa, cca, hva, hcc, hrow⟩ := HM.out.rowA
    rw [hva] at ca
    by_cases k4 : j < n.t.T.acts.length
    case neg =>
      have HP := Lib.hid (HNO.out fun q => by
        rcases q with q | ⟨_, ⟨q, _⟩ | ⟨_, a, hq, _⟩⟩
        · omega
        · omega
        · have h9 : (-2 - (-2 - (j : Int))).toNat < n.t.T.acts.length := (List.getElem?_eq_some_iff.1 hq).1
          omega)
      have k4' : ¬ j < la.length := by omega
      have k4'' : decide ((j : Int) < (la.length : Int)) = false := by simp; omega
      have HLN := Lib.hid hlen
      clear hlen hva hrow
      go_enter Try.func44, Try.ntmps44
      go_wp2_with (fail)
      go_ret
      exact ⟨ret_bool HP.out.symm, HB.out⟩
    obtain ⟨y, ⟨hl, hy⟩, hiff⟩ := nextOk_act HM.out.needA h0 (by omega) k4
    obtain ⟨b, hAa, hbB, hcell⟩ := hrow (by omega)
    subst hAa
    have d0 := hcell j hl
    rw [hy] at d0
    have k4' : decide ((j : Int) < (la.length : Int)) = true := by simp; omega
    have HLN := Lib.hid hlen
    have HIF := Lib.hid hiff
    have HVA := Lib.hid hva
    clear hlen hva hrow hcell hiff hy
    by_cases k5 : y ≤ held + 1
    · have HP := Lib.hid (HYES.out (HIF.out.1 k5))
      go_enter Try.func44, Try.ntmps44
      go_wp2_with (fail)
      go_ret
      exact ⟨ret_bool HP.out.symm, HB.out⟩
    · have HP := Lib.hid (HNO.out fun q => k5 (HIF.out.2 q))
      go_enter Try.func44, Try.ntmps44
      go_wp2_with (fail)
      go_ret
      exact ⟨ret_bool HP.out.symm, HB.out⟩
/-- Of the numbers ahead of k all may stand there. -/
def NxRel (T : TabL) (held : Int) (nx : List Int) (w1 : World) (iv : Value) (wr : World) : Prop := ∃ k : Nat, k ≤ nx.length ∧ iv = .int .i64 k ∧ (∀ j (hj : j < nx.length), j < k → NextOk T held nx[j]) ∧ Below w1.heap.size w1 wr
theorem load_needs_below {w w' : World} {x : Nat} {n : NV} {B : Nat} (h : NBox w x n) (hx : x < B) (hb : Below B w w') : NBox w' x n := h.keep (hb.block x hx)
set_option maxHeartbeats 4000000 in
theorem nodeRight_any (n : NV) (la le : List Int) (i : Nat) (w : World) (h : NM w n la le) (hi : i < n.t.T.nodes.length) (h0 : 0 ≤ (n.t.T.nodes[i]).1) (h4 : (n.t.T.nodes[i]).1 ≤ 4) :
    Calls Try.prog 33 #[n.val, .int .i64 (i : Int)] w (RetB (propB (NodeOk n.t.T n.t.T.nodes[i])) w) := by
  have hla := h.tab.la
  have he4 := h.e4
  unfold maxLen at hla
  obtain ⟨w1, hw1⟩ : ∃ w1, w.alloc (.cells n.cells.toArray 66) = w1 := ⟨_, rfl⟩
  have hb1 : Below w.heap.size w w1 := by rw [← hw1]; exact (Below.refl _ _).alloc (Nat.le_refl _) _
  have hs1 : w1.heap.size = w.heap.size + 1 := by rw [← hw1]; simp
  have hN : NBox w1 w.heap.size n := by rw [← hw1]; exact NBox.boxed w n
  have HM := Lib.hid (h.below hb1)
  have HB := Lib.hid hb1
  have HCL := Lib.hid h.tab.cls
  have HBX := Lib.hid (fun W (hW : Below w1.heap.size w1 W) => load_needs_below hN (by omega) hW)
  have cA := hN.cA h.tab.cls
  have ce := hN.ce h.tab.cls
  obtain ⟨b, off, hA, hbB, d0, d1, A', c', d2, hri, hcc, hm⟩ := HM.out.tab.nodes.at_ hi
  rw [hA] at cA
  obtain ⟨nd, hnd⟩ : ∃ nd, n.t.T.nodes[i] = nd := ⟨_, rfl⟩
  rw [hnd] at d0 d1 d2 hri hcc hm h0 h4 ⊢
  obtain ⟨held, end_, nx⟩ := nd
  simp only at d0 d1 d2 hri hcc hm h0 h4
  have HRI := Lib.hid hri
  have HXA := Lib.hid hA
  unfold maxLen at hm
  obtain ⟨v, hv⟩ : ∃ v, propB (NodeOk n.t.T (held, end_, nx)) = v := ⟨_, rfl⟩
  rw [hv]
  have HNO := Lib.hid (show ¬ NodeOk n.t.T (held, end_, nx) → v = false from fun q => hv.symm.trans (propB_false q))
  have HYES := Lib.hid (show NodeOk n.t.T (held, end_, nx) → v = true from fun q => hv.symm.trans (propB_true q))
  clear h hN hv hb1 hnd hri hA
  have i1 : (0 : Int) ≤ (i : Int) := by omega
  have i2 : (i : Int) < (n.t.T.nodes.length : Int) := by omega
  unfold NV.val
  go_enter Try.func33, Try.ntmps33
  go_wp2_with (fail)
  go_quiet (fail)
  go_wp2_with (fail)
  have HBQ := Lib.hid (show Below w1.heap.size w1 (w1.drewN nq) from below_drewN (Below.refl _ _) nq)
  go_loopw [31] (fun iv wr => NxRel n.t.T held nx w1 iv wr) (fun i _ => nx.length - (intOf i).toNat)
  case atStart => exact ⟨0, Nat.zero_le _, rfl, fun j _ h => absurd h (by omega), HBQ.out⟩
  case round =>
    obtain ⟨k, hk, rfl, hall, hbr⟩ := hrel
    have HALL := Lib.hid hall
    have HBR := Lib.hid hbr
    have hsr := hbr.size
    have HE := Lib.hid (HB.out.trans (hbr.mono (by omega)))
    clear hall d0 d1 d2
    by_cases hlt : k < nx.length
    · obtain ⟨b2, off2, rfl, hb2, e0⟩ := (HRI.out.belowM hbr).at_ hlt
      obtain ⟨x, hx⟩ : ∃ x, nx[k] = x := ⟨_, rfl⟩
      have HXR := Lib.hid (show IntR x by rw [← hx]; exact HRI.out.2.2 _ (List.getElem_mem hlt))
      have HIN := Lib.hid (show x ∈ nx by rw [← hx]; exact List.getElem_mem hlt)
      have HNX := Lib.hid (show NextOk n.t.T held x → ∀ j (hj : j < nx.length), j < k + 1 → NextOk n.t.T held nx[j] from fun q j hj hjk => by
        rcases Nat.lt_or_ge j k with z | z
        · exact HALL.out j hj z
        · obtain rfl : j = k := by omega
          exact hx ▸ q)
      rw [hx] at e0
      have HC := Lib.hid (nextRight_any n la le held x wr (HM.out.below hbr) h0 h4 HXR.out)
      have HLD := Lib.hid (HBX.out wr hbr)
      clear hx hbr
      by_cases k1 : NextOk n.t.T held x
      · rw [propB_true k1] at HC
        have HN2 := Lib.hid (HNX.out k1)
        clear k1
        go_wp2_with (refine load_needs rfl _ rfl w.heap.size n HCL.out HLD.out rfl ?_)
        refine HC.out.mono ?_
        rintro e w7 ⟨rfl, hb7⟩
        have HB7 := Lib.hid hb7
        clear hb7
        go_wp2_with (fail)
        go_roundw
        case rel => exact ⟨k + 1, by omega, by go_num, HN2.out, HBR.out.trans (HB7.out.mono hsr)⟩
        case measure => simp [intOf]; omega
      · rw [propB_false k1] at HC
        have HP := Lib.hid (HNO.out fun q => k1 (q.2 _ HIN.out))
        clear k1
        go_wp2_with (refine load_needs rfl _ rfl w.heap.size n HCL.out HLD.out rfl ?_)
        refine HC.out.mono ?_
        rintro e w7 ⟨rfl, hb7⟩
        have HB7 := Lib.hid hb7
        clear hb7
        go_wp2_with (fail)
        go_ret
        exact ⟨ret_bool HP.out.symm, HE.out.trans (HB7.out.mono (by omega))⟩
    · have HNEXT := Lib.hid (show ∀ x ∈ nx, NextOk n.t.T held x from fun x hx => by
        obtain ⟨j, hj, rfl⟩ := List.getElem_of_mem hx
        exact HALL.out j hj (by omega))
      have ce2 := (HBX.out wr hbr).ce HCL.out
      obtain ⟨Ae, cce, hve, hcce, hrow⟩ := (HM.out.below hbr).rowE
      have hlen := HM.out.needE.1
      rw [hve] at ce2
      clear ce hbr
      by_cases k1 : end_ = -1
      · subst k1
        have HP := Lib.hid (HYES.out ⟨.inl rfl, HNEXT.out⟩)
        clear hve hrow hlen
        go_wp2_with (fail)
        go_ret
        exact ⟨ret_bool HP.out.symm, HE.out⟩
      have k1' : (end_ == -1) = false := by simpa using k1
      by_cases k2 : 0 ≤ end_
      case neg =>
        have HP := Lib.hid (HNO.out fun q => by
          rcases q.1 with z | ⟨z, _⟩
          · exact k1 z
          · exact k2 z)
        clear hve hrow hlen
        go_wp2_with (fail)
        go_ret
        exact ⟨ret_bool HP.out.symm, HE.out⟩
      obtain ⟨j, rfl⟩ := Int.eq_ofNat_of_zero_le k2
      by_cases k3 : j < n.t.T.ends.length
      case neg =>
        have HP := Lib.hid (HNO.out fun q => by
          rcases q.1 with z | ⟨_, l, z, _⟩
          · exact k1 z
          · have h9 : ((j : Nat) : Int).toNat < n.t.T.ends.length := (List.getElem?_eq_some_iff.1 z).1
            omega)
        have k3' : ¬ j < le.length := by omega
        have k3'' : decide ((j : Int) < (le.length : Int)) = false := by simp; omega
        clear hve hrow hlen
        go_wp2_with (fail)
        go_ret
        exact ⟨ret_bool HP.out.symm, HE.out⟩
      obtain ⟨m, h1, h2⟩ := HM.out.needE.2 j _ k3 (List.getElem?_eq_getElem k3)
      obtain ⟨hl, hy⟩ := List.getElem?_eq_some_iff.1 h2
      obtain ⟨b3, rfl, hb3, hcell⟩ := hrow (by omega)
      have e0 := hcell j hl
      rw [hy] at e0
      have HIF := Lib.hid (h1.le h0 h4)
      have HLE := Lib.hid (List.getElem?_eq_getElem k3)
      have k3' : decide ((j : Int) < (le.length : Int)) = true := by simp; omega
      have k3'' : j < le.length := by omega
      clear hve hrow hlen hcell h1 h2 hy
      by_cases k4 : (m : Int) ≤ held
      · have HP := Lib.hid (HYES.out ⟨.inr ⟨by omega, _, by rw [Int.toNat_natCast]; exact HLE.out, HIF.out.1 k4⟩, HNEXT.out⟩)
        go_wp2_with (fail)
        go_ret
        exact ⟨ret_bool HP.out.symm, HE.out⟩
      · have HP := Lib.hid (HNO.out fun q => by
          rcases q.1 with z | ⟨_, l, z, z2⟩
          · exact k1 z
          · rw [Int.toNat_natCast, HLE.out] at z
            injection z with z
            subst z
            exact k4 (HIF.out.2 z2))
        go_wp2_with (fail)
        go_ret
        exact ⟨ret_bool HP.out.symm, HE.out⟩
end Go.Proofs.Ytboaifdkoemnbaa.Pk
/- The walk of table.Check: of any table. -/
namespace Go.Proofs.Ytboaifdkoemnbaa.Pk
set_option maxRecDepth 100000
open Go Go.RowKit Go.Proofs.Ytboaifdkoemnbaa.Sp Go.Proofs.Ytboaifdkoemnbaa.Pa Go.Proofs.Ytboaifdkoemnbaa.Te Go.Proofs.Ytboaifdkoemnbaa.Mi Go.Proofs.Ytboaifdkoemnbaa.De

def CkRel (T : TabL) (w1 : World) (iv : Value) (wr : World) : Prop := ∃ k : Nat, k ≤ T.nodes.length ∧ iv = .int .i64 k ∧ (∀ j (hj : j < T.nodes.length), j < k → NodeOk T T.nodes[j]) ∧ Below w1.heap.size w1 wr
set_option maxHeartbeats 4000000 in
theorem tcheck_any (t : TV) (w : World) (h : TM w t) : Calls Try.prog 13 #[t.val] w (RetB (propB (RightTab t.T)) w) := by
  have hla := h.la
  unfold maxLen at hla
  have hcl := h.cls
  obtain ⟨w1, hw1⟩ : ∃ w1, w.alloc (.cells t.cells.toArray 27) = w1 := ⟨_, rfl⟩
  have hT : TW w1 w.heap.size t := by rw [← hw1]; exact TW.boxed h
  have hs1 : w1.heap.size = w.heap.size + 1 := by rw [← hw1]; simp
  have HB := Lib.hid (show Below w.heap.size w w1 by rw [← hw1]; exact (Below.refl _ _).alloc (Nat.le_refl _) _)
  have HT := Lib.hid (fun W (hW : Below w1.heap.size w1 W) => show TW W w.heap.size t from hT.below hW)
  have HT1 := Lib.hid hT
  have HCL := Lib.hid hcl
  have HS1 := Lib.hid (sizesRight_any t w1 hT.mem)
  have HS2 := Lib.hid (fun W (hW : Below w1.heap.size w1 W) => actsRight_any t W (HT.out W hW).mem)
  have HS3 := Lib.hid (fun W (hW : Below w1.heap.size w1 W) => endsRight_any t W (HT.out W hW).mem)
  have HE := Lib.hid (fun W (hW : Below w1.heap.size w1 W) => show Below w.heap.size w W from HB.out.trans (hW.mono (by omega)))
  obtain ⟨v, hv⟩ : ∃ v, propB (RightTab t.T) = v := ⟨_, rfl⟩
  rw [hv]
  have HNO := Lib.hid (show ¬ RightTab t.T → v = false from fun q => hv.symm.trans (propB_false q))
  have HYES := Lib.hid (show RightTab t.T → v = true from fun q => hv.symm.trans (propB_true q))
  clear h hT hv hcl
  have hval : t.val = .agg t.cells.toArray := rfl
  rw [hval]
  clear hval
  by_cases k1 : SizesOk t.T
  case neg =>
    rw [propB_false k1] at HS1
    have HP := Lib.hid (HNO.out fun q => k1 q.sizes)
    clear k1
    go_enter Try.func13, Try.ntmps13
    go_wp2_with (refine load_tab rfl _ rfl w.heap.size t HT1.out rfl ?_)
    refine HS1.out.mono ?_
    rintro e w2 ⟨rfl, hb2⟩
    have HB2 := Lib.hid hb2
    clear hb2
    go_wp2_with (fail)
    go_ret
    exact ⟨ret_bool HP.out.symm, HE.out w2 HB2.out⟩
  rw [propB_true k1] at HS1
  have HK1 := Lib.hid k1
  by_cases k2 : ∀ a ∈ t.T.acts, ActOk t.T a
  case neg =>
    rw [propB_false k2] at HS2
    have HP := Lib.hid (HNO.out fun q => k2 q.acts)
    clear k1 k2
    go_enter Try.func13, Try.ntmps13
    go_wp2_with (refine load_tab rfl _ rfl w.heap.size t HT1.out rfl ?_)
    refine HS1.out.mono ?_
    rintro e w2 ⟨rfl, hb2⟩
    have HB2 := Lib.hid hb2
    have HT2 := Lib.hid (HT.out w2 hb2)
    clear hb2
    go_wp2_with (refine want_tab (by rfl) _ rfl w.heap.size t HT2.out rfl ?_)
    refine (HS2.out w2 HB2.out).mono ?_
    rintro e w3 ⟨rfl, hb3⟩
    have HB3 := Lib.hid (HB2.out.trans (hb3.mono HB2.out.size))
    clear hb3
    go_wp2_with (fail)
    go_ret
    exact ⟨ret_bool HP.out.symm, HE.out w3 HB3.out⟩
  rw [propB_true k2] at HS2
  have HK2 := Lib.hid k2
  by_cases k3 : ∀ l ∈ t.T.ends, l.length ≤ 64
  case neg =>
    rw [propB_false k3] at HS3
    have HP := Lib.hid (HNO.out fun q => k3 q.ends)
    clear k1 k2 k3
    go_enter Try.func13, Try.ntmps13
    go_wp2_with (refine load_tab rfl _ rfl w.heap.size t HT1.out rfl ?_)
    refine HS1.out.mono ?_
    rintro e w2 ⟨rfl, hb2⟩
    have HB2 := Lib.hid hb2
    have HT2 := Lib.hid (HT.out w2 hb2)
    clear hb2
    go_wp2_with (refine want_tab (by rfl) _ rfl w.heap.size t HT2.out rfl ?_)
    refine (HS2.out w2 HB2.out).mono ?_
    rintro e w3 ⟨rfl, hb3⟩
    have HB3 := Lib.hid (HB2.out.trans (hb3.mono HB2.out.size))
    have HT3 := Lib.hid (HT.out w3 HB3.out)
    clear hb3
    go_wp2_with (refine want_tab (by rfl) _ rfl w.heap.size t HT3.out rfl ?_)
    refine (HS3.out w3 HB3.out).mono ?_
    rintro e w4 ⟨rfl, hb4⟩
    have HB4 := Lib.hid (HB3.out.trans (hb4.mono HB3.out.size))
    clear hb4
    go_wp2_with (fail)
    go_ret
    exact ⟨ret_bool HP.out.symm, HE.out w4 HB4.out⟩
  rw [propB_true k3] at HS3
  have HK3 := Lib.hid k3
  have HNE := Lib.hid (fun W (hW : Below w1.heap.size w1 W) => needsOf_any t W (HT.out W hW).mem k1.acts k1.ends)
  clear k1 k2 k3
  go_enter Try.func13, Try.ntmps13
  go_wp2_with (refine load_tab rfl _ rfl w.heap.size t HT1.out rfl ?_)
  refine HS1.out.mono ?_
  rintro e w2 ⟨rfl, hb2⟩
  have HB2 := Lib.hid hb2
  have HT2 := Lib.hid (HT.out w2 hb2)
  clear hb2
  go_wp2_with (refine want_tab (by rfl) _ rfl w.heap.size t HT2.out rfl ?_)
  refine (HS2.out w2 HB2.out).mono ?_
  rintro e w3 ⟨rfl, hb3⟩
  have HB3 := Lib.hid (HB2.out.trans (hb3.mono HB2.out.size))
  have HT3 := Lib.hid (HT.out w3 HB3.out)
  clear hb3
  go_wp2_with (refine want_tab (by rfl) _ rfl w.heap.size t HT3.out rfl ?_)
  refine (HS3.out w3 HB3.out).mono ?_
  rintro e w4 ⟨rfl, hb4⟩
  have HB4 := Lib.hid (HB3.out.trans (hb4.mono HB3.out.size))
  have HT4 := Lib.hid (HT.out w4 HB4.out)
  clear hb4
  go_wp2_with (refine load_tab rfl _ rfl w.heap.size t HT4.out rfl ?_)
  refine (HNE.out w4 HB4.out).mono ?_
  rintro e w5 ⟨va, ve, la, le, rfl, hna, hne, hoa, hoe, hb5⟩
  have HB5 := Lib.hid (HB4.out.trans (hb5.mono HB4.out.size))
  have hT5 := HT.out w5 HB5.out
  have HNM := Lib.hid (show NM w5 ⟨t, va, ve⟩ la le from ⟨hT5.mem, RowI.of_own hoa, RowI.of_own hoe, hna, hne, HK1.out.acts, HK1.out.ends⟩)
  have HOA := Lib.hid (own_one hoa)
  have HOE := Lib.hid (own_one hoe)
  have hz5 := HB5.out.size
  obtain ⟨w6, hw6⟩ : ∃ w6, w5.alloc (.cells Try.zeroCells66 66) = w6 := ⟨_, rfl⟩
  have HR6 := Lib.hid (show w6.heap[w5.heap.size]? = some (.cells Try.zeroCells66 66 (0, 0)) from by rw [← hw6]; exact heap_alloc_new w5 _)
  have hb6 : Below w5.heap.size w5 w6 := by rw [← hw6]; exact (Below.refl _ _).alloc (Nat.le_refl _) _
  have HB56 := Lib.hid hb6
  have hs6 : w6.heap.size = w5.heap.size + 1 := by rw [← hw6]; simp
  clear hna hne hoa hoe hb5 hT5 hb6
  go_wp2_with (refine store_needs rfl _ _ rfl w5.heap.size ⟨t, va, ve⟩ HCL.out HOA.out HOE.out rfl rfl _ HR6.out needs_zsize ?_; intro w7 hn7 hb7 hs7 hk7; have HN7 := Lib.hid hn7; have HB7 := Lib.hid (HB56.out.trans hb7); have HB17 := Lib.hid (HB5.out.trans (HB7.out.mono hz5)); have c7 := (HT.out w7 HB17.out).cA; clear hn7 hb7 hk7)
  have HNM7 := Lib.hid (HNM.out.below HB7.out)
  have hl7 : w5.heap.size < w7.heap.size := by omega
  go_loopw [23] (fun iv wr => CkRel t.T w7 iv wr) (fun i _ => t.T.nodes.length - (intOf i).toNat)
  case atStart => exact ⟨0, Nat.zero_le _, rfl, fun j _ h => absurd h (by omega), Below.refl _ _⟩
  case round =>
    obtain ⟨k, hk, rfl, hall, hbr⟩ := hrel
    have HALL := Lib.hid hall
    have HBR := Lib.hid hbr
    have hsr := hbr.size
    have HER := Lib.hid (HE.out wr (HB17.out.trans (hbr.mono HB17.out.size)))
    clear hall
    by_cases hlt : k < t.T.nodes.length
    · have HC := Lib.hid (nodeRight_any ⟨t, va, ve⟩ la le k wr (HNM7.out.below hbr) hlt (HK1.out.each _ (List.getElem_mem hlt)).2.1 (HK1.out.each _ (List.getElem_mem hlt)).2.2)
      have HLD := Lib.hid (load_needs_below HN7.out hl7 hbr)
      have HNX := Lib.hid (show NodeOk t.T t.T.nodes[k] → ∀ j (hj : j < t.T.nodes.length), j < k + 1 → NodeOk t.T t.T.nodes[j] from fun q j hj hjk => by
        rcases Nat.lt_or_ge j k with z | z
        · exact HALL.out j hj z
        · obtain rfl : j = k := by omega
          exact q)
      clear hbr
      by_cases k1 : NodeOk t.T t.T.nodes[k]
      · rw [propB_true k1] at HC
        have HN2 := Lib.hid (HNX.out k1)
        clear k1
        go_wp2_with (refine load_needs rfl _ rfl w5.heap.size ⟨t, va, ve⟩ HCL.out HLD.out rfl ?_)
        refine HC.out.mono ?_
        rintro e w8 ⟨rfl, hb8⟩
        have HB8 := Lib.hid hb8
        clear hb8
        go_wp2_with (fail)
        go_roundw
        case rel => exact ⟨k + 1, by omega, by go_num, HN2.out, HBR.out.trans (HB8.out.mono hsr)⟩
        case measure => simp [intOf]; omega
      · rw [propB_false k1] at HC
        have HP := Lib.hid (HNO.out fun q => k1 (q.nodes _ (List.getElem_mem hlt)))
        clear k1
        go_wp2_with (refine load_needs rfl _ rfl w5.heap.size ⟨t, va, ve⟩ HCL.out HLD.out rfl ?_)
        refine HC.out.mono ?_
        rintro e w8 ⟨rfl, hb8⟩
        have HB8 := Lib.hid hb8
        clear hb8
        go_wp2_with (fail)
        go_ret
        exact ⟨ret_bool HP.out.symm, HER.out.trans (HB8.out.mono (by have := HER.out.size; omega))⟩
    · have HP := Lib.hid (HYES.out ⟨HK1.out, HK2.out, HK3.out, fun n hn => by
        obtain ⟨j, hj, rfl⟩ := List.getElem_of_mem hn
        exact HALL.out j hj (by omega)⟩)
      clear hbr
      go_wp2_with (fail)
      go_ret
      exact ⟨ret_bool HP.out.symm, HER.out⟩
end Go.Proofs.Ytboaifdkoemnbaa.Pk
