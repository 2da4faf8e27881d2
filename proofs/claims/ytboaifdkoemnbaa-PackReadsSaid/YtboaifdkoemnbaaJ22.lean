/- The law's awake. -/
import Derived.Test.YtboaifdkoemnbaaJ17
import Derived.Test.YtboaifdkoemnbaaJ19
import Derived.Test.YtboaifdkoemnbaaJ21
import Derived.Deep.RegionHeld3
import Derived.Deep.RegionLaw
import Derived.Deep.DeepCutAuto
import Derived.Tactics2
namespace Go.Proofs.Ytboaifdkoemnbaa.Pk
set_option maxRecDepth 100000
set_option linter.unusedSimpArgs false
open Go Go.RowKit Go.Proofs.Ytboaifdkoemnbaa.Sp Go.Proofs.Ytboaifdkoemnbaa.Pa Go.Proofs.Ytboaifdkoemnbaa.Te Go.Proofs.Ytboaifdkoemnbaa.Mi Go.Proofs.Ytboaifdkoemnbaa.De Go.Proofs.Ytboaifdkoemnbaa.Wo

theorem bytes_lt {T : TabL} (h : ∀ c ∈ T.cls, c < 256) : ∀ b ∈ T.bytes, b < 256 := fun b hb => by
  unfold TabL.bytes at hb
  rcases List.mem_append.1 hb with q | q
  · exact body_lt h b q
  · exact num4_lt q
theorem tiny_len : tinyT.bytes.length = 321 := by
  unfold TabL.bytes
  rw [List.length_append, num4_length]
  unfold TabL.body
  simp only [List.length_append, numsB_length]
  rfl
set_option maxHeartbeats 8000000 in
theorem pawake18_any (w : World) : Calls Try.prog 8 #[] w (Sp.RetB true w) := by
  have HC1 := Lib.hid (tiny_any w)
  go_enter Try.func8, Try.ntmps8
  go_wp2_with (fail)
  refine HC1.out.mono ?_
  rintro e w1 ⟨hb1, t, rfl, hT, hM⟩
  have hpk : packB t.T = true := by rw [hT]; exact tiny_pack
  have HC2 := Lib.hid (pack_any t w1 hM (by rw [hT, tiny_count]; omega))
  have HM1 := Lib.hid hM
  have HB1 := Lib.hid hb1
  have HPK := Lib.hid hpk
  have HTT := Lib.hid hT
  clear hb1 hT hM hpk
  go_wp2_with (fail)
  refine HC2.out.mono ?_
  rintro e w2 ⟨hb2, h2⟩
  rcases h2 with ⟨_, A, c, rfl, hry, hlc⟩ | ⟨hno, _⟩
  case inr => rw [HPK.out] at hno; cases hno
  have HC3 := Lib.hid (unpack_any A c t.T.bytes w2 hry (bytes_lt HM1.out.byte) (by rw [HTT.out, tiny_len]; omega) hlc)
  have HB2 := Lib.hid (HB1.out.trans (hb2.mono HB1.out.size))
  clear hb2 hry
  go_wp2_with (fail)
  refine HC3.out.mono ?_
  rintro e w3 ⟨hb3, h3⟩
  rcases h3 with ⟨t2, hbt, hp2, hF2, rfl⟩ | ⟨hno, _⟩
  case inr => exact absurd rfl (hno t.T HM1.out.cls HPK.out)
  have hTT : t2.T = t.T := TabL.bytes_inj (packB_fit hF2.cls hp2) (packB_fit HM1.out.cls HPK.out) hbt
  have HB3 := Lib.hid (HB2.out.trans (hb3.mono HB2.out.size))
  obtain ⟨Y, hY⟩ : ∃ Y, w3.heap.size = Y := ⟨_, rfl⟩
  obtain ⟨w6, hw6⟩ : ∃ w6, w3.alloc (.cells Try.zeroCells27 27) = w6 := ⟨_, rfl⟩
  obtain ⟨w7, hw7⟩ : ∃ w7, w6.setRow Y t2.cells.toArray = w7 := ⟨_, rfl⟩
  have hY6 : w6.heap[Y]? = some (.cells Try.zeroCells27 27 (0, 0)) := by rw [← hw6, ← hY]; exact heap_alloc_new w3 _
  obtain ⟨hbx, hb7, hz7⟩ := tab_boxed (w7 := w7) (t := t2) hw6 (by rw [hY]; exact hw7)
  rw [hY] at hbx hz7
  have HT7 := Lib.hid (show TW w7 Y t2 from ⟨hbx, (hF2.keep (KeepQ.below hb7)).tm⟩)
  have HB7 := Lib.hid (HB3.out.trans (hb7.mono HB3.out.size))
  have HY6 := Lib.hid hY6
  have HW7 := Lib.hid hw7
  have HE := Lib.hid (hTT.trans HTT.out)
  have hval : t2.val = .agg t2.cells.toArray := rfl
  rw [hval]
  clear hval hb3 hbt hp2 hF2 hTT hbx hb7 hY6 hw7
  go_upto_region 3 with (refine wpList_store_row rfl 27 _ _ rfl Y t2.cells.toArray rfl rfl _ _ HY6.out (tabSize' HT7.out.mem.cls) (by rw [tab_zsize, List.size_toArray, TV.length HT7.out.mem.cls]) oneCells ?_; rw [HW7.out])
  obtain ⟨we, hwe⟩ : ∃ we, w7.drew = we := ⟨_, rfl⟩
  have hB : Below w7.heap.size w7 we := by rw [← hwe]; exact (Below.refl _ _).drew
  refine wp_region_held_drew (S := fun _ => True) (by kernel_rfl) trivial (fun hHeld => ?_)
  rw [hwe]
  clear hwe
  refine wpAnyH_ready (rs := [0]) (by kernel_rfl) (by simp) ?_
  refine (AllReadyH.cons (o := { dst := some 15, op := Go.Op.call { callee := Go.Callee.value (Go.Operand.func 17), args := #[Go.Operand.const (Go.Value.slice none 0 0)], argTypes := #[30] }, type := 51, pos := "law.go:22", after := #[], guard := none }) rfl (fun K hK => ?_) AllReadyH.nil)
  have hC : Calls Try.prog 17 #[.slice none 0 0] we (Sp.RetW (.int .u32 2166136261) we) := sum_any none 0 [] we (RY.nil_ _ _ _) (fun _ h => (List.not_mem_nil h).elim) (by decide)
  go_simp
  go_wp2_with (go_at_call 17; (with_reducible refine hC.mono ?_); rintro e1 w3b ⟨rfl, rfl⟩)
  clear hC
  refine hK.out _ _ ?_ (fun hHeld => ?_)
  · trivial
  clear hK K
  try simp only [Act.put, List.setIfInBounds_toArray, List.set_cons_zero, List.set_cons_succ]
  refine wpAnyH_take (i := 1) (oi := { dst := some 16, op := Go.Op.binOp Go.BinOp.eql 51 (Go.Operand.tmp 15) (Go.Operand.const (Go.Value.int Go.IntKind.u32 2166136261)) 51, type := 4, pos := "law.go:22", after := #[{ on := 0, ground := Go.Ground.data }], guard := none }) (v := ?_) rfl (by kernel_rfl) (by kernel_rfl) (by kernel_rfl) (fun _ _ _ h => h) (Or.inl ⟨by rfl, ?_⟩) (by assumption) ?_
  rotate_left
  · intro w' hSw
    (try dsimp only at hSw)
    go_simp
    all_goals with_reducible rfl
  try simp only [Act.put, List.setIfInBounds_toArray, List.set_cons_zero, List.set_cons_succ]
  refine wpAnyH_take (i := 2) (oi := { dst := some 17, op := Go.Op.move (Go.Operand.tmp 16), type := 4, pos := "law.go:22", after := #[{ on := 1, ground := Go.Ground.data }, { on := 0, ground := Go.Ground.chain }], guard := none }) (v := ?_) rfl (by kernel_rfl) (by kernel_rfl) (by kernel_rfl) (fun _ _ _ h => h) (Or.inl ⟨by rfl, ?_⟩) (by assumption) ?_
  rotate_left
  · intro w' hSw
    (try dsimp only at hSw)
    go_simp
    all_goals with_reducible rfl
  try simp only [Act.put, List.setIfInBounds_toArray, List.set_cons_zero, List.set_cons_succ]
  refine wpAnyH_ready (rs := [3]) (by kernel_rfl) (by simp) ?_
  refine (AllReadyH.cons (o := { dst := some 18, op := Go.Op.buildSlice 30 1 #[(0, Go.Operand.const (Go.Value.int Go.IntKind.u8 97))], type := 30, pos := "law.go:22", after := #[{ on := 2, ground := Go.Ground.guard }], guard := some (2, true) }) rfl (fun K hK => ?_) AllReadyH.nil)
  obtain ⟨ws, hws⟩ : ∃ ws, we.alloc (.cells #[.int .u8 97] 5) = ws := ⟨_, rfl⟩
  have hbs : Below we.heap.size we ws := by rw [← hws]; exact (Below.refl _ _).alloc (Nat.le_refl _) _
  have hqs : ws.heap[we.heap.size]? = some (.cells #[.int .u8 97] 5 (0, 0)) := by rw [← hws]; exact heap_alloc_new we _
  have hsl := (Array.getElem?_eq_some_iff.1 hqs).1
  go_simp
  try rw [hws]
  obtain ⟨yb, hyb⟩ : ∃ yb, we.heap.size = yb := ⟨_, rfl⟩
  have hB := hB.trans (hbs.mono hB.size)
  rw [hyb] at hqs hsl
  try simp only [hyb]
  clear hbs hws
  refine hK.out _ _ ?_ (fun hHeld => ?_)
  · trivial
  clear hK K
  try simp only [Act.put, List.setIfInBounds_toArray, List.set_cons_zero, List.set_cons_succ]
  refine wpAnyH_ready (rs := [4]) (by kernel_rfl) (by simp) ?_
  refine (AllReadyH.cons (o := { dst := some 19, op := Go.Op.call { callee := Go.Callee.value (Go.Operand.func 17), args := #[Go.Operand.tmp 18], argTypes := #[30] }, type := 51, pos := "law.go:22", after := #[{ on := 3, ground := Go.Ground.data }, { on := 2, ground := Go.Ground.chain }, { on := 2, ground := Go.Ground.guard }], guard := some (2, true) }) rfl (fun K hK => ?_) AllReadyH.nil)
  have hC : Calls Try.prog 17 #[.slice (some ⟨yb, 0, none⟩) 1 1] ws (Sp.RetW (.int .u32 3826002220) ws) := by
    have h9 := sum_any (some ⟨yb, 0, none⟩) 1 [97] ws ⟨rfl, fun _ => ⟨yb, 0, rfl, hsl, fun j hj => by
      have hj : j < 1 := hj
      obtain rfl : j = 0 := by omega
      rw [cell_of_row ws yb _ _ _ _ hqs]
      rfl⟩⟩ (by decide) (by decide)
    rw [sum_a] at h9
    exact h9
  go_simp
  go_wp2_with (go_at_call 17; (with_reducible refine hC.mono ?_); rintro e2 w3c ⟨rfl, rfl⟩)
  clear hC
  refine hK.out _ _ ?_ (fun hHeld => ?_)
  · trivial
  clear hK K
  try simp only [Act.put, List.setIfInBounds_toArray, List.set_cons_zero, List.set_cons_succ]
  refine wpAnyH_take (i := 5) (oi := { dst := some 20, op := Go.Op.binOp Go.BinOp.eql 51 (Go.Operand.tmp 19) (Go.Operand.const (Go.Value.int Go.IntKind.u32 3826002220)) 51, type := 4, pos := "law.go:22", after := #[{ on := 4, ground := Go.Ground.data }, { on := 2, ground := Go.Ground.guard }], guard := some (2, true) }) (v := ?_) rfl (by kernel_rfl) (by kernel_rfl) (by kernel_rfl) (fun _ _ _ h => h) (Or.inl ⟨by rfl, ?_⟩) (by assumption) ?_
  rotate_left
  · intro w' hSw
    (try dsimp only at hSw)
    go_simp
    all_goals with_reducible rfl
  try simp only [Act.put, List.setIfInBounds_toArray, List.set_cons_zero, List.set_cons_succ]
  refine wpAnyH_take (i := 6) (oi := { dst := some 21, op := Go.Op.pick (Go.Operand.tmp 17) (Go.Operand.tmp 20) (Go.Operand.const (Go.Value.bool false)), type := 4, pos := "law.go:22", after := #[{ on := 2, ground := Go.Ground.data }, { on := 5, ground := Go.Ground.data }], guard := none }) (v := ?_) rfl (by kernel_rfl) (by kernel_rfl) (by kernel_rfl) (fun _ _ _ h => h) (Or.inl ⟨by rfl, ?_⟩) (by assumption) ?_
  rotate_left
  · intro w' hSw
    (try dsimp only at hSw)
    go_simp
    all_goals with_reducible rfl
  try simp only [Act.put, List.setIfInBounds_toArray, List.set_cons_zero, List.set_cons_succ]
  refine wpAnyH_take (i := 7) (oi := { dst := some 22, op := Go.Op.move (Go.Operand.tmp 21), type := 4, pos := "law.go:22", after := #[{ on := 6, ground := Go.Ground.data }, { on := 4, ground := Go.Ground.chain }], guard := none }) (v := ?_) rfl (by kernel_rfl) (by kernel_rfl) (by kernel_rfl) (fun _ _ _ h => h) (Or.inl ⟨by rfl, ?_⟩) (by assumption) ?_
  rotate_left
  · intro w' hSw
    (try dsimp only at hSw)
    go_simp
    all_goals with_reducible rfl
  try simp only [Act.put, List.setIfInBounds_toArray, List.set_cons_zero, List.set_cons_succ]
  refine wpAnyH_take (i := 8) (oi := { dst := some 23, op := Go.Op.move (Go.Operand.tmp 2), type := 31, pos := "law.go:22", after := #[{ on := 7, ground := Go.Ground.guard }], guard := some (7, true) }) (v := ?_) rfl (by kernel_rfl) (by kernel_rfl) (by kernel_rfl) (fun _ _ _ h => h) (Or.inl ⟨by rfl, ?_⟩) (by assumption) ?_
  rotate_left
  · intro w' hSw
    (try dsimp only at hSw)
    go_simp
    all_goals with_reducible rfl
  try simp only [Act.put, List.setIfInBounds_toArray, List.set_cons_zero, List.set_cons_succ]
  refine wpAnyH_take (i := 9) (oi := { dst := some 24, op := Go.Op.binOp Go.BinOp.eql 31 (Go.Operand.tmp 23) (Go.Operand.const (Go.Value.int Go.IntKind.i64 0)) 31, type := 4, pos := "law.go:22", after := #[{ on := 8, ground := Go.Ground.data }, { on := 7, ground := Go.Ground.guard }], guard := some (7, true) }) (v := ?_) rfl (by kernel_rfl) (by kernel_rfl) (by kernel_rfl) (fun _ _ _ h => h) (Or.inl ⟨by rfl, ?_⟩) (by assumption) ?_
  rotate_left
  · intro w' hSw
    (try dsimp only at hSw)
    go_simp
    all_goals with_reducible rfl
  try simp only [Act.put, List.setIfInBounds_toArray, List.set_cons_zero, List.set_cons_succ]
  refine wpAnyH_take (i := 10) (oi := { dst := some 25, op := Go.Op.pick (Go.Operand.tmp 22) (Go.Operand.tmp 24) (Go.Operand.const (Go.Value.bool false)), type := 4, pos := "law.go:22", after := #[{ on := 7, ground := Go.Ground.data }, { on := 9, ground := Go.Ground.data }], guard := none }) (v := ?_) rfl (by kernel_rfl) (by kernel_rfl) (by kernel_rfl) (fun _ _ _ h => h) (Or.inl ⟨by rfl, ?_⟩) (by assumption) ?_
  rotate_left
  · intro w' hSw
    (try dsimp only at hSw)
    go_simp
    all_goals with_reducible rfl
  try simp only [Act.put, List.setIfInBounds_toArray, List.set_cons_zero, List.set_cons_succ]
  refine wpAnyH_take (i := 11) (oi := { dst := some 26, op := Go.Op.move (Go.Operand.tmp 25), type := 4, pos := "law.go:22", after := #[{ on := 10, ground := Go.Ground.data }, { on := 7, ground := Go.Ground.chain }], guard := none }) (v := ?_) rfl (by kernel_rfl) (by kernel_rfl) (by kernel_rfl) (fun _ _ _ h => h) (Or.inl ⟨by rfl, ?_⟩) (by assumption) ?_
  rotate_left
  · intro w' hSw
    (try dsimp only at hSw)
    go_simp
    all_goals with_reducible rfl
  try simp only [Act.put, List.setIfInBounds_toArray, List.set_cons_zero, List.set_cons_succ]
  refine wpAnyH_take (i := 12) (oi := { dst := some 27, op := Go.Op.move (Go.Operand.tmp 4), type := 31, pos := "law.go:22", after := #[{ on := 11, ground := Go.Ground.guard }], guard := some (11, true) }) (v := ?_) rfl (by kernel_rfl) (by kernel_rfl) (by kernel_rfl) (fun _ _ _ h => h) (Or.inl ⟨by rfl, ?_⟩) (by assumption) ?_
  rotate_left
  · intro w' hSw
    (try dsimp only at hSw)
    go_simp
    all_goals with_reducible rfl
  try simp only [Act.put, List.setIfInBounds_toArray, List.set_cons_zero, List.set_cons_succ]
  refine wpAnyH_take (i := 13) (oi := { dst := some 28, op := Go.Op.binOp Go.BinOp.eql 31 (Go.Operand.tmp 27) (Go.Operand.const (Go.Value.int Go.IntKind.i64 0)) 31, type := 4, pos := "law.go:22", after := #[{ on := 12, ground := Go.Ground.data }, { on := 11, ground := Go.Ground.guard }], guard := some (11, true) }) (v := ?_) rfl (by kernel_rfl) (by kernel_rfl) (by kernel_rfl) (fun _ _ _ h => h) (Or.inl ⟨by rfl, ?_⟩) (by assumption) ?_
  rotate_left
  · intro w' hSw
    (try dsimp only at hSw)
    go_simp
    all_goals with_reducible rfl
  try simp only [Act.put, List.setIfInBounds_toArray, List.set_cons_zero, List.set_cons_succ]
  refine wpAnyH_take (i := 14) (oi := { dst := some 29, op := Go.Op.pick (Go.Operand.tmp 26) (Go.Operand.tmp 28) (Go.Operand.const (Go.Value.bool false)), type := 4, pos := "law.go:22", after := #[{ on := 11, ground := Go.Ground.data }, { on := 13, ground := Go.Ground.data }], guard := none }) (v := ?_) rfl (by kernel_rfl) (by kernel_rfl) (by kernel_rfl) (fun _ _ _ h => h) (Or.inl ⟨by rfl, ?_⟩) (by assumption) ?_
  rotate_left
  · intro w' hSw
    (try dsimp only at hSw)
    go_simp
    all_goals with_reducible rfl
  try simp only [Act.put, List.setIfInBounds_toArray, List.set_cons_zero, List.set_cons_succ]
  refine wpAnyH_take (i := 15) (oi := { dst := some 30, op := Go.Op.move (Go.Operand.tmp 29), type := 4, pos := "law.go:22", after := #[{ on := 14, ground := Go.Ground.data }, { on := 11, ground := Go.Ground.chain }], guard := none }) (v := ?_) rfl (by kernel_rfl) (by kernel_rfl) (by kernel_rfl) (fun _ _ _ h => h) (Or.inl ⟨by rfl, ?_⟩) (by assumption) ?_
  rotate_left
  · intro w' hSw
    (try dsimp only at hSw)
    go_simp
    all_goals with_reducible rfl
  try simp only [Act.put, List.setIfInBounds_toArray, List.set_cons_zero, List.set_cons_succ]
  refine wpAnyH_ready (rs := [16, 17]) (by kernel_rfl) (by simp) ?_
  refine (AllReadyH.cons (o := { dst := some 31, op := Go.Op.load 27 (Go.Operand.tmp 3), type := 27, pos := "law.go:22", after := #[{ on := 15, ground := Go.Ground.guard }], guard := some (15, true) }) rfl (fun K hK => ?_) (AllReadyH.cons (o := { dst := some 32, op := Go.Op.call { callee := Go.Callee.value (Go.Operand.func 16), args := #[], argTypes := #[] }, type := 27, pos := "law.go:22", after := #[{ on := 15, ground := Go.Ground.chain }, { on := 15, ground := Go.Ground.guard }], guard := some (15, true) }) rfl (fun K hK => ?_) AllReadyH.nil))
  focus
    have hTl := HT7.out.below hB
    refine wp_load_row 27 _ rfl Y rfl _ _ _ _ hTl.box Try.underlying27 rfl (tabSize' hTl.mem.cls) ?_
    clear hTl
    refine hK.out _ _ ?_ (fun hHeld => ?_)
    · trivial
    clear hK K
    try simp only [Act.put, List.setIfInBounds_toArray, List.set_cons_zero, List.set_cons_succ]
    refine wpAnyH_ready (rs := [17]) (by kernel_rfl) (by simp) ?_
    refine (AllReadyH.cons (o := { dst := some 32, op := Go.Op.call { callee := Go.Callee.value (Go.Operand.func 16), args := #[], argTypes := #[] }, type := 27, pos := "law.go:22", after := #[{ on := 15, ground := Go.Ground.chain }, { on := 15, ground := Go.Ground.guard }], guard := some (15, true) }) rfl (fun K hK => ?_) AllReadyH.nil)
    have hC := tiny_any ws
    go_simp
    go_wp2_with (go_at_call 16; (with_reducible refine hC.mono ?_); rintro e4 wt ⟨hbt, t3, rfl, hT3, hM3⟩)
    clear hC
    have hB := hB.trans (hbt.mono hB.size)
    clear hbt
    refine hK.out _ _ ?_ (fun hHeld => ?_)
    · trivial
    clear hK K
    try simp only [Act.put, List.setIfInBounds_toArray, List.set_cons_zero, List.set_cons_succ]
    refine wpAnyH_ready (rs := [18]) (by kernel_rfl) (by simp) ?_
    refine (AllReadyH.cons (o := { dst := some 33, op := Go.Op.call { callee := Go.Callee.value (Go.Operand.func 12), args := #[Go.Operand.tmp 31, Go.Operand.tmp 32], argTypes := #[27, 27] }, type := 4, pos := "law.go:22", after := #[{ on := 16, ground := Go.Ground.data }, { on := 17, ground := Go.Ground.data }, { on := 17, ground := Go.Ground.chain }, { on := 15, ground := Go.Ground.guard }], guard := some (15, true) }) rfl (fun K hK => ?_) AllReadyH.nil)
    have hC : Calls Try.prog 12 #[.agg t2.cells.toArray, t3.val] wt (Sp.RetB true wt) := same_eq t2 t3 wt (HT7.out.below hB).mem hM3 (by rw [HE.out, hT3])
    go_simp
    go_wp2_with (go_at_call 12; (with_reducible refine hC.mono ?_); rintro e5 wm ⟨rfl, hbm⟩)
    clear hC
    have hB := hB.trans (hbm.mono hB.size)
    clear hbm
    refine hK.out _ _ ?_ (fun hHeld => ?_)
    · trivial
    clear hK K
    try simp only [Act.put, List.setIfInBounds_toArray, List.set_cons_zero, List.set_cons_succ]
    refine wpAnyH_take (i := 19) (oi := { dst := some 34, op := Go.Op.pick (Go.Operand.tmp 30) (Go.Operand.tmp 33) (Go.Operand.const (Go.Value.bool false)), type := 4, pos := "law.go:22", after := #[{ on := 15, ground := Go.Ground.data }, { on := 18, ground := Go.Ground.data }], guard := none }) (v := ?_) rfl (by kernel_rfl) (by kernel_rfl) (by kernel_rfl) (fun _ _ _ h => h) (Or.inl ⟨by rfl, ?_⟩) (by assumption) ?_
    rotate_left
    · intro w' hSw
      (try dsimp only at hSw)
      go_simp
      all_goals with_reducible rfl
    try simp only [Act.put, List.setIfInBounds_toArray, List.set_cons_zero, List.set_cons_succ]
    refine wpAnyH_take (i := 20) (oi := { dst := some 0, op := Go.Op.assign (Go.Operand.tmp 34), type := 4, pos := "law.go:22", after := #[{ on := 19, ground := Go.Ground.data }, { on := 18, ground := Go.Ground.chain }, { on := 0, ground := Go.Ground.phase }, { on := 1, ground := Go.Ground.phase }, { on := 2, ground := Go.Ground.phase }, { on := 3, ground := Go.Ground.phase }, { on := 4, ground := Go.Ground.phase }, { on := 5, ground := Go.Ground.phase }, { on := 6, ground := Go.Ground.phase }, { on := 7, ground := Go.Ground.phase }, { on := 8, ground := Go.Ground.phase }, { on := 9, ground := Go.Ground.phase }, { on := 10, ground := Go.Ground.phase }, { on := 11, ground := Go.Ground.phase }, { on := 12, ground := Go.Ground.phase }, { on := 13, ground := Go.Ground.phase }, { on := 14, ground := Go.Ground.phase }, { on := 15, ground := Go.Ground.phase }, { on := 16, ground := Go.Ground.phase }, { on := 17, ground := Go.Ground.phase }, { on := 18, ground := Go.Ground.phase }, { on := 19, ground := Go.Ground.phase }], guard := none }) (v := ?_) rfl (by kernel_rfl) (by kernel_rfl) (by kernel_rfl) (fun _ _ _ h => h) (Or.inl ⟨by rfl, ?_⟩) (by assumption) ?_
    rotate_left
    · intro w' hSw
      (try dsimp only at hSw)
      go_simp
      all_goals with_reducible rfl
    try simp only [Act.put, List.setIfInBounds_toArray, List.set_cons_zero, List.set_cons_succ]
    obtain ⟨wl, rfl⟩ : ∃ wl : World, wl = wm := ⟨_, rfl⟩
  rotate_left 1
  focus
    have hC := tiny_any ws
    go_simp
    go_wp2_with (go_at_call 16; (with_reducible refine hC.mono ?_); rintro e4 wt ⟨hbt, t3, rfl, hT3, hM3⟩)
    clear hC
    have hB := hB.trans (hbt.mono hB.size)
    clear hbt
    refine hK.out _ _ ?_ (fun hHeld => ?_)
    · trivial
    clear hK K
    try simp only [Act.put, List.setIfInBounds_toArray, List.set_cons_zero, List.set_cons_succ]
    refine wpAnyH_ready (rs := [16]) (by kernel_rfl) (by simp) ?_
    refine (AllReadyH.cons (o := { dst := some 31, op := Go.Op.load 27 (Go.Operand.tmp 3), type := 27, pos := "law.go:22", after := #[{ on := 15, ground := Go.Ground.guard }], guard := some (15, true) }) rfl (fun K hK => ?_) AllReadyH.nil)
    have hTl := HT7.out.below hB
    refine wp_load_row 27 _ rfl Y rfl _ _ _ _ hTl.box Try.underlying27 rfl (tabSize' hTl.mem.cls) ?_
    clear hTl
    refine hK.out _ _ ?_ (fun hHeld => ?_)
    · trivial
    clear hK K
    try simp only [Act.put, List.setIfInBounds_toArray, List.set_cons_zero, List.set_cons_succ]
    refine wpAnyH_ready (rs := [18]) (by kernel_rfl) (by simp) ?_
    refine (AllReadyH.cons (o := { dst := some 33, op := Go.Op.call { callee := Go.Callee.value (Go.Operand.func 12), args := #[Go.Operand.tmp 31, Go.Operand.tmp 32], argTypes := #[27, 27] }, type := 4, pos := "law.go:22", after := #[{ on := 16, ground := Go.Ground.data }, { on := 17, ground := Go.Ground.data }, { on := 17, ground := Go.Ground.chain }, { on := 15, ground := Go.Ground.guard }], guard := some (15, true) }) rfl (fun K hK => ?_) AllReadyH.nil)
    have hC : Calls Try.prog 12 #[.agg t2.cells.toArray, t3.val] wt (Sp.RetB true wt) := same_eq t2 t3 wt (HT7.out.below hB).mem hM3 (by rw [HE.out, hT3])
    go_simp
    go_wp2_with (go_at_call 12; (with_reducible refine hC.mono ?_); rintro e5 wm ⟨rfl, hbm⟩)
    clear hC
    have hB := hB.trans (hbm.mono hB.size)
    clear hbm
    refine hK.out _ _ ?_ (fun hHeld => ?_)
    · trivial
    clear hK K
    try simp only [Act.put, List.setIfInBounds_toArray, List.set_cons_zero, List.set_cons_succ]
    refine wpAnyH_take (i := 19) (oi := { dst := some 34, op := Go.Op.pick (Go.Operand.tmp 30) (Go.Operand.tmp 33) (Go.Operand.const (Go.Value.bool false)), type := 4, pos := "law.go:22", after := #[{ on := 15, ground := Go.Ground.data }, { on := 18, ground := Go.Ground.data }], guard := none }) (v := ?_) rfl (by kernel_rfl) (by kernel_rfl) (by kernel_rfl) (fun _ _ _ h => h) (Or.inl ⟨by rfl, ?_⟩) (by assumption) ?_
    rotate_left
    · intro w' hSw
      (try dsimp only at hSw)
      go_simp
      all_goals with_reducible rfl
    try simp only [Act.put, List.setIfInBounds_toArray, List.set_cons_zero, List.set_cons_succ]
    refine wpAnyH_take (i := 20) (oi := { dst := some 0, op := Go.Op.assign (Go.Operand.tmp 34), type := 4, pos := "law.go:22", after := #[{ on := 19, ground := Go.Ground.data }, { on := 18, ground := Go.Ground.chain }, { on := 0, ground := Go.Ground.phase }, { on := 1, ground := Go.Ground.phase }, { on := 2, ground := Go.Ground.phase }, { on := 3, ground := Go.Ground.phase }, { on := 4, ground := Go.Ground.phase }, { on := 5, ground := Go.Ground.phase }, { on := 6, ground := Go.Ground.phase }, { on := 7, ground := Go.Ground.phase }, { on := 8, ground := Go.Ground.phase }, { on := 9, ground := Go.Ground.phase }, { on := 10, ground := Go.Ground.phase }, { on := 11, ground := Go.Ground.phase }, { on := 12, ground := Go.Ground.phase }, { on := 13, ground := Go.Ground.phase }, { on := 14, ground := Go.Ground.phase }, { on := 15, ground := Go.Ground.phase }, { on := 16, ground := Go.Ground.phase }, { on := 17, ground := Go.Ground.phase }, { on := 18, ground := Go.Ground.phase }, { on := 19, ground := Go.Ground.phase }], guard := none }) (v := ?_) rfl (by kernel_rfl) (by kernel_rfl) (by kernel_rfl) (fun _ _ _ h => h) (Or.inl ⟨by rfl, ?_⟩) (by assumption) ?_
    rotate_left
    · intro w' hSw
      (try dsimp only at hSw)
      go_simp
      all_goals with_reducible rfl
    try simp only [Act.put, List.setIfInBounds_toArray, List.set_cons_zero, List.set_cons_succ]
    obtain ⟨wl, rfl⟩ : ∃ wl : World, wl = wm := ⟨_, rfl⟩
  all_goals
    refine wpAnyH_done (by kernel_rfl) ?_ _
    have HFIN := Lib.hid (HB7.out.trans (hB.mono HB7.out.size))
    clear hB
    go_wp2_with (fail)
    go_ret
    exact ⟨rfl, HFIN.out⟩
end Go.Proofs.Ytboaifdkoemnbaa.Pk
