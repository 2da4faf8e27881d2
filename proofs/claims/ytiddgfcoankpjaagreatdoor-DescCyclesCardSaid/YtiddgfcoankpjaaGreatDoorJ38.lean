/- The walk of DescCycles. -/
import Derived.Test.YtiddgfcoankpjaaGreatDoorJ14
import Derived.Test.YtiddgfcoankpjaaGreatDoorJ19
import Derived.Test.YtiddgfcoankpjaaGreatDoorJ36
namespace Go.Proofs.YtiddgfcoankpjaaGreatDoor.De
set_option maxRecDepth 100000
open Go Go.RowKit Go.Proofs.YtiddgfcoankpjaaGreatDoor.Sp Go.Proofs.YtiddgfcoankpjaaGreatDoor.Pa Go.Proofs.YtiddgfcoankpjaaGreatDoor.Te Go.Proofs.YtiddgfcoankpjaaGreatDoor.Mi Go.Proofs.YtiddgfcoankpjaaGreatDoor.Fi

/-- The rules that the edges make. -/
def cycL (N : Nat) (es : List (Int × Int)) : List RuL := es.map fun e => ⟨Int.tmod e.1 N, Int.tmod e.2 N, [], 0, []⟩
theorem cycL_next {N : Nat} {es : List (Int × Int)} {k : Nat} (h : k < es.length) : cycL N (es.take (k + 1)) = cycL N (es.take k) ++ [⟨Int.tmod es[k].1 N, Int.tmod es[k].2 N, [], 0, []⟩] := by
  unfold cycL
  rw [List.take_succ_eq_append_getElem h, List.map_append]
  rfl
theorem states_num (n : Int) : ∃ N : Nat, 1 ≤ N ∧ N ≤ 40 ∧ wrap64 (1 + wrap64 ((IntKind.u64.wrap n).tmod 40)) = (N : Int) := by
  have h0 : 0 ≤ (IntKind.u64.wrap n) := by
    unfold IntKind.wrap
    simp [IntKind.signed, IntKind.bits]
    omega
  generalize IntKind.u64.wrap n = U at *
  have h1 : U.tmod 40 = U % 40 := Int.tmod_eq_emod_of_nonneg h0
  rw [h1]
  refine ⟨(1 + U % 40).toNat, by omega, by omega, ?_⟩
  unfold wrap64
  omega
def CyRel (es : List (Int × Int)) (N : Nat) (w : World) (iv : Value) (wr : World) : Prop :=
  ∃ (k : Nat) (v : Value), k ≤ es.length ∧ iv = .int .i64 k ∧ LayS (w.heap.size + 1) w.heap.size 1 1 N 0 (cycL N (es.take k)) [] v (.slice none 0 0) wr ∧ Below w.heap.size w wr
theorem rem_in {e : Int} {N : Nat} (h : 0 ≤ e) (hN : 1 ≤ N) : 0 ≤ Int.tmod e N ∧ Int.tmod e N < N := by
  rw [Int.tmod_eq_emod_of_nonneg h]
  exact ⟨Int.emod_nonneg _ (by omega), Int.emod_lt_of_pos _ (by omega)⟩
theorem cyc_rule {N : Nat} {a b : Int} (ha : 0 ≤ a ∧ a < (N : Int)) (hb : 0 ≤ b ∧ b < (N : Int)) : ruleB 1 N (fitF 1 1) ⟨a, b, [], 0, []⟩ = true := by
  unfold ruleB eatB termsB
  rw [stB_t ha.1 ha.2, stB_t hb.1 hb.2, guards_nil]
  simp
theorem cyc_where {N : Nat} (h1 : 1 ≤ N) (h2 : N ≤ 40) {rs : List RuL} (hl : rs.length ≤ 200) (hr : ∀ r ∈ rs, ruleB 1 N (fitF 1 1) r = true) : whereD 1 1 N 0 rs [] = (if cycE (epsE rs) N = true then 4 else 0, 0) := by
  have hh : headB 1 1 N 0 rs.length ([] : List FiL).length = true := by
    unfold headB
    rw [sort_one (.inl rfl), stB_t (Int.le_refl _) (by omega)]
    simp
    omega
  unfold whereD whereV
  rw [if_pos hh, badAt_all hr, badAt_all (fun f hf => by cases hf), Int.toNat_natCast]
  simp only
  split <;> rfl
set_option maxHeartbeats 8000000 in
theorem cycles_law (n : Int) (_hn : -9223372036854775808 ≤ n ∧ n ≤ 9223372036854775807) (A : Option Addr) (c : Nat) (es : List (Int × Int)) (w : World) (hr : RE2 w A es) (hl : es.length ≤ maxLen) (hT : TabB w) : Calls Tryz.prog 9 #[.int .i64 n, .slice A es.length c] w (RetB true w) := by
  have HT := Lib.hid hT
  have HR := Lib.hid hr
  unfold maxLen at hl
  clear hT hr
  by_cases hg : 200 < es.length
  · go_enter Tryz.func9, Tryz.ntmps9
    go_wp2_with (fail)
    refine (awake_any w HT.out).mono ?_
    rintro e w1 ⟨rfl, hb1⟩
    have HB1 := Lib.hid hb1
    clear hb1
    go_wp2_with (fail)
    go_ret
    exact ⟨rfl, HB1.out⟩
  obtain ⟨N, hN1, hN2, hN⟩ := states_num n
  have HN := Lib.hid hN
  clear hN
  have h200 : es.length ≤ 200 := by omega
  go_enter Tryz.func9, Tryz.ntmps9
  go_wp2_with (fail)
  rw [HN.out]
  clear HN
  generalize IntKind.u64.wrap n = U
  obtain ⟨w1, hw1⟩ : ∃ w1, w.alloc (.cells #[.int .i64 1, .int .i64 1, .int .i64 N, .int .i64 0, .slice none 0 0, .slice none 0 0] 35) = w1 := ⟨_, rfl⟩
  rw [hw1]
  have hb1 : Below w.heap.size w w1 := by rw [← hw1]; exact (Below.refl _ _).alloc (Nat.le_refl _) _
  have hd1 : DBox w1 w.heap.size 1 1 N 0 (.slice none 0 0) (.slice none 0 0) := by rw [← hw1]; exact heap_alloc_new w _
  have HST := Lib.hid (show CyRel es N w (.int .i64 (0 : Nat)) w1 from ⟨0, _, Nat.zero_le _, rfl, LayS.start hd1, hb1⟩)
  clear hw1 hb1 hd1
  go_loopw [6] (fun iv wr => CyRel es N w iv wr) (fun iv _ => es.length - (intOf iv).toNat)
  case atStart => exact HST.out
  case round =>
    obtain ⟨k, v, hk, rfl, hlay, hbl⟩ := hrel
    have HLX := Lib.hid hlay
    have HBW := Lib.hid hbl
    by_cases hlt : k < es.length
    · obtain ⟨b, off, hA, hbB, hce⟩ := HR.out (by omega)
      obtain ⟨d0, d1, g0, g1, g2, g3⟩ := hce k hlt
      obtain ⟨e0, he0⟩ : ∃ e0, es[k].1 = e0 := ⟨_, rfl⟩
      obtain ⟨e1, he1⟩ : ∃ e1, es[k].2 = e1 := ⟨_, rfl⟩
      have HE := Lib.hid (show es[k] = (e0, e1) by rw [← he0, ← he1])
      rw [he0] at d0 g0 g1
      rw [he1] at d1 g2 g3
      have HLT := Lib.hid hlt
      have HXW := Lib.hid (show w.heap.size ≤ wr.heap.size from Nat.le_of_lt hlay.box.lt)
      have hxr := hlay.box.lt
      have HVX := Lib.hid (show ∀ g, v.ownBlock = some g → w.heap.size + 1 ≤ g ∧ g < wr.heap.size from fun g e => by
        obtain ⟨vs0, h0, _⟩ := hlay.rules
        exact World.ownsRow.lt h0 g e)
      obtain ⟨nL, hnL⟩ : ∃ nL, (cycL N (es.take k)).length = nL := ⟨_, rfl⟩
      have HNL := Lib.hid hnL
      have hnLb : nL ≤ 200 := by rw [← hnL]; unfold cycL; rw [List.length_map, List.length_take]; omega
      have HSAT := Lib.hid (fun W {vv : Value} (hd : DBox W w.heap.size 1 1 N 0 vv (.slice none 0 0)) (hb : Below w.heap.size w W) => show W.cell? ⟨w.heap.size, 2, none⟩ = some (.int .i64 N) ∧ W.cell? ⟨b, off + k * 2, none⟩ = some (.int .u8 e0) ∧ W.cell? ⟨b, off + k * 2 + 1, none⟩ = some (.int .u8 e1) from ⟨hd.cells.2.2.1, (hb.cell (p := ⟨b, off + k * 2, none⟩) hbB).trans d0, (hb.cell (p := ⟨b, off + k * 2 + 1, none⟩) hbB).trans d1⟩)
      have HKEEP := Lib.hid (fun W (hb : Below wr.heap.size wr W) => HSAT.out W (HLX.out.keep hb).box (HBW.out.trans (hb.mono HXW.out)))
      have hx4 := hlay.box.at4
      have s1 : IntKind.i64.wrap e0 = e0 := IntWalk.i64_in _ (by omega)
      have s2 : IntKind.i64.wrap e1 = e1 := IntWalk.i64_in _ (by omega)
      have hNz : ¬ N = 0 := by omega
      have hNi : ¬ (N : Int) = 0 := by omega
      have i1 : (0 : Int) ≤ (k : Int) := Int.natCast_nonneg _
      have i2 : (k : Int) < (es.length : Int) := by omega
      obtain ⟨i0, hi0, hz0, hz1, hz2⟩ := info_parts infoRule
      subst hA
      clear hlay hbl hnL hce d0 d1 he0 he1
      go_wp2_with (fail)
      obtain ⟨wd, hwd⟩ : ∃ wd, wr.drew = wd := ⟨_, rfl⟩
      have hBx : Below wr.heap.size wr wd := by rw [← hwd]; exact (Below.refl _ _).drew
      have hQW := HKEEP.out wd hBx
      refine wp_region_held_drew (S := fun W => W.cell? ⟨w.heap.size, 2, none⟩ = some (.int .i64 N) ∧ W.cell? ⟨b, off + k * 2, none⟩ = some (.int .u8 e0) ∧ W.cell? ⟨b, off + k * 2 + 1, none⟩ = some (.int .u8 e1)) (by kernel_rfl) (by rw [hwd]; exact hQW) (fun hHeld => ?_)
      rw [hwd] at hHeld ⊢
      refine wpAnyH_take (i := 0) (oi := { dst := some 26, op := Go.Op.fieldAddr 35 (Go.Operand.tmp 5) 4, type := 0, pos := "law.go:117", after := #[], guard := none }) (v := ?_) rfl (by kernel_rfl) (by kernel_rfl) (by kernel_rfl) (fun _ _ _ h => h) (Or.inl ⟨by rfl, ?_⟩) (by assumption) ?_
      rotate_left
      · intro w' hSw
        (try dsimp only at hSw)
        go_simp
        all_goals with_reducible rfl
      try simp only [Act.put, List.setIfInBounds_toArray, List.set_cons_zero, List.set_cons_succ]
      refine wpAnyH_take (i := 2) (oi := { dst := some 28, op := Go.Op.move (Go.Operand.tmp 1), type := 62, pos := "law.go:117", after := #[], guard := none }) (v := ?_) rfl (by kernel_rfl) (by kernel_rfl) (by kernel_rfl) (fun _ _ _ h => h) (Or.inl ⟨by rfl, ?_⟩) (by assumption) ?_
      rotate_left
      · intro w' hSw
        (try dsimp only at hSw)
        go_simp
        all_goals with_reducible rfl
      try simp only [Act.put, List.setIfInBounds_toArray, List.set_cons_zero, List.set_cons_succ]
      refine wpAnyH_take (i := 3) (oi := { dst := some 29, op := Go.Op.move (Go.Operand.tmp 6), type := 3, pos := "law.go:117", after := #[], guard := none }) (v := ?_) rfl (by kernel_rfl) (by kernel_rfl) (by kernel_rfl) (fun _ _ _ h => h) (Or.inl ⟨by rfl, ?_⟩) (by assumption) ?_
      rotate_left
      · intro w' hSw
        (try dsimp only at hSw)
        go_simp
        all_goals with_reducible rfl
      try simp only [Act.put, List.setIfInBounds_toArray, List.set_cons_zero, List.set_cons_succ]
      refine wpAnyH_take (i := 4) (oi := { dst := some 30, op := Go.Op.indexAddr 62 (Go.Operand.tmp 28) (Go.Operand.tmp 29), type := 0, pos := "law.go:117", after := #[{ on := 2, ground := Go.Ground.data }, { on := 3, ground := Go.Ground.data }], guard := none }) (v := ?_) rfl (by kernel_rfl) (by kernel_rfl) (by kernel_rfl) (fun _ _ _ h => h) (Or.inl ⟨by rfl, ?_⟩) (by assumption) ?_
      rotate_left
      · intro w' hSw
        (try dsimp only at hSw)
        go_simp
        all_goals with_reducible rfl
      try simp only [Act.put, List.setIfInBounds_toArray, List.set_cons_zero, List.set_cons_succ]
      refine wpAnyH_take (i := 5) (oi := { dst := some 31, op := Go.Op.indexAddr 63 (Go.Operand.tmp 30) (Go.Operand.const (Go.Value.int Go.IntKind.i64 0)), type := 0, pos := "law.go:117", after := #[{ on := 4, ground := Go.Ground.data }], guard := none }) (v := ?_) rfl (by kernel_rfl) (by kernel_rfl) (by kernel_rfl) (fun _ _ _ h => h) (Or.inl ⟨by rfl, ?_⟩) (by assumption) ?_
      rotate_left
      · intro w' hSw
        (try dsimp only at hSw)
        go_simp
        all_goals with_reducible rfl
      try simp only [Act.put, List.setIfInBounds_toArray, List.set_cons_zero, List.set_cons_succ]
      refine wpAnyH_take (i := 6) (oi := { dst := some 32, op := Go.Op.load 5 (Go.Operand.tmp 31), type := 5, pos := "law.go:117", after := #[{ on := 5, ground := Go.Ground.data }], guard := none }) (v := ?_) rfl (by kernel_rfl) (by kernel_rfl) (by kernel_rfl) (fun _ _ _ h => h) (Or.inl ⟨by rfl, ?_⟩) (by assumption) ?_
      rotate_left
      · intro w' hSw
        (try dsimp only at hSw)
        have q2 := hSw.1
        have da := hSw.2.1
        have db := hSw.2.2
        go_simp
        all_goals with_reducible rfl
      try simp only [Act.put, List.setIfInBounds_toArray, List.set_cons_zero, List.set_cons_succ]
      refine wpAnyH_take (i := 7) (oi := { dst := some 33, op := Go.Op.convert 5 3 (Go.Operand.tmp 32), type := 3, pos := "law.go:117", after := #[{ on := 6, ground := Go.Ground.data }], guard := none }) (v := ?_) rfl (by kernel_rfl) (by kernel_rfl) (by kernel_rfl) (fun _ _ _ h => h) (Or.inl ⟨by rfl, ?_⟩) (by assumption) ?_
      rotate_left
      · intro w' hSw
        (try dsimp only at hSw)
        go_simp
        all_goals with_reducible rfl
      try simp only [Act.put, List.setIfInBounds_toArray, List.set_cons_zero, List.set_cons_succ]
      refine wpAnyH_take (i := 8) (oi := { dst := some 34, op := Go.Op.fieldAddr 35 (Go.Operand.tmp 5) 2, type := 0, pos := "law.go:117", after := #[], guard := none }) (v := ?_) rfl (by kernel_rfl) (by kernel_rfl) (by kernel_rfl) (fun _ _ _ h => h) (Or.inl ⟨by rfl, ?_⟩) (by assumption) ?_
      rotate_left
      · intro w' hSw
        (try dsimp only at hSw)
        go_simp
        all_goals with_reducible rfl
      try simp only [Act.put, List.setIfInBounds_toArray, List.set_cons_zero, List.set_cons_succ]
      refine wpAnyH_take (i := 9) (oi := { dst := some 35, op := Go.Op.load 3 (Go.Operand.tmp 34), type := 3, pos := "law.go:117", after := #[{ on := 8, ground := Go.Ground.data }], guard := none }) (v := ?_) rfl (by kernel_rfl) (by kernel_rfl) (by kernel_rfl) (fun _ _ _ h => h) (Or.inl ⟨by rfl, ?_⟩) (by assumption) ?_
      rotate_left
      · intro w' hSw
        (try dsimp only at hSw)
        have q2 := hSw.1
        have da := hSw.2.1
        have db := hSw.2.2
        go_simp
        all_goals with_reducible rfl
      try simp only [Act.put, List.setIfInBounds_toArray, List.set_cons_zero, List.set_cons_succ]
      refine wpAnyH_take (i := 10) (oi := { dst := some 36, op := Go.Op.binOp Go.BinOp.rem 3 (Go.Operand.tmp 33) (Go.Operand.tmp 35) 3, type := 3, pos := "law.go:117", after := #[{ on := 7, ground := Go.Ground.data }, { on := 9, ground := Go.Ground.data }], guard := none }) (v := ?_) rfl (by kernel_rfl) (by kernel_rfl) (by kernel_rfl) (fun _ _ _ h => h) (Or.inl ⟨by rfl, ?_⟩) (by assumption) ?_
      rotate_left
      · intro w' hSw
        (try dsimp only at hSw)
        go_simp
        all_goals with_reducible rfl
      try simp only [Act.put, List.setIfInBounds_toArray, List.set_cons_zero, List.set_cons_succ]
      refine wpAnyH_take (i := 11) (oi := { dst := some 37, op := Go.Op.move (Go.Operand.tmp 1), type := 62, pos := "law.go:117", after := #[], guard := none }) (v := ?_) rfl (by kernel_rfl) (by kernel_rfl) (by kernel_rfl) (fun _ _ _ h => h) (Or.inl ⟨by rfl, ?_⟩) (by assumption) ?_
      rotate_left
      · intro w' hSw
        (try dsimp only at hSw)
        go_simp
        all_goals with_reducible rfl
      try simp only [Act.put, List.setIfInBounds_toArray, List.set_cons_zero, List.set_cons_succ]
      refine wpAnyH_take (i := 12) (oi := { dst := some 38, op := Go.Op.move (Go.Operand.tmp 6), type := 3, pos := "law.go:117", after := #[], guard := none }) (v := ?_) rfl (by kernel_rfl) (by kernel_rfl) (by kernel_rfl) (fun _ _ _ h => h) (Or.inl ⟨by rfl, ?_⟩) (by assumption) ?_
      rotate_left
      · intro w' hSw
        (try dsimp only at hSw)
        go_simp
        all_goals with_reducible rfl
      try simp only [Act.put, List.setIfInBounds_toArray, List.set_cons_zero, List.set_cons_succ]
      refine wpAnyH_take (i := 13) (oi := { dst := some 39, op := Go.Op.indexAddr 62 (Go.Operand.tmp 37) (Go.Operand.tmp 38), type := 0, pos := "law.go:117", after := #[{ on := 11, ground := Go.Ground.data }, { on := 12, ground := Go.Ground.data }], guard := none }) (v := ?_) rfl (by kernel_rfl) (by kernel_rfl) (by kernel_rfl) (fun _ _ _ h => h) (Or.inl ⟨by rfl, ?_⟩) (by assumption) ?_
      rotate_left
      · intro w' hSw
        (try dsimp only at hSw)
        go_simp
        all_goals with_reducible rfl
      try simp only [Act.put, List.setIfInBounds_toArray, List.set_cons_zero, List.set_cons_succ]
      refine wpAnyH_take (i := 14) (oi := { dst := some 40, op := Go.Op.indexAddr 63 (Go.Operand.tmp 39) (Go.Operand.const (Go.Value.int Go.IntKind.i64 1)), type := 0, pos := "law.go:117", after := #[{ on := 13, ground := Go.Ground.data }], guard := none }) (v := ?_) rfl (by kernel_rfl) (by kernel_rfl) (by kernel_rfl) (fun _ _ _ h => h) (Or.inl ⟨by rfl, ?_⟩) (by assumption) ?_
      rotate_left
      · intro w' hSw
        (try dsimp only at hSw)
        go_simp
        all_goals with_reducible rfl
      try simp only [Act.put, List.setIfInBounds_toArray, List.set_cons_zero, List.set_cons_succ]
      refine wpAnyH_take (i := 15) (oi := { dst := some 41, op := Go.Op.load 5 (Go.Operand.tmp 40), type := 5, pos := "law.go:117", after := #[{ on := 14, ground := Go.Ground.data }], guard := none }) (v := ?_) rfl (by kernel_rfl) (by kernel_rfl) (by kernel_rfl) (fun _ _ _ h => h) (Or.inl ⟨by rfl, ?_⟩) (by assumption) ?_
      rotate_left
      · intro w' hSw
        (try dsimp only at hSw)
        have q2 := hSw.1
        have da := hSw.2.1
        have db := hSw.2.2
        go_simp
        all_goals with_reducible rfl
      try simp only [Act.put, List.setIfInBounds_toArray, List.set_cons_zero, List.set_cons_succ]
      refine wpAnyH_take (i := 16) (oi := { dst := some 42, op := Go.Op.convert 5 3 (Go.Operand.tmp 41), type := 3, pos := "law.go:117", after := #[{ on := 15, ground := Go.Ground.data }], guard := none }) (v := ?_) rfl (by kernel_rfl) (by kernel_rfl) (by kernel_rfl) (fun _ _ _ h => h) (Or.inl ⟨by rfl, ?_⟩) (by assumption) ?_
      rotate_left
      · intro w' hSw
        (try dsimp only at hSw)
        go_simp
        all_goals with_reducible rfl
      try simp only [Act.put, List.setIfInBounds_toArray, List.set_cons_zero, List.set_cons_succ]
      refine wpAnyH_take (i := 17) (oi := { dst := some 43, op := Go.Op.fieldAddr 35 (Go.Operand.tmp 5) 2, type := 0, pos := "law.go:117", after := #[], guard := none }) (v := ?_) rfl (by kernel_rfl) (by kernel_rfl) (by kernel_rfl) (fun _ _ _ h => h) (Or.inl ⟨by rfl, ?_⟩) (by assumption) ?_
      rotate_left
      · intro w' hSw
        (try dsimp only at hSw)
        go_simp
        all_goals with_reducible rfl
      try simp only [Act.put, List.setIfInBounds_toArray, List.set_cons_zero, List.set_cons_succ]
      refine wpAnyH_take (i := 18) (oi := { dst := some 44, op := Go.Op.load 3 (Go.Operand.tmp 43), type := 3, pos := "law.go:117", after := #[{ on := 17, ground := Go.Ground.data }], guard := none }) (v := ?_) rfl (by kernel_rfl) (by kernel_rfl) (by kernel_rfl) (fun _ _ _ h => h) (Or.inl ⟨by rfl, ?_⟩) (by assumption) ?_
      rotate_left
      · intro w' hSw
        (try dsimp only at hSw)
        have q2 := hSw.1
        have da := hSw.2.1
        have db := hSw.2.2
        go_simp
        all_goals with_reducible rfl
      try simp only [Act.put, List.setIfInBounds_toArray, List.set_cons_zero, List.set_cons_succ]
      refine wpAnyH_take (i := 19) (oi := { dst := some 45, op := Go.Op.binOp Go.BinOp.rem 3 (Go.Operand.tmp 42) (Go.Operand.tmp 44) 3, type := 3, pos := "law.go:117", after := #[{ on := 16, ground := Go.Ground.data }, { on := 18, ground := Go.Ground.data }], guard := none }) (v := ?_) rfl (by kernel_rfl) (by kernel_rfl) (by kernel_rfl) (fun _ _ _ h => h) (Or.inl ⟨by rfl, ?_⟩) (by assumption) ?_
      rotate_left
      · intro w' hSw
        (try dsimp only at hSw)
        go_simp
        all_goals with_reducible rfl
      try simp only [Act.put, List.setIfInBounds_toArray, List.set_cons_zero, List.set_cons_succ]
      refine wpAnyH_take (i := 20) (oi := { dst := some 46, op := Go.Op.build 43 #[(0, Go.Operand.tmp 36), (1, Go.Operand.tmp 45)], type := 43, pos := "law.go:117", after := #[{ on := 10, ground := Go.Ground.data }, { on := 19, ground := Go.Ground.data }], guard := none }) (v := ?_) rfl (by kernel_rfl) (by kernel_rfl) (by kernel_rfl) (fun _ _ _ h => h) (Or.inl ⟨by rfl, ?_⟩) (by assumption) ?_
      rotate_left
      · intro w' hSw
        (try dsimp only at hSw)
        go_simp
        all_goals with_reducible rfl
      try simp only [Act.put, List.setIfInBounds_toArray, List.set_cons_zero, List.set_cons_succ]
      clear s1 s2
      refine wpAnyH_ready (rs := [1, 21]) (by kernel_rfl) (by simp) ?_
      refine (AllReadyH.cons (o := { dst := some 27, op := Go.Op.load 32 (Go.Operand.tmp 26), type := 32, pos := "law.go:117", after := #[{ on := 0, ground := Go.Ground.data }], guard := none }) rfl (fun K hK => ?_) (AllReadyH.cons (o := { dst := some 47, op := Go.Op.buildSlice 32 1 #[(0, Go.Operand.tmp 46)], type := 32, pos := "law.go:117", after := #[{ on := 20, ground := Go.Ground.data }], guard := none }) rfl (fun K hK => ?_) AllReadyH.nil))
      · have hcl := (HLX.out.keep hBx).box.at4
        go_simp
        clear hcl
        refine hK.out _ _ ?_ (fun hHeld => ?_)
        · exact hQW
        clear hK K
        try simp only [Act.put, List.setIfInBounds_toArray, List.set_cons_zero, List.set_cons_succ]
        refine wpAnyH_ready (rs := [21]) (by kernel_rfl) (by simp) ?_
        refine (AllReadyH.cons (o := { dst := some 47, op := Go.Op.buildSlice 32 1 #[(0, Go.Operand.tmp 46)], type := 32, pos := "law.go:117", after := #[{ on := 20, ground := Go.Ground.data }], guard := none }) rfl (fun K hK => ?_) AllReadyH.nil)
        · obtain ⟨ws, hws, hqs, hls, hbS⟩ := new_cells wd #[.int .i64 (Int.tmod e0 N), .int .i64 (Int.tmod e1 N), .slice none 0 0, .int .i64 0, .slice none 0 0] 43
          have hBx := below_nextD hBx hbS
          have hQW := HKEEP.out ws hBx
          go_simp
          try rw [hws]
          refine hK.out _ _ ?_ (fun hHeld => ?_)
          · exact hQW
          clear hK K
          try simp only [Act.put, List.setIfInBounds_toArray, List.set_cons_zero, List.set_cons_succ]
          refine wpAnyH_ready (rs := [22]) (by kernel_rfl) (by simp) ?_
          refine (AllReadyH.cons (o := { dst := some 48, op := Go.Op.call { callee := Go.Callee.builtin Go.Builtin.append, args := #[Go.Operand.tmp 27, Go.Operand.tmp 47], argTypes := #[32, 32] }, type := 32, pos := "law.go:117", after := #[{ on := 1, ground := Go.Ground.data }, { on := 21, ground := Go.Ground.data }], guard := none }) rfl (fun K hK => ?_) AllReadyH.nil)
          · have hls2 := (HLX.out.keep hBx)
            obtain ⟨vs, hvs, _⟩ := hls2.rules
            have hszW := hBx.size
            (refine step_append_lies _ (by rfl) _ _ _ (by rfl) (w.heap.size + 1) 43 i0 _ 5 72 Tryz.underlying32 hi0 hz0 hz1 hz2 rfl (by omega) v nL vs (by rfl) (by rw [HNL.out] at hvs; exact hvs) ⟨wd.heap.size, 0, none⟩ 1 1 [.int .i64 (Int.tmod e0 N), .int .i64 (Int.tmod e1 N), .slice none 0 0, .int .i64 0, .slice none 0 0] (by rfl) (by rfl) (World.news_of_block (cs := #[.int .i64 (Int.tmod e0 N), .int .i64 (Int.tmod e1 N), .slice none 0 0, .int .i64 0, .slice none 0 0]) (t := 43) (fr := (0, 0)) hqs) (by simp [Value.oneCell']) (by omega) (by simp only [maxLen]; omega) (by omega) (by omega) (ws.heap.size) rfl ?_; intro gg capg w9 hown9 hg9 hat9 hlt9)
            have hX9 := hg9.block w.heap.size hls2.box.lt (fun e => by have := (HVX.out w.heap.size e.symm).1; omega)
            have hd9 := hls2.box.keep hX9
            have hB9 : Below w.heap.size w w9 := (HBW.out.trans (hBx.mono HXW.out)).grown hg9 (by have := HXW.out; omega) (fun q e => by have := (HVX.out q e).1; omega)
            have hQW := HSAT.out w9 hd9 hB9
            refine hK.out _ _ ?_ (fun hHeld => ?_)
            · exact hQW
            clear hK K
            try simp only [Act.put, List.setIfInBounds_toArray, List.set_cons_zero, List.set_cons_succ]
            obtain ⟨wz, hwz⟩ : ∃ wz, w9.setCell ⟨w.heap.size, 4, none⟩ (.slice (some ⟨gg, 0, none⟩) (nL + 1) capg) = wz := ⟨_, rfl⟩
            have k1 := hd9.at4
            have k2 := hd9.frozen 4
            have hlz : LayS (w.heap.size + 1) w.heap.size 1 1 N 0 (cycL N (es.take (k + 1))) [] (.slice (some ⟨gg, 0, none⟩) (nL + 1) capg) (.slice none 0 0) wz := by
              rw [← hwz, cycL_next HLT.out, HE.out]
              have hh := hls2.rule (r := ⟨Int.tmod e0 N, Int.tmod e1 N, [], 0, []⟩) (G := none) (T := none) (gc := 0) (tc := 0) (H := ws.heap.size) (v' := .slice (some ⟨gg, 0, none⟩) (nL + 1) capg) hvs (fun hn => absurd hn (by simp)) (Nat.le_refl _) (fun hn => absurd hn (by simp)) (Nat.le_refl _) hg9 (by rw [HNL.out]; exact hown9) (by rcases hat9 with q | q; exact .inl (by rw [q]; rfl); exact .inr (by rw [q]; rfl)) (Nat.le_refl _)
              exact hh
            have HLZ := Lib.hid hlz
            have HBZ := Lib.hid (show Below w.heap.size w wz by rw [← hwz]; exact hB9.setCell (p := ⟨w.heap.size, 4, none⟩) (Nat.le_refl _) _)
            have hQZ := HSAT.out wz hlz.box HBZ.out
            clear hlz hd9
            refine wpAnyH_take (i := 23) (oi := { dst := some 49, op := Go.Op.fieldAddr 35 (Go.Operand.tmp 5) 4, type := 0, pos := "law.go:117", after := #[{ on := 0, ground := Go.Ground.phase }, { on := 1, ground := Go.Ground.phase }, { on := 2, ground := Go.Ground.phase }, { on := 3, ground := Go.Ground.phase }, { on := 4, ground := Go.Ground.phase }, { on := 5, ground := Go.Ground.phase }, { on := 6, ground := Go.Ground.phase }, { on := 7, ground := Go.Ground.phase }, { on := 8, ground := Go.Ground.phase }, { on := 9, ground := Go.Ground.phase }, { on := 10, ground := Go.Ground.phase }, { on := 11, ground := Go.Ground.phase }, { on := 12, ground := Go.Ground.phase }, { on := 13, ground := Go.Ground.phase }, { on := 14, ground := Go.Ground.phase }, { on := 15, ground := Go.Ground.phase }, { on := 16, ground := Go.Ground.phase }, { on := 17, ground := Go.Ground.phase }, { on := 18, ground := Go.Ground.phase }, { on := 19, ground := Go.Ground.phase }, { on := 20, ground := Go.Ground.phase }, { on := 21, ground := Go.Ground.phase }, { on := 22, ground := Go.Ground.phase }], guard := none }) (v := ?_) rfl (by kernel_rfl) (by kernel_rfl) (by kernel_rfl) (fun _ _ _ h => h) (Or.inl ⟨by rfl, ?_⟩) (by assumption) ?_
            rotate_left
            · intro w' hSw
              (try dsimp only at hSw)
              go_simp
              all_goals with_reducible rfl
            try simp only [Act.put, List.setIfInBounds_toArray, List.set_cons_zero, List.set_cons_succ]
            refine wpAnyH_ready (rs := [24]) (by kernel_rfl) (by simp) ?_
            refine AllReadyH.cons (o := { dst := none, op := Go.Op.store 32 (Go.Operand.tmp 49) (Go.Operand.tmp 48), type := 0, pos := "law.go:117", after := #[{ on := 23, ground := Go.Ground.data }, { on := 22, ground := Go.Ground.data }, { on := 22, ground := Go.Ground.chain }, { on := 0, ground := Go.Ground.phase }, { on := 1, ground := Go.Ground.phase }, { on := 2, ground := Go.Ground.phase }, { on := 3, ground := Go.Ground.phase }, { on := 4, ground := Go.Ground.phase }, { on := 5, ground := Go.Ground.phase }, { on := 6, ground := Go.Ground.phase }, { on := 7, ground := Go.Ground.phase }, { on := 8, ground := Go.Ground.phase }, { on := 9, ground := Go.Ground.phase }, { on := 10, ground := Go.Ground.phase }, { on := 11, ground := Go.Ground.phase }, { on := 12, ground := Go.Ground.phase }, { on := 13, ground := Go.Ground.phase }, { on := 14, ground := Go.Ground.phase }, { on := 15, ground := Go.Ground.phase }, { on := 16, ground := Go.Ground.phase }, { on := 17, ground := Go.Ground.phase }, { on := 18, ground := Go.Ground.phase }, { on := 19, ground := Go.Ground.phase }, { on := 20, ground := Go.Ground.phase }, { on := 21, ground := Go.Ground.phase }, { on := 22, ground := Go.Ground.phase }], guard := none }) rfl (fun K hK => ?_) AllReadyH.nil
            go_simp
            try rw [hwz]
            have hQW := hQZ
            refine hK.out _ _ ?_ (fun hHeld => ?_)
            · exact hQW
            clear hK K
            try simp only [Act.put, List.setIfInBounds_toArray, List.set_cons_zero, List.set_cons_succ]
            refine wpAnyH_done (by kernel_rfl) ?_ _
            clear k1 k2 hQW hQZ hown9 hat9 hg9 hB9
            go_wp2_with (fail)
            go_roundw
            case rel => exact ⟨k + 1, _, by omega, by go_num, HLZ.out, HBZ.out⟩
            case measure => simp [intOf]; omega
      · obtain ⟨ws, hws, hqs, hls, hbS⟩ := new_cells wd #[.int .i64 (Int.tmod e0 N), .int .i64 (Int.tmod e1 N), .slice none 0 0, .int .i64 0, .slice none 0 0] 43
        have hBx := below_nextD hBx hbS
        have hQW := HKEEP.out ws hBx
        go_simp
        try rw [hws]
        refine hK.out _ _ ?_ (fun hHeld => ?_)
        · exact hQW
        clear hK K
        try simp only [Act.put, List.setIfInBounds_toArray, List.set_cons_zero, List.set_cons_succ]
        refine wpAnyH_ready (rs := [1]) (by kernel_rfl) (by simp) ?_
        refine (AllReadyH.cons (o := { dst := some 27, op := Go.Op.load 32 (Go.Operand.tmp 26), type := 32, pos := "law.go:117", after := #[{ on := 0, ground := Go.Ground.data }], guard := none }) rfl (fun K hK => ?_) AllReadyH.nil)
        · have hcl := (HLX.out.keep hBx).box.at4
          go_simp
          clear hcl
          refine hK.out _ _ ?_ (fun hHeld => ?_)
          · exact hQW
          clear hK K
          try simp only [Act.put, List.setIfInBounds_toArray, List.set_cons_zero, List.set_cons_succ]
          refine wpAnyH_ready (rs := [22]) (by kernel_rfl) (by simp) ?_
          refine (AllReadyH.cons (o := { dst := some 48, op := Go.Op.call { callee := Go.Callee.builtin Go.Builtin.append, args := #[Go.Operand.tmp 27, Go.Operand.tmp 47], argTypes := #[32, 32] }, type := 32, pos := "law.go:117", after := #[{ on := 1, ground := Go.Ground.data }, { on := 21, ground := Go.Ground.data }], guard := none }) rfl (fun K hK => ?_) AllReadyH.nil)
          · have hls2 := (HLX.out.keep hBx)
            obtain ⟨vs, hvs, _⟩ := hls2.rules
            have hszW := hBx.size
            (refine step_append_lies _ (by rfl) _ _ _ (by rfl) (w.heap.size + 1) 43 i0 _ 5 72 Tryz.underlying32 hi0 hz0 hz1 hz2 rfl (by omega) v nL vs (by rfl) (by rw [HNL.out] at hvs; exact hvs) ⟨wd.heap.size, 0, none⟩ 1 1 [.int .i64 (Int.tmod e0 N), .int .i64 (Int.tmod e1 N), .slice none 0 0, .int .i64 0, .slice none 0 0] (by rfl) (by rfl) (World.news_of_block (cs := #[.int .i64 (Int.tmod e0 N), .int .i64 (Int.tmod e1 N), .slice none 0 0, .int .i64 0, .slice none 0 0]) (t := 43) (fr := (0, 0)) hqs) (by simp [Value.oneCell']) (by omega) (by simp only [maxLen]; omega) (by omega) (by omega) (ws.heap.size) rfl ?_; intro gg capg w9 hown9 hg9 hat9 hlt9)
            have hX9 := hg9.block w.heap.size hls2.box.lt (fun e => by have := (HVX.out w.heap.size e.symm).1; omega)
            have hd9 := hls2.box.keep hX9
            have hB9 : Below w.heap.size w w9 := (HBW.out.trans (hBx.mono HXW.out)).grown hg9 (by have := HXW.out; omega) (fun q e => by have := (HVX.out q e).1; omega)
            have hQW := HSAT.out w9 hd9 hB9
            refine hK.out _ _ ?_ (fun hHeld => ?_)
            · exact hQW
            clear hK K
            try simp only [Act.put, List.setIfInBounds_toArray, List.set_cons_zero, List.set_cons_succ]
            obtain ⟨wz, hwz⟩ : ∃ wz, w9.setCell ⟨w.heap.size, 4, none⟩ (.slice (some ⟨gg, 0, none⟩) (nL + 1) capg) = wz := ⟨_, rfl⟩
            have k1 := hd9.at4
            have k2 := hd9.frozen 4
            have hlz : LayS (w.heap.size + 1) w.heap.size 1 1 N 0 (cycL N (es.take (k + 1))) [] (.slice (some ⟨gg, 0, none⟩) (nL + 1) capg) (.slice none 0 0) wz := by
              rw [← hwz, cycL_next HLT.out, HE.out]
              have hh := hls2.rule (r := ⟨Int.tmod e0 N, Int.tmod e1 N, [], 0, []⟩) (G := none) (T := none) (gc := 0) (tc := 0) (H := ws.heap.size) (v' := .slice (some ⟨gg, 0, none⟩) (nL + 1) capg) hvs (fun hn => absurd hn (by simp)) (Nat.le_refl _) (fun hn => absurd hn (by simp)) (Nat.le_refl _) hg9 (by rw [HNL.out]; exact hown9) (by rcases hat9 with q | q; exact .inl (by rw [q]; rfl); exact .inr (by rw [q]; rfl)) (Nat.le_refl _)
              exact hh
            have HLZ := Lib.hid hlz
            have HBZ := Lib.hid (show Below w.heap.size w wz by rw [← hwz]; exact hB9.setCell (p := ⟨w.heap.size, 4, none⟩) (Nat.le_refl _) _)
            have hQZ := HSAT.out wz hlz.box HBZ.out
            clear hlz hd9
            refine wpAnyH_take (i := 23) (oi := { dst := some 49, op := Go.Op.fieldAddr 35 (Go.Operand.tmp 5) 4, type := 0, pos := "law.go:117", after := #[{ on := 0, ground := Go.Ground.phase }, { on := 1, ground := Go.Ground.phase }, { on := 2, ground := Go.Ground.phase }, { on := 3, ground := Go.Ground.phase }, { on := 4, ground := Go.Ground.phase }, { on := 5, ground := Go.Ground.phase }, { on := 6, ground := Go.Ground.phase }, { on := 7, ground := Go.Ground.phase }, { on := 8, ground := Go.Ground.phase }, { on := 9, ground := Go.Ground.phase }, { on := 10, ground := Go.Ground.phase }, { on := 11, ground := Go.Ground.phase }, { on := 12, ground := Go.Ground.phase }, { on := 13, ground := Go.Ground.phase }, { on := 14, ground := Go.Ground.phase }, { on := 15, ground := Go.Ground.phase }, { on := 16, ground := Go.Ground.phase }, { on := 17, ground := Go.Ground.phase }, { on := 18, ground := Go.Ground.phase }, { on := 19, ground := Go.Ground.phase }, { on := 20, ground := Go.Ground.phase }, { on := 21, ground := Go.Ground.phase }, { on := 22, ground := Go.Ground.phase }], guard := none }) (v := ?_) rfl (by kernel_rfl) (by kernel_rfl) (by kernel_rfl) (fun _ _ _ h => h) (Or.inl ⟨by rfl, ?_⟩) (by assumption) ?_
            rotate_left
            · intro w' hSw
              (try dsimp only at hSw)
              go_simp
              all_goals with_reducible rfl
            try simp only [Act.put, List.setIfInBounds_toArray, List.set_cons_zero, List.set_cons_succ]
            refine wpAnyH_ready (rs := [24]) (by kernel_rfl) (by simp) ?_
            refine AllReadyH.cons (o := { dst := none, op := Go.Op.store 32 (Go.Operand.tmp 49) (Go.Operand.tmp 48), type := 0, pos := "law.go:117", after := #[{ on := 23, ground := Go.Ground.data }, { on := 22, ground := Go.Ground.data }, { on := 22, ground := Go.Ground.chain }, { on := 0, ground := Go.Ground.phase }, { on := 1, ground := Go.Ground.phase }, { on := 2, ground := Go.Ground.phase }, { on := 3, ground := Go.Ground.phase }, { on := 4, ground := Go.Ground.phase }, { on := 5, ground := Go.Ground.phase }, { on := 6, ground := Go.Ground.phase }, { on := 7, ground := Go.Ground.phase }, { on := 8, ground := Go.Ground.phase }, { on := 9, ground := Go.Ground.phase }, { on := 10, ground := Go.Ground.phase }, { on := 11, ground := Go.Ground.phase }, { on := 12, ground := Go.Ground.phase }, { on := 13, ground := Go.Ground.phase }, { on := 14, ground := Go.Ground.phase }, { on := 15, ground := Go.Ground.phase }, { on := 16, ground := Go.Ground.phase }, { on := 17, ground := Go.Ground.phase }, { on := 18, ground := Go.Ground.phase }, { on := 19, ground := Go.Ground.phase }, { on := 20, ground := Go.Ground.phase }, { on := 21, ground := Go.Ground.phase }, { on := 22, ground := Go.Ground.phase }], guard := none }) rfl (fun K hK => ?_) AllReadyH.nil
            go_simp
            try rw [hwz]
            have hQW := hQZ
            refine hK.out _ _ ?_ (fun hHeld => ?_)
            · exact hQW
            clear hK K
            try simp only [Act.put, List.setIfInBounds_toArray, List.set_cons_zero, List.set_cons_succ]
            refine wpAnyH_done (by kernel_rfl) ?_ _
            clear k1 k2 hQW hQZ hown9 hat9 hg9 hB9
            go_wp2_with (fail)
            go_roundw
            case rel => exact ⟨k + 1, _, by omega, by go_num, HLZ.out, HBZ.out⟩
            case measure => simp [intOf]; omega
    · obtain rfl : k = es.length := by omega
      rw [List.take_length] at hlay
      have hxr := hlay.box.lt
      have hbounds : ∀ r ∈ cycL N es, r.gs.length ≤ maxLen ∧ (∀ g ∈ r.gs, g.length ≤ maxLen) ∧ r.out.length ≤ maxLen ∧ IntR r.eat := fun r hr => by
        obtain ⟨e, _, rfl⟩ := List.mem_map.1 hr
        exact ⟨Nat.zero_le _, fun g hg => by simp at hg, Nat.zero_le _, by show IntR 0; unfold IntR; omega⟩
      have hright : ∀ r ∈ cycL N es, stB N r.frm = true ∧ stB N r.to_ = true ∧ ruleB 1 N (fitF 1 1) r = true := fun r hr => by
        obtain ⟨e, he, rfl⟩ := List.mem_map.1 hr
        obtain ⟨j, hj, rfl⟩ := List.getElem_of_mem he
        obtain ⟨b, off, _, _, hce⟩ := HR.out (by omega)
        obtain ⟨_, _, g0, _, g2, _⟩ := hce j hj
        have r0 := rem_in g0 hN1
        have r1 := rem_in g2 hN1
        exact ⟨stB_t r0.1 r0.2, stB_t r1.1 r1.2, cyc_rule r0 r1⟩
      obtain ⟨AR, cR, hvR, hrR, hcR, hmR⟩ := RowRu.reads hlay.rules hbounds
      subst hvR
      have hlen : (cycL N es).length ≤ 200 := by unfold cycL; rw [List.length_map]; omega
      obtain ⟨p0, p1, p2, p3, p4, p5⟩ := hlay.box.cells
      have hws := cyc_where hN1 hN2 (rs := cycL N es) (by omega) (fun r hr => (hright r hr).2.2)
      have HWA := Lib.hid (whereD_any 1 1 N 0 AR cR none 0 (cycL N es) [] wr hrR hmR (RFi.nil_ _ _) (Nat.zero_le _) (HT.out.next hbl))
      rw [hws] at HWA
      have HCY := Lib.hid (fun W (hb : Below wr.heap.size wr W) => rcycle_any N 1 1 0 AR cR none 0 0 (cycL N es) W (hrR.belowM hb) (by omega) (by omega) (fun j hj => ⟨(hright _ (List.getElem_mem hj)).1, (hright _ (List.getElem_mem hj)).2.1⟩))
      have HB := Lib.hid hbl
      have HDB := Lib.hid (fun W (hb : Below wr.heap.size wr W) => (hlay.keep hb).box.cells)
      clear hlay hbl hbounds hright hrR hws HST HR
      generalize cycL N es = L at *
      obtain ⟨cy, hcy⟩ : ∃ cy, cycE (epsE L) N = cy := ⟨_, rfl⟩
      rw [hcy] at HWA HCY
      clear hcy
      cases cy
      · simp only [Bool.false_eq_true, if_false] at HWA
        go_wp2_with (fail)
        refine HWA.out.mono ?_
        rintro e w5 ⟨rfl, hb5⟩
        clear p0 p1 p2 p3 p4 p5
        obtain ⟨p0, p1, p2, p3, p4, p5⟩ := HDB.out w5 hb5
        have HC5 := Lib.hid (HCY.out w5 hb5)
        have HB5 := Lib.hid (HB.out.trans (hb5.mono (by omega)))
        have hs5 := hb5.size
        clear hb5
        go_wp2_with (fail)
        refine HC5.out.mono ?_
        rintro e w6 ⟨rfl, hb6⟩
        have HB6 := Lib.hid (HB5.out.trans (hb6.mono (by omega)))
        clear hb6 p0 p1 p2 p3 p4 p5
        go_wp2_with (fail)
        refine (awake_any w6 (HT.out.next HB6.out)).mono ?_
        rintro e w7 ⟨rfl, hb7⟩
        have HB7 := Lib.hid (HB6.out.trans (hb7.mono HB6.out.size))
        clear hb7
        go_wp2_with (fail)
        go_ret
        exact ⟨rfl, HB7.out⟩
      · simp only [if_true] at HWA
        go_wp2_with (fail)
        refine HWA.out.mono ?_
        rintro e w5 ⟨rfl, hb5⟩
        clear p0 p1 p2 p3 p4 p5
        obtain ⟨p0, p1, p2, p3, p4, p5⟩ := HDB.out w5 hb5
        have HC5 := Lib.hid (HCY.out w5 hb5)
        have HB5 := Lib.hid (HB.out.trans (hb5.mono (by omega)))
        have hs5 := hb5.size
        clear hb5
        go_wp2_with (fail)
        refine HC5.out.mono ?_
        rintro e w6 ⟨rfl, hb6⟩
        have HB6 := Lib.hid (HB5.out.trans (hb6.mono (by omega)))
        clear hb6 p0 p1 p2 p3 p4 p5
        go_wp2_with (fail)
        refine (awake_any w6 (HT.out.next HB6.out)).mono ?_
        rintro e w7 ⟨rfl, hb7⟩
        have HB7 := Lib.hid (HB6.out.trans (hb7.mono HB6.out.size))
        clear hb7
        go_wp2_with (fail)
        go_ret
        exact ⟨rfl, HB7.out⟩
end Go.Proofs.YtiddgfcoankpjaaGreatDoor.De
