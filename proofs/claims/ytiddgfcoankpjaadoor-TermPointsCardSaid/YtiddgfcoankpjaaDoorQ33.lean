/- The walk of the law TermPoints. -/
import Derived.Test.YtiddgfcoankpjaaDoorQ31
import Derived.Test.YtiddgfcoankpjaaDoorQ32
namespace Go.Proofs.YtiddgfcoankpjaaDoor.Tp
set_option maxRecDepth 100000
open Go Go.RowKit Go.Shelf Go.Maps Go.Proofs.YtiddgfcoankpjaaDoor.Sp Go.Proofs.YtiddgfcoankpjaaDoor.Pa Go.Proofs.YtiddgfcoankpjaaDoor.Te Go.Proofs.YtiddgfcoankpjaaDoor.Mi Go.Proofs.YtiddgfcoankpjaaDoor.Sh Go.Proofs.YtiddgfcoankpjaaDoor.Fi

/-- The first symbols are the guards'. -/
def TpRel (gs : List (List Span)) (xs : List Int) (w0 : World) (iv : Value) (wr : World) : Prop := ∃ k : Nat, k ≤ gs.length ∧ iv = .int .i64 k ∧ (∀ (j : Nat) (h : j < gs.length) (h' : j < xs.length), j < k → mem gs[j] xs[j] ∧ Sy xs[j]) ∧ Below w0.heap.size w0 wr
theorem fits_some {i o b d t u s : Int} {l : List PT} {gs : List (List Span)} {xs : List Int} {v : Int} {is : Bool} (h : FitsP (domL o) i o b d t u s l gs) (hw : WinS gs xs) (hs : ∀ x ∈ xs, Sy x) (hv : valueT b d t u s l xs = (v, is)) : is = true ∧ 0 ≤ v ∧ v ≤ 1114111 ∧ (o = 1 ∧ v < 256 ∨ o = 2 ∧ (v < 55296 ∨ 57343 < v)) := by
  obtain ⟨_, hr, hx⟩ := h
  obtain ⟨h1, h2⟩ := hx xs hw hs
  unfold HasVal at h1
  rw [hv] at h1 h2
  have ho : o = 1 ∨ o = 2 := by
    unfold rightT at hr
    simp only [Bool.and_eq_true, decide_eq_true_eq] at hr
    exact hr.2.1
  refine ⟨h1, ?_⟩
  unfold domL at h2
  rcases ho with rfl | rfl
  · rw [if_pos rfl] at h2
    obtain ⟨_, p, hp, h3, h4⟩ := h2
    obtain rfl := List.mem_singleton.1 hp
    simp only at h3 h4
    exact ⟨by omega, by omega, .inl ⟨rfl, by omega⟩⟩
  · rw [if_neg (by decide), if_pos rfl] at h2
    obtain ⟨_, p, hp, h3, h4⟩ := h2
    simp only [List.mem_cons, List.not_mem_nil, or_false] at hp
    rcases hp with rfl | rfl
    · simp only at h3 h4
      exact ⟨by omega, by omega, .inr ⟨rfl, .inl (by omega)⟩⟩
    · simp only at h3 h4
      exact ⟨by omega, by omega, .inr ⟨rfl, .inr (by omega)⟩⟩
theorem below_n {w W W' : World} (h1 : Below w.heap.size w W) (h2 : Below W.heap.size W W') : Below w.heap.size w W' := h1.trans (h2.mono h1.size)
set_option maxHeartbeats 16000000 in
theorem walk_TermPoints (b d t u s : Int) (A : Option Addr) (c : Nat) (l : List PT) (i o : Int) (G : Option Addr) (gc : Nat) (gs : List (List Span)) (X : Option Addr) (xc : Nat) (xs : List Int) (w : World)
    (h : RP w w.heap.size A l.length l) (hml : l.length ≤ maxLen) (hg : RGs w G gs.length gs) (hgl : gs.length ≤ maxLen) (hgm : ∀ g ∈ gs, g.length ≤ maxLen) (hx : RR w w.heap.size X xs.length xs) (hxl : xs.length ≤ maxLen) (hT : TabB w) :
    Calls Tryd.prog 3 #[trm b d t u s A l.length c, .int .i64 i, .int .i64 o, .slice G gs.length gc, .slice X xs.length xc] w (RetB true w) := by
  obtain ⟨w0, hw0⟩ : ∃ w0, w.alloc (.cells (tcells b d t u s A l.length c) 24) = w0 := ⟨_, rfl⟩
  have hbw : Below w.heap.size w w0 := by rw [← hw0]; exact (Below.refl _ w).alloc (Nat.le_refl _) _
  have hsz0 : w0.heap.size = w.heap.size + 1 := by rw [← hw0]; simp
  have X6 := Lib.hid (fun W (hb : Below w0.heap.size w0 W) => show Boxed6 W w.heap.size b d t u s A l.length c from by rw [← hw0] at hb; exact boxed6 hb)
  obtain ⟨r0, r1, r2, r3, r4, r5⟩ := X6.out w0 (Below.refl _ _)
  obtain ⟨bb, hbb⟩ : ∃ bb : Bool, bb = true ↔ 20 < l.length ∨ 20 < gs.length ∨ ∃ g ∈ gs, 50 < g.length := by
    by_cases q : 20 < l.length ∨ 20 < gs.length ∨ ∃ g ∈ gs, 50 < g.length
    · exact ⟨true, ⟨fun _ => q, fun _ => rfl⟩⟩
    · exact ⟨false, ⟨fun e => (by cases e), fun e => absurd e q⟩⟩
  have HGR := Lib.hid (great_any b d t u s A l.length c G gc gs bb w0 hml (hg.belowM hbw) hgl hgm hbb)
  have hsm : bb = false → l.length ≤ 20 ∧ gs.length ≤ 20 ∧ ∀ g ∈ gs, g.length ≤ 50 := fun e => by
    have hno : ¬ (20 < l.length ∨ 20 < gs.length ∨ ∃ g ∈ gs, 50 < g.length) := fun q => by rw [hbb.2 q] at e; cases e
    exact ⟨Nat.not_lt.1 fun q => hno (.inl q), Nat.not_lt.1 fun q => hno (.inr (.inl q)), fun g hg => Nat.not_lt.1 fun q => hno (.inr (.inr ⟨g, hg, q⟩))⟩
  have HW := Lib.hid hbw
  have HP0 := Lib.hid (h.belowM hbw)
  have HG0 := Lib.hid (hg.belowM hbw)
  have HX0 := Lib.hid (hx.belowM hbw)
  have HT0 := Lib.hid (hT.next hbw)
  clear h hg hx hT hbw hbb hgm
  unfold maxLen at hgl hxl
  cases bb with
  | true =>
    clear hsm
    go_enter Tryd.func3, Tryd.ntmps3
    go_wp2_with (fail)
    refine HGR.out.mono ?_
    rintro e w2 ⟨rfl, hb2⟩
    have HB2 := Lib.hid (below_n HW.out hb2)
    clear hb2
    go_wp2_with (fail)
    refine (tawake_any _).mono ?_
    rintro e w3 ⟨rfl, hb3⟩
    go_wp2_with (fail)
    go_ret
    exact ⟨rfl, below_n HB2.out hb3⟩
  | false =>
  obtain ⟨hl20, hg20, hgm⟩ := hsm rfl
  clear hsm
  have HGM := Lib.hid hgm
  clear hgm
  by_cases k1 : xs.length = gs.length
  case neg =>
    have hne : ((xs.length : Int) != (gs.length : Int)) = true := by simp; omega
    have hne2 : ((xs.length : Int) == (gs.length : Int)) = false := by simp; omega
    go_enter Tryd.func3, Tryd.ntmps3
    go_wp2_with (fail)
    refine HGR.out.mono ?_
    rintro e w2 ⟨rfl, hb2⟩
    have HB2 := Lib.hid (below_n HW.out hb2)
    clear hb2
    go_wp2_with (fail)
    refine (tawake_any _).mono ?_
    rintro e w3 ⟨rfl, hb3⟩
    go_wp2_with (fail)
    go_ret
    exact ⟨rfl, below_n HB2.out hb3⟩
  have hne : ((xs.length : Int) != (gs.length : Int)) = false := by simp; omega
  have hne2 : ((xs.length : Int) == (gs.length : Int)) = true := by simp; omega
  by_cases k2 : gs.length ≤ 4
  case neg =>
    have hd4 : decide ((4 : Int) < (gs.length : Int)) = true := decide_eq_true (by omega)
    go_enter Tryd.func3, Tryd.ntmps3
    go_wp2_with (fail)
    refine HGR.out.mono ?_
    rintro e w2 ⟨rfl, hb2⟩
    have HB2 := Lib.hid (below_n HW.out hb2)
    clear hb2
    go_wp2_with (fail)
    refine (tawake_any _).mono ?_
    rintro e w3 ⟨rfl, hb3⟩
    go_wp2_with (fail)
    go_ret
    exact ⟨rfl, below_n HB2.out hb3⟩
  have hd4 : decide ((4 : Int) < (gs.length : Int)) = false := decide_eq_false (by omega)
  have HK1 := Lib.hid k1
  clear hne hne2
  rw [k1] at HX0 hxl
  rw [k1]
  clear k1
  have hne : ((gs.length : Int) != (gs.length : Int)) = false := by simp
  go_enter Tryd.func3, Tryd.ntmps3
  go_wp2_with (fail)
  refine HGR.out.mono ?_
  rintro e w2 ⟨rfl, hb2⟩
  have HP2 := Lib.hid (HP0.out.belowM hb2)
  have HG2 := Lib.hid (HG0.out.belowM hb2)
  have HX2 := Lib.hid (HX0.out.belowM hb2)
  have HT2 := Lib.hid (HT0.out.next hb2)
  have HB2 := Lib.hid hb2
  have hz2 := hb2.size
  clear hb2
  go_wp2_with (fail)
  go_loopw [11] (fun iv wr => TpRel gs xs w2 iv wr) (fun iv _ => gs.length - (intOf iv).toNat)
  case atStart => exact ⟨0, Nat.zero_le _, rfl, fun _ _ _ h => absurd h (Nat.not_lt_zero _), Below.refl _ _⟩
  case round =>
    obtain ⟨k, hk, rfl, hok, hb⟩ := hrel
    have HOK := Lib.hid hok
    have HB := Lib.hid hb
    have hzr := hb.size
    by_cases hlt : k < gs.length
    · obtain ⟨bg, offg, Aj, cj, hA, hbG, hcg, hrg, hcj, hnj⟩ := (HG2.out.belowM hb).at_ hlt
      obtain ⟨bx, offx, x, hX, hbX, hlx, hcx, hx1, hx2⟩ := (HX2.out.belowM hb).at_ hlt
      obtain ⟨g, hgk⟩ : ∃ g, gs[k]'(by omega) = g := ⟨_, rfl⟩
      have HGK := Lib.hid (show ∃ hk : k < gs.length, gs[k] = g from ⟨by omega, hgk⟩)
      have HLX := Lib.hid hlx
      rw [hgk] at hcg hrg hcj
      have hgm := HGM.out g (by rw [← hgk]; exact List.getElem_mem _)
      obtain ⟨nj, hnjl⟩ : ∃ nj, g.length = nj := ⟨_, rfl⟩
      rw [hnjl] at hcg hrg hgm
      have HHS := Lib.hid (fun W (hW : Below wr.heap.size wr W) => has_any Aj nj cj g x W (hrg.belowM hW) (by omega))
      have hwx : IntKind.i64.wrap x = x := IntWalk.i64_in _ (by omega)
      have hcx' := hcx
      have s1 : IntKind.i64.wrap ((k : Int) + 1) = (k : Int) + 1 := IntWalk.i64_in _ (by omega)
      subst hA hX
      clear hok hb hrg hcj hnj hgk hnjl hlx hcx'
      obtain ⟨mb, hmb⟩ : ∃ mb, memB g x = mb := ⟨_, rfl⟩
      have HMB := Lib.hid hmb
      rw [hmb] at HHS
      clear hmb
      have hex : mb = false ∨ (mb = true ∧ x < 0) ∨ (mb = true ∧ ¬ x < 0 ∧ 1114111 < x) ∨ (mb = true ∧ 0 ≤ x ∧ x ≤ 1114111) := by
        cases mb
        · exact .inl rfl
        · rcases Int.lt_or_le x 0 with q | q
          · exact .inr (.inl ⟨rfl, q⟩)
          · rcases Int.lt_or_le 1114111 x with q2 | q2
            · exact .inr (.inr (.inl ⟨rfl, by omega, q2⟩))
            · exact .inr (.inr (.inr ⟨rfl, q, q2⟩))
      rcases hex with rfl | ⟨rfl, hx0⟩ | ⟨rfl, hx0, hx3⟩ | ⟨rfl, hx3, hx4⟩
      · go_wp2_with (fail)
        refine wp_region_held_drew (S := fun w' => w'.cell? ⟨bg, offg + k, none⟩ = some (.slice Aj nj cj) ∧ w'.cell? ⟨bx, offx + k, none⟩ = some (.int .i32 x)) (by kernel_rfl) ⟨hcg, hcx⟩ (fun hHeld => ?_)
        refine wpAnyH_take (i := 0) (oi := { dst := some 40, op := Go.Op.move (Go.Operand.tmp 3), type := 25, pos := "law.go:82", after := #[], guard := none }) (v := ?_) rfl (by kernel_rfl) (by kernel_rfl) (by kernel_rfl) (fun _ _ _ h => h) (Or.inl ⟨by rfl, ?_⟩) (by assumption) ?_
        rotate_left
        · intro w' hSw
          (try dsimp only at hSw)
          go_simp
          all_goals with_reducible rfl
        try simp only [Act.put, List.setIfInBounds_toArray, List.set_cons_zero, List.set_cons_succ]
        refine wpAnyH_take (i := 1) (oi := { dst := some 41, op := Go.Op.move (Go.Operand.tmp 11), type := 3, pos := "law.go:82", after := #[], guard := none }) (v := ?_) rfl (by kernel_rfl) (by kernel_rfl) (by kernel_rfl) (fun _ _ _ h => h) (Or.inl ⟨by rfl, ?_⟩) (by assumption) ?_
        rotate_left
        · intro w' hSw
          (try dsimp only at hSw)
          go_simp
          all_goals with_reducible rfl
        try simp only [Act.put, List.setIfInBounds_toArray, List.set_cons_zero, List.set_cons_succ]
        refine wpAnyH_take (i := 2) (oi := { dst := some 42, op := Go.Op.indexAddr 25 (Go.Operand.tmp 40) (Go.Operand.tmp 41), type := 0, pos := "law.go:82", after := #[{ on := 0, ground := Go.Ground.data }, { on := 1, ground := Go.Ground.data }], guard := none }) (v := ?_) rfl (by kernel_rfl) (by kernel_rfl) (by kernel_rfl) (fun _ _ _ h => h) (Or.inl ⟨by rfl, ?_⟩) (by assumption) ?_
        rotate_left
        · intro w' hSw
          (try dsimp only at hSw)
          go_simp
          all_goals with_reducible rfl
        try simp only [Act.put, List.setIfInBounds_toArray, List.set_cons_zero, List.set_cons_succ]
        refine wpAnyH_take (i := 3) (oi := { dst := some 43, op := Go.Op.load 30 (Go.Operand.tmp 42), type := 30, pos := "law.go:82", after := #[{ on := 2, ground := Go.Ground.data }], guard := none }) (v := ?_) rfl (by kernel_rfl) (by kernel_rfl) (by kernel_rfl) (fun _ _ _ h => h) (Or.inl ⟨by rfl, ?_⟩) (by assumption) ?_
        rotate_left
        · intro w' hSw
          (try dsimp only at hSw)
          go_simp
          all_goals with_reducible rfl
        try simp only [Act.put, List.setIfInBounds_toArray, List.set_cons_zero, List.set_cons_succ]
        refine wpAnyH_take (i := 4) (oi := { dst := some 44, op := Go.Op.move (Go.Operand.tmp 4), type := 26, pos := "law.go:82", after := #[], guard := none }) (v := ?_) rfl (by kernel_rfl) (by kernel_rfl) (by kernel_rfl) (fun _ _ _ h => h) (Or.inl ⟨by rfl, ?_⟩) (by assumption) ?_
        rotate_left
        · intro w' hSw
          (try dsimp only at hSw)
          go_simp
          all_goals with_reducible rfl
        try simp only [Act.put, List.setIfInBounds_toArray, List.set_cons_zero, List.set_cons_succ]
        refine wpAnyH_take (i := 5) (oi := { dst := some 45, op := Go.Op.move (Go.Operand.tmp 11), type := 3, pos := "law.go:82", after := #[], guard := none }) (v := ?_) rfl (by kernel_rfl) (by kernel_rfl) (by kernel_rfl) (fun _ _ _ h => h) (Or.inl ⟨by rfl, ?_⟩) (by assumption) ?_
        rotate_left
        · intro w' hSw
          (try dsimp only at hSw)
          go_simp
          all_goals with_reducible rfl
        try simp only [Act.put, List.setIfInBounds_toArray, List.set_cons_zero, List.set_cons_succ]
        refine wpAnyH_take (i := 6) (oi := { dst := some 46, op := Go.Op.indexAddr 26 (Go.Operand.tmp 44) (Go.Operand.tmp 45), type := 0, pos := "law.go:82", after := #[{ on := 4, ground := Go.Ground.data }, { on := 5, ground := Go.Ground.data }], guard := none }) (v := ?_) rfl (by kernel_rfl) (by kernel_rfl) (by kernel_rfl) (fun _ _ _ h => h) (Or.inl ⟨by rfl, ?_⟩) (by assumption) ?_
        rotate_left
        · intro w' hSw
          (try dsimp only at hSw)
          go_simp
          all_goals with_reducible rfl
        try simp only [Act.put, List.setIfInBounds_toArray, List.set_cons_zero, List.set_cons_succ]
        refine wpAnyH_take (i := 7) (oi := { dst := some 47, op := Go.Op.load 21 (Go.Operand.tmp 46), type := 21, pos := "law.go:82", after := #[{ on := 6, ground := Go.Ground.data }], guard := none }) (v := ?_) rfl (by kernel_rfl) (by kernel_rfl) (by kernel_rfl) (fun _ _ _ h => h) (Or.inl ⟨by rfl, ?_⟩) (by assumption) ?_
        rotate_left
        · intro w' hSw
          (try dsimp only at hSw)
          go_simp
          all_goals with_reducible rfl
        try simp only [Act.put, List.setIfInBounds_toArray, List.set_cons_zero, List.set_cons_succ]
        refine wpAnyH_take (i := 8) (oi := { dst := some 48, op := Go.Op.convert 21 3 (Go.Operand.tmp 47), type := 3, pos := "law.go:82", after := #[{ on := 7, ground := Go.Ground.data }], guard := none }) (v := ?_) rfl (by kernel_rfl) (by kernel_rfl) (by kernel_rfl) (fun _ _ _ h => h) (Or.inl ⟨by rfl, ?_⟩) (by assumption) ?_
        rotate_left
        · intro w' hSw
          (try dsimp only at hSw)
          go_simp
          all_goals with_reducible rfl
        try simp only [Act.put, List.setIfInBounds_toArray, List.set_cons_zero, List.set_cons_succ]
        refine wpAnyH_ready (rs := [9]) (by kernel_rfl) (by simp) ?_
        refine AllReadyH.cons (o := { dst := some 49, op := Go.Op.call { callee := Go.Callee.value (Go.Operand.func 6), args := #[Go.Operand.tmp 43, Go.Operand.tmp 48], argTypes := #[30, 3] }, type := 4, pos := "law.go:82", after := #[{ on := 3, ground := Go.Ground.data }, { on := 8, ground := Go.Ground.data }], guard := none }) rfl (fun K hK => ?_) AllReadyH.nil
        go_simp
        refine (HHS.out _ ((Below.refl _ wr).drew)).mono ?_
        rintro e w3 ⟨rfl, hb3⟩
        refine hK.out _ _ ⟨(hb3.cell (p := ⟨bg, offg + k, none⟩) hbG).trans hcg, (hb3.cell (p := ⟨bx, offx + k, none⟩) hbX).trans hcx⟩ (fun hHeld => ?_)
        clear hK K
        try simp only [Act.put, List.setIfInBounds_toArray, List.set_cons_zero, List.set_cons_succ]
        refine wpAnyH_take (i := 10) (oi := { dst := some 50, op := Go.Op.unOp Go.UnOp.not 4 (Go.Operand.tmp 49), type := 4, pos := "law.go:82", after := #[{ on := 9, ground := Go.Ground.data }], guard := none }) (v := ?_) rfl (by kernel_rfl) (by kernel_rfl) (by kernel_rfl) (fun _ _ _ h => h) (Or.inl ⟨by rfl, ?_⟩) (by assumption) ?_
        rotate_left
        · intro w' hSw
          (try dsimp only at hSw)
          go_simp
          all_goals with_reducible rfl
        try simp only [Act.put, List.setIfInBounds_toArray, List.set_cons_zero, List.set_cons_succ]
        refine wpAnyH_take (i := 11) (oi := { dst := some 51, op := Go.Op.move (Go.Operand.tmp 50), type := 4, pos := "law.go:82", after := #[{ on := 10, ground := Go.Ground.data }, { on := 9, ground := Go.Ground.chain }], guard := none }) (v := ?_) rfl (by kernel_rfl) (by kernel_rfl) (by kernel_rfl) (fun _ _ _ h => h) (Or.inl ⟨by rfl, ?_⟩) (by assumption) ?_
        rotate_left
        · intro w' hSw
          (try dsimp only at hSw)
          go_simp
          all_goals with_reducible rfl
        try simp only [Act.put, List.setIfInBounds_toArray, List.set_cons_zero, List.set_cons_succ]
        refine wpAnyH_take (i := 12) (oi := { dst := some 52, op := Go.Op.move (Go.Operand.tmp 4), type := 26, pos := "law.go:82", after := #[{ on := 11, ground := Go.Ground.guard }], guard := some (11, false) }) (v := undef) rfl (by kernel_rfl) (by kernel_rfl) (by kernel_rfl) (fun _ _ _ h => h) (Or.inr ⟨by rfl, rfl⟩) (by assumption) ?_
        try simp only [Act.put, List.setIfInBounds_toArray, List.set_cons_zero, List.set_cons_succ]
        refine wpAnyH_take (i := 13) (oi := { dst := some 53, op := Go.Op.move (Go.Operand.tmp 11), type := 3, pos := "law.go:82", after := #[{ on := 11, ground := Go.Ground.guard }], guard := some (11, false) }) (v := undef) rfl (by kernel_rfl) (by kernel_rfl) (by kernel_rfl) (fun _ _ _ h => h) (Or.inr ⟨by rfl, rfl⟩) (by assumption) ?_
        try simp only [Act.put, List.setIfInBounds_toArray, List.set_cons_zero, List.set_cons_succ]
        refine wpAnyH_take (i := 14) (oi := { dst := some 54, op := Go.Op.indexAddr 26 (Go.Operand.tmp 52) (Go.Operand.tmp 53), type := 0, pos := "law.go:82", after := #[{ on := 12, ground := Go.Ground.data }, { on := 13, ground := Go.Ground.data }, { on := 11, ground := Go.Ground.guard }], guard := some (11, false) }) (v := undef) rfl (by kernel_rfl) (by kernel_rfl) (by kernel_rfl) (fun _ _ _ h => h) (Or.inr ⟨by rfl, rfl⟩) (by assumption) ?_
        try simp only [Act.put, List.setIfInBounds_toArray, List.set_cons_zero, List.set_cons_succ]
        refine wpAnyH_take (i := 15) (oi := { dst := some 55, op := Go.Op.load 21 (Go.Operand.tmp 54), type := 21, pos := "law.go:82", after := #[{ on := 14, ground := Go.Ground.data }, { on := 11, ground := Go.Ground.guard }], guard := some (11, false) }) (v := undef) rfl (by kernel_rfl) (by kernel_rfl) (by kernel_rfl) (fun _ _ _ h => h) (Or.inr ⟨by rfl, rfl⟩) (by assumption) ?_
        try simp only [Act.put, List.setIfInBounds_toArray, List.set_cons_zero, List.set_cons_succ]
        refine wpAnyH_take (i := 16) (oi := { dst := some 56, op := Go.Op.binOp Go.BinOp.lss 21 (Go.Operand.tmp 55) (Go.Operand.const (Go.Value.int Go.IntKind.i32 0)) 21, type := 4, pos := "law.go:82", after := #[{ on := 15, ground := Go.Ground.data }, { on := 11, ground := Go.Ground.guard }], guard := some (11, false) }) (v := undef) rfl (by kernel_rfl) (by kernel_rfl) (by kernel_rfl) (fun _ _ _ h => h) (Or.inr ⟨by rfl, rfl⟩) (by assumption) ?_
        try simp only [Act.put, List.setIfInBounds_toArray, List.set_cons_zero, List.set_cons_succ]
        refine wpAnyH_take (i := 17) (oi := { dst := some 57, op := Go.Op.pick (Go.Operand.tmp 51) (Go.Operand.const (Go.Value.bool true)) (Go.Operand.tmp 56), type := 4, pos := "law.go:82", after := #[{ on := 11, ground := Go.Ground.data }, { on := 16, ground := Go.Ground.data }], guard := none }) (v := ?_) rfl (by kernel_rfl) (by kernel_rfl) (by kernel_rfl) (fun _ _ _ h => h) (Or.inl ⟨by rfl, ?_⟩) (by assumption) ?_
        rotate_left
        · intro w' hSw
          (try dsimp only at hSw)
          go_simp
          all_goals with_reducible rfl
        try simp only [Act.put, List.setIfInBounds_toArray, List.set_cons_zero, List.set_cons_succ]
        refine wpAnyH_take (i := 18) (oi := { dst := some 58, op := Go.Op.move (Go.Operand.tmp 57), type := 4, pos := "law.go:82", after := #[{ on := 17, ground := Go.Ground.data }, { on := 11, ground := Go.Ground.chain }], guard := none }) (v := ?_) rfl (by kernel_rfl) (by kernel_rfl) (by kernel_rfl) (fun _ _ _ h => h) (Or.inl ⟨by rfl, ?_⟩) (by assumption) ?_
        rotate_left
        · intro w' hSw
          (try dsimp only at hSw)
          go_simp
          all_goals with_reducible rfl
        try simp only [Act.put, List.setIfInBounds_toArray, List.set_cons_zero, List.set_cons_succ]
        refine wpAnyH_take (i := 19) (oi := { dst := some 59, op := Go.Op.move (Go.Operand.tmp 4), type := 26, pos := "law.go:82", after := #[{ on := 18, ground := Go.Ground.guard }], guard := some (18, false) }) (v := undef) rfl (by kernel_rfl) (by kernel_rfl) (by kernel_rfl) (fun _ _ _ h => h) (Or.inr ⟨by rfl, rfl⟩) (by assumption) ?_
        try simp only [Act.put, List.setIfInBounds_toArray, List.set_cons_zero, List.set_cons_succ]
        refine wpAnyH_take (i := 20) (oi := { dst := some 60, op := Go.Op.move (Go.Operand.tmp 11), type := 3, pos := "law.go:82", after := #[{ on := 18, ground := Go.Ground.guard }], guard := some (18, false) }) (v := undef) rfl (by kernel_rfl) (by kernel_rfl) (by kernel_rfl) (fun _ _ _ h => h) (Or.inr ⟨by rfl, rfl⟩) (by assumption) ?_
        try simp only [Act.put, List.setIfInBounds_toArray, List.set_cons_zero, List.set_cons_succ]
        refine wpAnyH_take (i := 21) (oi := { dst := some 61, op := Go.Op.indexAddr 26 (Go.Operand.tmp 59) (Go.Operand.tmp 60), type := 0, pos := "law.go:82", after := #[{ on := 19, ground := Go.Ground.data }, { on := 20, ground := Go.Ground.data }, { on := 18, ground := Go.Ground.guard }], guard := some (18, false) }) (v := undef) rfl (by kernel_rfl) (by kernel_rfl) (by kernel_rfl) (fun _ _ _ h => h) (Or.inr ⟨by rfl, rfl⟩) (by assumption) ?_
        try simp only [Act.put, List.setIfInBounds_toArray, List.set_cons_zero, List.set_cons_succ]
        refine wpAnyH_take (i := 22) (oi := { dst := some 62, op := Go.Op.load 21 (Go.Operand.tmp 61), type := 21, pos := "law.go:82", after := #[{ on := 21, ground := Go.Ground.data }, { on := 18, ground := Go.Ground.guard }], guard := some (18, false) }) (v := undef) rfl (by kernel_rfl) (by kernel_rfl) (by kernel_rfl) (fun _ _ _ h => h) (Or.inr ⟨by rfl, rfl⟩) (by assumption) ?_
        try simp only [Act.put, List.setIfInBounds_toArray, List.set_cons_zero, List.set_cons_succ]
        refine wpAnyH_take (i := 23) (oi := { dst := some 63, op := Go.Op.binOp Go.BinOp.gtr 21 (Go.Operand.tmp 62) (Go.Operand.const (Go.Value.int Go.IntKind.i32 1114111)) 21, type := 4, pos := "law.go:82", after := #[{ on := 22, ground := Go.Ground.data }, { on := 18, ground := Go.Ground.guard }], guard := some (18, false) }) (v := undef) rfl (by kernel_rfl) (by kernel_rfl) (by kernel_rfl) (fun _ _ _ h => h) (Or.inr ⟨by rfl, rfl⟩) (by assumption) ?_
        try simp only [Act.put, List.setIfInBounds_toArray, List.set_cons_zero, List.set_cons_succ]
        refine wpAnyH_take (i := 24) (oi := { dst := some 64, op := Go.Op.pick (Go.Operand.tmp 58) (Go.Operand.const (Go.Value.bool true)) (Go.Operand.tmp 63), type := 4, pos := "law.go:82", after := #[{ on := 18, ground := Go.Ground.data }, { on := 23, ground := Go.Ground.data }], guard := none }) (v := ?_) rfl (by kernel_rfl) (by kernel_rfl) (by kernel_rfl) (fun _ _ _ h => h) (Or.inl ⟨by rfl, ?_⟩) (by assumption) ?_
        rotate_left
        · intro w' hSw
          (try dsimp only at hSw)
          go_simp
          all_goals with_reducible rfl
        try simp only [Act.put, List.setIfInBounds_toArray, List.set_cons_zero, List.set_cons_succ]
        refine wpAnyH_done (by kernel_rfl) ?_ _
        have HB3 := Lib.hid (HW.out.trans ((below_n HB2.out (below_n HB.out (below_n ((Below.refl _ wr).drew) hb3))).mono (by omega)))
        clear hb3
        go_wp2_with (fail)
        refine (tawake_any _).mono ?_
        rintro e w4 ⟨rfl, hb4⟩
        go_wp2_with (fail)
        go_ret
        exact ⟨rfl, below_n HB3.out hb4⟩
      ·
        have e1 : decide (x < 0) = true := decide_eq_true (by omega)
        go_wp2_with (fail)
        refine wp_region_held_drew (S := fun w' => w'.cell? ⟨bg, offg + k, none⟩ = some (.slice Aj nj cj) ∧ w'.cell? ⟨bx, offx + k, none⟩ = some (.int .i32 x)) (by kernel_rfl) ⟨hcg, hcx⟩ (fun hHeld => ?_)
        refine wpAnyH_take (i := 0) (oi := { dst := some 40, op := Go.Op.move (Go.Operand.tmp 3), type := 25, pos := "law.go:82", after := #[], guard := none }) (v := ?_) rfl (by kernel_rfl) (by kernel_rfl) (by kernel_rfl) (fun _ _ _ h => h) (Or.inl ⟨by rfl, ?_⟩) (by assumption) ?_
        rotate_left
        · intro w' hSw
          (try dsimp only at hSw)
          go_simp
          all_goals with_reducible rfl
        try simp only [Act.put, List.setIfInBounds_toArray, List.set_cons_zero, List.set_cons_succ]
        refine wpAnyH_take (i := 1) (oi := { dst := some 41, op := Go.Op.move (Go.Operand.tmp 11), type := 3, pos := "law.go:82", after := #[], guard := none }) (v := ?_) rfl (by kernel_rfl) (by kernel_rfl) (by kernel_rfl) (fun _ _ _ h => h) (Or.inl ⟨by rfl, ?_⟩) (by assumption) ?_
        rotate_left
        · intro w' hSw
          (try dsimp only at hSw)
          go_simp
          all_goals with_reducible rfl
        try simp only [Act.put, List.setIfInBounds_toArray, List.set_cons_zero, List.set_cons_succ]
        refine wpAnyH_take (i := 2) (oi := { dst := some 42, op := Go.Op.indexAddr 25 (Go.Operand.tmp 40) (Go.Operand.tmp 41), type := 0, pos := "law.go:82", after := #[{ on := 0, ground := Go.Ground.data }, { on := 1, ground := Go.Ground.data }], guard := none }) (v := ?_) rfl (by kernel_rfl) (by kernel_rfl) (by kernel_rfl) (fun _ _ _ h => h) (Or.inl ⟨by rfl, ?_⟩) (by assumption) ?_
        rotate_left
        · intro w' hSw
          (try dsimp only at hSw)
          go_simp
          all_goals with_reducible rfl
        try simp only [Act.put, List.setIfInBounds_toArray, List.set_cons_zero, List.set_cons_succ]
        refine wpAnyH_take (i := 3) (oi := { dst := some 43, op := Go.Op.load 30 (Go.Operand.tmp 42), type := 30, pos := "law.go:82", after := #[{ on := 2, ground := Go.Ground.data }], guard := none }) (v := ?_) rfl (by kernel_rfl) (by kernel_rfl) (by kernel_rfl) (fun _ _ _ h => h) (Or.inl ⟨by rfl, ?_⟩) (by assumption) ?_
        rotate_left
        · intro w' hSw
          (try dsimp only at hSw)
          go_simp
          all_goals with_reducible rfl
        try simp only [Act.put, List.setIfInBounds_toArray, List.set_cons_zero, List.set_cons_succ]
        refine wpAnyH_take (i := 4) (oi := { dst := some 44, op := Go.Op.move (Go.Operand.tmp 4), type := 26, pos := "law.go:82", after := #[], guard := none }) (v := ?_) rfl (by kernel_rfl) (by kernel_rfl) (by kernel_rfl) (fun _ _ _ h => h) (Or.inl ⟨by rfl, ?_⟩) (by assumption) ?_
        rotate_left
        · intro w' hSw
          (try dsimp only at hSw)
          go_simp
          all_goals with_reducible rfl
        try simp only [Act.put, List.setIfInBounds_toArray, List.set_cons_zero, List.set_cons_succ]
        refine wpAnyH_take (i := 5) (oi := { dst := some 45, op := Go.Op.move (Go.Operand.tmp 11), type := 3, pos := "law.go:82", after := #[], guard := none }) (v := ?_) rfl (by kernel_rfl) (by kernel_rfl) (by kernel_rfl) (fun _ _ _ h => h) (Or.inl ⟨by rfl, ?_⟩) (by assumption) ?_
        rotate_left
        · intro w' hSw
          (try dsimp only at hSw)
          go_simp
          all_goals with_reducible rfl
        try simp only [Act.put, List.setIfInBounds_toArray, List.set_cons_zero, List.set_cons_succ]
        refine wpAnyH_take (i := 6) (oi := { dst := some 46, op := Go.Op.indexAddr 26 (Go.Operand.tmp 44) (Go.Operand.tmp 45), type := 0, pos := "law.go:82", after := #[{ on := 4, ground := Go.Ground.data }, { on := 5, ground := Go.Ground.data }], guard := none }) (v := ?_) rfl (by kernel_rfl) (by kernel_rfl) (by kernel_rfl) (fun _ _ _ h => h) (Or.inl ⟨by rfl, ?_⟩) (by assumption) ?_
        rotate_left
        · intro w' hSw
          (try dsimp only at hSw)
          go_simp
          all_goals with_reducible rfl
        try simp only [Act.put, List.setIfInBounds_toArray, List.set_cons_zero, List.set_cons_succ]
        refine wpAnyH_take (i := 7) (oi := { dst := some 47, op := Go.Op.load 21 (Go.Operand.tmp 46), type := 21, pos := "law.go:82", after := #[{ on := 6, ground := Go.Ground.data }], guard := none }) (v := ?_) rfl (by kernel_rfl) (by kernel_rfl) (by kernel_rfl) (fun _ _ _ h => h) (Or.inl ⟨by rfl, ?_⟩) (by assumption) ?_
        rotate_left
        · intro w' hSw
          (try dsimp only at hSw)
          go_simp
          all_goals with_reducible rfl
        try simp only [Act.put, List.setIfInBounds_toArray, List.set_cons_zero, List.set_cons_succ]
        refine wpAnyH_take (i := 8) (oi := { dst := some 48, op := Go.Op.convert 21 3 (Go.Operand.tmp 47), type := 3, pos := "law.go:82", after := #[{ on := 7, ground := Go.Ground.data }], guard := none }) (v := ?_) rfl (by kernel_rfl) (by kernel_rfl) (by kernel_rfl) (fun _ _ _ h => h) (Or.inl ⟨by rfl, ?_⟩) (by assumption) ?_
        rotate_left
        · intro w' hSw
          (try dsimp only at hSw)
          go_simp
          all_goals with_reducible rfl
        try simp only [Act.put, List.setIfInBounds_toArray, List.set_cons_zero, List.set_cons_succ]
        refine wpAnyH_ready (rs := [9]) (by kernel_rfl) (by simp) ?_
        refine AllReadyH.cons (o := { dst := some 49, op := Go.Op.call { callee := Go.Callee.value (Go.Operand.func 6), args := #[Go.Operand.tmp 43, Go.Operand.tmp 48], argTypes := #[30, 3] }, type := 4, pos := "law.go:82", after := #[{ on := 3, ground := Go.Ground.data }, { on := 8, ground := Go.Ground.data }], guard := none }) rfl (fun K hK => ?_) AllReadyH.nil
        go_simp
        refine (HHS.out _ ((Below.refl _ wr).drew)).mono ?_
        rintro e w3 ⟨rfl, hb3⟩
        refine hK.out _ _ ⟨(hb3.cell (p := ⟨bg, offg + k, none⟩) hbG).trans hcg, (hb3.cell (p := ⟨bx, offx + k, none⟩) hbX).trans hcx⟩ (fun hHeld => ?_)
        clear hK K
        try simp only [Act.put, List.setIfInBounds_toArray, List.set_cons_zero, List.set_cons_succ]
        refine wpAnyH_take (i := 10) (oi := { dst := some 50, op := Go.Op.unOp Go.UnOp.not 4 (Go.Operand.tmp 49), type := 4, pos := "law.go:82", after := #[{ on := 9, ground := Go.Ground.data }], guard := none }) (v := ?_) rfl (by kernel_rfl) (by kernel_rfl) (by kernel_rfl) (fun _ _ _ h => h) (Or.inl ⟨by rfl, ?_⟩) (by assumption) ?_
        rotate_left
        · intro w' hSw
          (try dsimp only at hSw)
          go_simp
          all_goals with_reducible rfl
        try simp only [Act.put, List.setIfInBounds_toArray, List.set_cons_zero, List.set_cons_succ]
        refine wpAnyH_take (i := 11) (oi := { dst := some 51, op := Go.Op.move (Go.Operand.tmp 50), type := 4, pos := "law.go:82", after := #[{ on := 10, ground := Go.Ground.data }, { on := 9, ground := Go.Ground.chain }], guard := none }) (v := ?_) rfl (by kernel_rfl) (by kernel_rfl) (by kernel_rfl) (fun _ _ _ h => h) (Or.inl ⟨by rfl, ?_⟩) (by assumption) ?_
        rotate_left
        · intro w' hSw
          (try dsimp only at hSw)
          go_simp
          all_goals with_reducible rfl
        try simp only [Act.put, List.setIfInBounds_toArray, List.set_cons_zero, List.set_cons_succ]
        refine wpAnyH_take (i := 12) (oi := { dst := some 52, op := Go.Op.move (Go.Operand.tmp 4), type := 26, pos := "law.go:82", after := #[{ on := 11, ground := Go.Ground.guard }], guard := some (11, false) }) (v := ?_) rfl (by kernel_rfl) (by kernel_rfl) (by kernel_rfl) (fun _ _ _ h => h) (Or.inl ⟨by rfl, ?_⟩) (by assumption) ?_
        rotate_left
        · intro w' hSw
          (try dsimp only at hSw)
          go_simp
          all_goals with_reducible rfl
        try simp only [Act.put, List.setIfInBounds_toArray, List.set_cons_zero, List.set_cons_succ]
        refine wpAnyH_take (i := 13) (oi := { dst := some 53, op := Go.Op.move (Go.Operand.tmp 11), type := 3, pos := "law.go:82", after := #[{ on := 11, ground := Go.Ground.guard }], guard := some (11, false) }) (v := ?_) rfl (by kernel_rfl) (by kernel_rfl) (by kernel_rfl) (fun _ _ _ h => h) (Or.inl ⟨by rfl, ?_⟩) (by assumption) ?_
        rotate_left
        · intro w' hSw
          (try dsimp only at hSw)
          go_simp
          all_goals with_reducible rfl
        try simp only [Act.put, List.setIfInBounds_toArray, List.set_cons_zero, List.set_cons_succ]
        refine wpAnyH_take (i := 14) (oi := { dst := some 54, op := Go.Op.indexAddr 26 (Go.Operand.tmp 52) (Go.Operand.tmp 53), type := 0, pos := "law.go:82", after := #[{ on := 12, ground := Go.Ground.data }, { on := 13, ground := Go.Ground.data }, { on := 11, ground := Go.Ground.guard }], guard := some (11, false) }) (v := ?_) rfl (by kernel_rfl) (by kernel_rfl) (by kernel_rfl) (fun _ _ _ h => h) (Or.inl ⟨by rfl, ?_⟩) (by assumption) ?_
        rotate_left
        · intro w' hSw
          (try dsimp only at hSw)
          go_simp
          all_goals with_reducible rfl
        try simp only [Act.put, List.setIfInBounds_toArray, List.set_cons_zero, List.set_cons_succ]
        refine wpAnyH_take (i := 15) (oi := { dst := some 55, op := Go.Op.load 21 (Go.Operand.tmp 54), type := 21, pos := "law.go:82", after := #[{ on := 14, ground := Go.Ground.data }, { on := 11, ground := Go.Ground.guard }], guard := some (11, false) }) (v := ?_) rfl (by kernel_rfl) (by kernel_rfl) (by kernel_rfl) (fun _ _ _ h => h) (Or.inl ⟨by rfl, ?_⟩) (by assumption) ?_
        rotate_left
        · intro w' hSw
          (try dsimp only at hSw)
          go_simp
          all_goals with_reducible rfl
        try simp only [Act.put, List.setIfInBounds_toArray, List.set_cons_zero, List.set_cons_succ]
        refine wpAnyH_take (i := 16) (oi := { dst := some 56, op := Go.Op.binOp Go.BinOp.lss 21 (Go.Operand.tmp 55) (Go.Operand.const (Go.Value.int Go.IntKind.i32 0)) 21, type := 4, pos := "law.go:82", after := #[{ on := 15, ground := Go.Ground.data }, { on := 11, ground := Go.Ground.guard }], guard := some (11, false) }) (v := ?_) rfl (by kernel_rfl) (by kernel_rfl) (by kernel_rfl) (fun _ _ _ h => h) (Or.inl ⟨by rfl, ?_⟩) (by assumption) ?_
        rotate_left
        · intro w' hSw
          (try dsimp only at hSw)
          go_simp
          all_goals with_reducible rfl
        try simp only [Act.put, List.setIfInBounds_toArray, List.set_cons_zero, List.set_cons_succ]
        try simp only [e1]
        refine wpAnyH_take (i := 17) (oi := { dst := some 57, op := Go.Op.pick (Go.Operand.tmp 51) (Go.Operand.const (Go.Value.bool true)) (Go.Operand.tmp 56), type := 4, pos := "law.go:82", after := #[{ on := 11, ground := Go.Ground.data }, { on := 16, ground := Go.Ground.data }], guard := none }) (v := ?_) rfl (by kernel_rfl) (by kernel_rfl) (by kernel_rfl) (fun _ _ _ h => h) (Or.inl ⟨by rfl, ?_⟩) (by assumption) ?_
        rotate_left
        · intro w' hSw
          (try dsimp only at hSw)
          go_simp
          all_goals with_reducible rfl
        try simp only [Act.put, List.setIfInBounds_toArray, List.set_cons_zero, List.set_cons_succ]
        refine wpAnyH_take (i := 18) (oi := { dst := some 58, op := Go.Op.move (Go.Operand.tmp 57), type := 4, pos := "law.go:82", after := #[{ on := 17, ground := Go.Ground.data }, { on := 11, ground := Go.Ground.chain }], guard := none }) (v := ?_) rfl (by kernel_rfl) (by kernel_rfl) (by kernel_rfl) (fun _ _ _ h => h) (Or.inl ⟨by rfl, ?_⟩) (by assumption) ?_
        rotate_left
        · intro w' hSw
          (try dsimp only at hSw)
          go_simp
          all_goals with_reducible rfl
        try simp only [Act.put, List.setIfInBounds_toArray, List.set_cons_zero, List.set_cons_succ]
        refine wpAnyH_take (i := 19) (oi := { dst := some 59, op := Go.Op.move (Go.Operand.tmp 4), type := 26, pos := "law.go:82", after := #[{ on := 18, ground := Go.Ground.guard }], guard := some (18, false) }) (v := undef) rfl (by kernel_rfl) (by kernel_rfl) (by kernel_rfl) (fun _ _ _ h => h) (Or.inr ⟨by rfl, rfl⟩) (by assumption) ?_
        try simp only [Act.put, List.setIfInBounds_toArray, List.set_cons_zero, List.set_cons_succ]
        refine wpAnyH_take (i := 20) (oi := { dst := some 60, op := Go.Op.move (Go.Operand.tmp 11), type := 3, pos := "law.go:82", after := #[{ on := 18, ground := Go.Ground.guard }], guard := some (18, false) }) (v := undef) rfl (by kernel_rfl) (by kernel_rfl) (by kernel_rfl) (fun _ _ _ h => h) (Or.inr ⟨by rfl, rfl⟩) (by assumption) ?_
        try simp only [Act.put, List.setIfInBounds_toArray, List.set_cons_zero, List.set_cons_succ]
        refine wpAnyH_take (i := 21) (oi := { dst := some 61, op := Go.Op.indexAddr 26 (Go.Operand.tmp 59) (Go.Operand.tmp 60), type := 0, pos := "law.go:82", after := #[{ on := 19, ground := Go.Ground.data }, { on := 20, ground := Go.Ground.data }, { on := 18, ground := Go.Ground.guard }], guard := some (18, false) }) (v := undef) rfl (by kernel_rfl) (by kernel_rfl) (by kernel_rfl) (fun _ _ _ h => h) (Or.inr ⟨by rfl, rfl⟩) (by assumption) ?_
        try simp only [Act.put, List.setIfInBounds_toArray, List.set_cons_zero, List.set_cons_succ]
        refine wpAnyH_take (i := 22) (oi := { dst := some 62, op := Go.Op.load 21 (Go.Operand.tmp 61), type := 21, pos := "law.go:82", after := #[{ on := 21, ground := Go.Ground.data }, { on := 18, ground := Go.Ground.guard }], guard := some (18, false) }) (v := undef) rfl (by kernel_rfl) (by kernel_rfl) (by kernel_rfl) (fun _ _ _ h => h) (Or.inr ⟨by rfl, rfl⟩) (by assumption) ?_
        try simp only [Act.put, List.setIfInBounds_toArray, List.set_cons_zero, List.set_cons_succ]
        refine wpAnyH_take (i := 23) (oi := { dst := some 63, op := Go.Op.binOp Go.BinOp.gtr 21 (Go.Operand.tmp 62) (Go.Operand.const (Go.Value.int Go.IntKind.i32 1114111)) 21, type := 4, pos := "law.go:82", after := #[{ on := 22, ground := Go.Ground.data }, { on := 18, ground := Go.Ground.guard }], guard := some (18, false) }) (v := undef) rfl (by kernel_rfl) (by kernel_rfl) (by kernel_rfl) (fun _ _ _ h => h) (Or.inr ⟨by rfl, rfl⟩) (by assumption) ?_
        try simp only [Act.put, List.setIfInBounds_toArray, List.set_cons_zero, List.set_cons_succ]
        refine wpAnyH_take (i := 24) (oi := { dst := some 64, op := Go.Op.pick (Go.Operand.tmp 58) (Go.Operand.const (Go.Value.bool true)) (Go.Operand.tmp 63), type := 4, pos := "law.go:82", after := #[{ on := 18, ground := Go.Ground.data }, { on := 23, ground := Go.Ground.data }], guard := none }) (v := ?_) rfl (by kernel_rfl) (by kernel_rfl) (by kernel_rfl) (fun _ _ _ h => h) (Or.inl ⟨by rfl, ?_⟩) (by assumption) ?_
        rotate_left
        · intro w' hSw
          (try dsimp only at hSw)
          go_simp
          all_goals with_reducible rfl
        try simp only [Act.put, List.setIfInBounds_toArray, List.set_cons_zero, List.set_cons_succ]
        refine wpAnyH_done (by kernel_rfl) ?_ _
        have HB3 := Lib.hid (HW.out.trans ((below_n HB2.out (below_n HB.out (below_n ((Below.refl _ wr).drew) hb3))).mono (by omega)))
        clear hb3
        go_wp2_with (fail)
        refine (tawake_any _).mono ?_
        rintro e w4 ⟨rfl, hb4⟩
        go_wp2_with (fail)
        go_ret
        exact ⟨rfl, below_n HB3.out hb4⟩
      ·
        have e1 : decide (x < 0) = false := decide_eq_false (by omega)
        have e2 : decide (1114111 < x) = true := decide_eq_true (by omega)
        have e3 : decide (x > 1114111) = true := decide_eq_true (by omega)
        go_wp2_with (fail)
        refine wp_region_held_drew (S := fun w' => w'.cell? ⟨bg, offg + k, none⟩ = some (.slice Aj nj cj) ∧ w'.cell? ⟨bx, offx + k, none⟩ = some (.int .i32 x)) (by kernel_rfl) ⟨hcg, hcx⟩ (fun hHeld => ?_)
        refine wpAnyH_take (i := 0) (oi := { dst := some 40, op := Go.Op.move (Go.Operand.tmp 3), type := 25, pos := "law.go:82", after := #[], guard := none }) (v := ?_) rfl (by kernel_rfl) (by kernel_rfl) (by kernel_rfl) (fun _ _ _ h => h) (Or.inl ⟨by rfl, ?_⟩) (by assumption) ?_
        rotate_left
        · intro w' hSw
          (try dsimp only at hSw)
          go_simp
          all_goals with_reducible rfl
        try simp only [Act.put, List.setIfInBounds_toArray, List.set_cons_zero, List.set_cons_succ]
        refine wpAnyH_take (i := 1) (oi := { dst := some 41, op := Go.Op.move (Go.Operand.tmp 11), type := 3, pos := "law.go:82", after := #[], guard := none }) (v := ?_) rfl (by kernel_rfl) (by kernel_rfl) (by kernel_rfl) (fun _ _ _ h => h) (Or.inl ⟨by rfl, ?_⟩) (by assumption) ?_
        rotate_left
        · intro w' hSw
          (try dsimp only at hSw)
          go_simp
          all_goals with_reducible rfl
        try simp only [Act.put, List.setIfInBounds_toArray, List.set_cons_zero, List.set_cons_succ]
        refine wpAnyH_take (i := 2) (oi := { dst := some 42, op := Go.Op.indexAddr 25 (Go.Operand.tmp 40) (Go.Operand.tmp 41), type := 0, pos := "law.go:82", after := #[{ on := 0, ground := Go.Ground.data }, { on := 1, ground := Go.Ground.data }], guard := none }) (v := ?_) rfl (by kernel_rfl) (by kernel_rfl) (by kernel_rfl) (fun _ _ _ h => h) (Or.inl ⟨by rfl, ?_⟩) (by assumption) ?_
        rotate_left
        · intro w' hSw
          (try dsimp only at hSw)
          go_simp
          all_goals with_reducible rfl
        try simp only [Act.put, List.setIfInBounds_toArray, List.set_cons_zero, List.set_cons_succ]
        refine wpAnyH_take (i := 3) (oi := { dst := some 43, op := Go.Op.load 30 (Go.Operand.tmp 42), type := 30, pos := "law.go:82", after := #[{ on := 2, ground := Go.Ground.data }], guard := none }) (v := ?_) rfl (by kernel_rfl) (by kernel_rfl) (by kernel_rfl) (fun _ _ _ h => h) (Or.inl ⟨by rfl, ?_⟩) (by assumption) ?_
        rotate_left
        · intro w' hSw
          (try dsimp only at hSw)
          go_simp
          all_goals with_reducible rfl
        try simp only [Act.put, List.setIfInBounds_toArray, List.set_cons_zero, List.set_cons_succ]
        refine wpAnyH_take (i := 4) (oi := { dst := some 44, op := Go.Op.move (Go.Operand.tmp 4), type := 26, pos := "law.go:82", after := #[], guard := none }) (v := ?_) rfl (by kernel_rfl) (by kernel_rfl) (by kernel_rfl) (fun _ _ _ h => h) (Or.inl ⟨by rfl, ?_⟩) (by assumption) ?_
        rotate_left
        · intro w' hSw
          (try dsimp only at hSw)
          go_simp
          all_goals with_reducible rfl
        try simp only [Act.put, List.setIfInBounds_toArray, List.set_cons_zero, List.set_cons_succ]
        refine wpAnyH_take (i := 5) (oi := { dst := some 45, op := Go.Op.move (Go.Operand.tmp 11), type := 3, pos := "law.go:82", after := #[], guard := none }) (v := ?_) rfl (by kernel_rfl) (by kernel_rfl) (by kernel_rfl) (fun _ _ _ h => h) (Or.inl ⟨by rfl, ?_⟩) (by assumption) ?_
        rotate_left
        · intro w' hSw
          (try dsimp only at hSw)
          go_simp
          all_goals with_reducible rfl
        try simp only [Act.put, List.setIfInBounds_toArray, List.set_cons_zero, List.set_cons_succ]
        refine wpAnyH_take (i := 6) (oi := { dst := some 46, op := Go.Op.indexAddr 26 (Go.Operand.tmp 44) (Go.Operand.tmp 45), type := 0, pos := "law.go:82", after := #[{ on := 4, ground := Go.Ground.data }, { on := 5, ground := Go.Ground.data }], guard := none }) (v := ?_) rfl (by kernel_rfl) (by kernel_rfl) (by kernel_rfl) (fun _ _ _ h => h) (Or.inl ⟨by rfl, ?_⟩) (by assumption) ?_
        rotate_left
        · intro w' hSw
          (try dsimp only at hSw)
          go_simp
          all_goals with_reducible rfl
        try simp only [Act.put, List.setIfInBounds_toArray, List.set_cons_zero, List.set_cons_succ]
        refine wpAnyH_take (i := 7) (oi := { dst := some 47, op := Go.Op.load 21 (Go.Operand.tmp 46), type := 21, pos := "law.go:82", after := #[{ on := 6, ground := Go.Ground.data }], guard := none }) (v := ?_) rfl (by kernel_rfl) (by kernel_rfl) (by kernel_rfl) (fun _ _ _ h => h) (Or.inl ⟨by rfl, ?_⟩) (by assumption) ?_
        rotate_left
        · intro w' hSw
          (try dsimp only at hSw)
          go_simp
          all_goals with_reducible rfl
        try simp only [Act.put, List.setIfInBounds_toArray, List.set_cons_zero, List.set_cons_succ]
        refine wpAnyH_take (i := 8) (oi := { dst := some 48, op := Go.Op.convert 21 3 (Go.Operand.tmp 47), type := 3, pos := "law.go:82", after := #[{ on := 7, ground := Go.Ground.data }], guard := none }) (v := ?_) rfl (by kernel_rfl) (by kernel_rfl) (by kernel_rfl) (fun _ _ _ h => h) (Or.inl ⟨by rfl, ?_⟩) (by assumption) ?_
        rotate_left
        · intro w' hSw
          (try dsimp only at hSw)
          go_simp
          all_goals with_reducible rfl
        try simp only [Act.put, List.setIfInBounds_toArray, List.set_cons_zero, List.set_cons_succ]
        refine wpAnyH_ready (rs := [9]) (by kernel_rfl) (by simp) ?_
        refine AllReadyH.cons (o := { dst := some 49, op := Go.Op.call { callee := Go.Callee.value (Go.Operand.func 6), args := #[Go.Operand.tmp 43, Go.Operand.tmp 48], argTypes := #[30, 3] }, type := 4, pos := "law.go:82", after := #[{ on := 3, ground := Go.Ground.data }, { on := 8, ground := Go.Ground.data }], guard := none }) rfl (fun K hK => ?_) AllReadyH.nil
        go_simp
        refine (HHS.out _ ((Below.refl _ wr).drew)).mono ?_
        rintro e w3 ⟨rfl, hb3⟩
        refine hK.out _ _ ⟨(hb3.cell (p := ⟨bg, offg + k, none⟩) hbG).trans hcg, (hb3.cell (p := ⟨bx, offx + k, none⟩) hbX).trans hcx⟩ (fun hHeld => ?_)
        clear hK K
        try simp only [Act.put, List.setIfInBounds_toArray, List.set_cons_zero, List.set_cons_succ]
        refine wpAnyH_take (i := 10) (oi := { dst := some 50, op := Go.Op.unOp Go.UnOp.not 4 (Go.Operand.tmp 49), type := 4, pos := "law.go:82", after := #[{ on := 9, ground := Go.Ground.data }], guard := none }) (v := ?_) rfl (by kernel_rfl) (by kernel_rfl) (by kernel_rfl) (fun _ _ _ h => h) (Or.inl ⟨by rfl, ?_⟩) (by assumption) ?_
        rotate_left
        · intro w' hSw
          (try dsimp only at hSw)
          go_simp
          all_goals with_reducible rfl
        try simp only [Act.put, List.setIfInBounds_toArray, List.set_cons_zero, List.set_cons_succ]
        refine wpAnyH_take (i := 11) (oi := { dst := some 51, op := Go.Op.move (Go.Operand.tmp 50), type := 4, pos := "law.go:82", after := #[{ on := 10, ground := Go.Ground.data }, { on := 9, ground := Go.Ground.chain }], guard := none }) (v := ?_) rfl (by kernel_rfl) (by kernel_rfl) (by kernel_rfl) (fun _ _ _ h => h) (Or.inl ⟨by rfl, ?_⟩) (by assumption) ?_
        rotate_left
        · intro w' hSw
          (try dsimp only at hSw)
          go_simp
          all_goals with_reducible rfl
        try simp only [Act.put, List.setIfInBounds_toArray, List.set_cons_zero, List.set_cons_succ]
        refine wpAnyH_take (i := 12) (oi := { dst := some 52, op := Go.Op.move (Go.Operand.tmp 4), type := 26, pos := "law.go:82", after := #[{ on := 11, ground := Go.Ground.guard }], guard := some (11, false) }) (v := ?_) rfl (by kernel_rfl) (by kernel_rfl) (by kernel_rfl) (fun _ _ _ h => h) (Or.inl ⟨by rfl, ?_⟩) (by assumption) ?_
        rotate_left
        · intro w' hSw
          (try dsimp only at hSw)
          go_simp
          all_goals with_reducible rfl
        try simp only [Act.put, List.setIfInBounds_toArray, List.set_cons_zero, List.set_cons_succ]
        refine wpAnyH_take (i := 13) (oi := { dst := some 53, op := Go.Op.move (Go.Operand.tmp 11), type := 3, pos := "law.go:82", after := #[{ on := 11, ground := Go.Ground.guard }], guard := some (11, false) }) (v := ?_) rfl (by kernel_rfl) (by kernel_rfl) (by kernel_rfl) (fun _ _ _ h => h) (Or.inl ⟨by rfl, ?_⟩) (by assumption) ?_
        rotate_left
        · intro w' hSw
          (try dsimp only at hSw)
          go_simp
          all_goals with_reducible rfl
        try simp only [Act.put, List.setIfInBounds_toArray, List.set_cons_zero, List.set_cons_succ]
        refine wpAnyH_take (i := 14) (oi := { dst := some 54, op := Go.Op.indexAddr 26 (Go.Operand.tmp 52) (Go.Operand.tmp 53), type := 0, pos := "law.go:82", after := #[{ on := 12, ground := Go.Ground.data }, { on := 13, ground := Go.Ground.data }, { on := 11, ground := Go.Ground.guard }], guard := some (11, false) }) (v := ?_) rfl (by kernel_rfl) (by kernel_rfl) (by kernel_rfl) (fun _ _ _ h => h) (Or.inl ⟨by rfl, ?_⟩) (by assumption) ?_
        rotate_left
        · intro w' hSw
          (try dsimp only at hSw)
          go_simp
          all_goals with_reducible rfl
        try simp only [Act.put, List.setIfInBounds_toArray, List.set_cons_zero, List.set_cons_succ]
        refine wpAnyH_take (i := 15) (oi := { dst := some 55, op := Go.Op.load 21 (Go.Operand.tmp 54), type := 21, pos := "law.go:82", after := #[{ on := 14, ground := Go.Ground.data }, { on := 11, ground := Go.Ground.guard }], guard := some (11, false) }) (v := ?_) rfl (by kernel_rfl) (by kernel_rfl) (by kernel_rfl) (fun _ _ _ h => h) (Or.inl ⟨by rfl, ?_⟩) (by assumption) ?_
        rotate_left
        · intro w' hSw
          (try dsimp only at hSw)
          go_simp
          all_goals with_reducible rfl
        try simp only [Act.put, List.setIfInBounds_toArray, List.set_cons_zero, List.set_cons_succ]
        refine wpAnyH_take (i := 16) (oi := { dst := some 56, op := Go.Op.binOp Go.BinOp.lss 21 (Go.Operand.tmp 55) (Go.Operand.const (Go.Value.int Go.IntKind.i32 0)) 21, type := 4, pos := "law.go:82", after := #[{ on := 15, ground := Go.Ground.data }, { on := 11, ground := Go.Ground.guard }], guard := some (11, false) }) (v := ?_) rfl (by kernel_rfl) (by kernel_rfl) (by kernel_rfl) (fun _ _ _ h => h) (Or.inl ⟨by rfl, ?_⟩) (by assumption) ?_
        rotate_left
        · intro w' hSw
          (try dsimp only at hSw)
          go_simp
          all_goals with_reducible rfl
        try simp only [Act.put, List.setIfInBounds_toArray, List.set_cons_zero, List.set_cons_succ]
        try simp only [e1]
        refine wpAnyH_take (i := 17) (oi := { dst := some 57, op := Go.Op.pick (Go.Operand.tmp 51) (Go.Operand.const (Go.Value.bool true)) (Go.Operand.tmp 56), type := 4, pos := "law.go:82", after := #[{ on := 11, ground := Go.Ground.data }, { on := 16, ground := Go.Ground.data }], guard := none }) (v := ?_) rfl (by kernel_rfl) (by kernel_rfl) (by kernel_rfl) (fun _ _ _ h => h) (Or.inl ⟨by rfl, ?_⟩) (by assumption) ?_
        rotate_left
        · intro w' hSw
          (try dsimp only at hSw)
          go_simp
          all_goals with_reducible rfl
        try simp only [Act.put, List.setIfInBounds_toArray, List.set_cons_zero, List.set_cons_succ]
        refine wpAnyH_take (i := 18) (oi := { dst := some 58, op := Go.Op.move (Go.Operand.tmp 57), type := 4, pos := "law.go:82", after := #[{ on := 17, ground := Go.Ground.data }, { on := 11, ground := Go.Ground.chain }], guard := none }) (v := ?_) rfl (by kernel_rfl) (by kernel_rfl) (by kernel_rfl) (fun _ _ _ h => h) (Or.inl ⟨by rfl, ?_⟩) (by assumption) ?_
        rotate_left
        · intro w' hSw
          (try dsimp only at hSw)
          go_simp
          all_goals with_reducible rfl
        try simp only [Act.put, List.setIfInBounds_toArray, List.set_cons_zero, List.set_cons_succ]
        refine wpAnyH_take (i := 19) (oi := { dst := some 59, op := Go.Op.move (Go.Operand.tmp 4), type := 26, pos := "law.go:82", after := #[{ on := 18, ground := Go.Ground.guard }], guard := some (18, false) }) (v := ?_) rfl (by kernel_rfl) (by kernel_rfl) (by kernel_rfl) (fun _ _ _ h => h) (Or.inl ⟨by rfl, ?_⟩) (by assumption) ?_
        rotate_left
        · intro w' hSw
          (try dsimp only at hSw)
          go_simp
          all_goals with_reducible rfl
        try simp only [Act.put, List.setIfInBounds_toArray, List.set_cons_zero, List.set_cons_succ]
        refine wpAnyH_take (i := 20) (oi := { dst := some 60, op := Go.Op.move (Go.Operand.tmp 11), type := 3, pos := "law.go:82", after := #[{ on := 18, ground := Go.Ground.guard }], guard := some (18, false) }) (v := ?_) rfl (by kernel_rfl) (by kernel_rfl) (by kernel_rfl) (fun _ _ _ h => h) (Or.inl ⟨by rfl, ?_⟩) (by assumption) ?_
        rotate_left
        · intro w' hSw
          (try dsimp only at hSw)
          go_simp
          all_goals with_reducible rfl
        try simp only [Act.put, List.setIfInBounds_toArray, List.set_cons_zero, List.set_cons_succ]
        refine wpAnyH_take (i := 21) (oi := { dst := some 61, op := Go.Op.indexAddr 26 (Go.Operand.tmp 59) (Go.Operand.tmp 60), type := 0, pos := "law.go:82", after := #[{ on := 19, ground := Go.Ground.data }, { on := 20, ground := Go.Ground.data }, { on := 18, ground := Go.Ground.guard }], guard := some (18, false) }) (v := ?_) rfl (by kernel_rfl) (by kernel_rfl) (by kernel_rfl) (fun _ _ _ h => h) (Or.inl ⟨by rfl, ?_⟩) (by assumption) ?_
        rotate_left
        · intro w' hSw
          (try dsimp only at hSw)
          go_simp
          all_goals with_reducible rfl
        try simp only [Act.put, List.setIfInBounds_toArray, List.set_cons_zero, List.set_cons_succ]
        refine wpAnyH_take (i := 22) (oi := { dst := some 62, op := Go.Op.load 21 (Go.Operand.tmp 61), type := 21, pos := "law.go:82", after := #[{ on := 21, ground := Go.Ground.data }, { on := 18, ground := Go.Ground.guard }], guard := some (18, false) }) (v := ?_) rfl (by kernel_rfl) (by kernel_rfl) (by kernel_rfl) (fun _ _ _ h => h) (Or.inl ⟨by rfl, ?_⟩) (by assumption) ?_
        rotate_left
        · intro w' hSw
          (try dsimp only at hSw)
          go_simp
          all_goals with_reducible rfl
        try simp only [Act.put, List.setIfInBounds_toArray, List.set_cons_zero, List.set_cons_succ]
        refine wpAnyH_take (i := 23) (oi := { dst := some 63, op := Go.Op.binOp Go.BinOp.gtr 21 (Go.Operand.tmp 62) (Go.Operand.const (Go.Value.int Go.IntKind.i32 1114111)) 21, type := 4, pos := "law.go:82", after := #[{ on := 22, ground := Go.Ground.data }, { on := 18, ground := Go.Ground.guard }], guard := some (18, false) }) (v := ?_) rfl (by kernel_rfl) (by kernel_rfl) (by kernel_rfl) (fun _ _ _ h => h) (Or.inl ⟨by rfl, ?_⟩) (by assumption) ?_
        rotate_left
        · intro w' hSw
          (try dsimp only at hSw)
          go_simp
          all_goals with_reducible rfl
        try simp only [Act.put, List.setIfInBounds_toArray, List.set_cons_zero, List.set_cons_succ]
        try simp only [e2, e3]
        refine wpAnyH_take (i := 24) (oi := { dst := some 64, op := Go.Op.pick (Go.Operand.tmp 58) (Go.Operand.const (Go.Value.bool true)) (Go.Operand.tmp 63), type := 4, pos := "law.go:82", after := #[{ on := 18, ground := Go.Ground.data }, { on := 23, ground := Go.Ground.data }], guard := none }) (v := ?_) rfl (by kernel_rfl) (by kernel_rfl) (by kernel_rfl) (fun _ _ _ h => h) (Or.inl ⟨by rfl, ?_⟩) (by assumption) ?_
        rotate_left
        · intro w' hSw
          (try dsimp only at hSw)
          go_simp
          all_goals with_reducible rfl
        try simp only [Act.put, List.setIfInBounds_toArray, List.set_cons_zero, List.set_cons_succ]
        refine wpAnyH_done (by kernel_rfl) ?_ _
        have HB3 := Lib.hid (HW.out.trans ((below_n HB2.out (below_n HB.out (below_n ((Below.refl _ wr).drew) hb3))).mono (by omega)))
        clear hb3
        go_wp2_with (fail)
        refine (tawake_any _).mono ?_
        rintro e w4 ⟨rfl, hb4⟩
        go_wp2_with (fail)
        go_ret
        exact ⟨rfl, below_n HB3.out hb4⟩
      ·
        have e1 : decide (x < 0) = false := decide_eq_false (by omega)
        have e2 : decide (1114111 < x) = false := decide_eq_false (by omega)
        have e3 : decide (x > 1114111) = false := decide_eq_false (by omega)
        have HNX := Lib.hid (show ∀ (j : Nat) (h : j < gs.length) (h' : j < xs.length), j < k + 1 → mem gs[j] xs[j] ∧ Sy xs[j] from fun j h1 h2 h3 => by
          by_cases e : j = k
          · subst e
            obtain ⟨_, e1⟩ := HGK.out
            obtain ⟨_, e2⟩ := HLX.out
            rw [e1, e2]
            exact ⟨memB_iff.1 HMB.out, hx3, hx4⟩
          · exact HOK.out j h1 h2 (by omega))
        go_wp2_with (fail)
        refine wp_region_held_drew (S := fun w' => w'.cell? ⟨bg, offg + k, none⟩ = some (.slice Aj nj cj) ∧ w'.cell? ⟨bx, offx + k, none⟩ = some (.int .i32 x)) (by kernel_rfl) ⟨hcg, hcx⟩ (fun hHeld => ?_)
        refine wpAnyH_take (i := 0) (oi := { dst := some 40, op := Go.Op.move (Go.Operand.tmp 3), type := 25, pos := "law.go:82", after := #[], guard := none }) (v := ?_) rfl (by kernel_rfl) (by kernel_rfl) (by kernel_rfl) (fun _ _ _ h => h) (Or.inl ⟨by rfl, ?_⟩) (by assumption) ?_
        rotate_left
        · intro w' hSw
          (try dsimp only at hSw)
          go_simp
          all_goals with_reducible rfl
        try simp only [Act.put, List.setIfInBounds_toArray, List.set_cons_zero, List.set_cons_succ]
        refine wpAnyH_take (i := 1) (oi := { dst := some 41, op := Go.Op.move (Go.Operand.tmp 11), type := 3, pos := "law.go:82", after := #[], guard := none }) (v := ?_) rfl (by kernel_rfl) (by kernel_rfl) (by kernel_rfl) (fun _ _ _ h => h) (Or.inl ⟨by rfl, ?_⟩) (by assumption) ?_
        rotate_left
        · intro w' hSw
          (try dsimp only at hSw)
          go_simp
          all_goals with_reducible rfl
        try simp only [Act.put, List.setIfInBounds_toArray, List.set_cons_zero, List.set_cons_succ]
        refine wpAnyH_take (i := 2) (oi := { dst := some 42, op := Go.Op.indexAddr 25 (Go.Operand.tmp 40) (Go.Operand.tmp 41), type := 0, pos := "law.go:82", after := #[{ on := 0, ground := Go.Ground.data }, { on := 1, ground := Go.Ground.data }], guard := none }) (v := ?_) rfl (by kernel_rfl) (by kernel_rfl) (by kernel_rfl) (fun _ _ _ h => h) (Or.inl ⟨by rfl, ?_⟩) (by assumption) ?_
        rotate_left
        · intro w' hSw
          (try dsimp only at hSw)
          go_simp
          all_goals with_reducible rfl
        try simp only [Act.put, List.setIfInBounds_toArray, List.set_cons_zero, List.set_cons_succ]
        refine wpAnyH_take (i := 3) (oi := { dst := some 43, op := Go.Op.load 30 (Go.Operand.tmp 42), type := 30, pos := "law.go:82", after := #[{ on := 2, ground := Go.Ground.data }], guard := none }) (v := ?_) rfl (by kernel_rfl) (by kernel_rfl) (by kernel_rfl) (fun _ _ _ h => h) (Or.inl ⟨by rfl, ?_⟩) (by assumption) ?_
        rotate_left
        · intro w' hSw
          (try dsimp only at hSw)
          go_simp
          all_goals with_reducible rfl
        try simp only [Act.put, List.setIfInBounds_toArray, List.set_cons_zero, List.set_cons_succ]
        refine wpAnyH_take (i := 4) (oi := { dst := some 44, op := Go.Op.move (Go.Operand.tmp 4), type := 26, pos := "law.go:82", after := #[], guard := none }) (v := ?_) rfl (by kernel_rfl) (by kernel_rfl) (by kernel_rfl) (fun _ _ _ h => h) (Or.inl ⟨by rfl, ?_⟩) (by assumption) ?_
        rotate_left
        · intro w' hSw
          (try dsimp only at hSw)
          go_simp
          all_goals with_reducible rfl
        try simp only [Act.put, List.setIfInBounds_toArray, List.set_cons_zero, List.set_cons_succ]
        refine wpAnyH_take (i := 5) (oi := { dst := some 45, op := Go.Op.move (Go.Operand.tmp 11), type := 3, pos := "law.go:82", after := #[], guard := none }) (v := ?_) rfl (by kernel_rfl) (by kernel_rfl) (by kernel_rfl) (fun _ _ _ h => h) (Or.inl ⟨by rfl, ?_⟩) (by assumption) ?_
        rotate_left
        · intro w' hSw
          (try dsimp only at hSw)
          go_simp
          all_goals with_reducible rfl
        try simp only [Act.put, List.setIfInBounds_toArray, List.set_cons_zero, List.set_cons_succ]
        refine wpAnyH_take (i := 6) (oi := { dst := some 46, op := Go.Op.indexAddr 26 (Go.Operand.tmp 44) (Go.Operand.tmp 45), type := 0, pos := "law.go:82", after := #[{ on := 4, ground := Go.Ground.data }, { on := 5, ground := Go.Ground.data }], guard := none }) (v := ?_) rfl (by kernel_rfl) (by kernel_rfl) (by kernel_rfl) (fun _ _ _ h => h) (Or.inl ⟨by rfl, ?_⟩) (by assumption) ?_
        rotate_left
        · intro w' hSw
          (try dsimp only at hSw)
          go_simp
          all_goals with_reducible rfl
        try simp only [Act.put, List.setIfInBounds_toArray, List.set_cons_zero, List.set_cons_succ]
        refine wpAnyH_take (i := 7) (oi := { dst := some 47, op := Go.Op.load 21 (Go.Operand.tmp 46), type := 21, pos := "law.go:82", after := #[{ on := 6, ground := Go.Ground.data }], guard := none }) (v := ?_) rfl (by kernel_rfl) (by kernel_rfl) (by kernel_rfl) (fun _ _ _ h => h) (Or.inl ⟨by rfl, ?_⟩) (by assumption) ?_
        rotate_left
        · intro w' hSw
          (try dsimp only at hSw)
          go_simp
          all_goals with_reducible rfl
        try simp only [Act.put, List.setIfInBounds_toArray, List.set_cons_zero, List.set_cons_succ]
        refine wpAnyH_take (i := 8) (oi := { dst := some 48, op := Go.Op.convert 21 3 (Go.Operand.tmp 47), type := 3, pos := "law.go:82", after := #[{ on := 7, ground := Go.Ground.data }], guard := none }) (v := ?_) rfl (by kernel_rfl) (by kernel_rfl) (by kernel_rfl) (fun _ _ _ h => h) (Or.inl ⟨by rfl, ?_⟩) (by assumption) ?_
        rotate_left
        · intro w' hSw
          (try dsimp only at hSw)
          go_simp
          all_goals with_reducible rfl
        try simp only [Act.put, List.setIfInBounds_toArray, List.set_cons_zero, List.set_cons_succ]
        refine wpAnyH_ready (rs := [9]) (by kernel_rfl) (by simp) ?_
        refine AllReadyH.cons (o := { dst := some 49, op := Go.Op.call { callee := Go.Callee.value (Go.Operand.func 6), args := #[Go.Operand.tmp 43, Go.Operand.tmp 48], argTypes := #[30, 3] }, type := 4, pos := "law.go:82", after := #[{ on := 3, ground := Go.Ground.data }, { on := 8, ground := Go.Ground.data }], guard := none }) rfl (fun K hK => ?_) AllReadyH.nil
        go_simp
        refine (HHS.out _ ((Below.refl _ wr).drew)).mono ?_
        rintro e w3 ⟨rfl, hb3⟩
        refine hK.out _ _ ⟨(hb3.cell (p := ⟨bg, offg + k, none⟩) hbG).trans hcg, (hb3.cell (p := ⟨bx, offx + k, none⟩) hbX).trans hcx⟩ (fun hHeld => ?_)
        clear hK K
        try simp only [Act.put, List.setIfInBounds_toArray, List.set_cons_zero, List.set_cons_succ]
        refine wpAnyH_take (i := 10) (oi := { dst := some 50, op := Go.Op.unOp Go.UnOp.not 4 (Go.Operand.tmp 49), type := 4, pos := "law.go:82", after := #[{ on := 9, ground := Go.Ground.data }], guard := none }) (v := ?_) rfl (by kernel_rfl) (by kernel_rfl) (by kernel_rfl) (fun _ _ _ h => h) (Or.inl ⟨by rfl, ?_⟩) (by assumption) ?_
        rotate_left
        · intro w' hSw
          (try dsimp only at hSw)
          go_simp
          all_goals with_reducible rfl
        try simp only [Act.put, List.setIfInBounds_toArray, List.set_cons_zero, List.set_cons_succ]
        refine wpAnyH_take (i := 11) (oi := { dst := some 51, op := Go.Op.move (Go.Operand.tmp 50), type := 4, pos := "law.go:82", after := #[{ on := 10, ground := Go.Ground.data }, { on := 9, ground := Go.Ground.chain }], guard := none }) (v := ?_) rfl (by kernel_rfl) (by kernel_rfl) (by kernel_rfl) (fun _ _ _ h => h) (Or.inl ⟨by rfl, ?_⟩) (by assumption) ?_
        rotate_left
        · intro w' hSw
          (try dsimp only at hSw)
          go_simp
          all_goals with_reducible rfl
        try simp only [Act.put, List.setIfInBounds_toArray, List.set_cons_zero, List.set_cons_succ]
        refine wpAnyH_take (i := 12) (oi := { dst := some 52, op := Go.Op.move (Go.Operand.tmp 4), type := 26, pos := "law.go:82", after := #[{ on := 11, ground := Go.Ground.guard }], guard := some (11, false) }) (v := ?_) rfl (by kernel_rfl) (by kernel_rfl) (by kernel_rfl) (fun _ _ _ h => h) (Or.inl ⟨by rfl, ?_⟩) (by assumption) ?_
        rotate_left
        · intro w' hSw
          (try dsimp only at hSw)
          go_simp
          all_goals with_reducible rfl
        try simp only [Act.put, List.setIfInBounds_toArray, List.set_cons_zero, List.set_cons_succ]
        refine wpAnyH_take (i := 13) (oi := { dst := some 53, op := Go.Op.move (Go.Operand.tmp 11), type := 3, pos := "law.go:82", after := #[{ on := 11, ground := Go.Ground.guard }], guard := some (11, false) }) (v := ?_) rfl (by kernel_rfl) (by kernel_rfl) (by kernel_rfl) (fun _ _ _ h => h) (Or.inl ⟨by rfl, ?_⟩) (by assumption) ?_
        rotate_left
        · intro w' hSw
          (try dsimp only at hSw)
          go_simp
          all_goals with_reducible rfl
        try simp only [Act.put, List.setIfInBounds_toArray, List.set_cons_zero, List.set_cons_succ]
        refine wpAnyH_take (i := 14) (oi := { dst := some 54, op := Go.Op.indexAddr 26 (Go.Operand.tmp 52) (Go.Operand.tmp 53), type := 0, pos := "law.go:82", after := #[{ on := 12, ground := Go.Ground.data }, { on := 13, ground := Go.Ground.data }, { on := 11, ground := Go.Ground.guard }], guard := some (11, false) }) (v := ?_) rfl (by kernel_rfl) (by kernel_rfl) (by kernel_rfl) (fun _ _ _ h => h) (Or.inl ⟨by rfl, ?_⟩) (by assumption) ?_
        rotate_left
        · intro w' hSw
          (try dsimp only at hSw)
          go_simp
          all_goals with_reducible rfl
        try simp only [Act.put, List.setIfInBounds_toArray, List.set_cons_zero, List.set_cons_succ]
        refine wpAnyH_take (i := 15) (oi := { dst := some 55, op := Go.Op.load 21 (Go.Operand.tmp 54), type := 21, pos := "law.go:82", after := #[{ on := 14, ground := Go.Ground.data }, { on := 11, ground := Go.Ground.guard }], guard := some (11, false) }) (v := ?_) rfl (by kernel_rfl) (by kernel_rfl) (by kernel_rfl) (fun _ _ _ h => h) (Or.inl ⟨by rfl, ?_⟩) (by assumption) ?_
        rotate_left
        · intro w' hSw
          (try dsimp only at hSw)
          go_simp
          all_goals with_reducible rfl
        try simp only [Act.put, List.setIfInBounds_toArray, List.set_cons_zero, List.set_cons_succ]
        refine wpAnyH_take (i := 16) (oi := { dst := some 56, op := Go.Op.binOp Go.BinOp.lss 21 (Go.Operand.tmp 55) (Go.Operand.const (Go.Value.int Go.IntKind.i32 0)) 21, type := 4, pos := "law.go:82", after := #[{ on := 15, ground := Go.Ground.data }, { on := 11, ground := Go.Ground.guard }], guard := some (11, false) }) (v := ?_) rfl (by kernel_rfl) (by kernel_rfl) (by kernel_rfl) (fun _ _ _ h => h) (Or.inl ⟨by rfl, ?_⟩) (by assumption) ?_
        rotate_left
        · intro w' hSw
          (try dsimp only at hSw)
          go_simp
          all_goals with_reducible rfl
        try simp only [Act.put, List.setIfInBounds_toArray, List.set_cons_zero, List.set_cons_succ]
        try simp only [e1]
        refine wpAnyH_take (i := 17) (oi := { dst := some 57, op := Go.Op.pick (Go.Operand.tmp 51) (Go.Operand.const (Go.Value.bool true)) (Go.Operand.tmp 56), type := 4, pos := "law.go:82", after := #[{ on := 11, ground := Go.Ground.data }, { on := 16, ground := Go.Ground.data }], guard := none }) (v := ?_) rfl (by kernel_rfl) (by kernel_rfl) (by kernel_rfl) (fun _ _ _ h => h) (Or.inl ⟨by rfl, ?_⟩) (by assumption) ?_
        rotate_left
        · intro w' hSw
          (try dsimp only at hSw)
          go_simp
          all_goals with_reducible rfl
        try simp only [Act.put, List.setIfInBounds_toArray, List.set_cons_zero, List.set_cons_succ]
        refine wpAnyH_take (i := 18) (oi := { dst := some 58, op := Go.Op.move (Go.Operand.tmp 57), type := 4, pos := "law.go:82", after := #[{ on := 17, ground := Go.Ground.data }, { on := 11, ground := Go.Ground.chain }], guard := none }) (v := ?_) rfl (by kernel_rfl) (by kernel_rfl) (by kernel_rfl) (fun _ _ _ h => h) (Or.inl ⟨by rfl, ?_⟩) (by assumption) ?_
        rotate_left
        · intro w' hSw
          (try dsimp only at hSw)
          go_simp
          all_goals with_reducible rfl
        try simp only [Act.put, List.setIfInBounds_toArray, List.set_cons_zero, List.set_cons_succ]
        refine wpAnyH_take (i := 19) (oi := { dst := some 59, op := Go.Op.move (Go.Operand.tmp 4), type := 26, pos := "law.go:82", after := #[{ on := 18, ground := Go.Ground.guard }], guard := some (18, false) }) (v := ?_) rfl (by kernel_rfl) (by kernel_rfl) (by kernel_rfl) (fun _ _ _ h => h) (Or.inl ⟨by rfl, ?_⟩) (by assumption) ?_
        rotate_left
        · intro w' hSw
          (try dsimp only at hSw)
          go_simp
          all_goals with_reducible rfl
        try simp only [Act.put, List.setIfInBounds_toArray, List.set_cons_zero, List.set_cons_succ]
        refine wpAnyH_take (i := 20) (oi := { dst := some 60, op := Go.Op.move (Go.Operand.tmp 11), type := 3, pos := "law.go:82", after := #[{ on := 18, ground := Go.Ground.guard }], guard := some (18, false) }) (v := ?_) rfl (by kernel_rfl) (by kernel_rfl) (by kernel_rfl) (fun _ _ _ h => h) (Or.inl ⟨by rfl, ?_⟩) (by assumption) ?_
        rotate_left
        · intro w' hSw
          (try dsimp only at hSw)
          go_simp
          all_goals with_reducible rfl
        try simp only [Act.put, List.setIfInBounds_toArray, List.set_cons_zero, List.set_cons_succ]
        refine wpAnyH_take (i := 21) (oi := { dst := some 61, op := Go.Op.indexAddr 26 (Go.Operand.tmp 59) (Go.Operand.tmp 60), type := 0, pos := "law.go:82", after := #[{ on := 19, ground := Go.Ground.data }, { on := 20, ground := Go.Ground.data }, { on := 18, ground := Go.Ground.guard }], guard := some (18, false) }) (v := ?_) rfl (by kernel_rfl) (by kernel_rfl) (by kernel_rfl) (fun _ _ _ h => h) (Or.inl ⟨by rfl, ?_⟩) (by assumption) ?_
        rotate_left
        · intro w' hSw
          (try dsimp only at hSw)
          go_simp
          all_goals with_reducible rfl
        try simp only [Act.put, List.setIfInBounds_toArray, List.set_cons_zero, List.set_cons_succ]
        refine wpAnyH_take (i := 22) (oi := { dst := some 62, op := Go.Op.load 21 (Go.Operand.tmp 61), type := 21, pos := "law.go:82", after := #[{ on := 21, ground := Go.Ground.data }, { on := 18, ground := Go.Ground.guard }], guard := some (18, false) }) (v := ?_) rfl (by kernel_rfl) (by kernel_rfl) (by kernel_rfl) (fun _ _ _ h => h) (Or.inl ⟨by rfl, ?_⟩) (by assumption) ?_
        rotate_left
        · intro w' hSw
          (try dsimp only at hSw)
          go_simp
          all_goals with_reducible rfl
        try simp only [Act.put, List.setIfInBounds_toArray, List.set_cons_zero, List.set_cons_succ]
        refine wpAnyH_take (i := 23) (oi := { dst := some 63, op := Go.Op.binOp Go.BinOp.gtr 21 (Go.Operand.tmp 62) (Go.Operand.const (Go.Value.int Go.IntKind.i32 1114111)) 21, type := 4, pos := "law.go:82", after := #[{ on := 22, ground := Go.Ground.data }, { on := 18, ground := Go.Ground.guard }], guard := some (18, false) }) (v := ?_) rfl (by kernel_rfl) (by kernel_rfl) (by kernel_rfl) (fun _ _ _ h => h) (Or.inl ⟨by rfl, ?_⟩) (by assumption) ?_
        rotate_left
        · intro w' hSw
          (try dsimp only at hSw)
          go_simp
          all_goals with_reducible rfl
        try simp only [Act.put, List.setIfInBounds_toArray, List.set_cons_zero, List.set_cons_succ]
        try simp only [e2, e3]
        refine wpAnyH_take (i := 24) (oi := { dst := some 64, op := Go.Op.pick (Go.Operand.tmp 58) (Go.Operand.const (Go.Value.bool true)) (Go.Operand.tmp 63), type := 4, pos := "law.go:82", after := #[{ on := 18, ground := Go.Ground.data }, { on := 23, ground := Go.Ground.data }], guard := none }) (v := ?_) rfl (by kernel_rfl) (by kernel_rfl) (by kernel_rfl) (fun _ _ _ h => h) (Or.inl ⟨by rfl, ?_⟩) (by assumption) ?_
        rotate_left
        · intro w' hSw
          (try dsimp only at hSw)
          go_simp
          all_goals with_reducible rfl
        try simp only [Act.put, List.setIfInBounds_toArray, List.set_cons_zero, List.set_cons_succ]
        refine wpAnyH_done (by kernel_rfl) ?_ _
        have HB3 := Lib.hid (below_n HB.out (below_n ((Below.refl _ wr).drew) hb3))
        clear hb3
        go_wp2_with (fail)
        go_roundw
        case rel => exact ⟨k + 1, by omega, by go_num, HNX.out, HB3.out⟩
        case measure => simp [intOf]; omega
    · obtain rfl : k = gs.length := by omega
      have HWI := Lib.hid (show WinS gs xs from ⟨HK1.out, fun j h1 h2 => (HOK.out j h1 h2 h1).1⟩)
      have HSY := Lib.hid (show ∀ x ∈ xs, Sy x from fun x hx => by
        obtain ⟨j, hj, rfl⟩ := List.getElem_of_mem hx
        exact (HOK.out j (by have := HK1.out; omega) hj (by have := HK1.out; omega)).2)
      have HPR := Lib.hid (HP2.out.belowM hb)
      have HGRr := Lib.hid (HG2.out.belowM hb)
      have HXR := Lib.hid (HX2.out.belowM hb)
      have HTR := Lib.hid (HT2.out.next hb)
      have hbr := below_n HB2.out hb
      obtain ⟨r0, r1, r2, r3, r4, r5⟩ := X6.out wr hbr
      have HBR := Lib.hid hbr
      clear hk hzr hlt
      obtain ⟨⟨v, is⟩, hv⟩ : ∃ q, valueT b d t u s l xs = q := ⟨_, rfl⟩
      have HVT := Lib.hid hv
      have HIM := Lib.hid (timg_any b d t u s A l.length c l G gc gs wr HPR.out (by unfold maxLen; omega) HGRr.out k2 (fun g hg => Nat.le_trans (HGM.out g hg) (by omega)) HTR.out)
      have HVA := Lib.hid (fun W (h1 : RP W W.heap.size A l.length l) (h2 : RR W W.heap.size X gs.length xs) => tvalue_any b d t u s A X l.length c gs.length xc l xs W h1 (by unfold maxLen; omega) h2 (by unfold maxLen; omega))
      rw [hv] at HVA
      clear hok hb hbr hv
      go_wp2_with (fail)
      refine HIM.out.mono ?_
      intro e w5 hq5
      obtain ⟨v5, ok, out, rfl, hown5, hb5, hok5, his5⟩ := hq5
      obtain ⟨A5, c5, hv5, hc5, hr5⟩ := own_RS hown5
      subst hv5
      have hbr := below_n HBR.out hb5
      obtain ⟨r0, r1, r2, r3, r4, r5⟩ := X6.out w5 hbr
      have HB5 := Lib.hid hbr
      have HP5 := Lib.hid (HPR.out.belowM hb5)
      have HG5 := Lib.hid (HGRr.out.belowM hb5)
      have HX5 := Lib.hid (HXR.out.belowM hb5)
      have HT5 := Lib.hid (HTR.out.next hb5)
      have HR5 := Lib.hid hr5
      have HOI := Lib.hid (show ok = true → is = true ∧ memB out v = true ∧ out.length ≤ 1073741825 from fun e => by
        have h1 := (hok5.1 e).2.2.2 xs HWI.out
        have h2 := (his5 e).2 v
        unfold HasVal at h1
        rw [HVT.out] at h1
        exact ⟨h1, memB_true (h2.2 ⟨xs, HWI.out, by unfold HasVal; rw [HVT.out]; exact h1, by rw [HVT.out]⟩), (his5 e).1.short⟩)
      clear hown5 hb5 hok5 his5 hr5 hc5 hbr
      obtain ⟨m5, hm5⟩ : ∃ m5, out.length = m5 := ⟨_, rfl⟩
      rw [hm5] at HR5 HOI ⊢
      clear hm5
      go_wp2_with (fail)
      refine (HVA.out _ HP5.out HX5.out).mono ?_
      rintro e w6 ⟨rfl, hb6⟩
      have hbr := below_n HB5.out hb6
      obtain ⟨r0, r1, r2, r3, r4, r5⟩ := X6.out w6 hbr
      have HB6 := Lib.hid hbr
      have HP6 := Lib.hid (HP5.out.belowM hb6)
      have HG6 := Lib.hid (HG5.out.belowM hb6)
      have HT6 := Lib.hid (HT5.out.next hb6)
      have HR6 := Lib.hid (HR5.out.belowM hb6)
      clear hb6 hbr
      obtain ⟨fb, hfb⟩ : ∃ fb : Bool, fb = true ↔ FitsP (domL o) i o b d t u s l gs := by
        by_cases q : FitsP (domL o) i o b d t u s l gs
        · exact ⟨true, ⟨fun _ => q, fun _ => rfl⟩⟩
        · exact ⟨false, ⟨fun e => (by cases e), fun e => absurd e q⟩⟩
      have HFT := Lib.hid (fun W (h1 : RP W W.heap.size A l.length l) (h2 : RGs W G gs.length gs) (h3 : TabB W) => fits_any b d t u s i o A l.length c l G gc gs fb W h1 (by unfold maxLen; omega) h2 (fun g hg => Nat.le_trans (HGM.out g hg) (by omega)) h3 hfb)
      have hcase : (fb = true ∧ is = true ∧ 0 ≤ v ∧ v ≤ 1114111 ∧ (o = 1 ∧ v < 256 ∨ o = 2 ∧ (v < 55296 ∨ 57343 < v))) ∨ fb = false := by
        cases fb with
        | false => exact .inr rfl
        | true => exact .inl ⟨rfl, fits_some (hfb.1 rfl) HWI.out HSY.out HVT.out⟩
      have HCASE := Lib.hid hcase
      clear hfb hcase
      have HDONE := Lib.hid (fun (W : World) (hW : Below w6.heap.size w6 W) => show Below w.heap.size w W from (HW.out.trans ((HB6.out.trans (hW.mono HB6.out.size)).mono (by omega))))
      clear HB HOK HB5 HBR
      cases ok with
      | true =>
        obtain ⟨rfl, hmv, hsh⟩ := HOI.out rfl
        have HHA := Lib.hid (has_any A5 m5 c5 out v w6 HR6.out (by omega))
        rw [hmv] at HHA
        clear hmv HOI
        go_wp2_with (fail)
        refine HHA.out.mono ?_
        rintro e w7 ⟨rfl, hb7⟩
        obtain ⟨r0, r1, r2, r3, r4, r5⟩ := X6.out w7 (below_n HB6.out hb7)
        have HP7 := Lib.hid (HP6.out.belowM hb7)
        have HG7 := Lib.hid (HG6.out.belowM hb7)
        have HT7 := Lib.hid (HT6.out.next hb7)
        have HB7 := Lib.hid hb7
        clear hb7
        go_wp2_with (fail)
        refine (HFT.out _ HP7.out HG7.out HT7.out).mono ?_
        rintro e w8 ⟨rfl, hb8⟩
        have HB8 := Lib.hid (below_n HB7.out hb8)
        clear hb8
        rcases HCASE.out with ⟨rfl, _, h1, h2, h3⟩ | rfl
        · have e1 : decide (0 ≤ v) = true := decide_eq_true h1
          have e2 : decide (v ≤ 1114111) = true := decide_eq_true h2
          rcases h3 with ⟨rfl, h3⟩ | ⟨rfl, h3 | h3⟩
          · have e3 : decide (v < 256) = true := decide_eq_true h3
            go_wp2_with (fail)
            refine (tawake_any _).mono ?_
            rintro e w9 ⟨rfl, hb9⟩
            go_wp2_with (fail)
            go_ret
            exact ⟨rfl, HDONE.out _ (below_n HB8.out hb9)⟩
          · have e3 : decide (v < 55296) = true := decide_eq_true h3
            go_wp2_with (fail)
            refine (tawake_any _).mono ?_
            rintro e w9 ⟨rfl, hb9⟩
            go_wp2_with (fail)
            go_ret
            exact ⟨rfl, HDONE.out _ (below_n HB8.out hb9)⟩
          · have e3 : decide (v < 55296) = false := decide_eq_false (by omega)
            have e4 : decide (57343 < v) = true := decide_eq_true h3
            go_wp2_with (fail)
            refine (tawake_any _).mono ?_
            rintro e w9 ⟨rfl, hb9⟩
            go_wp2_with (fail)
            go_ret
            exact ⟨rfl, HDONE.out _ (below_n HB8.out hb9)⟩
        ·
          rcases Int.lt_or_le v 0 with h1 | h1
          · have e1 : decide (0 ≤ v) = false := decide_eq_false (by omega)
            go_wp2_with (fail)
            refine (tawake_any _).mono ?_
            rintro e w9 ⟨rfl, hb9⟩
            go_wp2_with (fail)
            go_ret
            exact ⟨rfl, HDONE.out _ (below_n HB8.out hb9)⟩
          have e1 : decide (0 ≤ v) = true := decide_eq_true h1
          rcases Int.lt_or_le 1114111 v with h2 | h2
          · have e2 : decide (v ≤ 1114111) = false := decide_eq_false (by omega)
            go_wp2_with (fail)
            refine (tawake_any _).mono ?_
            rintro e w9 ⟨rfl, hb9⟩
            go_wp2_with (fail)
            go_ret
            exact ⟨rfl, HDONE.out _ (below_n HB8.out hb9)⟩
          have e2 : decide (v ≤ 1114111) = true := decide_eq_true h2
          by_cases ho : o = 1
          · subst ho
            by_cases h3 : v < 256
            · have e3 : decide (v < 256) = true := decide_eq_true h3
              go_wp2_with (fail)
              refine (tawake_any _).mono ?_
              rintro e w9 ⟨rfl, hb9⟩
              go_wp2_with (fail)
              go_ret
              exact ⟨rfl, HDONE.out _ (below_n HB8.out hb9)⟩
            · have e3 : decide (v < 256) = false := decide_eq_false h3
              go_wp2_with (fail)
              refine (tawake_any _).mono ?_
              rintro e w9 ⟨rfl, hb9⟩
              go_wp2_with (fail)
              go_ret
              exact ⟨rfl, HDONE.out _ (below_n HB8.out hb9)⟩
          by_cases ho2 : o = 2
          · subst ho2
            by_cases h3 : v < 55296
            · have e3 : decide (v < 55296) = true := decide_eq_true h3
              go_wp2_with (fail)
              refine (tawake_any _).mono ?_
              rintro e w9 ⟨rfl, hb9⟩
              go_wp2_with (fail)
              go_ret
              exact ⟨rfl, HDONE.out _ (below_n HB8.out hb9)⟩
            · have e3 : decide (v < 55296) = false := decide_eq_false h3
              by_cases h4 : 57343 < v
              · have e4 : decide (57343 < v) = true := decide_eq_true h4
                go_wp2_with (fail)
                refine (tawake_any _).mono ?_
                rintro e w9 ⟨rfl, hb9⟩
                go_wp2_with (fail)
                go_ret
                exact ⟨rfl, HDONE.out _ (below_n HB8.out hb9)⟩
              · have e4 : decide (57343 < v) = false := decide_eq_false h4
                go_wp2_with (fail)
                refine (tawake_any _).mono ?_
                rintro e w9 ⟨rfl, hb9⟩
                go_wp2_with (fail)
                go_ret
                exact ⟨rfl, HDONE.out _ (below_n HB8.out hb9)⟩
          have e5 : (o == 1) = false := by simpa using ho
          have e6 : (o == 2) = false := by simpa using ho2
          go_wp2_with (fail)
          refine (tawake_any _).mono ?_
          rintro e w9 ⟨rfl, hb9⟩
          go_wp2_with (fail)
          go_ret
          exact ⟨rfl, HDONE.out _ (below_n HB8.out hb9)⟩
      | false =>
        clear HOI HR6
        go_wp2_with (fail)
        refine (HFT.out _ HP6.out HG6.out HT6.out).mono ?_
        rintro e w8 ⟨rfl, hb8⟩
        have HB8 := Lib.hid hb8
        clear hb8
        rcases HCASE.out with ⟨rfl, rfl, h1, h2, h3⟩ | rfl
        · have e1 : decide (0 ≤ v) = true := decide_eq_true h1
          have e2 : decide (v ≤ 1114111) = true := decide_eq_true h2
          rcases h3 with ⟨rfl, h3⟩ | ⟨rfl, h3 | h3⟩
          · have e3 : decide (v < 256) = true := decide_eq_true h3
            go_wp2_with (fail)
            refine (tawake_any _).mono ?_
            rintro e w9 ⟨rfl, hb9⟩
            go_wp2_with (fail)
            go_ret
            exact ⟨rfl, HDONE.out _ (below_n HB8.out hb9)⟩
          · have e3 : decide (v < 55296) = true := decide_eq_true h3
            go_wp2_with (fail)
            refine (tawake_any _).mono ?_
            rintro e w9 ⟨rfl, hb9⟩
            go_wp2_with (fail)
            go_ret
            exact ⟨rfl, HDONE.out _ (below_n HB8.out hb9)⟩
          · have e3 : decide (v < 55296) = false := decide_eq_false (by omega)
            have e4 : decide (57343 < v) = true := decide_eq_true h3
            go_wp2_with (fail)
            refine (tawake_any _).mono ?_
            rintro e w9 ⟨rfl, hb9⟩
            go_wp2_with (fail)
            go_ret
            exact ⟨rfl, HDONE.out _ (below_n HB8.out hb9)⟩
        · cases is with
          | false =>
            go_wp2_with (fail)
            refine (tawake_any _).mono ?_
            rintro e w9 ⟨rfl, hb9⟩
            go_wp2_with (fail)
            go_ret
            exact ⟨rfl, HDONE.out _ (below_n HB8.out hb9)⟩
          | true =>
          rcases Int.lt_or_le v 0 with h1 | h1
          · have e1 : decide (0 ≤ v) = false := decide_eq_false (by omega)
            go_wp2_with (fail)
            refine (tawake_any _).mono ?_
            rintro e w9 ⟨rfl, hb9⟩
            go_wp2_with (fail)
            go_ret
            exact ⟨rfl, HDONE.out _ (below_n HB8.out hb9)⟩
          have e1 : decide (0 ≤ v) = true := decide_eq_true h1
          rcases Int.lt_or_le 1114111 v with h2 | h2
          · have e2 : decide (v ≤ 1114111) = false := decide_eq_false (by omega)
            go_wp2_with (fail)
            refine (tawake_any _).mono ?_
            rintro e w9 ⟨rfl, hb9⟩
            go_wp2_with (fail)
            go_ret
            exact ⟨rfl, HDONE.out _ (below_n HB8.out hb9)⟩
          have e2 : decide (v ≤ 1114111) = true := decide_eq_true h2
          by_cases ho : o = 1
          · subst ho
            by_cases h3 : v < 256
            · have e3 : decide (v < 256) = true := decide_eq_true h3
              go_wp2_with (fail)
              refine (tawake_any _).mono ?_
              rintro e w9 ⟨rfl, hb9⟩
              go_wp2_with (fail)
              go_ret
              exact ⟨rfl, HDONE.out _ (below_n HB8.out hb9)⟩
            · have e3 : decide (v < 256) = false := decide_eq_false h3
              go_wp2_with (fail)
              refine (tawake_any _).mono ?_
              rintro e w9 ⟨rfl, hb9⟩
              go_wp2_with (fail)
              go_ret
              exact ⟨rfl, HDONE.out _ (below_n HB8.out hb9)⟩
          by_cases ho2 : o = 2
          · subst ho2
            by_cases h3 : v < 55296
            · have e3 : decide (v < 55296) = true := decide_eq_true h3
              go_wp2_with (fail)
              refine (tawake_any _).mono ?_
              rintro e w9 ⟨rfl, hb9⟩
              go_wp2_with (fail)
              go_ret
              exact ⟨rfl, HDONE.out _ (below_n HB8.out hb9)⟩
            · have e3 : decide (v < 55296) = false := decide_eq_false h3
              by_cases h4 : 57343 < v
              · have e4 : decide (57343 < v) = true := decide_eq_true h4
                go_wp2_with (fail)
                refine (tawake_any _).mono ?_
                rintro e w9 ⟨rfl, hb9⟩
                go_wp2_with (fail)
                go_ret
                exact ⟨rfl, HDONE.out _ (below_n HB8.out hb9)⟩
              · have e4 : decide (57343 < v) = false := decide_eq_false h4
                go_wp2_with (fail)
                refine (tawake_any _).mono ?_
                rintro e w9 ⟨rfl, hb9⟩
                go_wp2_with (fail)
                go_ret
                exact ⟨rfl, HDONE.out _ (below_n HB8.out hb9)⟩
          have e5 : (o == 1) = false := by simpa using ho
          have e6 : (o == 2) = false := by simpa using ho2
          go_wp2_with (fail)
          refine (tawake_any _).mono ?_
          rintro e w9 ⟨rfl, hb9⟩
          go_wp2_with (fail)
          go_ret
          exact ⟨rfl, HDONE.out _ (below_n HB8.out hb9)⟩
end Go.Proofs.YtiddgfcoankpjaaDoor.Tp
