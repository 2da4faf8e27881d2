/- The walks of ref17.terms and ref17.next. -/
import Derived.Test.YtboaifdkoemnbaaJ7
import Derived.BigQuiet
import Derived.Deep.QuietTactic
import Derived.Deep.RegionHeld3
import Derived.Deep.RegionLaw
import Derived.Deep.DeepCutAuto
namespace Go.Proofs.Ytboaifdkoemnbaa.Pk
set_option maxRecDepth 100000
open Go Go.RowKit Go.Proofs.Ytboaifdkoemnbaa.Sp Go.Proofs.Ytboaifdkoemnbaa.Pa Go.Proofs.Ytboaifdkoemnbaa.Te Go.Proofs.Ytboaifdkoemnbaa.Mi Go.Proofs.Ytboaifdkoemnbaa.De

def TsRel (ts : List TmL) (n : Int) (w : World) (iv : Value) (wr : World) : Prop := ∃ k : Nat, k ≤ ts.length ∧ iv = .int .i64 k ∧ (∀ j (hj : j < ts.length), j < k → termOk n ts[j] = true) ∧ Below w.heap.size w wr
set_option maxHeartbeats 4000000 in
theorem terms17_any (A : Option Addr) (c : Nat) (ts : List TmL) (n : Int) (w : World) (h : RTm w A ts.length ts) (hm : ts.length ≤ maxLen) : Calls Try.prog 35 #[.slice A ts.length c, .int .i64 n] w (RetB (termsOk n ts) w) := by
  unfold maxLen at hm
  have HT := Lib.hid h
  clear h
  obtain ⟨v, hv⟩ : ∃ v, termsOk n ts = v := ⟨_, rfl⟩
  rw [hv]
  have HV := Lib.hid hv
  clear hv
  go_enter Try.func35, Try.ntmps35
  go_wp2_with (fail)
  go_loopw [5] (fun iv wr => TsRel ts n w iv wr) (fun i _ => ts.length - (intOf i).toNat)
  case atStart => exact ⟨0, Nat.zero_le _, rfl, fun j _ h => absurd h (by omega), Below.refl _ _⟩
  case round =>
    obtain ⟨k, hk, rfl, hall, hbr⟩ := hrel
    have HA := Lib.hid hall
    have HBR := Lib.hid hbr
    have hTr := HT.out.belowM hbr
    have hsr := hbr.size
    clear hall hbr
    by_cases hlt : k < ts.length
    case neg =>
      have HP := Lib.hid (show true = v from by
        rw [← HV.out]
        unfold termsOk
        refine (List.all_eq_true.2 fun l hl => ?_).symm
        obtain ⟨j, hj, rfl⟩ := List.getElem_of_mem hl
        exact HA.out j hj (by omega))
      clear hTr
      go_wp2_with (fail)
      go_ret
      exact ⟨ret_bool HP.out, HBR.out⟩
    obtain ⟨b, off, hA, hbB, d0, d1, d2, d3, d4, A', c', d5, hp, hcc, hmm⟩ := hTr.at_ hlt
    obtain ⟨t, ht⟩ : ∃ t, ts[k] = t := ⟨_, rfl⟩
    rw [ht] at d0 d1 d2 d3 d4 d5 hp hcc hmm
    have HC := Lib.hid (rrightT_any 1 1 n t.b t.d t.t t.u t.s A' t.ps.length c' t.ps wr hp hmm)
    have HN := Lib.hid (show termOk n t = true → ∀ j (hj : j < ts.length), j < k + 1 → termOk n ts[j] = true from fun q j hj hjk => by
      rcases Nat.lt_or_ge j k with z | z
      · exact HA.out j hj z
      · obtain rfl : j = k := by omega
        rw [ht]
        exact q)
    have HNO := Lib.hid (show termOk n t = false → false = v from fun q => by
      rw [← HV.out]
      unfold termsOk
      refine (Bool.eq_false_iff.2 fun z => ?_).symm
      have := List.all_eq_true.1 z t (by rw [← ht]; exact List.getElem_mem hlt)
      rw [q] at this
      cases this)
    subst hA
    clear ht hp hTr
    unfold maxLen at hmm
    rcases k1 : rightT 1 1 n t.b t.d t.t t.u t.s t.ps with _ | _
    · have HP := Lib.hid (HNO.out k1)
      rw [k1] at HC
      clear k1
      go_wp2_with (fail)
      refine HC.out.mono ?_
      rintro e w7 ⟨rfl, hb7⟩
      have HB7 := Lib.hid hb7
      clear hb7
      go_wp2_with (fail)
      go_ret
      exact ⟨ret_bool HP.out, HBR.out.trans (HB7.out.mono hsr)⟩
    · have HN2 := Lib.hid (HN.out k1)
      rw [k1] at HC
      clear k1
      go_wp2_with (fail)
      refine HC.out.mono ?_
      rintro e w7 ⟨rfl, hb7⟩
      have HB7 := Lib.hid hb7
      clear hb7
      go_wp2_with (fail)
      go_roundw
      case rel => exact ⟨k + 1, by omega, by go_num, HN2.out, HBR.out.trans (HB7.out.mono hsr)⟩
      case measure => simp [intOf]; omega
def NkRel (j n : Nat) (iv : Value) : Prop := ∃ k : Nat, k ≤ j ∧ k ≤ n ∧ iv = .int .i64 k
set_option maxHeartbeats 8000000 in
theorem next17_any (t : TV) (A' : Option Addr) (c' : Nat) (held end_ : Int) (nn : Nat) (x : Int) (w : World) (h : TM w t) (h0 : 0 ≤ held) (h4 : held ≤ 4) (hx : IntR x) :
    Calls Try.prog 36 #[t.val, .agg #[.int .i64 held, .slice A' nn c', .int .i64 end_], .int .i64 x] w (RetB (propB (NextOk t.T held x)) w) := by
  have hla := h.la
  have hlb := h.lb
  unfold maxLen at hla hlb
  unfold IntR at hx
  obtain ⟨H, hH⟩ : ∃ H, w.heap.size = H := ⟨_, rfl⟩
  obtain ⟨w1, hw1⟩ : ∃ w1, w.alloc (.cells t.cells.toArray 27) = w1 := ⟨_, rfl⟩
  have hT : TW w1 H t := by rw [← hw1, ← hH]; exact TW.boxed h
  have hs1 : w1.heap.size = H + 1 := by rw [← hw1, ← hH]; simp
  have hb1 : Below H w w1 := by rw [← hw1, ← hH]; exact (Below.refl _ _).alloc (Nat.le_refl _) _
  obtain ⟨w2, hw2⟩ : ∃ w2, w1.alloc (.cells #[.int .i64 held, .slice A' nn c', .int .i64 end_] 45) = w2 := ⟨_, rfl⟩
  have hb2 : Below w1.heap.size w1 w2 := by rw [← hw2]; exact (Below.refl _ _).alloc (Nat.le_refl _) _
  have hs2 : w2.heap.size = H + 1 + 1 := by rw [← hw2, ← hs1]; simp
  have q0 : w2.cell? ⟨H + 1, 0, none⟩ = some (.int .i64 held) := by rw [← hw2, ← hs1]; simp
  have hT2 := hT.below hb2
  have cA := hT2.cA
  have cB := hT2.cB
  have HT := Lib.hid hT2
  have HB := Lib.hid (show Below H w w2 from hb1.trans (hb2.mono (by omega)))
  have HS2 := Lib.hid hs2
  have HH := Lib.hid hH
  obtain ⟨v, hv⟩ : ∃ v, propB (NextOk t.T held x) = v := ⟨_, rfl⟩
  rw [hv]
  have HNO := Lib.hid (show ¬ NextOk t.T held x → v = false from fun q => hv.symm.trans (propB_false q))
  have HYES := Lib.hid (show NextOk t.T held x → v = true from fun q => hv.symm.trans (propB_true q))
  have HFIN := Lib.hid (fun (b : Bool) (hb : v = b) (W : World) (hW : Below w2.heap.size w2 W) => show RetB v w (.returned (.bool b)) W from ⟨by rw [hb], by rw [hH]; exact (hb1.trans (hb2.mono (by omega))).trans (hW.mono (by omega))⟩)
  clear h hT hT2 hv hb1 hb2 hs2
  unfold TV.val
  by_cases k1 : x = -1
  · have HP := Lib.hid (HFIN.out true (HYES.out (.inl k1)) w2 (Below.refl _ _))
    subst k1
    rw [hH] at *
    go_enter Try.func36, Try.ntmps36
    go_wp2_with (fail)
    go_ret
    exact HP.out
  have k1' : (x == -1) = false := by simpa using k1
  by_cases k2 : held = 4
  · subst k2
    have HP := Lib.hid (HFIN.out false (HNO.out fun q => by
      rcases q with q | ⟨q, _⟩
      · exact k1 q
      · exact q rfl) w2 (Below.refl _ _))
    go_enter Try.func36, Try.ntmps36
    go_wp2_with (fail)
    go_ret
    exact HP.out
  have k2' : (held == 4) = false := by simpa using k2
  have s1 : IntKind.i64.wrap (held + 1) = held + 1 := IntWalk.i64_in _ (by omega)
  by_cases k3 : 0 ≤ x
  · obtain ⟨j, rfl⟩ := Int.eq_ofNat_of_zero_le k3
    by_cases k4 : j < t.T.nodes.length
    case neg =>
      have HP := Lib.hid (fun W hW => HFIN.out false (HNO.out fun q => by
        rcases q with q | ⟨_, ⟨_, nd, hq, _⟩ | ⟨q, _⟩⟩
        · omega
        · rw [Int.toNat_natCast] at hq
          exact k4 (List.getElem?_eq_some_iff.1 hq).1
        · omega) W hW)
      have k4' : decide ((j : Int) < (t.T.nodes.length : Int)) = false := by simp; omega
      clear s1
      go_enter Try.func36, Try.ntmps36
      go_wp2_with (fail)
      go_quiet (fail)
      go_wp2_with (fail)
      go_ret
      exact HP.out _ (below_drewN (Below.refl _ _) nq)
    obtain ⟨b, off, hA, hbB, d0, _, _⟩ := HT.out.mem.nodes.at_ k4
    rw [hA] at cA
    obtain ⟨nd, hnd⟩ : ∃ nd, t.T.nodes[j] = nd := ⟨_, rfl⟩
    have HND := Lib.hid (show t.T.nodes[j]? = some nd by rw [← hnd]; exact List.getElem?_eq_getElem k4)
    rw [hnd] at d0
    have HXA := Lib.hid hA
    clear hA hnd
    obtain ⟨hh, ee, ny⟩ := nd
    simp only at d0
    have k4' : decide ((j : Int) < (t.T.nodes.length : Int)) = true := by simp; omega
    have k4'' : (j : Int) < (t.T.nodes.length : Int) := by omega
    by_cases k5 : hh = held + 1
    · have HP := Lib.hid (fun W hW => HFIN.out true (HYES.out (.inr ⟨k2, .inl ⟨by omega, _, by rw [Int.toNat_natCast]; exact HND.out, k5⟩⟩)) W hW)
      have k5' : (hh == held + 1) = true := by simpa using k5
      clear k5
      go_enter Try.func36, Try.ntmps36
      go_wp2_with (fail)
      go_quiet (fail)
      go_wp2_with (fail)
      go_ret
      exact HP.out _ (below_drewN (Below.refl _ _) nq)
    · have HP := Lib.hid (fun W hW => HFIN.out false (HNO.out fun q => by
        rcases q with q | ⟨_, ⟨_, nd, hq, hq2⟩ | ⟨q, _⟩⟩
        · omega
        · rw [Int.toNat_natCast, HND.out] at hq
          injection hq with hq
          subst hq
          exact k5 hq2
        · omega) W hW)
      have k5' : (hh == held + 1) = false := by simpa using k5
      clear k5
      go_enter Try.func36, Try.ntmps36
      go_wp2_with (fail)
      go_quiet (fail)
      go_wp2_with (fail)
      go_ret
      exact HP.out _ (below_drewN (Below.refl _ _) nq)
  obtain ⟨j, hj⟩ : ∃ j : Nat, x = -2 - (j : Int) := ⟨(-2 - x).toNat, by omega⟩
  subst hj
  have HLB := Lib.hid hlb
  clear s1
  go_enter Try.func36, Try.ntmps36
  go_wp2_with (fail)
  go_loop [7] (fun iv => NkRel j t.T.acts.length iv) (fun i => t.T.acts.length - (intOf i).toNat)
  case atStart => exact ⟨0, Nat.zero_le _, Nat.zero_le _, rfl⟩
  case round =>
    obtain ⟨k, hkj, hkn, rfl⟩ := hrel
    by_cases hlt : k < t.T.acts.length
    case neg =>
      have HP := Lib.hid (HFIN.out false (HNO.out fun q => by
        rcases q with q | ⟨_, ⟨q, _⟩ | ⟨_, a, hq, _⟩⟩
        · omega
        · omega
        · have h9 : (-2 - (-2 - (j : Int))).toNat < t.T.acts.length := (List.getElem?_eq_some_iff.1 hq).1
          omega) w2 (Below.refl _ _))
      go_wp2_with (fail)
      go_ret
      exact HP.out
    by_cases hjk : k = j
    case neg =>
      have e1 : ((-2 - (j : Int)) == (-2 - (k : Int))) = false := by simp; omega
      have e2 : ¬ (-2 - (j : Int) = -2 - (k : Int)) := by omega
      go_wp2_with (fail)
      go_round
      case rel => exact ⟨k + 1, by omega, by omega, by go_num⟩
      case measure => simp [intOf]; omega
    subst hjk
    obtain ⟨b, off, hA, hbB, d0, d1, Ao, co, d2, hrt, hcc, hm⟩ := HT.out.mem.acts.at_ hlt
    obtain ⟨a, ha⟩ : ∃ a, t.T.acts[k] = a := ⟨_, rfl⟩
    have HIN := Lib.hid (show t.T.acts[k]? = some a by rw [← ha]; exact List.getElem?_eq_getElem hlt)
    rw [ha] at d0 d1 d2 hrt hcc hm
    have HX := Lib.hid (show t.B = some ⟨b, off, none⟩ from hA)
    rw [hA] at cB
    have HC := Lib.hid (fun W (hW : Below w2.heap.size w2 W) => terms17_any Ao co a.2.2 (held + 1) W (hrt.belowM hW) hm)
    obtain ⟨eat, to_, out⟩ := a
    simp only at d0 d1 d2 hcc hm HC
    unfold maxLen at hm
    clear hA ha hrt
    have s1 : IntKind.i64.wrap (held + 1) = held + 1 := IntWalk.i64_in _ (by omega)
    have hHs : H + 1 + 1 = w2.heap.size := HS2.out.symm
    have HQ1 := Lib.hid (show eat ≤ held + 1 → termsOk (held + 1) out = true → NextOk t.T held (-2 - (k : Int)) from fun q1 q2 => .inr ⟨k2, .inr ⟨by omega, _, by rw [show (-2 - (-2 - (k : Int))).toNat = k by omega]; exact HIN.out, q1, q2⟩⟩)
    have HQ2 := Lib.hid (show NextOk t.T held (-2 - (k : Int)) → eat ≤ held + 1 ∧ termsOk (held + 1) out = true from fun q => by
      rcases q with q | ⟨_, ⟨q, _⟩ | ⟨_, a, hq, q1, q2⟩⟩
      · omega
      · omega
      · rw [show (-2 - (-2 - (k : Int))).toNat = k by omega, HIN.out] at hq
        injection hq with hq
        subst hq
        exact ⟨q1, q2⟩)
    have i1 : (0 : Int) ≤ (k : Int) := Int.natCast_nonneg _
    have i2 : (k : Int) < (t.T.acts.length : Int) := by omega
    have e1 : ((-2 - (k : Int)) == (-2 - (k : Int))) = true := by simp
    by_cases k5 : eat ≤ held + 1
    case neg =>
      have HP := Lib.hid (fun W hW => HFIN.out false (HNO.out fun q => k5 (HQ2.out q).1) W hW)
      have k5' : decide (eat ≤ held + 1) = false := by simpa using k5
      clear hHs
      go_wp2_with (fail)
      go_quiet (fail)
      go_wp2_with (fail)
      go_ret
      exact HP.out _ (below_drewN (Below.refl _ _) nq)
    have k5' : decide (eat ≤ held + 1) = true := by simpa using k5
    have HBB := Lib.hid (show b < w2.heap.size from hbB)
    obtain ⟨tv, htv⟩ : ∃ tv, termsOk (held + 1) out = tv := ⟨_, rfl⟩
    rw [htv] at HC
    have HP := Lib.hid (fun W hW => HFIN.out tv (by
      cases tv
      · exact HNO.out fun q => by rw [(HQ2.out q).2] at htv; cases htv
      · exact HYES.out (HQ1.out k5 htv)) W hW)
    have HSZ := Lib.hid hHs
    clear hHs htv
    go_upto_region 9 with (fail)
    obtain ⟨we, hwe⟩ : ∃ we, w2.drew = we := ⟨_, rfl⟩
    have hB : Below w2.heap.size w2 we := by rw [← hwe]; exact (Below.refl _ _).drew
    refine wp_region_held_drew (S := fun W => Below w2.heap.size w2 W) (by kernel_rfl) (by rw [hwe]; exact hB) (fun hHeld => ?_)
    rw [hwe]
    rw [hwe] at hHeld
    clear hwe
    refine wpAnyH_take (i := 0) (oi := { dst := some 47, op := Go.Op.fieldAddr 27 (Go.Operand.tmp 3) 2, type := 0, pos := "ref.go:212", after := #[], guard := none }) (v := ?_) rfl (by kernel_rfl) (by kernel_rfl) (by kernel_rfl) (fun _ _ _ h => h) (Or.inl ⟨by rfl, ?_⟩) (by assumption) ?_
    rotate_left
    · intro w' hSw
      (try dsimp only at hSw)
      have x0 := (hSw.cell (p := ⟨H + 1, 0, none⟩) (by have := HS2.out; simp only; omega)).trans q0
      have x1 := (hSw.cell (p := ⟨H, 257, none⟩) (by have := HS2.out; simp only; omega)).trans cB
      have x2 := (hSw.cell (p := ⟨b, off + k * 3, none⟩) HBB.out).trans d0
      have x3 := (hSw.cell (p := ⟨b, off + k * 3 + 2, none⟩) HBB.out).trans d2
      go_simp
      all_goals with_reducible rfl
    try simp only [Act.put, List.setIfInBounds_toArray, List.set_cons_zero, List.set_cons_succ]
    refine wpAnyH_take (i := 1) (oi := { dst := some 48, op := Go.Op.load 24 (Go.Operand.tmp 47), type := 24, pos := "ref.go:212", after := #[{ on := 0, ground := Go.Ground.data }], guard := none }) (v := ?_) rfl (by kernel_rfl) (by kernel_rfl) (by kernel_rfl) (fun _ _ _ h => h) (Or.inl ⟨by rfl, ?_⟩) (by assumption) ?_
    rotate_left
    · intro w' hSw
      (try dsimp only at hSw)
      have x0 := (hSw.cell (p := ⟨H + 1, 0, none⟩) (by have := HS2.out; simp only; omega)).trans q0
      have x1 := (hSw.cell (p := ⟨H, 257, none⟩) (by have := HS2.out; simp only; omega)).trans cB
      have x2 := (hSw.cell (p := ⟨b, off + k * 3, none⟩) HBB.out).trans d0
      have x3 := (hSw.cell (p := ⟨b, off + k * 3 + 2, none⟩) HBB.out).trans d2
      go_simp
      all_goals with_reducible rfl
    try simp only [Act.put, List.setIfInBounds_toArray, List.set_cons_zero, List.set_cons_succ]
    refine wpAnyH_take (i := 2) (oi := { dst := some 49, op := Go.Op.move (Go.Operand.tmp 7), type := 3, pos := "ref.go:212", after := #[], guard := none }) (v := ?_) rfl (by kernel_rfl) (by kernel_rfl) (by kernel_rfl) (fun _ _ _ h => h) (Or.inl ⟨by rfl, ?_⟩) (by assumption) ?_
    rotate_left
    · intro w' hSw
      (try dsimp only at hSw)
      have x0 := (hSw.cell (p := ⟨H + 1, 0, none⟩) (by have := HS2.out; simp only; omega)).trans q0
      have x1 := (hSw.cell (p := ⟨H, 257, none⟩) (by have := HS2.out; simp only; omega)).trans cB
      have x2 := (hSw.cell (p := ⟨b, off + k * 3, none⟩) HBB.out).trans d0
      have x3 := (hSw.cell (p := ⟨b, off + k * 3 + 2, none⟩) HBB.out).trans d2
      go_simp
      all_goals with_reducible rfl
    try simp only [Act.put, List.setIfInBounds_toArray, List.set_cons_zero, List.set_cons_succ]
    refine wpAnyH_take (i := 3) (oi := { dst := some 50, op := Go.Op.indexAddr 24 (Go.Operand.tmp 48) (Go.Operand.tmp 49), type := 0, pos := "ref.go:212", after := #[{ on := 1, ground := Go.Ground.data }, { on := 2, ground := Go.Ground.data }], guard := none }) (v := ?_) rfl (by kernel_rfl) (by kernel_rfl) (by kernel_rfl) (fun _ _ _ h => h) (Or.inl ⟨by rfl, ?_⟩) (by assumption) ?_
    rotate_left
    · intro w' hSw
      (try dsimp only at hSw)
      have x0 := (hSw.cell (p := ⟨H + 1, 0, none⟩) (by have := HS2.out; simp only; omega)).trans q0
      have x1 := (hSw.cell (p := ⟨H, 257, none⟩) (by have := HS2.out; simp only; omega)).trans cB
      have x2 := (hSw.cell (p := ⟨b, off + k * 3, none⟩) HBB.out).trans d0
      have x3 := (hSw.cell (p := ⟨b, off + k * 3 + 2, none⟩) HBB.out).trans d2
      go_simp
      all_goals with_reducible rfl
    try simp only [Act.put, List.setIfInBounds_toArray, List.set_cons_zero, List.set_cons_succ]
    refine wpAnyH_take (i := 4) (oi := { dst := some 51, op := Go.Op.fieldAddr 49 (Go.Operand.tmp 50) 0, type := 0, pos := "ref.go:212", after := #[{ on := 3, ground := Go.Ground.data }], guard := none }) (v := ?_) rfl (by kernel_rfl) (by kernel_rfl) (by kernel_rfl) (fun _ _ _ h => h) (Or.inl ⟨by rfl, ?_⟩) (by assumption) ?_
    rotate_left
    · intro w' hSw
      (try dsimp only at hSw)
      have x0 := (hSw.cell (p := ⟨H + 1, 0, none⟩) (by have := HS2.out; simp only; omega)).trans q0
      have x1 := (hSw.cell (p := ⟨H, 257, none⟩) (by have := HS2.out; simp only; omega)).trans cB
      have x2 := (hSw.cell (p := ⟨b, off + k * 3, none⟩) HBB.out).trans d0
      have x3 := (hSw.cell (p := ⟨b, off + k * 3 + 2, none⟩) HBB.out).trans d2
      go_simp
      all_goals with_reducible rfl
    try simp only [Act.put, List.setIfInBounds_toArray, List.set_cons_zero, List.set_cons_succ]
    refine wpAnyH_take (i := 5) (oi := { dst := some 52, op := Go.Op.load 3 (Go.Operand.tmp 51), type := 3, pos := "ref.go:212", after := #[{ on := 4, ground := Go.Ground.data }], guard := none }) (v := ?_) rfl (by kernel_rfl) (by kernel_rfl) (by kernel_rfl) (fun _ _ _ h => h) (Or.inl ⟨by rfl, ?_⟩) (by assumption) ?_
    rotate_left
    · intro w' hSw
      (try dsimp only at hSw)
      have x0 := (hSw.cell (p := ⟨H + 1, 0, none⟩) (by have := HS2.out; simp only; omega)).trans q0
      have x1 := (hSw.cell (p := ⟨H, 257, none⟩) (by have := HS2.out; simp only; omega)).trans cB
      have x2 := (hSw.cell (p := ⟨b, off + k * 3, none⟩) HBB.out).trans d0
      have x3 := (hSw.cell (p := ⟨b, off + k * 3 + 2, none⟩) HBB.out).trans d2
      go_simp
      all_goals with_reducible rfl
    try simp only [Act.put, List.setIfInBounds_toArray, List.set_cons_zero, List.set_cons_succ]
    refine wpAnyH_take (i := 6) (oi := { dst := some 53, op := Go.Op.fieldAddr 45 (Go.Operand.tmp 4) 0, type := 0, pos := "ref.go:212", after := #[], guard := none }) (v := ?_) rfl (by kernel_rfl) (by kernel_rfl) (by kernel_rfl) (fun _ _ _ h => h) (Or.inl ⟨by rfl, ?_⟩) (by assumption) ?_
    rotate_left
    · intro w' hSw
      (try dsimp only at hSw)
      have x0 := (hSw.cell (p := ⟨H + 1, 0, none⟩) (by have := HS2.out; simp only; omega)).trans q0
      have x1 := (hSw.cell (p := ⟨H, 257, none⟩) (by have := HS2.out; simp only; omega)).trans cB
      have x2 := (hSw.cell (p := ⟨b, off + k * 3, none⟩) HBB.out).trans d0
      have x3 := (hSw.cell (p := ⟨b, off + k * 3 + 2, none⟩) HBB.out).trans d2
      go_simp
      all_goals with_reducible rfl
    try simp only [Act.put, List.setIfInBounds_toArray, List.set_cons_zero, List.set_cons_succ]
    refine wpAnyH_take (i := 7) (oi := { dst := some 54, op := Go.Op.load 3 (Go.Operand.tmp 53), type := 3, pos := "ref.go:212", after := #[{ on := 6, ground := Go.Ground.data }], guard := none }) (v := ?_) rfl (by kernel_rfl) (by kernel_rfl) (by kernel_rfl) (fun _ _ _ h => h) (Or.inl ⟨by rfl, ?_⟩) (by assumption) ?_
    rotate_left
    · intro w' hSw
      (try dsimp only at hSw)
      have x0 := (hSw.cell (p := ⟨H + 1, 0, none⟩) (by have := HS2.out; simp only; omega)).trans q0
      have x1 := (hSw.cell (p := ⟨H, 257, none⟩) (by have := HS2.out; simp only; omega)).trans cB
      have x2 := (hSw.cell (p := ⟨b, off + k * 3, none⟩) HBB.out).trans d0
      have x3 := (hSw.cell (p := ⟨b, off + k * 3 + 2, none⟩) HBB.out).trans d2
      go_simp
      all_goals with_reducible rfl
    try simp only [Act.put, List.setIfInBounds_toArray, List.set_cons_zero, List.set_cons_succ]
    refine wpAnyH_take (i := 8) (oi := { dst := some 55, op := Go.Op.binOp Go.BinOp.add 3 (Go.Operand.tmp 54) (Go.Operand.const (Go.Value.int Go.IntKind.i64 1)) 3, type := 3, pos := "ref.go:212", after := #[{ on := 7, ground := Go.Ground.data }], guard := none }) (v := ?_) rfl (by kernel_rfl) (by kernel_rfl) (by kernel_rfl) (fun _ _ _ h => h) (Or.inl ⟨by rfl, ?_⟩) (by assumption) ?_
    rotate_left
    · intro w' hSw
      (try dsimp only at hSw)
      have x0 := (hSw.cell (p := ⟨H + 1, 0, none⟩) (by have := HS2.out; simp only; omega)).trans q0
      have x1 := (hSw.cell (p := ⟨H, 257, none⟩) (by have := HS2.out; simp only; omega)).trans cB
      have x2 := (hSw.cell (p := ⟨b, off + k * 3, none⟩) HBB.out).trans d0
      have x3 := (hSw.cell (p := ⟨b, off + k * 3 + 2, none⟩) HBB.out).trans d2
      go_simp
      all_goals with_reducible rfl
    try simp only [Act.put, List.setIfInBounds_toArray, List.set_cons_zero, List.set_cons_succ]
    refine wpAnyH_take (i := 9) (oi := { dst := some 56, op := Go.Op.binOp Go.BinOp.leq 3 (Go.Operand.tmp 52) (Go.Operand.tmp 55) 3, type := 4, pos := "ref.go:212", after := #[{ on := 5, ground := Go.Ground.data }, { on := 8, ground := Go.Ground.data }], guard := none }) (v := ?_) rfl (by kernel_rfl) (by kernel_rfl) (by kernel_rfl) (fun _ _ _ h => h) (Or.inl ⟨by rfl, ?_⟩) (by assumption) ?_
    rotate_left
    · intro w' hSw
      (try dsimp only at hSw)
      have x0 := (hSw.cell (p := ⟨H + 1, 0, none⟩) (by have := HS2.out; simp only; omega)).trans q0
      have x1 := (hSw.cell (p := ⟨H, 257, none⟩) (by have := HS2.out; simp only; omega)).trans cB
      have x2 := (hSw.cell (p := ⟨b, off + k * 3, none⟩) HBB.out).trans d0
      have x3 := (hSw.cell (p := ⟨b, off + k * 3 + 2, none⟩) HBB.out).trans d2
      go_simp
      all_goals with_reducible rfl
    try simp only [Act.put, List.setIfInBounds_toArray, List.set_cons_zero, List.set_cons_succ]
    refine wpAnyH_take (i := 10) (oi := { dst := some 57, op := Go.Op.move (Go.Operand.tmp 56), type := 4, pos := "ref.go:212", after := #[{ on := 9, ground := Go.Ground.data }], guard := none }) (v := ?_) rfl (by kernel_rfl) (by kernel_rfl) (by kernel_rfl) (fun _ _ _ h => h) (Or.inl ⟨by rfl, ?_⟩) (by assumption) ?_
    rotate_left
    · intro w' hSw
      (try dsimp only at hSw)
      have x0 := (hSw.cell (p := ⟨H + 1, 0, none⟩) (by have := HS2.out; simp only; omega)).trans q0
      have x1 := (hSw.cell (p := ⟨H, 257, none⟩) (by have := HS2.out; simp only; omega)).trans cB
      have x2 := (hSw.cell (p := ⟨b, off + k * 3, none⟩) HBB.out).trans d0
      have x3 := (hSw.cell (p := ⟨b, off + k * 3 + 2, none⟩) HBB.out).trans d2
      go_simp
      all_goals with_reducible rfl
    try simp only [Act.put, List.setIfInBounds_toArray, List.set_cons_zero, List.set_cons_succ]
    refine wpAnyH_take (i := 11) (oi := { dst := some 58, op := Go.Op.fieldAddr 27 (Go.Operand.tmp 3) 2, type := 0, pos := "ref.go:212", after := #[{ on := 10, ground := Go.Ground.guard }], guard := some (10, true) }) (v := ?_) rfl (by kernel_rfl) (by kernel_rfl) (by kernel_rfl) (fun _ _ _ h => h) (Or.inl ⟨by rfl, ?_⟩) (by assumption) ?_
    rotate_left
    · intro w' hSw
      (try dsimp only at hSw)
      have x0 := (hSw.cell (p := ⟨H + 1, 0, none⟩) (by have := HS2.out; simp only; omega)).trans q0
      have x1 := (hSw.cell (p := ⟨H, 257, none⟩) (by have := HS2.out; simp only; omega)).trans cB
      have x2 := (hSw.cell (p := ⟨b, off + k * 3, none⟩) HBB.out).trans d0
      have x3 := (hSw.cell (p := ⟨b, off + k * 3 + 2, none⟩) HBB.out).trans d2
      go_simp
      all_goals with_reducible rfl
    try simp only [Act.put, List.setIfInBounds_toArray, List.set_cons_zero, List.set_cons_succ]
    refine wpAnyH_take (i := 12) (oi := { dst := some 59, op := Go.Op.load 24 (Go.Operand.tmp 58), type := 24, pos := "ref.go:212", after := #[{ on := 11, ground := Go.Ground.data }, { on := 10, ground := Go.Ground.guard }], guard := some (10, true) }) (v := ?_) rfl (by kernel_rfl) (by kernel_rfl) (by kernel_rfl) (fun _ _ _ h => h) (Or.inl ⟨by rfl, ?_⟩) (by assumption) ?_
    rotate_left
    · intro w' hSw
      (try dsimp only at hSw)
      have x0 := (hSw.cell (p := ⟨H + 1, 0, none⟩) (by have := HS2.out; simp only; omega)).trans q0
      have x1 := (hSw.cell (p := ⟨H, 257, none⟩) (by have := HS2.out; simp only; omega)).trans cB
      have x2 := (hSw.cell (p := ⟨b, off + k * 3, none⟩) HBB.out).trans d0
      have x3 := (hSw.cell (p := ⟨b, off + k * 3 + 2, none⟩) HBB.out).trans d2
      go_simp
      all_goals with_reducible rfl
    try simp only [Act.put, List.setIfInBounds_toArray, List.set_cons_zero, List.set_cons_succ]
    refine wpAnyH_take (i := 13) (oi := { dst := some 60, op := Go.Op.move (Go.Operand.tmp 7), type := 3, pos := "ref.go:212", after := #[{ on := 10, ground := Go.Ground.guard }], guard := some (10, true) }) (v := ?_) rfl (by kernel_rfl) (by kernel_rfl) (by kernel_rfl) (fun _ _ _ h => h) (Or.inl ⟨by rfl, ?_⟩) (by assumption) ?_
    rotate_left
    · intro w' hSw
      (try dsimp only at hSw)
      have x0 := (hSw.cell (p := ⟨H + 1, 0, none⟩) (by have := HS2.out; simp only; omega)).trans q0
      have x1 := (hSw.cell (p := ⟨H, 257, none⟩) (by have := HS2.out; simp only; omega)).trans cB
      have x2 := (hSw.cell (p := ⟨b, off + k * 3, none⟩) HBB.out).trans d0
      have x3 := (hSw.cell (p := ⟨b, off + k * 3 + 2, none⟩) HBB.out).trans d2
      go_simp
      all_goals with_reducible rfl
    try simp only [Act.put, List.setIfInBounds_toArray, List.set_cons_zero, List.set_cons_succ]
    refine wpAnyH_take (i := 14) (oi := { dst := some 61, op := Go.Op.indexAddr 24 (Go.Operand.tmp 59) (Go.Operand.tmp 60), type := 0, pos := "ref.go:212", after := #[{ on := 12, ground := Go.Ground.data }, { on := 13, ground := Go.Ground.data }, { on := 10, ground := Go.Ground.guard }], guard := some (10, true) }) (v := ?_) rfl (by kernel_rfl) (by kernel_rfl) (by kernel_rfl) (fun _ _ _ h => h) (Or.inl ⟨by rfl, ?_⟩) (by assumption) ?_
    rotate_left
    · intro w' hSw
      (try dsimp only at hSw)
      have x0 := (hSw.cell (p := ⟨H + 1, 0, none⟩) (by have := HS2.out; simp only; omega)).trans q0
      have x1 := (hSw.cell (p := ⟨H, 257, none⟩) (by have := HS2.out; simp only; omega)).trans cB
      have x2 := (hSw.cell (p := ⟨b, off + k * 3, none⟩) HBB.out).trans d0
      have x3 := (hSw.cell (p := ⟨b, off + k * 3 + 2, none⟩) HBB.out).trans d2
      go_simp
      all_goals with_reducible rfl
    try simp only [Act.put, List.setIfInBounds_toArray, List.set_cons_zero, List.set_cons_succ]
    refine wpAnyH_take (i := 15) (oi := { dst := some 62, op := Go.Op.fieldAddr 49 (Go.Operand.tmp 61) 2, type := 0, pos := "ref.go:212", after := #[{ on := 14, ground := Go.Ground.data }, { on := 10, ground := Go.Ground.guard }], guard := some (10, true) }) (v := ?_) rfl (by kernel_rfl) (by kernel_rfl) (by kernel_rfl) (fun _ _ _ h => h) (Or.inl ⟨by rfl, ?_⟩) (by assumption) ?_
    rotate_left
    · intro w' hSw
      (try dsimp only at hSw)
      have x0 := (hSw.cell (p := ⟨H + 1, 0, none⟩) (by have := HS2.out; simp only; omega)).trans q0
      have x1 := (hSw.cell (p := ⟨H, 257, none⟩) (by have := HS2.out; simp only; omega)).trans cB
      have x2 := (hSw.cell (p := ⟨b, off + k * 3, none⟩) HBB.out).trans d0
      have x3 := (hSw.cell (p := ⟨b, off + k * 3 + 2, none⟩) HBB.out).trans d2
      go_simp
      all_goals with_reducible rfl
    try simp only [Act.put, List.setIfInBounds_toArray, List.set_cons_zero, List.set_cons_succ]
    refine wpAnyH_take (i := 16) (oi := { dst := some 63, op := Go.Op.load 47 (Go.Operand.tmp 62), type := 47, pos := "ref.go:212", after := #[{ on := 15, ground := Go.Ground.data }, { on := 10, ground := Go.Ground.guard }], guard := some (10, true) }) (v := ?_) rfl (by kernel_rfl) (by kernel_rfl) (by kernel_rfl) (fun _ _ _ h => h) (Or.inl ⟨by rfl, ?_⟩) (by assumption) ?_
    rotate_left
    · intro w' hSw
      (try dsimp only at hSw)
      have x0 := (hSw.cell (p := ⟨H + 1, 0, none⟩) (by have := HS2.out; simp only; omega)).trans q0
      have x1 := (hSw.cell (p := ⟨H, 257, none⟩) (by have := HS2.out; simp only; omega)).trans cB
      have x2 := (hSw.cell (p := ⟨b, off + k * 3, none⟩) HBB.out).trans d0
      have x3 := (hSw.cell (p := ⟨b, off + k * 3 + 2, none⟩) HBB.out).trans d2
      go_simp
      all_goals with_reducible rfl
    try simp only [Act.put, List.setIfInBounds_toArray, List.set_cons_zero, List.set_cons_succ]
    refine wpAnyH_take (i := 17) (oi := { dst := some 64, op := Go.Op.fieldAddr 45 (Go.Operand.tmp 4) 0, type := 0, pos := "ref.go:212", after := #[{ on := 10, ground := Go.Ground.guard }], guard := some (10, true) }) (v := ?_) rfl (by kernel_rfl) (by kernel_rfl) (by kernel_rfl) (fun _ _ _ h => h) (Or.inl ⟨by rfl, ?_⟩) (by assumption) ?_
    rotate_left
    · intro w' hSw
      (try dsimp only at hSw)
      have x0 := (hSw.cell (p := ⟨H + 1, 0, none⟩) (by have := HS2.out; simp only; omega)).trans q0
      have x1 := (hSw.cell (p := ⟨H, 257, none⟩) (by have := HS2.out; simp only; omega)).trans cB
      have x2 := (hSw.cell (p := ⟨b, off + k * 3, none⟩) HBB.out).trans d0
      have x3 := (hSw.cell (p := ⟨b, off + k * 3 + 2, none⟩) HBB.out).trans d2
      go_simp
      all_goals with_reducible rfl
    try simp only [Act.put, List.setIfInBounds_toArray, List.set_cons_zero, List.set_cons_succ]
    refine wpAnyH_take (i := 18) (oi := { dst := some 65, op := Go.Op.load 3 (Go.Operand.tmp 64), type := 3, pos := "ref.go:212", after := #[{ on := 17, ground := Go.Ground.data }, { on := 10, ground := Go.Ground.guard }], guard := some (10, true) }) (v := ?_) rfl (by kernel_rfl) (by kernel_rfl) (by kernel_rfl) (fun _ _ _ h => h) (Or.inl ⟨by rfl, ?_⟩) (by assumption) ?_
    rotate_left
    · intro w' hSw
      (try dsimp only at hSw)
      have x0 := (hSw.cell (p := ⟨H + 1, 0, none⟩) (by have := HS2.out; simp only; omega)).trans q0
      have x1 := (hSw.cell (p := ⟨H, 257, none⟩) (by have := HS2.out; simp only; omega)).trans cB
      have x2 := (hSw.cell (p := ⟨b, off + k * 3, none⟩) HBB.out).trans d0
      have x3 := (hSw.cell (p := ⟨b, off + k * 3 + 2, none⟩) HBB.out).trans d2
      go_simp
      all_goals with_reducible rfl
    try simp only [Act.put, List.setIfInBounds_toArray, List.set_cons_zero, List.set_cons_succ]
    refine wpAnyH_take (i := 19) (oi := { dst := some 66, op := Go.Op.binOp Go.BinOp.add 3 (Go.Operand.tmp 65) (Go.Operand.const (Go.Value.int Go.IntKind.i64 1)) 3, type := 3, pos := "ref.go:212", after := #[{ on := 18, ground := Go.Ground.data }, { on := 10, ground := Go.Ground.guard }], guard := some (10, true) }) (v := ?_) rfl (by kernel_rfl) (by kernel_rfl) (by kernel_rfl) (fun _ _ _ h => h) (Or.inl ⟨by rfl, ?_⟩) (by assumption) ?_
    rotate_left
    · intro w' hSw
      (try dsimp only at hSw)
      have x0 := (hSw.cell (p := ⟨H + 1, 0, none⟩) (by have := HS2.out; simp only; omega)).trans q0
      have x1 := (hSw.cell (p := ⟨H, 257, none⟩) (by have := HS2.out; simp only; omega)).trans cB
      have x2 := (hSw.cell (p := ⟨b, off + k * 3, none⟩) HBB.out).trans d0
      have x3 := (hSw.cell (p := ⟨b, off + k * 3 + 2, none⟩) HBB.out).trans d2
      go_simp
      all_goals with_reducible rfl
    try simp only [Act.put, List.setIfInBounds_toArray, List.set_cons_zero, List.set_cons_succ]
    refine wpAnyH_ready (rs := [20]) (by kernel_rfl) (by simp) ?_
    refine (AllReadyH.cons (o := { dst := some 67, op := Go.Op.call { callee := Go.Callee.value (Go.Operand.func 35), args := #[Go.Operand.tmp 63, Go.Operand.tmp 66], argTypes := #[47, 3] }, type := 4, pos := "ref.go:212", after := #[{ on := 16, ground := Go.Ground.data }, { on := 19, ground := Go.Ground.data }, { on := 10, ground := Go.Ground.chain }, { on := 10, ground := Go.Ground.guard }], guard := some (10, true) }) rfl (fun K hK => ?_) AllReadyH.nil)
    have hC := HC.out _ hB
    go_simp
    go_wp2_with (go_at_call 35; (with_reducible refine hC.mono ?_); rintro e1 wf ⟨rfl, hbf⟩)
    clear hC
    have hB := hB.trans (hbf.mono hB.size)
    clear hbf
    refine hK.out _ _ ?_ (fun hHeld => ?_)
    · exact hB
    clear hK K
    try simp only [Act.put, List.setIfInBounds_toArray, List.set_cons_zero, List.set_cons_succ]
    refine wpAnyH_take (i := 21) (oi := { dst := some 68, op := Go.Op.pick (Go.Operand.tmp 57) (Go.Operand.tmp 67) (Go.Operand.const (Go.Value.bool false)), type := 4, pos := "ref.go:212", after := #[{ on := 10, ground := Go.Ground.data }, { on := 20, ground := Go.Ground.data }], guard := none }) (v := ?_) rfl (by kernel_rfl) (by kernel_rfl) (by kernel_rfl) (fun _ _ _ h => h) (Or.inl ⟨by rfl, ?_⟩) (by assumption) ?_
    rotate_left
    · intro w' hSw
      (try dsimp only at hSw)
      have x0 := (hSw.cell (p := ⟨H + 1, 0, none⟩) (by have := HS2.out; simp only; omega)).trans q0
      have x1 := (hSw.cell (p := ⟨H, 257, none⟩) (by have := HS2.out; simp only; omega)).trans cB
      have x2 := (hSw.cell (p := ⟨b, off + k * 3, none⟩) HBB.out).trans d0
      have x3 := (hSw.cell (p := ⟨b, off + k * 3 + 2, none⟩) HBB.out).trans d2
      go_simp
      all_goals with_reducible rfl
    try simp only [Act.put, List.setIfInBounds_toArray, List.set_cons_zero, List.set_cons_succ]
    refine wpAnyH_take (i := 22) (oi := { dst := some 6, op := Go.Op.assign (Go.Operand.tmp 68), type := 4, pos := "ref.go:212", after := #[{ on := 21, ground := Go.Ground.data }, { on := 20, ground := Go.Ground.chain }, { on := 0, ground := Go.Ground.phase }, { on := 1, ground := Go.Ground.phase }, { on := 2, ground := Go.Ground.phase }, { on := 3, ground := Go.Ground.phase }, { on := 4, ground := Go.Ground.phase }, { on := 5, ground := Go.Ground.phase }, { on := 6, ground := Go.Ground.phase }, { on := 7, ground := Go.Ground.phase }, { on := 8, ground := Go.Ground.phase }, { on := 9, ground := Go.Ground.phase }, { on := 10, ground := Go.Ground.phase }, { on := 11, ground := Go.Ground.phase }, { on := 12, ground := Go.Ground.phase }, { on := 13, ground := Go.Ground.phase }, { on := 14, ground := Go.Ground.phase }, { on := 15, ground := Go.Ground.phase }, { on := 16, ground := Go.Ground.phase }, { on := 17, ground := Go.Ground.phase }, { on := 18, ground := Go.Ground.phase }, { on := 19, ground := Go.Ground.phase }, { on := 20, ground := Go.Ground.phase }, { on := 21, ground := Go.Ground.phase }], guard := none }) (v := ?_) rfl (by kernel_rfl) (by kernel_rfl) (by kernel_rfl) (fun _ _ _ h => h) (Or.inl ⟨by rfl, ?_⟩) (by assumption) ?_
    rotate_left
    · intro w' hSw
      (try dsimp only at hSw)
      have x0 := (hSw.cell (p := ⟨H + 1, 0, none⟩) (by have := HS2.out; simp only; omega)).trans q0
      have x1 := (hSw.cell (p := ⟨H, 257, none⟩) (by have := HS2.out; simp only; omega)).trans cB
      have x2 := (hSw.cell (p := ⟨b, off + k * 3, none⟩) HBB.out).trans d0
      have x3 := (hSw.cell (p := ⟨b, off + k * 3 + 2, none⟩) HBB.out).trans d2
      go_simp
      all_goals with_reducible rfl
    try simp only [Act.put, List.setIfInBounds_toArray, List.set_cons_zero, List.set_cons_succ]
    obtain ⟨wl, rfl⟩ : ∃ wl : World, wl = wf := ⟨_, rfl⟩
    refine wpAnyH_done (by kernel_rfl) ?_ _
    have HBL := Lib.hid hB
    clear hB
    go_wp2_with (fail)
    go_ret
    exact HP.out _ HBL.out
end Go.Proofs.Ytboaifdkoemnbaa.Pk
