/- The walk of table.sizesRight. -/
import Derived.Test.YtgmkchkaceciiaaPkLoad
namespace Go.Proofs.Ytgmkchkaceciiaa.Pk
set_option maxRecDepth 100000
open Go Go.RowKit Go.Proofs.Ytgmkchkaceciiaa.Sp Go.Proofs.Ytgmkchkaceciiaa.Pa Go.Proofs.Ytgmkchkaceciiaa.Te Go.Proofs.Ytgmkchkaceciiaa.Mi Go.Proofs.Ytgmkchkaceciiaa.De

theorem clsUnder : Try.prog.underlying 39 = some (.array 256 5) := by kernel_rfl
theorem clsSize : (Try.prog.info? 39).map (·.size) = some 256 := by kernel_rfl
theorem run_idx (cs : Array Value) (k : Nat) (v : Value) (h : cs[k]? = some v) (hk : k < 256) (w : World) : (Instr.index 39 (.agg cs) (.int .i64 (k : Int))).run Try.prog w = .ok v w := by
  have hu := clsUnder
  have a5 := Try.isAgg5
  have z5 := Try.sizeOf5
  unfold Instr.index
  simp only [asIntOf, Sem.run_bind, Sem.run_pure, Result.andThen_ok, run_underlying hu w]
  have h1 : (0 : Int) ≤ (k : Int) ∧ (k : Int) < 256 := by omega
  rw [if_pos (by exact_mod_cast h1)]
  simp only [part, Sem.run_bind, z5, a5, Result.andThen_ok, Int.toNat_natCast, Nat.mul_one]
  rw [if_neg (by decide), h]
  rfl
/-- Of the nodes ahead of k all have as many numbers, and hold as few bytes. -/
def SzRel (t : TV) (w1 : World) (iv : Value) (wr : World) : Prop := ∃ k : Nat, k ≤ t.T.nodes.length ∧ iv = .int .i64 k ∧ (∀ j (hj : j < t.T.nodes.length), j < k → t.T.nodes[j].2.2.length = t.T.wid ∧ 0 ≤ t.T.nodes[j].1 ∧ t.T.nodes[j].1 ≤ 4) ∧ Below w1.heap.size w1 wr
def ScRel (t : TV) (iv : Value) : Prop := ∃ k : Nat, k ≤ 256 ∧ iv = .int .i64 k ∧ ∀ j (hj : j < t.T.cls.length), j < k → t.T.cls[j] < t.T.wid
theorem clsRange {w : World} {x : Nat} {t : TV} (h : TW w x t) : w.rangeAt x 0 (clsV t.T.cls) := by
  intro j v hj
  rw [Nat.zero_add, h.box.cell j]
  unfold TV.cells tabV
  have : j < (clsV t.T.cls).length := by
    rcases Nat.lt_or_ge j (clsV t.T.cls).length with q | q
    · exact q
    · rw [List.getElem?_eq_none q] at hj; cases hj
  rw [List.getElem?_append_left this]
  exact hj
theorem clsLen {t : TV} (h : t.T.cls.length = 256) : (Try.prog.info? 39).map (·.size) = some (clsV t.T.cls).length := by rw [clsSize, clsV, List.length_map, h]
theorem headD_zero {α : Type} (l : List α) (d : α) (h : 0 < l.length) : l[0] = l.headD d := by
  cases l with
  | nil => simp at h
  | cons => rfl
theorem head_zero {T : TabL} (h : 1 ≤ T.nodes.length) : ∃ hl : 0 < T.nodes.length, T.nodes[0].2.2.length = T.wid ∧ T.nodes[0] = T.nodes.headD (0, 0, []) :=
  ⟨h, by unfold TabL.wid; rw [headD_zero _ (0, 0, []) h], headD_zero _ _ h⟩
set_option maxHeartbeats 4000000 in
theorem sizesRight_any (t : TV) (w : World) (h : TM w t) : Calls Try.prog 65 #[t.val] w (RetB (propB (SizesOk t.T)) w) := by
  have hla := h.la
  have hlb := h.lb
  have hlc := h.lc
  unfold maxLen at hla hlb hlc
  obtain ⟨w1, hw1⟩ : ∃ w1, w.alloc (.cells t.cells.toArray 44) = w1 := ⟨_, rfl⟩
  have hT : TW w1 w.heap.size t := by rw [← hw1]; exact TW.boxed h
  have HB := Lib.hid (show Below w.heap.size w w1 by rw [← hw1]; exact (Below.refl _ _).alloc (Nat.le_refl _) _)
  have hs1 : w1.heap.size = w.heap.size + 1 := by rw [← hw1]; simp
  have cA := hT.cA
  have cB := hT.cB
  have cC := hT.cC
  have HT := Lib.hid hT
  obtain ⟨v, hv⟩ : ∃ v, propB (SizesOk t.T) = v := ⟨_, rfl⟩
  rw [hv]
  have HNO := Lib.hid (show ¬ SizesOk t.T → v = false from fun q => hv.symm.trans (propB_false q))
  have HYES := Lib.hid (show SizesOk t.T → v = true from fun q => hv.symm.trans (propB_true q))
  clear h hT hv
  unfold TV.val
  by_cases k1 : 1 ≤ t.T.nodes.length
  case neg =>
    have HP := Lib.hid (HNO.out fun q => k1 q.some_)
    go_enter Try.func65, Try.ntmps65
    go_wp2_with (fail)
    go_ret
    exact ⟨ret_bool HP.out.symm, HB.out⟩
  by_cases k2 : t.T.nodes.length ≤ 4096
  case neg =>
    have HP := Lib.hid (HNO.out fun q => k2 q.nodes)
    go_enter Try.func65, Try.ntmps65
    go_wp2_with (fail)
    go_ret
    exact ⟨ret_bool HP.out.symm, HB.out⟩
  by_cases k3 : t.T.acts.length ≤ 4096
  case neg =>
    have HP := Lib.hid (HNO.out fun q => k3 q.acts)
    go_enter Try.func65, Try.ntmps65
    go_wp2_with (fail)
    go_ret
    exact ⟨ret_bool HP.out.symm, HB.out⟩
  by_cases k4 : t.T.ends.length ≤ 4096
  case neg =>
    have HP := Lib.hid (HNO.out fun q => k4 q.ends)
    go_enter Try.func65, Try.ntmps65
    go_wp2_with (fail)
    go_ret
    exact ⟨ret_bool HP.out.symm, HB.out⟩
  obtain ⟨hl0, hw0, hh0⟩ := head_zero k1
  obtain ⟨b, off, hA, hbB, d0, d1, A', c', d2, _, hcc, hm⟩ := HT.out.mem.nodes.at_ hl0
  rw [hw0] at d2 hm
  have HH := Lib.hid hh0
  have HX := Lib.hid hA
  rw [hA] at cA
  simp only [Nat.zero_mul, Nat.add_zero] at d0 d1 d2
  obtain ⟨hd, hhd⟩ : ∃ hd, t.T.nodes[0].1 = hd := ⟨_, rfl⟩
  obtain ⟨wid, hwid⟩ : ∃ wid, t.T.wid = wid := ⟨_, rfl⟩
  rw [hwid] at d2 hm
  rw [hhd] at d0
  have HHD := Lib.hid hhd
  have HWID := Lib.hid hwid
  clear hA hw0 hh0 hhd hwid hcc
  unfold maxLen at hm
  by_cases k5 : 1 ≤ wid
  case neg =>
    have HP := Lib.hid (HNO.out fun q => k5 (by rw [← HWID.out]; exact q.w1))
    go_enter Try.func65, Try.ntmps65
    go_wp2_with (fail)
    go_ret
    exact ⟨ret_bool HP.out.symm, HB.out⟩
  by_cases k6 : wid ≤ 256
  case neg =>
    have HP := Lib.hid (HNO.out fun q => k6 (by rw [← HWID.out]; exact q.w2))
    go_enter Try.func65, Try.ntmps65
    go_wp2_with (fail)
    go_ret
    exact ⟨ret_bool HP.out.symm, HB.out⟩
  by_cases k7 : hd = 0
  case neg =>
    have HP := Lib.hid (HNO.out fun q => k7 (by rw [← HHD.out, HH.out]; exact q.head))
    have k7' : (hd != 0) = true := by simp [k7]
    go_enter Try.func65, Try.ntmps65
    go_wp2_with (fail)
    go_ret
    exact ⟨ret_bool HP.out.symm, HB.out⟩
  subst k7
  have HH2 := Lib.hid (show (t.T.nodes.headD (0, 0, [])).1 = 0 by rw [← HH.out]; exact HHD.out)
  go_enter Try.func65, Try.ntmps65
  go_wp2_with (fail)
  go_loopw [53] (fun iv wr => SzRel t w1 iv wr) (fun i _ => t.T.nodes.length - (intOf i).toNat)
  case atStart => exact ⟨0, Nat.zero_le _, rfl, fun j _ h => absurd h (by omega), Below.refl _ _⟩
  case round =>
    obtain ⟨k, hk, rfl, hall, hbr⟩ := hrel
    have HA := Lib.hid hall
    have HBR := Lib.hid hbr
    have hTr := HT.out.below hbr
    have hsr := hbr.size
    have HE := Lib.hid (HB.out.trans (hbr.mono (by omega)))
    clear hall hbr d0 d1 d2 cA cB cC
    by_cases hlt : k < t.T.nodes.length
    · obtain ⟨b2, off2, hA2, hb2B, e0, e1, A2, c2, e2, _, hc2, hm2⟩ := hTr.mem.nodes.at_ hlt
      have HX2 := Lib.hid hA2
      rw [HX.out] at hA2
      injection hA2 with hA2
      injection hA2 with hA2 hO2 _
      subst hA2 hO2
      obtain ⟨nd, hnd⟩ : ∃ nd, t.T.nodes[k] = nd := ⟨_, rfl⟩
      have HIN := Lib.hid (show nd ∈ t.T.nodes by rw [← hnd]; exact List.getElem_mem hlt)
      rw [hnd] at e0 e1 e2 hc2 hm2
      have HN := Lib.hid (show nd.2.2.length = wid → 0 ≤ nd.1 → nd.1 ≤ 4 → ∀ j (hj : j < t.T.nodes.length), j < k + 1 → t.T.nodes[j].2.2.length = t.T.wid ∧ 0 ≤ t.T.nodes[j].1 ∧ t.T.nodes[j].1 ≤ 4 from fun q1 q2 q3 j hj hjk => by
        rcases Nat.lt_or_ge j k with q | q
        · exact HA.out j hj q
        · obtain rfl : j = k := by omega
          rw [hnd, HWID.out]
          exact ⟨q1, q2, q3⟩)
      clear hnd hTr
      unfold maxLen at hm2
      obtain ⟨held, end_, nx⟩ := nd
      simp only at e0 e1 e2 hc2 hm2
      obtain ⟨w5, hw5⟩ : ∃ w5, wr.alloc (.cells #[.int .i64 held, .slice A2 nx.length c2, .int .i64 end_] 81) = w5 := ⟨_, rfl⟩
      have q0 : w5.cell? ⟨wr.heap.size, 0, none⟩ = some (.int .i64 held) := by rw [← hw5]; simp
      have q1 : w5.cell? ⟨wr.heap.size, 1, none⟩ = some (.slice A2 nx.length c2) := by rw [← hw5]; simp
      have hb5 : Below wr.heap.size wr w5 := by rw [← hw5]; exact (Below.refl _ _).alloc (Nat.le_refl _) _
      have HE5 := Lib.hid (HE.out.trans (hb5.mono (by omega)))
      have HBR5 := Lib.hid (HBR.out.trans (hb5.mono (by omega)))
      clear hb5
      by_cases j1 : nx.length = wid
      case neg =>
        have HP := Lib.hid (HNO.out fun q => j1 (by rw [← HWID.out]; exact (q.each _ HIN.out).1))
        have j1' : ¬ ((nx.length : Int) = (wid : Int)) := by omega
        go_wp2_with (fail)
        go_ret
        exact ⟨ret_bool HP.out.symm, HE5.out⟩
      by_cases j2 : 0 ≤ held
      case neg =>
        have HP := Lib.hid (HNO.out fun q => j2 (q.each _ HIN.out).2.1)
        have HJ := Lib.hid j1
        clear j1
        rw [HJ.out] at q1
        go_wp2_with (fail)
        go_ret
        exact ⟨ret_bool HP.out.symm, HE5.out⟩
      by_cases j3 : held ≤ 4
      case neg =>
        have HP := Lib.hid (HNO.out fun q => j3 (q.each _ HIN.out).2.2)
        have HJ := Lib.hid j1
        clear j1
        rw [HJ.out] at q1
        go_wp2_with (fail)
        go_ret
        exact ⟨ret_bool HP.out.symm, HE5.out⟩
      have HN2 := Lib.hid (HN.out j1 j2 j3)
      have HJ := Lib.hid j1
      clear j1
      rw [HJ.out] at q1
      go_wp2_with (fail)
      go_roundw
      case rel => exact ⟨k + 1, by omega, by go_num, HN2.out, HBR5.out⟩
      case measure => simp [intOf]; omega
    · have HALL := Lib.hid (show ∀ n ∈ t.T.nodes, n.2.2.length = t.T.wid ∧ 0 ≤ n.1 ∧ n.1 ≤ 4 from fun n hn => by
        obtain ⟨j, hj, rfl⟩ := List.getElem_of_mem hn
        exact HA.out j hj (by omega))
      have HCL := Lib.hid hTr.mem.cls
      have HTR := Lib.hid hTr
      clear hTr
      rename World => w2
      go_wp2_with (refine wpList_load_mid rfl 39 _ rfl w.heap.size 0 rfl _ _ (clsRange HTR.out) clsUnder rfl (clsLen HCL.out) ?_)
      go_loop [75] (fun iv => ScRel t iv) (fun i => 256 - (intOf i).toNat)
      case atStart => exact ⟨0, Nat.zero_le _, rfl, fun j _ h => absurd h (by omega)⟩
      case round =>
        obtain ⟨m, hm2, rfl, hall2⟩ := hrel
        have HA2 := Lib.hid hall2
        clear hall2
        by_cases hlt2 : m < 256
        · obtain ⟨c, hc⟩ : ∃ c, t.T.cls[m]'(by rw [HCL.out]; exact hlt2) = c := ⟨_, rfl⟩
          have HIN := Lib.hid (show c ∈ t.T.cls by rw [← hc]; exact List.getElem_mem _)
          have hcb : c < 256 := HTR.out.mem.byte c HIN.out
          have HI := Lib.hid (show ∀ wq, (Instr.index 39 (.agg (clsV t.T.cls).toArray) (.int .i64 (m : Int))).run Try.prog wq = .ok (.int .u8 (c : Int)) wq from fun wq => run_idx _ m _ (by
            unfold clsV
            rw [List.getElem?_toArray, List.getElem?_map, List.getElem?_eq_getElem (by rw [HCL.out]; exact hlt2), hc]
            rfl) hlt2 wq)
          have HN := Lib.hid (show c < wid → ∀ j (hj : j < t.T.cls.length), j < m + 1 → t.T.cls[j] < t.T.wid from fun q1 j hj hjk => by
            rcases Nat.lt_or_ge j m with q | q
            · exact HA2.out j hj q
            · obtain rfl : j = m := by omega
              rw [hc, HWID.out]
              exact q1)
          clear hc
          have hi := HI.out
          by_cases j1 : c < wid
          · have HN2 := Lib.hid (HN.out j1)
            go_wp2_with (fail)
            go_round
            case rel => exact ⟨m + 1, by omega, by go_num, HN2.out⟩
            case measure => simp [intOf]; omega
          · have HP := Lib.hid (HNO.out fun q => j1 (by rw [← HWID.out]; exact q.cls _ HIN.out))
            go_wp2_with (fail)
            go_ret
            exact ⟨ret_bool HP.out.symm, HE.out⟩
        · have HP := Lib.hid (HYES.out ⟨k1, k2, k3, k4, by rw [HWID.out]; exact k5, by rw [HWID.out]; exact k6, HH2.out, HALL.out, fun c hc => by
            obtain ⟨j, hj, rfl⟩ := List.getElem_of_mem hc
            exact HA2.out j hj (by have := HCL.out; omega)⟩)
          go_wp2_with (fail)
          go_ret
          exact ⟨ret_bool HP.out.symm, HE.out⟩
end Go.Proofs.Ytgmkchkaceciiaa.Pk
