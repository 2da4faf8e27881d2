/- The walks of (table.needs).nextRight and nodeRight. -/
import Derived.Test.YtgmkchkaceciiaaPkNeeds
import Derived.BigQuiet
import Derived.Deep.QuietTactic
namespace Go.Proofs.Ytgmkchkaceciiaa.Pk
set_option maxRecDepth 100000
open Go Go.RowKit Go.Proofs.Ytgmkchkaceciiaa.Sp Go.Proofs.Ytgmkchkaceciiaa.Pa Go.Proofs.Ytgmkchkaceciiaa.Te Go.Proofs.Ytgmkchkaceciiaa.Mi Go.Proofs.Ytgmkchkaceciiaa.De

/-- A slice value that reads as a list of integers, from its block's head on. -/
def RowI (w : World) (v : Value) (l : List Int) : Prop := ∃ A c, v = .slice A l.length c ∧ l.length ≤ c ∧ (0 < l.length → ∃ b, A = some ⟨b, 0, none⟩ ∧ b < w.heap.size ∧ ∀ (j : Nat) (h : j < l.length), w.cell? ⟨b, j, none⟩ = some (.int .i64 l[j]))
theorem RowI.of_own {w : World} {base : Nat} {v : Value} {l : List Int} (h : OwnsI w base v l) : RowI w v l := by
  rcases h.2 with ⟨rfl, hn⟩ | ⟨g, cap, cur, rfl, hg, hr⟩
  · obtain rfl := List.eq_nil_of_length_eq_zero hn
    exact ⟨none, 0, rfl, Nat.le_refl _, fun h => absurd h (by simp)⟩
  · refine ⟨some ⟨g, 0, none⟩, cap, rfl, hr.2.1, fun _ => ⟨g, rfl, (h.lt g rfl).2, fun j hj => ?_⟩⟩
    rw [World.ownsRow.cellAt h j (by omega)]
    simp [hj]
theorem RowI.belowM {w w' : World} {v : Value} {l : List Int} (h : RowI w v l) (hb : Below w.heap.size w w') : RowI w' v l := by
  obtain ⟨A, c, e, hc, hr⟩ := h
  refine ⟨A, c, e, hc, fun hn => ?_⟩
  obtain ⟨b, e2, hlt, hcell⟩ := hr hn
  exact ⟨b, e2, by have := hb.size; omega, fun j hj => (hb.cell hlt).trans (hcell j hj)⟩
/-- The value of needs, with its memory. -/
structure NM (w : World) (n : NV) (la le : List Int) : Prop where
  tab : TM w n.t
  rowA : RowI w n.va la
  rowE : RowI w n.ve le
  needA : NeedA n.t.T la n.t.T.acts.length
  needE : NeedE n.t.T le n.t.T.ends.length
  a4 : n.t.T.acts.length ≤ 4096
  e4 : n.t.T.ends.length ≤ 4096
theorem NM.below {w w' : World} {n : NV} {la le : List Int} (h : NM w n la le) (hb : Below w.heap.size w w') : NM w' n la le := ⟨h.tab.belowM hb, h.rowA.belowM hb, h.rowE.belowM hb, h.needA, h.needE, h.a4, h.e4⟩
theorem nextOk_act {T : TabL} {la : List Int} {held : Int} {j : Nat} (hn : NeedA T la T.acts.length) (h0 : 0 ≤ held) (h3 : held ≤ 3) (hj : j < T.acts.length) : ∃ y, (∃ h : j < la.length, la[j] = y) ∧ (y ≤ held + 1 ↔ NextOk T held (-2 - (j : Int))) := by
  obtain ⟨n, h1, h2⟩ := hn.2 j T.acts[j] hj (List.getElem?_eq_getElem hj)
  obtain ⟨hl, he⟩ := List.getElem?_eq_some_iff.1 h2
  refine ⟨_, ⟨hl, he⟩, ?_⟩
  have hle := h1.le (k := held + 1) (by omega) (by omega)
  have e : (-2 - (-2 - (j : Int))).toNat = j := by omega
  constructor
  · intro h
    refine .inr ⟨by omega, .inr ⟨by omega, T.acts[j], by rw [e]; exact List.getElem?_eq_getElem hj, by omega, hle.1 (by omega)⟩⟩
  · intro h
    rcases h with h | ⟨_, ⟨h, _⟩ | ⟨_, a, ha, h3, h4⟩⟩
    · omega
    · omega
    · rw [e, List.getElem?_eq_getElem hj] at ha
      injection ha with ha
      subst ha
      have := hle.2 h4
      omega
set_option maxHeartbeats 4000000 in
theorem nextRight_any (n : NV) (la le : List Int) (held x : Int) (w : World) (h : NM w n la le) (h0 : 0 ≤ held) (h4 : held ≤ 4) (hx : IntR x) :
    Calls Try.prog 93 #[n.val, .int .i64 held, .int .i64 x] w (RetB (propB (NextOk n.t.T held x)) w) := by
  have hla := h.tab.la
  have ha4 := h.a4
  unfold maxLen at hla
  unfold IntR at hx
  obtain ⟨w1, hw1⟩ : ∃ w1, w.alloc (.cells n.cells.toArray 101) = w1 := ⟨_, rfl⟩
  have hb1 : Below w.heap.size w w1 := by rw [← hw1]; exact (Below.refl _ _).alloc (Nat.le_refl _) _
  have hN : NBox w1 w.heap.size n := by rw [← hw1]; exact NBox.boxed w n
  have HM := Lib.hid (h.below hb1)
  have HB := Lib.hid hb1
  have cA := hN.cA h.tab.cls
  have ca := hN.ca h.tab.cls
  obtain ⟨v, hv⟩ : ∃ v, propB (NextOk n.t.T held x) = v := ⟨_, rfl⟩
  rw [hv]
  have HNO := Lib.hid (show ¬ NextOk n.t.T held x → v = false from fun q => hv.symm.trans (propB_false q))
  have HYES := Lib.hid (show NextOk n.t.T held x → v = true from fun q => hv.symm.trans (propB_true q))
  clear h hN hv hb1
  unfold NV.val
  by_cases k1 : x = -1
  · have HP := Lib.hid (HYES.out (.inl k1))
    subst k1
    go_enter Try.func93, Try.ntmps93
    go_wp2_with (fail)
    go_ret
    exact ⟨ret_bool HP.out.symm, HB.out⟩
  have k1' : (x == -1) = false := by simpa using k1
  by_cases k2 : held = 4
  · subst k2
    have HP := Lib.hid (HNO.out fun q => by
      rcases q with q | ⟨q, _⟩
      · exact k1 q
      · exact q rfl)
    go_enter Try.func93, Try.ntmps93
    go_wp2_with (fail)
    go_ret
    exact ⟨ret_bool HP.out.symm, HB.out⟩
  have k2' : (held == 4) = false := by simpa using k2
  by_cases k3 : 0 ≤ x
  · obtain ⟨j, rfl⟩ := Int.eq_ofNat_of_zero_le k3
    by_cases k4 : j < n.t.T.nodes.length
    case neg =>
      have HP := Lib.hid (HNO.out fun q => by
        rcases q with q | ⟨_, ⟨_, nd, hq, _⟩ | ⟨q, _⟩⟩
        · omega
        · rw [Int.toNat_natCast] at hq
          exact k4 (List.getElem?_eq_some_iff.1 hq).1
        · omega)
      go_enter Try.func93, Try.ntmps93
      go_wp2_with (fail)
      go_ret
      exact ⟨ret_bool HP.out.symm, HB.out⟩
    obtain ⟨b, off, hA, hbB, d0, _, _⟩ := HM.out.tab.nodes.at_ k4
    rw [hA] at cA
    obtain ⟨nd, hnd⟩ : ∃ nd, n.t.T.nodes[j] = nd := ⟨_, rfl⟩
    have HND := Lib.hid (show n.t.T.nodes[j]? = some nd by rw [← hnd]; exact List.getElem?_eq_getElem k4)
    rw [hnd] at d0
    have HXA := Lib.hid hA
    clear hA hnd
    obtain ⟨hh, ee, nx⟩ := nd
    simp only at d0
    by_cases k5 : hh = held + 1
    · subst k5
      have HP := Lib.hid (HYES.out (.inr ⟨k2, .inl ⟨by omega, _, by rw [Int.toNat_natCast]; exact HND.out, rfl⟩⟩))
      go_enter Try.func93, Try.ntmps93
      go_wp2_with (fail)
      go_ret
      exact ⟨ret_bool HP.out.symm, HB.out⟩
    · have HP := Lib.hid (HNO.out fun q => by
        rcases q with q | ⟨_, ⟨_, nd, hq, hq2⟩ | ⟨q, _⟩⟩
        · omega
        · rw [Int.toNat_natCast, HND.out] at hq
          injection hq with hq
          subst hq
          exact k5 hq2
        · omega)
      have k5' : (hh == held + 1) = false := by simpa using k5
      go_enter Try.func93, Try.ntmps93
      go_wp2_with (fail)
      go_ret
      exact ⟨ret_bool HP.out.symm, HB.out⟩
  · obtain ⟨j, hj⟩ : ∃ j : Nat, x = -2 - (j : Int) := ⟨(-2 - x).toNat, by omega⟩
    subst hj
    have s1 : IntKind.i64.wrap (-2 - (-2 - (j : Int))) = (j : Int) := by rw [IntWalk.i64_in _ (by omega)]; omega
    have hlen := HM.out.needA.1
    obtain ⟨Aa, cca, hva, hcc, hrow⟩ := HM.out.rowA
    rw [hva] at ca
    by_cases k4 : j < n.t.T.acts.length
    case neg =>
      have HP := Lib.hid (HNO.out fun q => by
        rcases q with q | ⟨_, ⟨q, _⟩ | ⟨_, a, hq, _⟩⟩
        · omega
        · omega
        · have h9 : (-2 - (-2 - (j : Int))).toNat < n.t.T.acts.length := (List.getElem?_eq_some_iff.1 hq).1
          omega)
      have k4' : ¬ j < la.length := by omega
      have k4'' : decide ((j : Int) < (la.length : Int)) = false := by simp; omega
      have HLN := Lib.hid hlen
      clear hlen hva hrow
      go_enter Try.func93, Try.ntmps93
      go_wp2_with (fail)
      go_ret
      exact ⟨ret_bool HP.out.symm, HB.out⟩
    obtain ⟨y, ⟨hl, hy⟩, hiff⟩ := nextOk_act HM.out.needA h0 (by omega) k4
    obtain ⟨b, hAa, hbB, hcell⟩ := hrow (by omega)
    subst hAa
    have d0 := hcell j hl
    rw [hy] at d0
    have k4' : decide ((j : Int) < (la.length : Int)) = true := by simp; omega
    have HLN := Lib.hid hlen
    have HIF := Lib.hid hiff
    have HVA := Lib.hid hva
    clear hlen hva hrow hcell hiff hy
    by_cases k5 : y ≤ held + 1
    · have HP := Lib.hid (HYES.out (HIF.out.1 k5))
      go_enter Try.func93, Try.ntmps93
      go_wp2_with (fail)
      go_ret
      exact ⟨ret_bool HP.out.symm, HB.out⟩
    · have HP := Lib.hid (HNO.out fun q => k5 (HIF.out.2 q))
      go_enter Try.func93, Try.ntmps93
      go_wp2_with (fail)
      go_ret
      exact ⟨ret_bool HP.out.symm, HB.out⟩
/-- Of the numbers ahead of k all may stand there. -/
def NxRel (T : TabL) (held : Int) (nx : List Int) (w1 : World) (iv : Value) (wr : World) : Prop := ∃ k : Nat, k ≤ nx.length ∧ iv = .int .i64 k ∧ (∀ j (hj : j < nx.length), j < k → NextOk T held nx[j]) ∧ Below w1.heap.size w1 wr
theorem load_needs_below {w w' : World} {x : Nat} {n : NV} {B : Nat} (h : NBox w x n) (hx : x < B) (hb : Below B w w') : NBox w' x n := h.keep (hb.block x hx)
set_option maxHeartbeats 4000000 in
theorem nodeRight_any (n : NV) (la le : List Int) (i : Nat) (w : World) (h : NM w n la le) (hi : i < n.t.T.nodes.length) (h0 : 0 ≤ (n.t.T.nodes[i]).1) (h4 : (n.t.T.nodes[i]).1 ≤ 4) :
    Calls Try.prog 69 #[n.val, .int .i64 (i : Int)] w (RetB (propB (NodeOk n.t.T n.t.T.nodes[i])) w) := by
  have hla := h.tab.la
  have he4 := h.e4
  unfold maxLen at hla
  obtain ⟨w1, hw1⟩ : ∃ w1, w.alloc (.cells n.cells.toArray 101) = w1 := ⟨_, rfl⟩
  have hb1 : Below w.heap.size w w1 := by rw [← hw1]; exact (Below.refl _ _).alloc (Nat.le_refl _) _
  have hs1 : w1.heap.size = w.heap.size + 1 := by rw [← hw1]; simp
  have hN : NBox w1 w.heap.size n := by rw [← hw1]; exact NBox.boxed w n
  have HM := Lib.hid (h.below hb1)
  have HB := Lib.hid hb1
  have HCL := Lib.hid h.tab.cls
  have HBX := Lib.hid (fun W (hW : Below w1.heap.size w1 W) => load_needs_below hN (by omega) hW)
  have cA := hN.cA h.tab.cls
  have ce := hN.ce h.tab.cls
  obtain ⟨b, off, hA, hbB, d0, d1, A', c', d2, hri, hcc, hm⟩ := HM.out.tab.nodes.at_ hi
  rw [hA] at cA
  obtain ⟨nd, hnd⟩ : ∃ nd, n.t.T.nodes[i] = nd := ⟨_, rfl⟩
  rw [hnd] at d0 d1 d2 hri hcc hm h0 h4 ⊢
  obtain ⟨held, end_, nx⟩ := nd
  simp only at d0 d1 d2 hri hcc hm h0 h4
  have HRI := Lib.hid hri
  have HXA := Lib.hid hA
  unfold maxLen at hm
  obtain ⟨v, hv⟩ : ∃ v, propB (NodeOk n.t.T (held, end_, nx)) = v := ⟨_, rfl⟩
  rw [hv]
  have HNO := Lib.hid (show ¬ NodeOk n.t.T (held, end_, nx) → v = false from fun q => hv.symm.trans (propB_false q))
  have HYES := Lib.hid (show NodeOk n.t.T (held, end_, nx) → v = true from fun q => hv.symm.trans (propB_true q))
  clear h hN hv hb1 hnd hri hA
  have i1 : (0 : Int) ≤ (i : Int) := by omega
  have i2 : (i : Int) < (n.t.T.nodes.length : Int) := by omega
  unfold NV.val
  go_enter Try.func69, Try.ntmps69
  go_wp2_with (fail)
  go_quiet (fail)
  go_wp2_with (fail)
  have HBQ := Lib.hid (show Below w1.heap.size w1 (w1.drewN nq) from below_drewN (Below.refl _ _) nq)
  go_loopw [31] (fun iv wr => NxRel n.t.T held nx w1 iv wr) (fun i _ => nx.length - (intOf i).toNat)
  case atStart => exact ⟨0, Nat.zero_le _, rfl, fun j _ h => absurd h (by omega), HBQ.out⟩
  case round =>
    obtain ⟨k, hk, rfl, hall, hbr⟩ := hrel
    have HALL := Lib.hid hall
    have HBR := Lib.hid hbr
    have hsr := hbr.size
    have HE := Lib.hid (HB.out.trans (hbr.mono (by omega)))
    clear hall d0 d1 d2
    by_cases hlt : k < nx.length
    · obtain ⟨b2, off2, rfl, hb2, e0⟩ := (HRI.out.belowM hbr).at_ hlt
      obtain ⟨x, hx⟩ : ∃ x, nx[k] = x := ⟨_, rfl⟩
      have HXR := Lib.hid (show IntR x by rw [← hx]; exact HRI.out.2.2 _ (List.getElem_mem hlt))
      have HIN := Lib.hid (show x ∈ nx by rw [← hx]; exact List.getElem_mem hlt)
      have HNX := Lib.hid (show NextOk n.t.T held x → ∀ j (hj : j < nx.length), j < k + 1 → NextOk n.t.T held nx[j] from fun q j hj hjk => by
        rcases Nat.lt_or_ge j k with z | z
        · exact HALL.out j hj z
        · obtain rfl : j = k := by omega
          exact hx ▸ q)
      rw [hx] at e0
      have HC := Lib.hid (nextRight_any n la le held x wr (HM.out.below hbr) h0 h4 HXR.out)
      have HLD := Lib.hid (HBX.out wr hbr)
      clear hx hbr
      by_cases k1 : NextOk n.t.T held x
      · rw [propB_true k1] at HC
        have HN2 := Lib.hid (HNX.out k1)
        clear k1
        go_wp2_with (refine load_needs rfl _ rfl w.heap.size n HCL.out HLD.out rfl ?_)
        refine HC.out.mono ?_
        rintro e w7 ⟨rfl, hb7⟩
        have HB7 := Lib.hid hb7
        clear hb7
        go_wp2_with (fail)
        go_roundw
        case rel => exact ⟨k + 1, by omega, by go_num, HN2.out, HBR.out.trans (HB7.out.mono hsr)⟩
        case measure => simp [intOf]; omega
      · rw [propB_false k1] at HC
        have HP := Lib.hid (HNO.out fun q => k1 (q.2 _ HIN.out))
        clear k1
        go_wp2_with (refine load_needs rfl _ rfl w.heap.size n HCL.out HLD.out rfl ?_)
        refine HC.out.mono ?_
        rintro e w7 ⟨rfl, hb7⟩
        have HB7 := Lib.hid hb7
        clear hb7
        go_wp2_with (fail)
        go_ret
        exact ⟨ret_bool HP.out.symm, HE.out.trans (HB7.out.mono (by omega))⟩
    · have HNEXT := Lib.hid (show ∀ x ∈ nx, NextOk n.t.T held x from fun x hx => by
        obtain ⟨j, hj, rfl⟩ := List.getElem_of_mem hx
        exact HALL.out j hj (by omega))
      have ce2 := (HBX.out wr hbr).ce HCL.out
      obtain ⟨Ae, cce, hve, hcce, hrow⟩ := (HM.out.below hbr).rowE
      have hlen := HM.out.needE.1
      rw [hve] at ce2
      clear ce hbr
      by_cases k1 : end_ = -1
      · subst k1
        have HP := Lib.hid (HYES.out ⟨.inl rfl, HNEXT.out⟩)
        clear hve hrow hlen
        go_wp2_with (fail)
        go_ret
        exact ⟨ret_bool HP.out.symm, HE.out⟩
      have k1' : (end_ == -1) = false := by simpa using k1
      by_cases k2 : 0 ≤ end_
      case neg =>
        have HP := Lib.hid (HNO.out fun q => by
          rcases q.1 with z | ⟨z, _⟩
          · exact k1 z
          · exact k2 z)
        clear hve hrow hlen
        go_wp2_with (fail)
        go_ret
        exact ⟨ret_bool HP.out.symm, HE.out⟩
      obtain ⟨j, rfl⟩ := Int.eq_ofNat_of_zero_le k2
      by_cases k3 : j < n.t.T.ends.length
      case neg =>
        have HP := Lib.hid (HNO.out fun q => by
          rcases q.1 with z | ⟨_, l, z, _⟩
          · exact k1 z
          · have h9 : ((j : Nat) : Int).toNat < n.t.T.ends.length := (List.getElem?_eq_some_iff.1 z).1
            omega)
        have k3' : ¬ j < le.length := by omega
        have k3'' : decide ((j : Int) < (le.length : Int)) = false := by simp; omega
        clear hve hrow hlen
        go_wp2_with (fail)
        go_ret
        exact ⟨ret_bool HP.out.symm, HE.out⟩
      obtain ⟨m, h1, h2⟩ := HM.out.needE.2 j _ k3 (List.getElem?_eq_getElem k3)
      obtain ⟨hl, hy⟩ := List.getElem?_eq_some_iff.1 h2
      obtain ⟨b3, rfl, hb3, hcell⟩ := hrow (by omega)
      have e0 := hcell j hl
      rw [hy] at e0
      have HIF := Lib.hid (h1.le h0 h4)
      have HLE := Lib.hid (List.getElem?_eq_getElem k3)
      have k3' : decide ((j : Int) < (le.length : Int)) = true := by simp; omega
      have k3'' : j < le.length := by omega
      clear hve hrow hlen hcell h1 h2 hy
      by_cases k4 : (m : Int) ≤ held
      · have HP := Lib.hid (HYES.out ⟨.inr ⟨by omega, _, by rw [Int.toNat_natCast]; exact HLE.out, HIF.out.1 k4⟩, HNEXT.out⟩)
        go_wp2_with (fail)
        go_ret
        exact ⟨ret_bool HP.out.symm, HE.out⟩
      · have HP := Lib.hid (HNO.out fun q => by
          rcases q.1 with z | ⟨_, l, z, z2⟩
          · exact k1 z
          · rw [Int.toNat_natCast, HLE.out] at z
            injection z with z
            subst z
            exact k4 (HIF.out.2 z2))
        go_wp2_with (fail)
        go_ret
        exact ⟨ret_bool HP.out.symm, HE.out⟩
end Go.Proofs.Ytgmkchkaceciiaa.Pk
