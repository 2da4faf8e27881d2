/- The walk of ref17.Check: of any table. -/
import Derived.Test.YtboaifdkoemnbaaJ7
import Derived.Test.YtboaifdkoemnbaaJ25
import Derived.BigQuiet
import Derived.Deep.QuietTactic
import Derived.Deep.RegionHeld3
import Derived.Deep.RegionLaw
import Derived.Deep.DeepCutAuto
import Derived.Deep.CutBlock
namespace Go.Proofs.Ytboaifdkoemnbaa.Pk
set_option maxRecDepth 100000
open Go Go.RowKit Go.Proofs.Ytboaifdkoemnbaa.Sp Go.Proofs.Ytboaifdkoemnbaa.Pa Go.Proofs.Ytboaifdkoemnbaa.Te Go.Proofs.Ytboaifdkoemnbaa.Mi Go.Proofs.Ytboaifdkoemnbaa.De

/-- A loop with a verdict: all is well so far, or the answer is no. -/
def OkL (P : Nat → Prop) (n : Nat) (v : Bool) (w1 : World) (ok iv : Value) (wr : World) : Prop := ∃ (k : Nat) (b : Bool), k ≤ n ∧ iv = .int .i64 k ∧ ok = .bool b ∧ (b = true → P k) ∧ (b = false → v = false) ∧ Below w1.heap.size w1 wr
def OkC (P : Prop) (v : Bool) (w1 : World) (ok : Value) (wr : World) : Prop := ∃ b : Bool, ok = .bool b ∧ (b = true → P) ∧ (b = false → v = false) ∧ Below w1.heap.size w1 wr
structure Chk1 (T : TabL) : Prop where
  w1 : 1 ≤ T.wid
  w2 : T.wid ≤ 256
structure Chk2 (T : TabL) : Prop where
  one : Chk1 T
  cls : ∀ c ∈ T.cls, c < T.wid
structure Chk3 (T : TabL) : Prop where
  two : Chk2 T
  acts : ∀ a ∈ T.acts, ActOk T a
structure Chk4 (T : TabL) : Prop where
  three : Chk3 T
  ends : ∀ l ∈ T.ends, l.length ≤ 64
/-- A node as Check asks of it. -/
structure NdOk (T : TabL) (n : NdL) : Prop where
  len : n.2.2.length = T.wid
  lo : 0 ≤ n.1
  hi : n.1 ≤ 4
  ok : NodeOk T n
theorem all_next {α : Type} {l : List α} {P : α → Prop} {k : Nat} {a : α} (hk : k < l.length) (ha : l[k] = a) (h : ∀ j (hj : j < l.length), j < k → P l[j]) (hp : P a) : ∀ j (hj : j < l.length), j < k + 1 → P l[j] := fun j hj hjk => by
  rcases Nat.lt_or_ge j k with z | z
  · exact h j hj z
  · obtain rfl : j = k := by omega
    rw [ha]
    exact hp
theorem all_mem {α : Type} {l : List α} {P : α → Prop} {k : Nat} (hk : ¬ k < l.length) (h : ∀ j (hj : j < l.length), j < k → P l[j]) : ∀ a ∈ l, P a := fun a ha => by
  obtain ⟨j, hj, rfl⟩ := List.getElem_of_mem ha
  exact h j hj (by omega)
set_option maxHeartbeats 16000000 in
theorem check17_any (t : TV) (w : World) (h : TM w t) : Calls Try.prog 21 #[t.val] w (RetB (propB (RightTab t.T)) w) := by
  have hla := h.la
  have hlb := h.lb
  have hlc := h.lc
  unfold maxLen at hla hlb hlc
  obtain ⟨H, hH⟩ : ∃ H, w.heap.size = H := ⟨_, rfl⟩
  obtain ⟨w1, hw1⟩ : ∃ w1, w.alloc (.cells t.cells.toArray 27) = w1 := ⟨_, rfl⟩
  have hT : TW w1 H t := by rw [← hw1, ← hH]; exact TW.boxed h
  have hs1 : w1.heap.size = H + 1 := by rw [← hw1, ← hH]; simp
  have hb1 : Below w.heap.size w w1 := by rw [← hw1]; exact (Below.refl _ _).alloc (Nat.le_refl _) _
  have cA := hT.cA
  have cB := hT.cB
  have cC := hT.cC
  have HT := Lib.hid hT
  have HS1 := Lib.hid hs1
  have HTW := Lib.hid (fun W (hW : Below w1.heap.size w1 W) => show TW W H t from hT.below hW)
  obtain ⟨v, hv⟩ : ∃ v, propB (RightTab t.T) = v := ⟨_, rfl⟩
  rw [hv]
  have HNO := Lib.hid (show ¬ RightTab t.T → v = false from fun q => hv.symm.trans (propB_false q))
  have HYES := Lib.hid (show RightTab t.T → v = true from fun q => hv.symm.trans (propB_true q))
  have HFIN := Lib.hid (fun (b : Bool) (hb : v = b) (W : World) (hW : Below w1.heap.size w1 W) => show RetB v w (.returned (.bool b)) W from ⟨by rw [hb], hb1.trans (hW.mono (by rw [hH, hs1]; omega))⟩)
  have HCL := Lib.hid hT.mem.cls
  have HBY := Lib.hid hT.mem.byte
  have HHH := Lib.hid hH
  clear h hT hv hb1 hs1
  unfold TV.val
  by_cases k1 : 1 ≤ t.T.nodes.length
  case neg =>
    have HP := Lib.hid (HFIN.out false (HNO.out fun q => k1 q.sizes.some_) w1 (Below.refl _ _))
    obtain ⟨nn, hnn⟩ : ∃ nn, t.T.nodes.length = nn := ⟨_, rfl⟩
    rw [hnn] at cA k1
    obtain rfl : nn = 0 := by omega
    have HNN := Lib.hid hnn
    clear hnn k1
    go_enter Try.func21, Try.ntmps21
    go_wp2_with (fail)
    go_ret
    exact HP.out
  have k1' : ((t.T.nodes.length : Int) == 0) = false := beq_eq_false_iff_ne.2 (by omega)
  have k1'' : ¬ ((t.T.nodes.length : Int) = 0) := by omega
  by_cases k2 : t.T.nodes.length ≤ 4096
  case neg =>
    have HP := Lib.hid (HFIN.out false (HNO.out fun q => k2 q.sizes.nodes) w1 (Below.refl _ _))
    go_enter Try.func21, Try.ntmps21
    go_wp2_with (fail)
    go_ret
    exact HP.out
  by_cases k3 : t.T.acts.length ≤ 4096
  case neg =>
    have HP := Lib.hid (HFIN.out false (HNO.out fun q => k3 q.sizes.acts) w1 (Below.refl _ _))
    go_enter Try.func21, Try.ntmps21
    go_wp2_with (fail)
    go_ret
    exact HP.out
  by_cases k4 : t.T.ends.length ≤ 4096
  case neg =>
    have HP := Lib.hid (HFIN.out false (HNO.out fun q => k4 q.sizes.ends) w1 (Below.refl _ _))
    go_enter Try.func21, Try.ntmps21
    go_wp2_with (fail)
    go_ret
    exact HP.out
  obtain ⟨hl0, hw0, hh0⟩ := head_zero k1
  obtain ⟨b0, off0, hA, hbB, d0, d1, A', c', d2, _, hcc, hm⟩ := HT.out.mem.nodes.at_ hl0
  rw [hw0] at d2 hm
  have HH := Lib.hid hh0
  have HX := Lib.hid hA
  rw [hA] at cA
  simp only [Nat.zero_mul, Nat.add_zero] at d0 d1 d2
  obtain ⟨hd, hhd⟩ : ∃ hd, t.T.nodes[0].1 = hd := ⟨_, rfl⟩
  obtain ⟨wid, hwid⟩ : ∃ wid, t.T.wid = wid := ⟨_, rfl⟩
  rw [hwid] at d2 hm
  rw [hhd] at d0
  have HHD := Lib.hid hhd
  have HWID := Lib.hid hwid
  clear hA hw0 hh0 hhd hwid hcc
  unfold maxLen at hm
  by_cases k7 : hd = 0
  case neg =>
    have HP := Lib.hid (HFIN.out false (HNO.out fun q => k7 (by rw [← HHD.out, HH.out]; exact q.sizes.head)) w1 (Below.refl _ _))
    have k7' : (hd != 0) = true := by simp [k7]
    go_enter Try.func21, Try.ntmps21
    go_wp2_with (fail)
    go_ret
    exact HP.out
  subst k7
  have HH2 := Lib.hid (show (t.T.nodes.headD (0, 0, [])).1 = 0 by rw [← HH.out]; exact HHD.out)
  have HK := Lib.hid (And.intro k1 (And.intro k2 (And.intro k3 k4)))
  clear HT HX HHD HHH HH
  go_enter Try.func21, Try.ntmps21
  go_upto_region 4 with (fail)
  go_cut [4] (fun ok wx => OkC (Chk1 t.T) v w1 ok wx)
  case first => as_aux_lemma =>
    by_cases j1 : 1 ≤ wid
    case neg =>
      have HP := Lib.hid (HNO.out fun q => j1 (by rw [← HWID.out]; exact q.sizes.w1))
      go_wp2_with (fail)
      go_meet
      case rel => exact ⟨false, rfl, (fun e => by cases e), fun _ => HP.out, Below.refl _ _⟩
    by_cases j2 : wid ≤ 256
    case neg =>
      have j2d : decide ((wid : Int) ≤ 256) = false := decide_eq_false (by omega)
      have HP := Lib.hid (HNO.out fun q => j2 (by rw [← HWID.out]; exact q.sizes.w2))
      go_wp2_with (fail)
      go_meet
      case rel => exact ⟨false, rfl, (fun e => by cases e), fun _ => HP.out, Below.refl _ _⟩
    have j2d : decide ((wid : Int) ≤ 256) = true := decide_eq_true (by omega)
    have HP := Lib.hid (show Chk1 t.T from ⟨by rw [HWID.out]; exact j1, by rw [HWID.out]; exact j2⟩)
    go_wp2_with (fail)
    go_meet
    case rel => exact ⟨true, rfl, fun _ => HP.out, (fun e => by cases e), Below.refl _ _⟩
  case rest =>
  obtain ⟨ok1, rfl, hy1, hn1, hbx⟩ := hcut
  have HY1 := Lib.hid hy1
  have HN1 := Lib.hid hn1
  have HB1 := Lib.hid hbx
  clear hy1 hn1 cA cB cC d0 d1 d2 hbx
  go_upto_block 0 with (fail)
  go_cut [4] (fun ok wx => OkC (Chk2 t.T) v w1 ok wx)
  case first => as_aux_lemma =>
    go_wp2_with (fail)
    go_loopw [4, 5] (fun ok iv wr => OkL (fun k => Chk1 t.T ∧ ∀ j (hj : j < t.T.cls.length), j < k → t.T.cls[j] < t.T.wid) 256 v w1 ok iv wr) (fun _ i _ => 256 - (intOf i).toNat)
    case atStart => exact ⟨0, ok1, Nat.zero_le _, rfl, rfl, fun e => ⟨HY1.out e, fun j _ h => absurd h (by omega)⟩, HN1.out, HB1.out⟩
    case round =>
      obtain ⟨k, b, hk, rfl, rfl, hy, hn, hbr⟩ := hrel
      have HY := Lib.hid hy
      have HN := Lib.hid hn
      have HBR := Lib.hid hbr
      have hTr := HTW.out wr hbr
      clear hy hn
      by_cases hlt : k < 256
      case neg =>
        have HF := Lib.hid (show OkC (Chk2 t.T) v w1 (.bool b) wr from ⟨b, rfl, fun e => ⟨(HY.out e).1, all_mem (by rw [HCL.out]; exact hlt) (HY.out e).2⟩, HN.out, HBR.out⟩)
        clear hTr hbr
        go_wp2_with (fail)
        go_meet
        case rel => exact HF.out
      cases b
      case false =>
        have HF := Lib.hid (show OkC (Chk2 t.T) v w1 (.bool false) wr from ⟨false, rfl, (fun e => by cases e), HN.out, HBR.out⟩)
        clear hTr hbr
        go_wp2_with (fail)
        go_meet
        case rel => exact HF.out
      obtain ⟨c, hc⟩ : ∃ c, t.T.cls[k]'(by rw [HCL.out]; exact hlt) = c := ⟨_, rfl⟩
      have HIN := Lib.hid (show c ∈ t.T.cls by rw [← hc]; exact List.getElem_mem _)
      have hcb : c < 256 := HBY.out c HIN.out
      have q0 : wr.cell? ⟨H, k, none⟩ = some (.int .u8 (c : Int)) := by
        rw [hTr.box.cell k, TV.at_cls HCL.out hlt, hc]
      by_cases j1 : c < wid
      · have HF := Lib.hid (show OkL (fun k => Chk1 t.T ∧ ∀ j (hj : j < t.T.cls.length), j < k → t.T.cls[j] < t.T.wid) 256 v w1 (.bool true) (.int .i64 ((k : Int) + 1)) wr from ⟨k + 1, true, by omega, by go_num, rfl, fun _ => ⟨(HY.out rfl).1, all_next (P := fun c => c < t.T.wid) (by rw [HCL.out]; exact hlt) hc (HY.out rfl).2 (by rw [HWID.out]; exact j1)⟩, (fun e => by cases e), HBR.out⟩)
        clear hc hTr hbr
        go_wp2_with (fail)
        go_roundw
        case rel => exact HF.out
        case measure => simp [intOf]; omega
      · have HF := Lib.hid (show OkL (fun k => Chk1 t.T ∧ ∀ j (hj : j < t.T.cls.length), j < k → t.T.cls[j] < t.T.wid) 256 v w1 (.bool false) (.int .i64 ((k : Int) + 1)) wr from ⟨k + 1, false, by omega, by go_num, rfl, (fun e => by cases e), fun _ => HNO.out fun q => j1 (by rw [← HWID.out]; exact q.sizes.cls _ HIN.out), HBR.out⟩)
        clear hc hTr hbr
        go_wp2_with (fail)
        go_roundw
        case rel => exact HF.out
        case measure => simp [intOf]; omega
  case rest =>
  obtain ⟨ok2, rfl, hy2, hn2, hbx⟩ := hcut
  have HY2 := Lib.hid hy2
  have HN2 := Lib.hid hn2
  have HB2 := Lib.hid hbx
  clear hy2 hn2 hbx HY1 HN1 HB1 HCL HBY
  go_upto_block 2 with (fail)
  go_cut [4] (fun ok wx => OkC (Chk3 t.T) v w1 ok wx)
  case first => as_aux_lemma =>
    go_wp2_with (fail)
    go_loopw [4, 6] (fun ok iv wr => OkL (fun k => Chk2 t.T ∧ ∀ j (hj : j < t.T.acts.length), j < k → ActOk t.T t.T.acts[j]) t.T.acts.length v w1 ok iv wr) (fun _ i _ => t.T.acts.length - (intOf i).toNat)
    case atStart => exact ⟨0, ok2, Nat.zero_le _, rfl, rfl, fun e => ⟨HY2.out e, fun j _ h => absurd h (by omega)⟩, HN2.out, HB2.out⟩
    case round =>
      obtain ⟨k, b, hk, rfl, rfl, hy, hn, hbr⟩ := hrel
      have HY := Lib.hid hy
      have HN := Lib.hid hn
      have HBR := Lib.hid hbr
      have hTr := HTW.out wr hbr
      have cB := hTr.cB
      have hzr := hbr.size
      clear hy hn hbr
      by_cases hlt : k < t.T.acts.length
      case neg =>
        have HF := Lib.hid (show OkC (Chk3 t.T) v w1 (.bool b) wr from ⟨b, rfl, fun e => ⟨(HY.out e).1, all_mem hlt (HY.out e).2⟩, HN.out, HBR.out⟩)
        clear hTr
        go_wp2_with (fail)
        go_meet
        case rel => exact HF.out
      cases b
      case false =>
        have HF := Lib.hid (show OkC (Chk3 t.T) v w1 (.bool false) wr from ⟨false, rfl, (fun e => by cases e), HN.out, HBR.out⟩)
        clear hTr
        go_wp2_with (fail)
        go_meet
        case rel => exact HF.out
      obtain ⟨bb, off, hC, hbB2, d0, d1, Ao, co, d2, _, hcc, hm⟩ := hTr.mem.acts.at_ hlt
      have HXB := Lib.hid (show t.B = some ⟨bb, off, none⟩ from hC)
      have HTR := Lib.hid hTr
      obtain ⟨a, ha⟩ : ∃ a, t.T.acts[k] = a := ⟨_, rfl⟩
      have HIN := Lib.hid (show a ∈ t.T.acts by rw [← ha]; exact List.getElem_mem hlt)
      rw [ha] at d0 d1 d2 hcc hm
      have HYS := Lib.hid (fun (q : ActOk t.T a) W (hW : Below wr.heap.size wr W) => show OkL (fun k => Chk2 t.T ∧ ∀ j (hj : j < t.T.acts.length), j < k → ActOk t.T t.T.acts[j]) t.T.acts.length v w1 (.bool true) (.int .i64 ((k : Int) + 1)) W from ⟨k + 1, true, by omega, by go_num, rfl, fun _ => ⟨(HY.out rfl).1, all_next hlt ha (HY.out rfl).2 q⟩, (fun e => by cases e), HBR.out.trans (hW.mono hzr)⟩)
      have HNS := Lib.hid (fun (q : ¬ ActOk t.T a) W (hW : Below wr.heap.size wr W) => show OkL (fun k => Chk2 t.T ∧ ∀ j (hj : j < t.T.acts.length), j < k → ActOk t.T t.T.acts[j]) t.T.acts.length v w1 (.bool false) (.int .i64 ((k : Int) + 1)) W from ⟨k + 1, false, by omega, by go_num, rfl, (fun e => by cases e), fun _ => HNO.out fun z => q (z.acts a HIN.out), HBR.out.trans (hW.mono hzr)⟩)
      rw [hC] at cB
      clear hC hTr ha
      unfold maxLen at hm
      obtain ⟨eat, to_, out⟩ := a
      simp only at d0 d1 d2 hcc hm
      obtain ⟨w5, hw5⟩ : ∃ w5, wr.alloc (.cells #[.int .i64 eat, .int .i64 to_, .slice Ao out.length co] 49) = w5 := ⟨_, rfl⟩
      have q0 : w5.cell? ⟨wr.heap.size, 0, none⟩ = some (.int .i64 eat) := by rw [← hw5]; simp
      have q1 : w5.cell? ⟨wr.heap.size, 1, none⟩ = some (.int .i64 to_) := by rw [← hw5]; simp
      have q2 : w5.cell? ⟨wr.heap.size, 2, none⟩ = some (.slice Ao out.length co) := by rw [← hw5]; simp
      have hb5 : Below wr.heap.size wr w5 := by rw [← hw5]; exact (Below.refl _ _).alloc (Nat.le_refl _) _
      have cA5 := (HTR.out.below hb5).cA
      have HM5 := Lib.hid (HTR.out.below hb5).mem.nodes
      have HYS5 := Lib.hid (fun q => HYS.out q w5 hb5)
      have HNS5 := Lib.hid (fun q => HNS.out q w5 hb5)
      clear hb5 hzr
      go_upto_region 13 with (fail)
      have HW5 := Lib.hid hw5
      clear hw5 d0 d1 d2 cB
      by_cases k1 : 1 ≤ eat
      case neg =>
        have HP := Lib.hid (HNS5.out fun q => k1 q.1)
        clear HNO HYES HFIN HTW HK HWID HYS HNS HTR HXB HIN HH2 HS1 HY HN HBR HY2 HN2 HB2 HYS5 HNS5
        go_wp2_with (fail)
        go_roundw
        case rel => exact HP.out
        case measure => simp [intOf]; omega
      by_cases k2 : eat ≤ 4
      case neg =>
        have HP := Lib.hid (HNS5.out fun q => k2 q.2.1)
        clear HNO HYES HFIN HTW HK HWID HYS HNS HTR HXB HIN HH2 HS1 HY HN HBR HY2 HN2 HB2 HYS5 HNS5
        go_wp2_with (fail)
        go_roundw
        case rel => exact HP.out
        case measure => simp [intOf]; omega
      by_cases k3 : 0 ≤ to_
      case neg =>
        have HP := Lib.hid (HNS5.out fun q => k3 q.2.2.1)
        clear HNO HYES HFIN HTW HK HWID HYS HNS HTR HXB HIN HH2 HS1 HY HN HBR HY2 HN2 HB2 HYS5 HNS5
        go_wp2_with (fail)
        go_roundw
        case rel => exact HP.out
        case measure => simp [intOf]; omega
      by_cases k4 : to_ < t.T.nodes.length
      case neg =>
        have HP := Lib.hid (HNS5.out fun q => by
          obtain ⟨n, hn, _⟩ := q.2.2.2.1
          have h9 : to_.toNat < t.T.nodes.length := (List.getElem?_eq_some_iff.1 hn).1
          omega)
        clear HNO HYES HFIN HTW HK HWID HYS HNS HTR HXB HIN HH2 HS1 HY HN HBR HY2 HN2 HB2 HYS5 HNS5
        go_wp2_with (fail)
        go_roundw
        case rel => exact HP.out
        case measure => simp [intOf]; omega
      obtain ⟨nd, hnd, hnl, hne⟩ := getD_at (l := t.T.nodes) k3 k4
      obtain ⟨j, rfl⟩ := Int.eq_ofNat_of_zero_le k3
      rw [Int.toNat_natCast] at hnl
      simp only [Int.toNat_natCast] at hnd hne
      obtain ⟨bn, offn, hAn, hbn, n0, _, _⟩ := HM5.out.at_ hnl
      rw [hne] at n0
      rw [hAn] at cA5
      have HXN := Lib.hid hAn
      have HND := Lib.hid hnd
      have k4' : j < t.T.nodes.length := by omega
      clear hne hnd hAn
      obtain ⟨held, end_, nx⟩ := nd
      simp only at n0
      by_cases k6 : out.length ≤ 64
      case neg =>
        have HP := Lib.hid (HNS5.out fun q => k6 q.2.2.2.2)
        clear HNO HYES HFIN HTW HK HWID HYS HNS HTR HXB HIN HH2 HS1 HY HN HBR HY2 HN2 HB2 HYS5 HNS5
        go_wp2_with (fail)
        go_roundw
        case rel => exact HP.out
        case measure => simp [intOf]; omega
      by_cases k5 : held = 0
      case neg =>
        have HP := Lib.hid (HNS5.out fun q => by
          obtain ⟨n, hn, h0⟩ := q.2.2.2.1
          rw [Int.toNat_natCast, HND.out] at hn
          injection hn with hn
          subst hn
          exact k5 h0)
        have k5' : (held == 0) = false := by simpa using k5
        clear HNO HYES HFIN HTW HK HWID HYS HNS HTR HXB HIN HH2 HS1 HY HN HBR HY2 HN2 HB2 HYS5 HNS5
        go_wp2_with (fail)
        go_roundw
        case rel => exact HP.out
        case measure => simp [intOf]; omega
      subst k5
      have HP := Lib.hid (HYS5.out ⟨k1, k2, k3, ⟨_, by rw [Int.toNat_natCast]; exact HND.out, rfl⟩, k6⟩)
      go_wp2_with (fail)
      go_roundw
      case rel => exact HP.out
      case measure => simp [intOf]; omega
  case rest =>
  obtain ⟨ok3, rfl, hy3, hn3, hbx⟩ := hcut
  have HY3 := Lib.hid hy3
  have HN3 := Lib.hid hn3
  have HB3 := Lib.hid hbx
  clear hy3 hn3 hbx HY2 HN2 HB2
  go_upto_block 4 with (fail)
  go_cut [4] (fun ok wx => OkC (Chk4 t.T) v w1 ok wx)
  case first => as_aux_lemma =>
    go_wp2_with (fail)
    go_loopw [4, 8] (fun ok iv wr => OkL (fun k => Chk3 t.T ∧ ∀ j (hj : j < t.T.ends.length), j < k → t.T.ends[j].length ≤ 64) t.T.ends.length v w1 ok iv wr) (fun _ i _ => t.T.ends.length - (intOf i).toNat)
    case atStart => exact ⟨0, ok3, Nat.zero_le _, rfl, rfl, fun e => ⟨HY3.out e, fun j _ h => absurd h (by omega)⟩, HN3.out, HB3.out⟩
    case round =>
      obtain ⟨k, b, hk, rfl, rfl, hy, hn, hbr⟩ := hrel
      have HY := Lib.hid hy
      have HN := Lib.hid hn
      have HBR := Lib.hid hbr
      have hTr := HTW.out wr hbr
      have cC := hTr.cC
      clear hy hn hbr
      by_cases hlt : k < t.T.ends.length
      case neg =>
        have HF := Lib.hid (show OkC (Chk4 t.T) v w1 (.bool b) wr from ⟨b, rfl, fun e => ⟨(HY.out e).1, all_mem hlt (HY.out e).2⟩, HN.out, HBR.out⟩)
        clear hTr
        go_wp2_with (fail)
        go_meet
        case rel => exact HF.out
      cases b
      case false =>
        have HF := Lib.hid (show OkC (Chk4 t.T) v w1 (.bool false) wr from ⟨false, rfl, (fun e => by cases e), HN.out, HBR.out⟩)
        clear hTr
        go_wp2_with (fail)
        go_meet
        case rel => exact HF.out
      obtain ⟨bb, off, hC, hbB2, Ao, co, d0, _, hcc, hm⟩ := hTr.mem.ends.at_ hlt
      have HXC := Lib.hid (show t.C = some ⟨bb, off, none⟩ from hC)
      obtain ⟨a, ha⟩ : ∃ a, t.T.ends[k] = a := ⟨_, rfl⟩
      have HIN := Lib.hid (show a ∈ t.T.ends by rw [← ha]; exact List.getElem_mem hlt)
      rw [ha] at d0 hcc hm
      have HYS := Lib.hid (fun (q : a.length ≤ 64) => show OkL (fun k => Chk3 t.T ∧ ∀ j (hj : j < t.T.ends.length), j < k → t.T.ends[j].length ≤ 64) t.T.ends.length v w1 (.bool true) (.int .i64 ((k : Int) + 1)) wr from ⟨k + 1, true, by omega, by go_num, rfl, fun _ => ⟨(HY.out rfl).1, all_next (P := fun l => l.length ≤ 64) hlt ha (HY.out rfl).2 q⟩, (fun e => by cases e), HBR.out⟩)
      have HNS := Lib.hid (fun (q : ¬ a.length ≤ 64) => show OkL (fun k => Chk3 t.T ∧ ∀ j (hj : j < t.T.ends.length), j < k → t.T.ends[j].length ≤ 64) t.T.ends.length v w1 (.bool false) (.int .i64 ((k : Int) + 1)) wr from ⟨k + 1, false, by omega, by go_num, rfl, (fun e => by cases e), fun _ => HNO.out fun z => q (z.ends a HIN.out), HBR.out⟩)
      rw [hC] at cC
      clear hC hTr ha
      unfold maxLen at hm
      by_cases k6 : a.length ≤ 64
      · have HP := Lib.hid (HYS.out k6)
        have k6d : decide ((a.length : Int) ≤ 64) = true := decide_eq_true (by omega)
        go_wp2_with (fail)
        go_roundw
        case rel => exact HP.out
        case measure => simp [intOf]; omega
      · have HP := Lib.hid (HNS.out k6)
        have k6d : decide ((a.length : Int) ≤ 64) = false := decide_eq_false (by omega)
        go_wp2_with (fail)
        go_roundw
        case rel => exact HP.out
        case measure => simp [intOf]; omega
  case rest =>
  obtain ⟨ok4, rfl, hy4, hn4, hbx⟩ := hcut
  have HY4 := Lib.hid hy4
  have HN4 := Lib.hid hn4
  have HB4 := Lib.hid hbx
  clear hy4 hn4 hbx HY3 HN3 HB3
  go_wp2_with (fail)
  go_loopw [4, 9] (fun ok iv wr => OkL (fun k => Chk4 t.T ∧ ∀ j (hj : j < t.T.nodes.length), j < k → NdOk t.T t.T.nodes[j]) t.T.nodes.length v w1 ok iv wr) (fun _ i _ => t.T.nodes.length - (intOf i).toNat)
  case atStart => exact ⟨0, ok4, Nat.zero_le _, rfl, rfl, fun e => ⟨HY4.out e, fun j _ h => absurd h (by omega)⟩, HN4.out, HB4.out⟩
  case round =>
    obtain ⟨k, b, hk, rfl, rfl, hy, hn, hbr⟩ := hrel
    obtain ⟨wo, rfl⟩ : ∃ wo : World, wo = wr := ⟨_, rfl⟩
    have HY := Lib.hid hy
    have HN := Lib.hid hn
    have HBR := Lib.hid hbr
    have hTr := HTW.out wo hbr
    have cA := hTr.cA
    have cC := hTr.cC
    have hzr := hbr.size
    clear hy hn hbr
    by_cases hlt : k < t.T.nodes.length
    case neg =>
      have HF := Lib.hid (HFIN.out b (by
        cases b
        · exact HN.out rfl
        · obtain ⟨h4, hall⟩ := HY.out rfl
          have hm := all_mem hlt hall
          obtain ⟨e1, e2, e3, e4⟩ := HK.out
          exact HYES.out ⟨⟨e1, e2, e3, e4, h4.three.two.one.w1, h4.three.two.one.w2, HH2.out, fun n hn => ⟨(hm n hn).len, (hm n hn).lo, (hm n hn).hi⟩, h4.three.two.cls⟩, h4.three.acts, h4.ends, fun n hn => (hm n hn).ok⟩) wo HBR.out)
      clear hTr
      go_wp2_with (fail)
      go_ret
      exact HF.out
    cases b
    case false =>
      have HF := Lib.hid (HFIN.out false (HN.out rfl) wo HBR.out)
      clear hTr
      go_wp2_with (fail)
      go_ret
      exact HF.out
    obtain ⟨bb, off, hC, hbB2, d0, d1, Ao, co, d2, hri, hcc, hm⟩ := hTr.mem.nodes.at_ hlt
    have HXA := Lib.hid (show t.A = some ⟨bb, off, none⟩ from hC)
    have HTR := Lib.hid hTr
    obtain ⟨a, ha⟩ : ∃ a, t.T.nodes[k] = a := ⟨_, rfl⟩
    have HIN := Lib.hid (show a ∈ t.T.nodes by rw [← ha]; exact List.getElem_mem hlt)
    rw [ha] at d0 d1 d2 hcc hm hri
    have HYS := Lib.hid (fun (q : NdOk t.T a) W (hW : Below wo.heap.size wo W) => show OkL (fun k => Chk4 t.T ∧ ∀ j (hj : j < t.T.nodes.length), j < k → NdOk t.T t.T.nodes[j]) t.T.nodes.length v w1 (.bool true) (.int .i64 ((k : Int) + 1)) W from ⟨k + 1, true, by omega, by go_num, rfl, fun _ => ⟨(HY.out rfl).1, all_next hlt ha (HY.out rfl).2 q⟩, (fun e => by cases e), HBR.out.trans (hW.mono hzr)⟩)
    have HNS := Lib.hid (fun (q : v = false) W (hW : Below wo.heap.size wo W) => show OkL (fun k => Chk4 t.T ∧ ∀ j (hj : j < t.T.nodes.length), j < k → NdOk t.T t.T.nodes[j]) t.T.nodes.length v w1 (.bool false) (.int .i64 ((k : Int) + 1)) W from ⟨k + 1, false, by omega, by go_num, rfl, (fun e => by cases e), fun _ => q, HBR.out.trans (hW.mono hzr)⟩)
    rw [hC] at cA
    clear hC hTr ha
    unfold maxLen at hm
    obtain ⟨held, end_, nx⟩ := a
    simp only at d0 d1 d2 hcc hm hri
    obtain ⟨NB, hNB⟩ : ∃ NB, wo.heap.size = NB := ⟨_, rfl⟩
    obtain ⟨w5, hw5⟩ : ∃ w5, wo.alloc (.cells #[.int .i64 held, .slice Ao nx.length co, .int .i64 end_] 45) = w5 := ⟨_, rfl⟩
    have q0 : w5.cell? ⟨NB, 0, none⟩ = some (.int .i64 held) := by rw [← hw5, ← hNB]; simp
    have q1 : w5.cell? ⟨NB, 1, none⟩ = some (.slice Ao nx.length co) := by rw [← hw5, ← hNB]; simp
    have q2 : w5.cell? ⟨NB, 2, none⟩ = some (.int .i64 end_) := by rw [← hw5, ← hNB]; simp
    have hs5 : w5.heap.size = NB + 1 := by rw [← hw5, ← hNB]; simp
    have hb5 : Below wo.heap.size wo w5 := by rw [← hw5]; exact (Below.refl _ _).alloc (Nat.le_refl _) _
    have cC5 := (HTR.out.below hb5).cC
    have HB5 := Lib.hid hb5
    have HT5 := Lib.hid (HTR.out.below hb5)
    have HRI := Lib.hid (hri.belowM hb5)
    have HBR5 := Lib.hid (HBR.out.trans (hb5.mono hzr))
    have HS5 := Lib.hid hs5
    have HNB := Lib.hid hNB
    have HHL := Lib.hid (show H < NB from by have := HS1.out; rw [← hNB]; omega)
    clear hb5 hzr hs5 hri
    go_upto_region 23 with (fail)
    have HW5 := Lib.hid hw5
    have HNN := Lib.hid hNB
    clear hw5 hNB d0 d1 d2 cA cC
    by_cases j0 : 0 ≤ held
    case neg => as_aux_lemma =>
      have HP := Lib.hid (HFIN.out false (HNO.out fun q => j0 (q.sizes.each _ HIN.out).2.1) w5 HBR5.out)
      clear cC5
      clear HNO HYES HFIN HTW HK HWID HYS HNS HTR HXA HIN HT5 HRI HBR5 HB5 HHL HS5 HNB HNN HW5 HH2 HS1 HY HN HBR HY4 HN4 HB4 hla hlb hlc k1 k1' k1'' k2 k3 k4
      go_wp2_with (fail)
      go_ret
      exact HP.out
    by_cases j1 : held ≤ 4
    case neg => as_aux_lemma =>
      have HP := Lib.hid (HFIN.out false (HNO.out fun q => j1 (q.sizes.each _ HIN.out).2.2) w5 HBR5.out)
      clear cC5
      clear HNO HYES HFIN HTW HK HWID HYS HNS HTR HXA HIN HT5 HRI HBR5 HB5 HHL HS5 HNB HNN HW5 HH2 HS1 HY HN HBR HY4 HN4 HB4 hla hlb hlc k1 k1' k1'' k2 k3 k4
      go_wp2_with (fail)
      go_ret
      exact HP.out
    by_cases j2 : nx.length = wid
    case neg => as_aux_lemma =>
      have HP := Lib.hid (HFIN.out false (HNO.out fun q => j2 (by rw [← HWID.out]; exact (q.sizes.each _ HIN.out).1)) w5 HBR5.out)
      have j2' : ¬ ((nx.length : Int) = (wid : Int)) := by omega
      have j2'' : ((nx.length : Int) != (wid : Int)) = true := by simp; omega
      clear cC5
      clear HNO HYES HFIN HTW HK HWID HYS HNS HTR HXA HIN HT5 HRI HBR5 HB5 HHL HS5 HNB HNN HW5 HH2 HS1 HY HN HBR HY4 HN4 HB4 hla hlb hlc k1 k1' k1'' k2 k3 k4
      go_wp2_with (fail)
      go_ret
      exact HP.out
    have HJ2 := Lib.hid j2
    rw [j2] at q1 hcc hm
    by_cases j3 : -1 ≤ end_
    case neg => as_aux_lemma =>
      have HP := Lib.hid (HFIN.out false (HNO.out fun q => by
        rcases (q.nodes _ HIN.out).1 with z | ⟨z, _⟩
        · exact j3 (by simp only at z; omega)
        · exact j3 (by simp only at z; omega)) w5 HBR5.out)
      clear j2 cC5
      clear HNO HYES HFIN HTW HK HWID HYS HNS HTR HXA HIN HT5 HRI HBR5 HB5 HHL HS5 HNB HNN HW5 HH2 HS1 HY HN HBR HY4 HN4 HB4 hla hlb hlc k1 k1' k1'' k2 k3 k4
      go_wp2_with (fail)
      go_ret
      exact HP.out
    by_cases j4 : end_ < t.T.ends.length
    case neg => as_aux_lemma =>
      have HP := Lib.hid (HFIN.out false (HNO.out fun q => by
        rcases (q.nodes _ HIN.out).1 with z | ⟨z, l, z2, _⟩
        · simp only at z; omega
        · have h9 := (List.getElem?_eq_some_iff.1 z2).1
          simp only at h9 z
          omega) w5 HBR5.out)
      clear j2
      clear HNO HYES HFIN HTW HK HWID HYS HNS HTR HXA HIN HT5 HRI HBR5 HB5 HHL HS5 HNB HNN HW5 HH2 HS1 HY HN HBR HY4 HN4 HB4 hla hlb hlc k1 k1' k1'' k2 k3 k4
      go_wp2_with (fail)
      go_ret
      exact HP.out
    clear j2
    go_upto_region 25 with (fail)
    go_cut [4] (fun ok wx => OkC (EndOk t.T held end_) v w5 ok wx)
    case first => as_aux_lemma =>
      by_cases e1 : end_ = -1
      · have HP := Lib.hid (show EndOk t.T held end_ from .inl e1)
        subst e1
        go_quiet (fail)
        go_wp2_with (fail)
        go_meet
        case rel => exact ⟨true, rfl, fun _ => HP.out, (fun e => by cases e), below_drewN (Below.refl _ _) nq⟩
      have e1' : (end_ == -1) = false := by simpa using e1
      obtain ⟨j, rfl⟩ := Int.eq_ofNat_of_zero_le (show 0 ≤ end_ by omega)
      have j5 : j < t.T.ends.length := by omega
      obtain ⟨be, offe, hC, hbe, Ae, ce, z0, hrt, hce, hme⟩ := HT5.out.mem.ends.at_ j5
      obtain ⟨l, hl⟩ : ∃ l, t.T.ends[j] = l := ⟨_, rfl⟩
      rw [hl] at z0 hrt hce hme
      have HLE := Lib.hid (show t.T.ends[j]? = some l by rw [← hl]; exact List.getElem?_eq_getElem j5)
      have HC := Lib.hid (fun W (hW : Below w5.heap.size w5 W) => terms17_any Ae ce l held W (hrt.belowM hW) hme)
      obtain ⟨tv, htv⟩ : ∃ tv, termsOk held l = tv := ⟨_, rfl⟩
      rw [htv] at HC
      have HYE := Lib.hid (show tv = true → EndOk t.T held (j : Int) from fun q => .inr ⟨by omega, l, by rw [Int.toNat_natCast]; exact HLE.out, htv.trans q⟩)
      have HNE := Lib.hid (show tv = false → v = false from fun q => HNO.out fun z => by
        rcases (z.nodes _ HIN.out).1 with z | ⟨_, l', z2, z3⟩
        · exact e1 z
        · simp only [Int.toNat_natCast] at z2 z3
          rw [HLE.out] at z2
          injection z2 with z2
          subst z2
          rw [htv, q] at z3
          cases z3)
      have HXC := Lib.hid (show t.C = some ⟨be, offe, none⟩ from hC)
      have HBE := Lib.hid hbe
      rw [hC] at cC5
      unfold maxLen at hme
      have i1 : (0 : Int) ≤ (j : Int) := Int.natCast_nonneg _
      have i2 : (j : Int) < (t.T.ends.length : Int) := by omega
      clear hC hl hrt hbe htv
      obtain ⟨we, hwe⟩ : ∃ we, w5.drew = we := ⟨_, rfl⟩
      have hB : Below w5.heap.size w5 we := by rw [← hwe]; exact (Below.refl _ _).drew
      refine wp_region_held_drew (S := fun W => Below w5.heap.size w5 W) (by kernel_rfl) (by rw [hwe]; exact hB) (fun hHeld => ?_)
      rw [hwe]
      rw [hwe] at hHeld
      clear hwe
      refine wpAnyH_take (i := 0) (oi := { dst := some 181, op := Go.Op.fieldAddr 45 (Go.Operand.tmp 10) 2, type := 0, pos := "ref.go:194", after := #[], guard := none }) (v := ?_) rfl (by kernel_rfl) (by kernel_rfl) (by kernel_rfl) (fun _ _ _ h => h) (Or.inl ⟨by rfl, ?_⟩) (by assumption) ?_
      rotate_left
      · intro w' hSw
        (try dsimp only at hSw)
        have x0 := (hSw.cell (p := ⟨NB, 0, none⟩) (by have := HS5.out; simp only; omega)).trans q0
        have x1 := (hSw.cell (p := ⟨NB, 1, none⟩) (by have := HS5.out; simp only; omega)).trans q1
        have x2 := (hSw.cell (p := ⟨NB, 2, none⟩) (by have := HS5.out; simp only; omega)).trans q2
        have x3 := (hSw.cell (p := ⟨H, 258, none⟩) (by have := HS5.out; have := HHL.out; simp only; omega)).trans cC5
        have x4 := (hSw.cell (p := ⟨be, offe + j, none⟩) HBE.out).trans z0
        go_simp
        all_goals with_reducible rfl
      try simp only [Act.put, List.setIfInBounds_toArray, List.set_cons_zero, List.set_cons_succ]
      refine wpAnyH_take (i := 1) (oi := { dst := some 182, op := Go.Op.load 3 (Go.Operand.tmp 181), type := 3, pos := "ref.go:194", after := #[{ on := 0, ground := Go.Ground.data }], guard := none }) (v := ?_) rfl (by kernel_rfl) (by kernel_rfl) (by kernel_rfl) (fun _ _ _ h => h) (Or.inl ⟨by rfl, ?_⟩) (by assumption) ?_
      rotate_left
      · intro w' hSw
        (try dsimp only at hSw)
        have x0 := (hSw.cell (p := ⟨NB, 0, none⟩) (by have := HS5.out; simp only; omega)).trans q0
        have x1 := (hSw.cell (p := ⟨NB, 1, none⟩) (by have := HS5.out; simp only; omega)).trans q1
        have x2 := (hSw.cell (p := ⟨NB, 2, none⟩) (by have := HS5.out; simp only; omega)).trans q2
        have x3 := (hSw.cell (p := ⟨H, 258, none⟩) (by have := HS5.out; have := HHL.out; simp only; omega)).trans cC5
        have x4 := (hSw.cell (p := ⟨be, offe + j, none⟩) HBE.out).trans z0
        go_simp
        all_goals with_reducible rfl
      try simp only [Act.put, List.setIfInBounds_toArray, List.set_cons_zero, List.set_cons_succ]
      refine wpAnyH_take (i := 2) (oi := { dst := some 183, op := Go.Op.binOp Go.BinOp.eql 3 (Go.Operand.tmp 182) (Go.Operand.const (Go.Value.int Go.IntKind.i64 (-1))) 3, type := 4, pos := "ref.go:194", after := #[{ on := 1, ground := Go.Ground.data }], guard := none }) (v := ?_) rfl (by kernel_rfl) (by kernel_rfl) (by kernel_rfl) (fun _ _ _ h => h) (Or.inl ⟨by rfl, ?_⟩) (by assumption) ?_
      rotate_left
      · intro w' hSw
        (try dsimp only at hSw)
        have x0 := (hSw.cell (p := ⟨NB, 0, none⟩) (by have := HS5.out; simp only; omega)).trans q0
        have x1 := (hSw.cell (p := ⟨NB, 1, none⟩) (by have := HS5.out; simp only; omega)).trans q1
        have x2 := (hSw.cell (p := ⟨NB, 2, none⟩) (by have := HS5.out; simp only; omega)).trans q2
        have x3 := (hSw.cell (p := ⟨H, 258, none⟩) (by have := HS5.out; have := HHL.out; simp only; omega)).trans cC5
        have x4 := (hSw.cell (p := ⟨be, offe + j, none⟩) HBE.out).trans z0
        go_simp
        all_goals with_reducible rfl
      try simp only [Act.put, List.setIfInBounds_toArray, List.set_cons_zero, List.set_cons_succ]
      refine wpAnyH_take (i := 3) (oi := { dst := some 184, op := Go.Op.move (Go.Operand.tmp 183), type := 4, pos := "ref.go:194", after := #[{ on := 2, ground := Go.Ground.data }], guard := none }) (v := ?_) rfl (by kernel_rfl) (by kernel_rfl) (by kernel_rfl) (fun _ _ _ h => h) (Or.inl ⟨by rfl, ?_⟩) (by assumption) ?_
      rotate_left
      · intro w' hSw
        (try dsimp only at hSw)
        have x0 := (hSw.cell (p := ⟨NB, 0, none⟩) (by have := HS5.out; simp only; omega)).trans q0
        have x1 := (hSw.cell (p := ⟨NB, 1, none⟩) (by have := HS5.out; simp only; omega)).trans q1
        have x2 := (hSw.cell (p := ⟨NB, 2, none⟩) (by have := HS5.out; simp only; omega)).trans q2
        have x3 := (hSw.cell (p := ⟨H, 258, none⟩) (by have := HS5.out; have := HHL.out; simp only; omega)).trans cC5
        have x4 := (hSw.cell (p := ⟨be, offe + j, none⟩) HBE.out).trans z0
        go_simp
        all_goals with_reducible rfl
      try simp only [Act.put, List.setIfInBounds_toArray, List.set_cons_zero, List.set_cons_succ]
      refine wpAnyH_take (i := 4) (oi := { dst := some 185, op := Go.Op.fieldAddr 27 (Go.Operand.tmp 1) 3, type := 0, pos := "ref.go:194", after := #[{ on := 3, ground := Go.Ground.guard }], guard := some (3, false) }) (v := ?_) rfl (by kernel_rfl) (by kernel_rfl) (by kernel_rfl) (fun _ _ _ h => h) (Or.inl ⟨by rfl, ?_⟩) (by assumption) ?_
      rotate_left
      · intro w' hSw
        (try dsimp only at hSw)
        have x0 := (hSw.cell (p := ⟨NB, 0, none⟩) (by have := HS5.out; simp only; omega)).trans q0
        have x1 := (hSw.cell (p := ⟨NB, 1, none⟩) (by have := HS5.out; simp only; omega)).trans q1
        have x2 := (hSw.cell (p := ⟨NB, 2, none⟩) (by have := HS5.out; simp only; omega)).trans q2
        have x3 := (hSw.cell (p := ⟨H, 258, none⟩) (by have := HS5.out; have := HHL.out; simp only; omega)).trans cC5
        have x4 := (hSw.cell (p := ⟨be, offe + j, none⟩) HBE.out).trans z0
        go_simp
        all_goals with_reducible rfl
      try simp only [Act.put, List.setIfInBounds_toArray, List.set_cons_zero, List.set_cons_succ]
      refine wpAnyH_take (i := 5) (oi := { dst := some 186, op := Go.Op.load 25 (Go.Operand.tmp 185), type := 25, pos := "ref.go:194", after := #[{ on := 4, ground := Go.Ground.data }, { on := 3, ground := Go.Ground.guard }], guard := some (3, false) }) (v := ?_) rfl (by kernel_rfl) (by kernel_rfl) (by kernel_rfl) (fun _ _ _ h => h) (Or.inl ⟨by rfl, ?_⟩) (by assumption) ?_
      rotate_left
      · intro w' hSw
        (try dsimp only at hSw)
        have x0 := (hSw.cell (p := ⟨NB, 0, none⟩) (by have := HS5.out; simp only; omega)).trans q0
        have x1 := (hSw.cell (p := ⟨NB, 1, none⟩) (by have := HS5.out; simp only; omega)).trans q1
        have x2 := (hSw.cell (p := ⟨NB, 2, none⟩) (by have := HS5.out; simp only; omega)).trans q2
        have x3 := (hSw.cell (p := ⟨H, 258, none⟩) (by have := HS5.out; have := HHL.out; simp only; omega)).trans cC5
        have x4 := (hSw.cell (p := ⟨be, offe + j, none⟩) HBE.out).trans z0
        go_simp
        all_goals with_reducible rfl
      try simp only [Act.put, List.setIfInBounds_toArray, List.set_cons_zero, List.set_cons_succ]
      refine wpAnyH_take (i := 6) (oi := { dst := some 187, op := Go.Op.fieldAddr 45 (Go.Operand.tmp 10) 2, type := 0, pos := "ref.go:194", after := #[{ on := 3, ground := Go.Ground.guard }], guard := some (3, false) }) (v := ?_) rfl (by kernel_rfl) (by kernel_rfl) (by kernel_rfl) (fun _ _ _ h => h) (Or.inl ⟨by rfl, ?_⟩) (by assumption) ?_
      rotate_left
      · intro w' hSw
        (try dsimp only at hSw)
        have x0 := (hSw.cell (p := ⟨NB, 0, none⟩) (by have := HS5.out; simp only; omega)).trans q0
        have x1 := (hSw.cell (p := ⟨NB, 1, none⟩) (by have := HS5.out; simp only; omega)).trans q1
        have x2 := (hSw.cell (p := ⟨NB, 2, none⟩) (by have := HS5.out; simp only; omega)).trans q2
        have x3 := (hSw.cell (p := ⟨H, 258, none⟩) (by have := HS5.out; have := HHL.out; simp only; omega)).trans cC5
        have x4 := (hSw.cell (p := ⟨be, offe + j, none⟩) HBE.out).trans z0
        go_simp
        all_goals with_reducible rfl
      try simp only [Act.put, List.setIfInBounds_toArray, List.set_cons_zero, List.set_cons_succ]
      refine wpAnyH_take (i := 7) (oi := { dst := some 188, op := Go.Op.load 3 (Go.Operand.tmp 187), type := 3, pos := "ref.go:194", after := #[{ on := 6, ground := Go.Ground.data }, { on := 3, ground := Go.Ground.guard }], guard := some (3, false) }) (v := ?_) rfl (by kernel_rfl) (by kernel_rfl) (by kernel_rfl) (fun _ _ _ h => h) (Or.inl ⟨by rfl, ?_⟩) (by assumption) ?_
      rotate_left
      · intro w' hSw
        (try dsimp only at hSw)
        have x0 := (hSw.cell (p := ⟨NB, 0, none⟩) (by have := HS5.out; simp only; omega)).trans q0
        have x1 := (hSw.cell (p := ⟨NB, 1, none⟩) (by have := HS5.out; simp only; omega)).trans q1
        have x2 := (hSw.cell (p := ⟨NB, 2, none⟩) (by have := HS5.out; simp only; omega)).trans q2
        have x3 := (hSw.cell (p := ⟨H, 258, none⟩) (by have := HS5.out; have := HHL.out; simp only; omega)).trans cC5
        have x4 := (hSw.cell (p := ⟨be, offe + j, none⟩) HBE.out).trans z0
        go_simp
        all_goals with_reducible rfl
      try simp only [Act.put, List.setIfInBounds_toArray, List.set_cons_zero, List.set_cons_succ]
      refine wpAnyH_take (i := 8) (oi := { dst := some 189, op := Go.Op.indexAddr 25 (Go.Operand.tmp 186) (Go.Operand.tmp 188), type := 0, pos := "ref.go:194", after := #[{ on := 5, ground := Go.Ground.data }, { on := 7, ground := Go.Ground.data }, { on := 3, ground := Go.Ground.guard }], guard := some (3, false) }) (v := ?_) rfl (by kernel_rfl) (by kernel_rfl) (by kernel_rfl) (fun _ _ _ h => h) (Or.inl ⟨by rfl, ?_⟩) (by assumption) ?_
      rotate_left
      · intro w' hSw
        (try dsimp only at hSw)
        have x0 := (hSw.cell (p := ⟨NB, 0, none⟩) (by have := HS5.out; simp only; omega)).trans q0
        have x1 := (hSw.cell (p := ⟨NB, 1, none⟩) (by have := HS5.out; simp only; omega)).trans q1
        have x2 := (hSw.cell (p := ⟨NB, 2, none⟩) (by have := HS5.out; simp only; omega)).trans q2
        have x3 := (hSw.cell (p := ⟨H, 258, none⟩) (by have := HS5.out; have := HHL.out; simp only; omega)).trans cC5
        have x4 := (hSw.cell (p := ⟨be, offe + j, none⟩) HBE.out).trans z0
        go_simp
        all_goals with_reducible rfl
      try simp only [Act.put, List.setIfInBounds_toArray, List.set_cons_zero, List.set_cons_succ]
      refine wpAnyH_take (i := 9) (oi := { dst := some 190, op := Go.Op.load 47 (Go.Operand.tmp 189), type := 47, pos := "ref.go:194", after := #[{ on := 8, ground := Go.Ground.data }, { on := 3, ground := Go.Ground.guard }], guard := some (3, false) }) (v := ?_) rfl (by kernel_rfl) (by kernel_rfl) (by kernel_rfl) (fun _ _ _ h => h) (Or.inl ⟨by rfl, ?_⟩) (by assumption) ?_
      rotate_left
      · intro w' hSw
        (try dsimp only at hSw)
        have x0 := (hSw.cell (p := ⟨NB, 0, none⟩) (by have := HS5.out; simp only; omega)).trans q0
        have x1 := (hSw.cell (p := ⟨NB, 1, none⟩) (by have := HS5.out; simp only; omega)).trans q1
        have x2 := (hSw.cell (p := ⟨NB, 2, none⟩) (by have := HS5.out; simp only; omega)).trans q2
        have x3 := (hSw.cell (p := ⟨H, 258, none⟩) (by have := HS5.out; have := HHL.out; simp only; omega)).trans cC5
        have x4 := (hSw.cell (p := ⟨be, offe + j, none⟩) HBE.out).trans z0
        go_simp
        all_goals with_reducible rfl
      try simp only [Act.put, List.setIfInBounds_toArray, List.set_cons_zero, List.set_cons_succ]
      refine wpAnyH_take (i := 10) (oi := { dst := some 191, op := Go.Op.fieldAddr 45 (Go.Operand.tmp 10) 0, type := 0, pos := "ref.go:194", after := #[{ on := 3, ground := Go.Ground.guard }], guard := some (3, false) }) (v := ?_) rfl (by kernel_rfl) (by kernel_rfl) (by kernel_rfl) (fun _ _ _ h => h) (Or.inl ⟨by rfl, ?_⟩) (by assumption) ?_
      rotate_left
      · intro w' hSw
        (try dsimp only at hSw)
        have x0 := (hSw.cell (p := ⟨NB, 0, none⟩) (by have := HS5.out; simp only; omega)).trans q0
        have x1 := (hSw.cell (p := ⟨NB, 1, none⟩) (by have := HS5.out; simp only; omega)).trans q1
        have x2 := (hSw.cell (p := ⟨NB, 2, none⟩) (by have := HS5.out; simp only; omega)).trans q2
        have x3 := (hSw.cell (p := ⟨H, 258, none⟩) (by have := HS5.out; have := HHL.out; simp only; omega)).trans cC5
        have x4 := (hSw.cell (p := ⟨be, offe + j, none⟩) HBE.out).trans z0
        go_simp
        all_goals with_reducible rfl
      try simp only [Act.put, List.setIfInBounds_toArray, List.set_cons_zero, List.set_cons_succ]
      refine wpAnyH_take (i := 11) (oi := { dst := some 192, op := Go.Op.load 3 (Go.Operand.tmp 191), type := 3, pos := "ref.go:194", after := #[{ on := 10, ground := Go.Ground.data }, { on := 3, ground := Go.Ground.guard }], guard := some (3, false) }) (v := ?_) rfl (by kernel_rfl) (by kernel_rfl) (by kernel_rfl) (fun _ _ _ h => h) (Or.inl ⟨by rfl, ?_⟩) (by assumption) ?_
      rotate_left
      · intro w' hSw
        (try dsimp only at hSw)
        have x0 := (hSw.cell (p := ⟨NB, 0, none⟩) (by have := HS5.out; simp only; omega)).trans q0
        have x1 := (hSw.cell (p := ⟨NB, 1, none⟩) (by have := HS5.out; simp only; omega)).trans q1
        have x2 := (hSw.cell (p := ⟨NB, 2, none⟩) (by have := HS5.out; simp only; omega)).trans q2
        have x3 := (hSw.cell (p := ⟨H, 258, none⟩) (by have := HS5.out; have := HHL.out; simp only; omega)).trans cC5
        have x4 := (hSw.cell (p := ⟨be, offe + j, none⟩) HBE.out).trans z0
        go_simp
        all_goals with_reducible rfl
      try simp only [Act.put, List.setIfInBounds_toArray, List.set_cons_zero, List.set_cons_succ]
      refine wpAnyH_ready (rs := [12]) (by kernel_rfl) (by simp) ?_
      refine (AllReadyH.cons (o := { dst := some 193, op := Go.Op.call { callee := Go.Callee.value (Go.Operand.func 35), args := #[Go.Operand.tmp 190, Go.Operand.tmp 192], argTypes := #[47, 3] }, type := 4, pos := "ref.go:194", after := #[{ on := 9, ground := Go.Ground.data }, { on := 11, ground := Go.Ground.data }, { on := 3, ground := Go.Ground.chain }, { on := 3, ground := Go.Ground.guard }], guard := some (3, false) }) rfl (fun K hK => ?_) AllReadyH.nil)
      have hC := HC.out _ hB
      go_simp
      go_wp2_with (go_at_call 35; (with_reducible refine hC.mono ?_); rintro e1 wf ⟨rfl, hbf⟩)
      clear hC
      have hB := hB.trans (hbf.mono hB.size)
      clear hbf
      refine hK.out _ _ ?_ (fun hHeld => ?_)
      · exact hB
      clear hK K
      try simp only [Act.put, List.setIfInBounds_toArray, List.set_cons_zero, List.set_cons_succ]
      refine wpAnyH_take (i := 13) (oi := { dst := some 194, op := Go.Op.pick (Go.Operand.tmp 184) (Go.Operand.const (Go.Value.bool true)) (Go.Operand.tmp 193), type := 4, pos := "ref.go:194", after := #[{ on := 3, ground := Go.Ground.data }, { on := 12, ground := Go.Ground.data }], guard := none }) (v := ?_) rfl (by kernel_rfl) (by kernel_rfl) (by kernel_rfl) (fun _ _ _ h => h) (Or.inl ⟨by rfl, ?_⟩) (by assumption) ?_
      rotate_left
      · intro w' hSw
        (try dsimp only at hSw)
        have x0 := (hSw.cell (p := ⟨NB, 0, none⟩) (by have := HS5.out; simp only; omega)).trans q0
        have x1 := (hSw.cell (p := ⟨NB, 1, none⟩) (by have := HS5.out; simp only; omega)).trans q1
        have x2 := (hSw.cell (p := ⟨NB, 2, none⟩) (by have := HS5.out; simp only; omega)).trans q2
        have x3 := (hSw.cell (p := ⟨H, 258, none⟩) (by have := HS5.out; have := HHL.out; simp only; omega)).trans cC5
        have x4 := (hSw.cell (p := ⟨be, offe + j, none⟩) HBE.out).trans z0
        go_simp
        all_goals with_reducible rfl
      try simp only [Act.put, List.setIfInBounds_toArray, List.set_cons_zero, List.set_cons_succ]
      refine wpAnyH_take (i := 14) (oi := { dst := some 4, op := Go.Op.assign (Go.Operand.tmp 194), type := 4, pos := "ref.go:194", after := #[{ on := 13, ground := Go.Ground.data }, { on := 12, ground := Go.Ground.chain }, { on := 0, ground := Go.Ground.phase }, { on := 1, ground := Go.Ground.phase }, { on := 2, ground := Go.Ground.phase }, { on := 3, ground := Go.Ground.phase }, { on := 4, ground := Go.Ground.phase }, { on := 5, ground := Go.Ground.phase }, { on := 6, ground := Go.Ground.phase }, { on := 7, ground := Go.Ground.phase }, { on := 8, ground := Go.Ground.phase }, { on := 9, ground := Go.Ground.phase }, { on := 10, ground := Go.Ground.phase }, { on := 11, ground := Go.Ground.phase }, { on := 12, ground := Go.Ground.phase }, { on := 13, ground := Go.Ground.phase }], guard := none }) (v := ?_) rfl (by kernel_rfl) (by kernel_rfl) (by kernel_rfl) (fun _ _ _ h => h) (Or.inl ⟨by rfl, ?_⟩) (by assumption) ?_
      rotate_left
      · intro w' hSw
        (try dsimp only at hSw)
        have x0 := (hSw.cell (p := ⟨NB, 0, none⟩) (by have := HS5.out; simp only; omega)).trans q0
        have x1 := (hSw.cell (p := ⟨NB, 1, none⟩) (by have := HS5.out; simp only; omega)).trans q1
        have x2 := (hSw.cell (p := ⟨NB, 2, none⟩) (by have := HS5.out; simp only; omega)).trans q2
        have x3 := (hSw.cell (p := ⟨H, 258, none⟩) (by have := HS5.out; have := HHL.out; simp only; omega)).trans cC5
        have x4 := (hSw.cell (p := ⟨be, offe + j, none⟩) HBE.out).trans z0
        go_simp
        all_goals with_reducible rfl
      try simp only [Act.put, List.setIfInBounds_toArray, List.set_cons_zero, List.set_cons_succ]
      obtain ⟨wl, rfl⟩ : ∃ wl : World, wl = wf := ⟨_, rfl⟩
      refine wpAnyH_done (by kernel_rfl) ?_ _
      have HBL := Lib.hid hB
      clear hB
      go_wp2_with (fail)
      go_meet
      case rel => exact ⟨tv, rfl, HYE.out, HNE.out, HBL.out⟩
    case rest =>
    obtain ⟨okE, rfl, hyE, hnE, hbE⟩ := hcut
    have HYE := Lib.hid hyE
    have HNE := Lib.hid hnE
    have HBE := Lib.hid hbE
    clear hyE hnE hbE cC5
    go_wp2_with (fail)
    go_loopw [4, 11] (fun ok iv wx => OkL (fun c => EndOk t.T held end_ ∧ ∀ j (hj : j < nx.length), j < c → NextOk t.T held nx[j]) wid v w5 ok iv wx) (fun _ i _ => wid - (intOf i).toNat)
    case atStart => exact ⟨0, okE, Nat.zero_le _, rfl, rfl, fun e => ⟨HYE.out e, fun j _ h => absurd h (by omega)⟩, HNE.out, HBE.out⟩
    case round =>
      obtain ⟨m, b, hmw, rfl, rfl, hy, hn, hbx⟩ := hrel
      have HY2 := Lib.hid hy
      have HN2 := Lib.hid hn
      have HBX := Lib.hid hbx
      clear hy hn
      by_cases hlt2 : m < wid
      case neg =>
        have HF := Lib.hid (show OkL (fun k => Chk4 t.T ∧ ∀ j (hj : j < t.T.nodes.length), j < k → NdOk t.T t.T.nodes[j]) t.T.nodes.length v w1 (.bool b) (.int .i64 ((k : Int) + 1)) wr from by
          have hbb : Below wo.heap.size wo wr := HB5.out.trans (HBX.out.mono HB5.out.size)
          cases b
          · exact HNS.out (HN2.out rfl) wr hbb
          · obtain ⟨he, hall⟩ := HY2.out rfl
            exact HYS.out ⟨by rw [HWID.out]; exact HJ2.out, j0, j1, he, all_mem (by rw [HJ2.out]; exact hlt2) hall⟩ wr hbb)
        clear hbx
        go_wp2_with (fail)
        go_roundw
        case rel => exact HF.out
        case measure => simp [intOf]; omega
      cases b
      case false =>
        have HF := Lib.hid (HNS.out (HN2.out rfl) wr (HB5.out.trans (HBX.out.mono HB5.out.size)))
        clear hbx
        go_wp2_with (fail)
        go_roundw
        case rel => exact HF.out
        case measure => simp [intOf]; omega
      have hml : m < nx.length := by rw [HJ2.out]; exact hlt2
      obtain ⟨b2, off2, hA2, hb2, y0⟩ := HRI.out.at_ hml
      obtain ⟨x, hx⟩ : ∃ x, nx[m] = x := ⟨_, rfl⟩
      have HXR := Lib.hid (show IntR x by rw [← hx]; exact HRI.out.2.2 _ (List.getElem_mem hml))
      have HXI := Lib.hid (show x ∈ nx by rw [← hx]; exact List.getElem_mem hml)
      rw [hx] at y0
      have HC := Lib.hid (fun W (hW : Below w5.heap.size w5 W) => show Calls Try.prog 36 #[.agg t.cells.toArray, .agg #[.int .i64 held, .slice Ao wid co, .int .i64 end_], .int .i64 x] W (RetB (propB (NextOk t.T held x)) W) from next17_any t Ao co held end_ wid x W (HT5.out.below hW).mem j0 j1 HXR.out)
      obtain ⟨nv, hnv⟩ : ∃ nv, propB (NextOk t.T held x) = nv := ⟨_, rfl⟩
      rw [hnv] at HC
      have HFI := Lib.hid (fun W (hW : Below w5.heap.size w5 W) => show OkL (fun c => EndOk t.T held end_ ∧ ∀ j (hj : j < nx.length), j < c → NextOk t.T held nx[j]) wid v w5 (.bool nv) (.int .i64 ((m : Int) + 1)) W from ⟨m + 1, nv, by omega, by go_num, rfl, fun q => ⟨(HY2.out rfl).1, all_next hml hx (HY2.out rfl).2 (propB_iff.1 (hnv.trans q))⟩, fun q => HNO.out fun z => (by
        have := propB_iff.2 ((z.nodes _ HIN.out).2 x HXI.out)
        simp only at this
        rw [hnv, q] at this
        cases this), hW⟩)
      have HXO := Lib.hid hA2
      rw [hA2] at q1 HC
      have HB2B := Lib.hid (show b2 < w5.heap.size from hb2)
      have i1 : (0 : Int) ≤ (m : Int) := Int.natCast_nonneg _
      have i2 : (m : Int) < (wid : Int) := by omega
      clear hx hnv hA2 hb2
      go_upto_region 29 with (fail)
      obtain ⟨we, hwe⟩ : ∃ we, wr.drew = we := ⟨_, rfl⟩
      have hB : Below w5.heap.size w5 we := by rw [← hwe]; exact hbx.drew
      clear hbx
      refine wp_region_held_drew (S := fun W => Below w5.heap.size w5 W) (by kernel_rfl) (by rw [hwe]; exact hB) (fun hHeld => ?_)
      rw [hwe]
      rw [hwe] at hHeld
      clear hwe
      refine wpAnyH_take (i := 1) (oi := { dst := some 204, op := Go.Op.load 45 (Go.Operand.tmp 10), type := 45, pos := "ref.go:196", after := #[], guard := none }) (v := ?_) rfl (by kernel_rfl) (by kernel_rfl) (by kernel_rfl) (fun _ _ _ h => h) (Or.inl ⟨by rfl, ?_⟩) (by assumption) ?_
      rotate_left
      · intro w' hSw
        (try dsimp only at hSw)
        have x0 := (hSw.cell (p := ⟨NB, 0, none⟩) (by have := HS5.out; simp only; omega)).trans q0
        have x1 := (hSw.cell (p := ⟨NB, 1, none⟩) (by have := HS5.out; simp only; omega)).trans q1
        have x2 := (hSw.cell (p := ⟨NB, 2, none⟩) (by have := HS5.out; simp only; omega)).trans q2
        have x4 := (hSw.cell (p := ⟨b2, off2 + m, none⟩) HB2B.out).trans y0
        go_simp
        all_goals with_reducible rfl
      try simp only [Act.put, List.setIfInBounds_toArray, List.set_cons_zero, List.set_cons_succ]
      refine wpAnyH_take (i := 2) (oi := { dst := some 205, op := Go.Op.fieldAddr 45 (Go.Operand.tmp 10) 1, type := 0, pos := "ref.go:196", after := #[], guard := none }) (v := ?_) rfl (by kernel_rfl) (by kernel_rfl) (by kernel_rfl) (fun _ _ _ h => h) (Or.inl ⟨by rfl, ?_⟩) (by assumption) ?_
      rotate_left
      · intro w' hSw
        (try dsimp only at hSw)
        have x0 := (hSw.cell (p := ⟨NB, 0, none⟩) (by have := HS5.out; simp only; omega)).trans q0
        have x1 := (hSw.cell (p := ⟨NB, 1, none⟩) (by have := HS5.out; simp only; omega)).trans q1
        have x2 := (hSw.cell (p := ⟨NB, 2, none⟩) (by have := HS5.out; simp only; omega)).trans q2
        have x4 := (hSw.cell (p := ⟨b2, off2 + m, none⟩) HB2B.out).trans y0
        go_simp
        all_goals with_reducible rfl
      try simp only [Act.put, List.setIfInBounds_toArray, List.set_cons_zero, List.set_cons_succ]
      refine wpAnyH_take (i := 3) (oi := { dst := some 206, op := Go.Op.load 43 (Go.Operand.tmp 205), type := 43, pos := "ref.go:196", after := #[{ on := 2, ground := Go.Ground.data }], guard := none }) (v := ?_) rfl (by kernel_rfl) (by kernel_rfl) (by kernel_rfl) (fun _ _ _ h => h) (Or.inl ⟨by rfl, ?_⟩) (by assumption) ?_
      rotate_left
      · intro w' hSw
        (try dsimp only at hSw)
        have x0 := (hSw.cell (p := ⟨NB, 0, none⟩) (by have := HS5.out; simp only; omega)).trans q0
        have x1 := (hSw.cell (p := ⟨NB, 1, none⟩) (by have := HS5.out; simp only; omega)).trans q1
        have x2 := (hSw.cell (p := ⟨NB, 2, none⟩) (by have := HS5.out; simp only; omega)).trans q2
        have x4 := (hSw.cell (p := ⟨b2, off2 + m, none⟩) HB2B.out).trans y0
        go_simp
        all_goals with_reducible rfl
      try simp only [Act.put, List.setIfInBounds_toArray, List.set_cons_zero, List.set_cons_succ]
      refine wpAnyH_take (i := 4) (oi := { dst := some 207, op := Go.Op.move (Go.Operand.tmp 11), type := 3, pos := "ref.go:196", after := #[], guard := none }) (v := ?_) rfl (by kernel_rfl) (by kernel_rfl) (by kernel_rfl) (fun _ _ _ h => h) (Or.inl ⟨by rfl, ?_⟩) (by assumption) ?_
      rotate_left
      · intro w' hSw
        (try dsimp only at hSw)
        have x0 := (hSw.cell (p := ⟨NB, 0, none⟩) (by have := HS5.out; simp only; omega)).trans q0
        have x1 := (hSw.cell (p := ⟨NB, 1, none⟩) (by have := HS5.out; simp only; omega)).trans q1
        have x2 := (hSw.cell (p := ⟨NB, 2, none⟩) (by have := HS5.out; simp only; omega)).trans q2
        have x4 := (hSw.cell (p := ⟨b2, off2 + m, none⟩) HB2B.out).trans y0
        go_simp
        all_goals with_reducible rfl
      try simp only [Act.put, List.setIfInBounds_toArray, List.set_cons_zero, List.set_cons_succ]
      refine wpAnyH_take (i := 5) (oi := { dst := some 208, op := Go.Op.indexAddr 43 (Go.Operand.tmp 206) (Go.Operand.tmp 207), type := 0, pos := "ref.go:196", after := #[{ on := 3, ground := Go.Ground.data }, { on := 4, ground := Go.Ground.data }], guard := none }) (v := ?_) rfl (by kernel_rfl) (by kernel_rfl) (by kernel_rfl) (fun _ _ _ h => h) (Or.inl ⟨by rfl, ?_⟩) (by assumption) ?_
      rotate_left
      · intro w' hSw
        (try dsimp only at hSw)
        have x0 := (hSw.cell (p := ⟨NB, 0, none⟩) (by have := HS5.out; simp only; omega)).trans q0
        have x1 := (hSw.cell (p := ⟨NB, 1, none⟩) (by have := HS5.out; simp only; omega)).trans q1
        have x2 := (hSw.cell (p := ⟨NB, 2, none⟩) (by have := HS5.out; simp only; omega)).trans q2
        have x4 := (hSw.cell (p := ⟨b2, off2 + m, none⟩) HB2B.out).trans y0
        go_simp
        all_goals with_reducible rfl
      try simp only [Act.put, List.setIfInBounds_toArray, List.set_cons_zero, List.set_cons_succ]
      refine wpAnyH_take (i := 6) (oi := { dst := some 209, op := Go.Op.load 3 (Go.Operand.tmp 208), type := 3, pos := "ref.go:196", after := #[{ on := 5, ground := Go.Ground.data }], guard := none }) (v := ?_) rfl (by kernel_rfl) (by kernel_rfl) (by kernel_rfl) (fun _ _ _ h => h) (Or.inl ⟨by rfl, ?_⟩) (by assumption) ?_
      rotate_left
      · intro w' hSw
        (try dsimp only at hSw)
        have x0 := (hSw.cell (p := ⟨NB, 0, none⟩) (by have := HS5.out; simp only; omega)).trans q0
        have x1 := (hSw.cell (p := ⟨NB, 1, none⟩) (by have := HS5.out; simp only; omega)).trans q1
        have x2 := (hSw.cell (p := ⟨NB, 2, none⟩) (by have := HS5.out; simp only; omega)).trans q2
        have x4 := (hSw.cell (p := ⟨b2, off2 + m, none⟩) HB2B.out).trans y0
        go_simp
        all_goals with_reducible rfl
      try simp only [Act.put, List.setIfInBounds_toArray, List.set_cons_zero, List.set_cons_succ]
      refine wpAnyH_ready (rs := [0]) (by kernel_rfl) (by simp) ?_
      refine (AllReadyH.cons (o := { dst := some 203, op := Go.Op.load 27 (Go.Operand.tmp 1), type := 27, pos := "ref.go:196", after := #[], guard := none }) rfl (fun K hK => ?_) AllReadyH.nil)
      have hTl := HT5.out.below hB
      refine wp_load_row 27 _ rfl H rfl _ _ _ _ hTl.box Try.underlying27 rfl (tabSize' hTl.mem.cls) ?_
      clear hTl
      refine hK.out _ _ ?_ (fun hHeld => ?_)
      · exact hB
      clear hK K
      try simp only [Act.put, List.setIfInBounds_toArray, List.set_cons_zero, List.set_cons_succ]
      refine wpAnyH_ready (rs := [7]) (by kernel_rfl) (by simp) ?_
      refine (AllReadyH.cons (o := { dst := some 210, op := Go.Op.call { callee := Go.Callee.value (Go.Operand.func 36), args := #[Go.Operand.tmp 203, Go.Operand.tmp 204, Go.Operand.tmp 209], argTypes := #[27, 45, 3] }, type := 4, pos := "ref.go:196", after := #[{ on := 0, ground := Go.Ground.data }, { on := 1, ground := Go.Ground.data }, { on := 6, ground := Go.Ground.data }], guard := none }) rfl (fun K hK => ?_) AllReadyH.nil)
      have hC := HC.out _ hB
      go_simp
      go_wp2_with (go_at_call 36; (with_reducible refine hC.mono ?_); rintro e1 wf ⟨rfl, hbf⟩)
      clear hC
      have hB := hB.trans (hbf.mono hB.size)
      clear hbf
      refine hK.out _ _ ?_ (fun hHeld => ?_)
      · exact hB
      clear hK K
      try simp only [Act.put, List.setIfInBounds_toArray, List.set_cons_zero, List.set_cons_succ]
      refine wpAnyH_take (i := 8) (oi := { dst := some 4, op := Go.Op.assign (Go.Operand.tmp 210), type := 4, pos := "ref.go:196", after := #[{ on := 7, ground := Go.Ground.data }, { on := 7, ground := Go.Ground.chain }, { on := 0, ground := Go.Ground.phase }, { on := 1, ground := Go.Ground.phase }, { on := 2, ground := Go.Ground.phase }, { on := 3, ground := Go.Ground.phase }, { on := 4, ground := Go.Ground.phase }, { on := 5, ground := Go.Ground.phase }, { on := 6, ground := Go.Ground.phase }, { on := 7, ground := Go.Ground.phase }], guard := none }) (v := ?_) rfl (by kernel_rfl) (by kernel_rfl) (by kernel_rfl) (fun _ _ _ h => h) (Or.inl ⟨by rfl, ?_⟩) (by assumption) ?_
      rotate_left
      · intro w' hSw
        (try dsimp only at hSw)
        have x0 := (hSw.cell (p := ⟨NB, 0, none⟩) (by have := HS5.out; simp only; omega)).trans q0
        have x1 := (hSw.cell (p := ⟨NB, 1, none⟩) (by have := HS5.out; simp only; omega)).trans q1
        have x2 := (hSw.cell (p := ⟨NB, 2, none⟩) (by have := HS5.out; simp only; omega)).trans q2
        have x4 := (hSw.cell (p := ⟨b2, off2 + m, none⟩) HB2B.out).trans y0
        go_simp
        all_goals with_reducible rfl
      try simp only [Act.put, List.setIfInBounds_toArray, List.set_cons_zero, List.set_cons_succ]
      obtain ⟨wl, rfl⟩ : ∃ wl : World, wl = wf := ⟨_, rfl⟩
      refine wpAnyH_done (by kernel_rfl) ?_ _
      have HF := Lib.hid (HFI.out _ hB)
      clear hB
      go_wp2_with (fail)
      go_roundw
      case rel => exact HF.out
      case measure => simp [intOf]; omega
end Go.Proofs.Ytboaifdkoemnbaa.Pk
