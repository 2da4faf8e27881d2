/- The walk of the reference's Scan. -/
import Derived.Test.YtjhgboncipnkeaaDoorUtScalar
import Derived.Test.YtjhgboncipnkeaaDoorUtScan
namespace Go.Proofs.YtjhgboncipnkeaaDoor.Ut
set_option maxRecDepth 100000
open Go Go.RowKit Go.Proofs.YtjhgboncipnkeaaDoor.Wo

def Tried (L : List Int) (w1 : World) (n : Value) (wr : World) : Prop :=
  ∃ j : Nat, 1 ≤ j ∧ j ≤ 5 ∧ j ≤ L.length + 1 ∧ n = .int .i64 j ∧ (∀ q, 1 ≤ q → q < j → ¬ isSeq (L.take q)) ∧ Below w1.heap.size w1 wr
theorem scR_yes {l : List Int} (h : isSeq l) : scR l = (scX l, true) := by unfold scR; rw [if_pos (seqB_iff.2 h)]
theorem scR_no {l : List Int} (h : ¬ isSeq l) : scR l = (0, false) := by unfold scR; rw [if_neg (fun q => h (seqB_iff.1 q))]
theorem not_any {L : List Int} (hl : ByteL L) (hne : L ≠ []) (h : ∀ q, 1 ≤ q → q ≤ 4 → q ≤ L.length → ¬ isSeq (L.take q)) : scanL L = (65533, m3 L, false) := by
  obtain ⟨x, n, ok, e⟩ : ∃ x n ok, scanL L = (x, n, ok) := ⟨_, _, _, rfl⟩
  cases ok
  · obtain ⟨h1, h2⟩ := scan_part hl hne e
    rw [e, h1, h2]
  · obtain ⟨h1, _, h3, h4, h5⟩ := scan_seq hl hne e
    exact absurd h1 (h n.toNat (by omega) (by omega) h3)
def MostR (n : Nat) (mm2 mm3 : Int) (w1 : World) (mo k : Value) (wr : World) : Prop :=
  ∃ (j : Int) (M : Int), k = .int .i64 j ∧ mo = .int .i64 M ∧ ((j = 2 ∧ M = 1) ∨ (j = 3 ∧ 2 ≤ n ∧ M = mm2) ∨ (j = 4 ∧ 3 ≤ n ∧ M = mm3)) ∧ Below w1.heap.size w1 wr
def Inner2R (G23 : Bool) (mm2 : Int) (w1 : World) (mo n : Value) (wr : World) : Prop :=
  ∃ (j : Int) (M : Int), n = .int .i64 j ∧ mo = .int .i64 M ∧ ((j = 3 ∧ M = 1) ∨ (j = 4 ∧ M = if G23 = true then 2 else 1) ∨ (j = 5 ∧ M = mm2)) ∧ Below w1.heap.size w1 wr
def Inner3R (mm2 mm3 : Int) (w1 : World) (mo n : Value) (wr : World) : Prop :=
  ∃ (j : Int) (M : Int), n = .int .i64 j ∧ mo = .int .i64 M ∧ ((j = 4 ∧ M = mm2) ∨ (j = 5 ∧ M = mm3)) ∧ Below w1.heap.size w1 wr
set_option maxHeartbeats 4000000 in
theorem refscan_any (A : Option Addr) (m c : Nat) (l : List Int) (k : Nat) (w : World) (h : RY w w.heap.size A m l) (hl : ByteL l) (hmc : m ≤ c) (hm : m ≤ 1099511627776) (hk : k < m) :
    Calls Tryd.prog 15 #[.slice A m c, .int .i64 k] w (RetT (scanL (l.drop k)) w) := by
  have hlen := h.1
  have hRun := run_from (P := Tryd.prog) Tryd.underlying22 Tryd.sizeOf5 A m c k (by omega) k rfl
  have hcut := ry_cut h c k hmc (by omega)
  have hbl := hl.drop k
  generalize hL : l.drop k = L at hcut hbl
  have hlL : L.length = m - k := by rw [← hL, List.length_drop, hlen]
  have hne : L ≠ [] := fun e => by rw [e] at hlL; simp at hlL; omega
  generalize cutA A c k = A2 at hRun hcut
  obtain ⟨n, hn⟩ : ∃ n, m - k = n := ⟨_, rfl⟩
  obtain ⟨c2, hc2⟩ : ∃ c2, c - k = c2 := ⟨_, rfl⟩
  have hnc : n ≤ c2 := by omega
  have hn1 : 1 ≤ n := by omega
  have hnm : n ≤ 1099511627776 := by omega
  rw [hn, hc2] at hRun
  rw [hn] at hcut hlL
  have HF := Lib.hid (fun W (hW : Below w.heap.size w W) q (hq : q ≤ n) => (((ry_front hcut c2 q hq).below hW).more hW.size))
  have HU := Lib.hid (fun (q : Nat) (hq : q ≤ c2) (z : Int) (hz : z = q) => run_upto (P := Tryd.prog) Tryd.underlying22 Tryd.sizeOf5 A2 n c2 q hq z hz)
  have HBT := Lib.hid (fun q => (fun y hy => hbl y (List.mem_of_mem_take hy) : ByteL (L.take q)))
  have HLL := Lib.hid hlL
  have HNE := Lib.hid hne
  have HBL := Lib.hid hbl
  generalize cutA A2 c2 0 = A3 at HF HU
  clear h hl hcut hbl hL hlen hn hc2 hlL hne hk hmc hm
  go_enter Tryd.func15, Tryd.ntmps15
  go_wp2_with (fail)
  clear hRun
  go_loopw [8] (fun n wr => Tried L w n wr) (fun n _ => 5 - (intOf n).toNat)
  case atStart => exact ⟨1, by omega, by omega, by omega, rfl, fun q h1 h2 => absurd h2 (by omega), Below.refl _ _⟩
  case round =>
    obtain ⟨j, hj1, hj5, hjl, rfl, hno, hb⟩ := hrel
    have HNO := Lib.hid hno
    have HB := Lib.hid hb
    have hsz := hb.size
    rw [HLL.out] at hjl
    clear hno hb
    by_cases hj : j ≤ 4 ∧ j ≤ n
    · obtain ⟨hj4, hjn⟩ := hj
      have hu := HU.out j (by omega) j rfl
      have hSC := scalar_any A3 j c2 (L.take j) wr (HF.out wr HB.out j hjn) (HBT.out j) (by omega)
      have d1 : decide (j ≤ n) = true := decide_eq_true hjn
      by_cases hq : isSeq (L.take j)
      · rw [scR_yes hq] at hSC
        have HR := Lib.hid (seq_scan j (by rw [HLL.out]; exact hjn) hq)
        have HSC := Lib.hid hSC
        clear hSC hq
        go_wp2_with (go_at_call 29; refine HSC.out.mono ?_; rintro e w2 ⟨rfl, hb2⟩)
        go_ret3
        exact ⟨by rw [HR.out]; rfl, HB.out.trans (hb2.mono hsz)⟩
      · rw [scR_no hq] at hSC
        have HQ := Lib.hid hq
        have HSC := Lib.hid hSC
        clear hSC hq
        go_wp2_with (go_at_call 29; refine HSC.out.mono ?_; rintro e w2 ⟨rfl, hb2⟩; have HB2 := Lib.hid (HB.out.trans (hb2.mono hsz)); clear hb2)
        go_roundw
        case rel =>
          refine ⟨j + 1, by omega, by omega, by rw [HLL.out]; omega, by go_num, fun q h1 h2 => ?_, HB2.out⟩
          by_cases e : q = j
          · subst e; exact HQ.out
          · exact HNO.out q h1 (by omega)
        case measure => simp [intOf]; omega
    · have hres := not_any HBL.out HNE.out (fun q h1 h2 h3 => HNO.out q h1 (by rw [HLL.out] at h3; omega))
      have HRES := Lib.hid hres
      have hM2 : m2 L = if 2 ≤ L.length ∧ (begB (L.take 2) 3 = true ∨ begB (L.take 2) 4 = true) then 2 else 1 := rfl
      have hM3 : m3 L = if 3 ≤ L.length ∧ begB (L.take 3) 4 = true then 3 else m2 L := rfl
      rw [HLL.out] at hM2 hM3
      have HM2 := Lib.hid hM2
      have HM3 := Lib.hid hM3
      have d1 : j ≤ 4 → decide (j ≤ n) = false := fun h => decide_eq_false (by omega)
      clear hres hM2 hM3 hj
      have HSC2 := Lib.hid (fun W (hW : Below w.heap.size w W) (h2 : 2 ≤ n) => begins3_any A3 2 c2 (L.take 2) W (HF.out W hW 2 h2) (HBT.out 2) (by omega) (by omega))
      have HSC3 := Lib.hid (fun W (hW : Below w.heap.size w W) (h2 : 2 ≤ n) => begins4_any A3 2 c2 (L.take 2) W (HF.out W hW 2 h2) (HBT.out 2) (by omega) (by omega))
      have HSC4 := Lib.hid (fun W (hW : Below w.heap.size w W) (h2 : 3 ≤ n) => begins4_any A3 3 c2 (L.take 3) W (HF.out W hW 3 h2) (HBT.out 3) (by omega) (by omega))
      have HI := Lib.hid (show ∀ M : Int, M = (if begB (L.take 2) 3 = true then 2 else 1) → M = if begB (L.take 2) 3 = true then 2 else 1 from fun _ h => h)
      generalize begB (L.take 2) 3 = G23 at HM2 HSC2 HI
      generalize begB (L.take 2) 4 = G24 at HM2 HSC3
      generalize begB (L.take 3) 4 = G34 at HM3 HSC4
      generalize m2 L = mm2 at HM2 HM3
      generalize m3 L = mm3 at HM3 HRES
      by_cases hj4 : j ≤ 4
      all_goals
        first | (have d2 := d1 hj4; clear d1) | clear d1
        go_wp2_with (fail)
        go_loopw [11, 12] (fun mo k wr => MostR n mm2 mm3 w mo k wr) (fun _ k _ => 4 - (intOf k).toNat)
        case atStart => exact ⟨2, 1, rfl, rfl, .inl ⟨rfl, rfl⟩, HB.out⟩
        case round =>
          obtain ⟨k, M, rfl, rfl, hcase, hb⟩ := hrel
          have HB2 := Lib.hid hb
          have hsz2 := hb.size
          clear hb
          rcases hcase with ⟨rfl, rfl⟩ | ⟨rfl, h2, rfl⟩ | ⟨rfl, h3, rfl⟩
          · by_cases h2 : 2 ≤ n
            · have hu := HU.out 2 (by omega) 2 rfl
              have dd : decide (2 ≤ n) = true := decide_eq_true h2
              have dd2 : decide ((2 : Int) ≤ (n : Int)) = true := decide_eq_true (by omega)
              go_wp2_with (fail)
              go_loopw [11, 13] (fun mo k wr => Inner2R G23 mm2 w mo k wr) (fun _ k _ => 5 - (intOf k).toNat)
              case atStart => exact ⟨3, 1, rfl, rfl, .inl ⟨rfl, rfl⟩, HB2.out⟩
              case round =>
                obtain ⟨q, M, rfl, rfl, hcase, hb⟩ := hrel
                have HB3 := Lib.hid hb
                have hsz3 := hb.size
                clear hb
                rcases hcase with ⟨rfl, rfl⟩ | ⟨rfl, hM⟩ | ⟨rfl, rfl⟩
                · cases G23
                  · go_wp2_with (go_at_call 30; refine (HSC2.out _ HB3.out h2).mono ?_; rintro e w4 ⟨rfl, hb4⟩; have HB4 := Lib.hid (HB3.out.trans (hb4.mono hsz3)); clear hb4)
                    go_roundw
                    case rel => exact ⟨4, 1, rfl, rfl, .inr (.inl ⟨rfl, rfl⟩), HB4.out⟩
                    case measure => simp [intOf]
                  · go_wp2_with (go_at_call 30; refine (HSC2.out _ HB3.out h2).mono ?_; rintro e w4 ⟨rfl, hb4⟩; have HB4 := Lib.hid (HB3.out.trans (hb4.mono hsz3)); clear hb4)
                    go_roundw
                    case rel => exact ⟨4, 2, rfl, rfl, .inr (.inl ⟨rfl, rfl⟩), HB4.out⟩
                    case measure => simp [intOf]
                · have HMM := Lib.hid hM
                  clear hM
                  cases G24
                  · go_wp2_with (go_at_call 30; refine (HSC3.out _ HB3.out h2).mono ?_; rintro e w4 ⟨rfl, hb4⟩; have HB4 := Lib.hid (HB3.out.trans (hb4.mono hsz3)); clear hb4)
                    go_roundw
                    case rel => exact ⟨5, M, rfl, rfl, .inr (.inr ⟨rfl, by rw [HMM.out, HM2.out]; cases G23 <;> simp [h2]⟩), HB4.out⟩
                    case measure => simp [intOf]
                  · go_wp2_with (go_at_call 30; refine (HSC3.out _ HB3.out h2).mono ?_; rintro e w4 ⟨rfl, hb4⟩; have HB4 := Lib.hid (HB3.out.trans (hb4.mono hsz3)); clear hb4)
                    go_roundw
                    case rel => exact ⟨5, 2, rfl, rfl, .inr (.inr ⟨rfl, by rw [HM2.out]; simp [h2]⟩), HB4.out⟩
                    case measure => simp [intOf]
                · go_wp2_with (fail)
                  go_roundw
                  case rel => exact ⟨3, _, rfl, rfl, .inr (.inl ⟨rfl, h2, rfl⟩), HB3.out⟩
                  case measure => simp [intOf]
            · have dd : decide (2 ≤ n) = false := decide_eq_false h2
              have dd2 : decide ((2 : Int) ≤ (n : Int)) = false := decide_eq_false (by omega)
              have e1 : mm3 = 1 := by rw [HM3.out, if_neg (by omega), HM2.out, if_neg (by omega)]
              have HE := Lib.hid e1
              clear e1
              go_wp2_with (fail)
              go_ret3
              exact ⟨by rw [HRES.out, HE.out]; rfl, HB2.out⟩
          · by_cases h3 : 3 ≤ n
            · have hu := HU.out 3 (by omega) 3 rfl
              have dd : decide (3 ≤ n) = true := decide_eq_true h3
              have dd2 : decide ((3 : Int) ≤ (n : Int)) = true := decide_eq_true (by omega)
              go_wp2_with (fail)
              go_loopw [11, 13] (fun mo k wr => Inner3R M mm3 w mo k wr) (fun _ k _ => 5 - (intOf k).toNat)
              case atStart => exact ⟨4, M, rfl, rfl, .inl ⟨rfl, rfl⟩, HB2.out⟩
              case round =>
                obtain ⟨q, M, rfl, rfl, hcase, hb⟩ := hrel
                have HB3 := Lib.hid hb
                have hsz3 := hb.size
                clear hb
                rcases hcase with ⟨rfl, rfl⟩ | ⟨rfl, rfl⟩
                · cases G34
                  · go_wp2_with (go_at_call 30; refine (HSC4.out _ HB3.out h3).mono ?_; rintro e w4 ⟨rfl, hb4⟩; have HB4 := Lib.hid (HB3.out.trans (hb4.mono hsz3)); clear hb4)
                    go_roundw
                    case rel => exact ⟨5, M, rfl, rfl, .inr ⟨rfl, by rw [HM3.out, if_neg (by simp)]⟩, HB4.out⟩
                    case measure => simp [intOf]
                  · go_wp2_with (go_at_call 30; refine (HSC4.out _ HB3.out h3).mono ?_; rintro e w4 ⟨rfl, hb4⟩; have HB4 := Lib.hid (HB3.out.trans (hb4.mono hsz3)); clear hb4)
                    go_roundw
                    case rel => exact ⟨5, 3, rfl, rfl, .inr ⟨rfl, by rw [HM3.out, if_pos ⟨h3, by trivial⟩]⟩, HB4.out⟩
                    case measure => simp [intOf]
                · go_wp2_with (fail)
                  go_roundw
                  case rel => exact ⟨4, M, rfl, rfl, .inr (.inr ⟨rfl, h3, rfl⟩), HB3.out⟩
                  case measure => simp [intOf]
            · have dd : decide (3 ≤ n) = false := decide_eq_false h3
              have dd2 : decide ((3 : Int) ≤ (n : Int)) = false := decide_eq_false (by omega)
              have e1 : mm3 = M := by rw [HM3.out, if_neg (by omega)]
              have HE := Lib.hid e1
              clear e1
              go_wp2_with (fail)
              go_ret3
              exact ⟨by rw [HRES.out, HE.out]; rfl, HB2.out⟩
          · go_wp2_with (fail)
            go_ret3
            exact ⟨by rw [HRES.out]; rfl, HB2.out⟩
end Go.Proofs.YtjhgboncipnkeaaDoor.Ut
