/- The walk of utf.Scan, for bytes of any length. -/
import Derived.Test.YtjhgboncipnkeaaDoorUtScan
namespace Go.Proofs.YtjhgboncipnkeaaDoor.Ut
set_option maxRecDepth 100000
open Go Go.RowKit Go.Proofs.YtjhgboncipnkeaaDoor.Wo

set_option maxHeartbeats 4000000 in
theorem rscan_big (lo hi f t : Int) (k : Nat) (hk : k < 4) (ht : t ≤ 255) (A : Option Addr) (n c : Nat) (l : List Int) (w : World) (h : RY w w.heap.size A n l) (hl : ByteL l) (hn : 1 ≤ n) (hnc : n ≤ c) (hn2 : n ≤ 9223372036854775807) (hT : TabF w) (hg : 1 < w.heap.size) :
    Calls Tryd.prog 28 #[rw5 lo hi k f t, .slice A n c] w (RetT (rowGo f t l k 0 (l.getD 0 256 % 2 ^ (fbits k).toNat)) w) := by
  obtain ⟨b, off, hA, hbB, hc0⟩ := ry_getD h (k := 0) (by omega)
  subst hA
  rw [Nat.add_zero] at hc0
  have hF := hT k hk
  have hb0 := hl.getD 0
  have hb1 : l.getD 0 256 ≤ 255 := hb0.2.2.2 (by have := h.1; omega)
  have hfb : 3 ≤ fbits k ∧ fbits k ≤ 7 := by
    obtain rfl | rfl | rfl | rfl : k = 0 ∨ k = 1 ∨ k = 2 ∨ k = 3 := by omega
    all_goals simp [fbits]
  have hR := run_from (P := Tryd.prog) Tryd.underlying22 Tryd.sizeOf5 (some ⟨b, off, none⟩) n c 1 hn 1 rfl
  generalize hx0 : l.getD 0 256 = x0 at hc0 hb0 hb1 ⊢
  have HL := Lib.hid (fun W => low_any x0 (fbits k) hb0.1 hb1 hfb.1 hfb.2 W)
  generalize hfk : fbits k = fk at hF hfb HL ⊢
  go_enter Tryd.func28, Tryd.ntmps28
  go_wp2_with (fail)
  go_quiet ((go_at_call 36; exact quiet_w (HL.out _)))
  go_wp2_with (fail)
  have hpp : (0 : Int) < 2 ^ fk.toNat := Int.pow_pos (by decide)
  have hx1 : 0 ≤ x0 % 2 ^ fk.toNat ∧ x0 % 2 ^ fk.toNat < 2 ^ fk.toNat := ⟨Int.emod_nonneg _ (by omega), Int.emod_lt_of_pos _ hpp⟩
  clear hpp
  have hroom : (x0 % 2 ^ fk.toNat + 1) * 64 ^ k ≤ 2097152 := by
    obtain rfl | rfl | rfl | rfl : k = 0 ∨ k = 1 ∨ k = 2 ∨ k = 3 := by omega
    all_goals
      simp only [fbits] at hfk
      subst hfk
      simp at hx1 ⊢
      omega
  generalize hX0 : x0 % 2 ^ fk.toNat = X0 at hx1 hroom ⊢
  have hb1' : Below (w.alloc (.cells #[.int .i64 lo, .int .i64 hi, .int .i64 k, .int .i64 f, .int .i64 t] 49)).heap.size (w.alloc (.cells #[.int .i64 lo, .int .i64 hi, .int .i64 k, .int .i64 f, .int .i64 t] 49)) ((w.alloc (.cells #[.int .i64 lo, .int .i64 hi, .int .i64 k, .int .i64 f, .int .i64 t] 49)).drewN nq) := below_drewN (Below.refl _ _) _
  have hq := boxed5 hb1'
  have hbw := ((Below.refl w.heap.size w).alloc (Nat.le_refl _) (.cells #[.int .i64 lo, .int .i64 hi, .int .i64 k, .int .i64 f, .int .i64 t] 49)).trans (hb1'.mono (by simp))
  have hsz : w.heap.size + 1 ≤ ((w.alloc (.cells #[.int .i64 lo, .int .i64 hi, .int .i64 k, .int .i64 f, .int .i64 t] 49)).drewN nq).heap.size := by have := hb1'.size; simp at this ⊢
  generalize (w.alloc (.cells #[.int .i64 lo, .int .i64 hi, .int .i64 k, .int .i64 f, .int .i64 t] 49)).drewN nq = w1 at hq hbw hsz ⊢
  have HRest := Lib.hid (fun W (hW : Below w1.heap.size w1 W) => (((ry_cut h c 1 hnc hn).below hbw).more hbw.size).below hW)
  have HBW := Lib.hid hbw
  have HQ := Lib.hid hq
  have HT := Lib.hid hT
  generalize hR0 : rowGo f t l k 0 X0 = R at *
  have HR0 := Lib.hid hR0
  have HX0 := Lib.hid hX0
  have HH := Lib.hid h
  clear hb1' hbw hq hT hF hc0 hR0 hfk hX0 hR h hx0 HL hb0
  generalize cutA (some ⟨b, off, none⟩) c 1 = A2 at HRest ⊢
  go_loopw [7, 22] (fun x i wr => ScanRel f t l k (n - 1) R w1 x i wr) (fun _ i _ => k - (intOf i).toNat)
  case atStart => exact ⟨0, X0, Nat.zero_le _, Nat.zero_le _, rfl, rfl, hx1.1, hroom, HR0.out, Below.refl _ _⟩
  case round =>
    obtain ⟨j, X, hj, hjm, rfl, rfl, hX, hroom2, hR, hb⟩ := hrel
    have HRE := Lib.hid hR
    have HB := Lib.hid hb
    have hkk : ∀ q, q.block < w1.heap.size → wr.cell? q = w1.cell? q := fun q hq => hb.cell hq
    obtain ⟨q0, q1, q2, q3, q4⟩ := HQ.out
    have p0 := (hkk ⟨w.heap.size, 0, none⟩ (by simp; omega)).trans q0
    have p1 := (hkk ⟨w.heap.size, 1, none⟩ (by simp; omega)).trans q1
    have p2 := (hkk ⟨w.heap.size, 2, none⟩ (by simp; omega)).trans q2
    have p3 := (hkk ⟨w.heap.size, 3, none⟩ (by simp; omega)).trans q3
    have p4 := (hkk ⟨w.heap.size, 4, none⟩ (by simp; omega)).trans q4
    have hRest := HRest.out wr hb
    have hsz2 := hb.size
    clear hR hb hkk q0 q1 q2 q3 q4
    by_cases hjk : j < k
    · obtain ⟨y, hy⟩ : ∃ y, l.getD (j + 1) 256 = y := ⟨_, rfl⟩
      have hyr := hl.getD (j + 1)
      rw [hy] at hyr
      have hlen : l.length = n := HH.out.1
      have HY := Lib.hid hy
      have hroom3 := room_next hk hjk hX hroom2 (y := y % 64) (by omega)
      have HRO := Lib.hid hroom3.1
      have hX3 := hroom3.2
      by_cases hjn : j = n - 1
      · have hno : ¬ ((if j = 0 then f else 128) ≤ y ∧ y ≤ (if j = 0 then t else 191)) := by
          rintro ⟨_, h2⟩
          split at h2 <;> omega
        have HF := Lib.hid (rowGo_no hjk HRE.out hy hno)
        have e1 : (j == n - 1) = true := by simpa using hjn
        have e2 : ((j : Int) == ((n - 1 : Nat) : Int)) = true := by simp; omega
        clear hy hyr hno hjn hroom3 hlen hRest hroom2
        go_wp2_with (fail)
        go_quiet (fail)
        go_wp2_with (fail)
        go_ret3
        exact ⟨by first | (rw [HF.out]; rfl) | (rw [HX0.out, HR0.out, HF.out]; rfl), below_drewN (HBW.out.trans (HB.out.mono (by omega))) _⟩
      · obtain ⟨b2, off2, hA2, hb2B, hc2⟩ := ry_getD hRest (k := j) (by omega)
        have hc3 : (l.drop 1).getD j 256 = y := by rw [← hy]; simp
        rw [hc3] at hc2
        subst hA2
        have e1 : (j == n - 1) = false := by simpa using hjn
        have e2 : ((j : Int) == ((n - 1 : Nat) : Int)) = false := by simp; omega
        have hy0 : 0 ≤ y := hyr.1
        have hy1 : y ≤ 255 := by omega
        have hBH : ∀ W, Calls Tryd.prog 32 #[rw5 lo hi k f t, .int .i64 j] W (RetV (sp2 (if j = 0 then f else 128) (if j = 0 then t else 191)) W) := fun W => by
          have := behind_any lo hi k f t j W
          by_cases hj0 : j = 0
          · subst hj0; exact this
          · rw [if_neg hj0, if_neg hj0]; rw [if_neg (by omega), if_neg (by omega)] at this; exact this
        have HBH := Lib.hid hBH
        clear hBH
        have HGO := Lib.hid (fun q => rowGo_yes (f := f) (t := t) hjk HRE.out hy q)
        have HNO := Lib.hid (fun q => rowGo_no (f := f) (t := t) hjk HRE.out hy q)
        generalize (if j = 0 then f else 128) = flo at HBH HGO HNO
        generalize (if j = 0 then t else 191) = fhi at HBH HGO HNO
        have HLO := Lib.hid (fun W => low_any y 6 hy0 hy1 (by omega) (by omega) W)
        have hjlt : j < n - 1 := by omega
        have HHAS := Lib.hid (fun W => has1_any flo fhi y hy0 hy1 W)
        obtain ⟨bb, hbb⟩ : ∃ bb, decide (flo ≤ y ∧ y ≤ fhi) = bb := ⟨_, rfl⟩
        rw [hbb] at HHAS
        have HBBB := Lib.hid hbb
        have hbw0 := Below.drew (Below.refl wr.heap.size wr)
        clear hy hyr hjn hroom3 hlen hRest hroom2 hc3 hbb
        cases bb
        all_goals go_wp2_with (fail)
        all_goals
         go_region_held3 (fun w' => Below wr.heap.size wr w' ∧ w'.cell? ⟨w.heap.size, 0, none⟩ = some (.int .i64 lo) ∧ w'.cell? ⟨w.heap.size, 1, none⟩ = some (.int .i64 hi) ∧ w'.cell? ⟨w.heap.size, 2, none⟩ = some (.int .i64 k) ∧ w'.cell? ⟨w.heap.size, 3, none⟩ = some (.int .i64 f) ∧ w'.cell? ⟨w.heap.size, 4, none⟩ = some (.int .i64 t) ∧ w'.cell? ⟨b2, off2 + j, none⟩ = some (.int .u8 y))
          (first | go_keep | (go_split_ands; refine ⟨?_, ?_, ?_, ?_, ?_, ?_, ?_⟩; all_goals (first | assumption | exact Below.drew (by assumption) | (refine below_two (by assumption) hb5 ?_; exact Below.size (by assumption)) | (rw [hb5.cell (by have := Below.size (by assumption : Below wr.heap.size wr _); simp at this ⊢; omega)]; assumption))))
          (first | (go_at_call 32; refine (HBH.out _).mono ?_; rintro e w5 ⟨rfl, hb5⟩) | (go_at_call 26; refine (HHAS.out _).mono ?_; rintro e w5 ⟨rfl, hb5⟩))
        · have HF := Lib.hid (HNO.out (of_decide_eq_false HBBB.out))
          go_split_ands
          have hb6 : Below wr.heap.size wr w5 := by assumption
          have HB6 := Lib.hid hb6
          clear hb6 hb5
          go_wp2_with (fail)
          go_ret3
          exact ⟨by first | (rw [HF.out]; rfl) | (rw [HX0.out, HR0.out, HF.out]; rfl), HBW.out.trans ((HB.out.trans (HB6.out.mono (by omega))).mono (by omega))⟩
        · have HN := Lib.hid (HGO.out (of_decide_eq_true HBBB.out))
          go_split_ands
          have hb6 : Below wr.heap.size wr w5 := by assumption
          have HB6 := Lib.hid hb6
          have HBO := Lib.hid (bor (y := y % 64) hX hX3 (by omega))
          clear hb6 hb5
          go_wp2_with (go_at_call 36; refine (HLO.out _).mono ?_; rintro e w7 ⟨rfl, rfl⟩)
          go_roundw
          case rel => exact ⟨j + 1, X * 64 + y % 64, by omega, by omega, by go_num, by first | rfl | exact congrArg (Value.int .i32) HBO.out, by omega, HRO.out, HN.out, HB.out.trans (HB6.out.mono (by omega))⟩
          case measure => simp [intOf]; omega
    · obtain rfl : j = k := by omega
      have hfin : R = (X, 1 + (j : Int), true) := by have := HRE.out; rw [Nat.sub_self, rowGo] at this; exact this.symm
      have HF := Lib.hid hfin
      clear hfin
      go_wp2_with (fail)
      go_quiet (fail)
      go_wp2_with (fail)
      go_ret3
      exact ⟨by first | (rw [HF.out]; rfl) | (rw [HX0.out, HR0.out, HF.out]; rfl), below_drewN (HBW.out.trans (HB.out.mono (by omega))) _⟩
set_option maxHeartbeats 4000000 in
theorem scan_big (A : Option Addr) (n c : Nat) (l : List Int) (at_ : Int) (w : World) (h : RY w w.heap.size A n l) (hl : ByteL l) (hnc : n ≤ c) (hn2 : n ≤ 9223372036854775807) (hT : TabT w) (hF : TabF w) (hg : 2 ≤ w.heap.size) :
    Calls Tryd.prog 14 #[.slice A n c, .int .i64 at_] w (RetT (scanAt l at_) w) := by
  have hlen := h.1
  by_cases h1 : at_ < 0
  · have hR : scanAt l at_ = (0, 0, false) := if_pos (.inl h1)
    have HR := Lib.hid hR
    clear hR
    go_enter Tryd.func14, Tryd.ntmps14
    go_wp2_with (fail)
    go_ret3
    exact ⟨by rw [HR.out]; rfl, Below.refl _ _⟩
  by_cases h2 : (n : Int) ≤ at_
  · have hR : scanAt l at_ = (0, 0, false) := if_pos (.inr (by omega))
    have HR := Lib.hid hR
    clear hR
    go_enter Tryd.func14, Tryd.ntmps14
    go_wp2_with (fail)
    go_ret3
    exact ⟨by rw [HR.out]; rfl, Below.refl _ _⟩
  obtain ⟨k, rfl⟩ := Int.eq_ofNat_of_zero_le (by omega : 0 ≤ at_)
  have hk : k < n := by omega
  have hR : scanAt l k = scanL (l.drop k) := by unfold scanAt; rw [if_neg (by omega)]; rfl
  obtain ⟨b, off, hA, hbB, hc0⟩ := ry_getD h hk
  subst hA
  have hRun := run_from (P := Tryd.prog) Tryd.underlying22 Tryd.sizeOf5 (some ⟨b, off, none⟩) n c k (by omega) k rfl
  have hcut := ry_cut h c k hnc (by omega)
  have hbl := hl.drop k
  have ha : (l.drop k).getD 0 256 = l.getD k 256 := by simp
  generalize hL : l.drop k = L at hR hcut hbl ha
  have hlL : L.length = n - k := by rw [← hL, List.length_drop, hlen]
  rw [← ha] at hc0
  have hb0 := hbl.getD 0
  have hb1 : L.getD 0 256 ≤ 255 := hb0.2.2.2 (by omega)
  obtain ⟨a, ha2⟩ : ∃ a, L.getD 0 256 = a := ⟨_, rfl⟩
  rw [ha2] at hc0 hb0 hb1
  have HA := Lib.hid ha2
  have HR := Lib.hid hR
  have HC := Lib.hid hcut
  have HBL := Lib.hid hbl
  have HF := Lib.hid hF
  have HTT := Lib.hid hT
  have hsize : (Tryd.prog.info? 50).map (·.size) = some tabL.length := by kernel_rfl
  have HSZ := Lib.hid hsize
  clear hsize
  clear hF hT hR hcut hbl ha2 ha hL h hl
  generalize cutA (some ⟨b, off, none⟩) c k = A2 at *
  go_enter Tryd.func14, Tryd.ntmps14
  go_wp2_with (refine wpList_load_mid rfl 50 (.global 0) rfl 0 0 rfl tabL _ HTT.out Tryd.underlying50 rfl HSZ.out ?_)
  go_loopw [18] (fun i wr => ScanW a w i wr) (fun i _ => 9 - (intOf i).toNat)
  case atStart => exact ⟨0, by omega, rfl, fun q hq => absurd hq (by omega), Below.refl _ _⟩
  case round =>
    obtain ⟨j, hj, rfl, hno, hb⟩ := hrel
    have HNO := Lib.hid hno
    have HB := Lib.hid hb
    have hsz := hb.size
    have hc1 : wr.cell? ⟨b, off + k, none⟩ = some (.int .u8 a) := (hb.cell (p := ⟨b, off + k, none⟩) hbB).trans hc0
    clear hno hb
    by_cases hj9 : j < 9
    · have hidx : ∀ W, (Instr.index 50 (.agg tabL.toArray) (.int .i64 (j : Int))).run Tryd.prog W = .ok (rw5 (rowT j).1 (rowT j).2.1 (rowT j).2.2.1 (rowT j).2.2.2.1 (rowT j).2.2.2.2) W := fun W => run_row j hj9 W
      have hs := row_small j hj9
      have HSR := Lib.hid (fun h1 h2 => scan_row j hj9 L (by rw [HA.out]; exact hb0.1) h1 h2)
      have HNX := Lib.hid (fun (h : ¬ ((rowT j).1 ≤ a ∧ a ≤ (rowT j).2.1)) => (fun (q : Nat) (hq : q < j + 1) => (by
        by_cases e : q = j
        · subst e; exact h
        · exact HNO.out q (by omega) : ¬ ((rowT q).1 ≤ a ∧ a ≤ (rowT q).2.1))))
      rw [HA.out] at HSR
      generalize (rowT j).1 = lo at *
      generalize (rowT j).2.1 = hi at *
      generalize (rowT j).2.2.1 = kk at *
      generalize (rowT j).2.2.2.1 = f at *
      generalize (rowT j).2.2.2.2 = t at *
      have HFI := Lib.hid (first_any lo hi kk f t)
      have HHAS := Lib.hid (fun W => has1_any lo hi a hb0.1 hb1 W)
      obtain ⟨bb, hbb⟩ : ∃ bb, decide (lo ≤ a ∧ a ≤ hi) = bb := ⟨_, rfl⟩
      rw [hbb] at HHAS
      have HBB := Lib.hid hbb
      clear hbb
      obtain ⟨s1, s2⟩ := hs
      go_wp2_with (fail)
      have hq := boxed5 (Below.refl _ (wr.alloc (.cells #[.int .i64 lo, .int .i64 hi, .int .i64 kk, .int .i64 f, .int .i64 t] 49)))
      have hb2 := (Below.refl wr.heap.size wr).alloc (Nat.le_refl _) (.cells #[.int .i64 lo, .int .i64 hi, .int .i64 kk, .int .i64 f, .int .i64 t] 49)
      have hz2 : wr.heap.size + 1 ≤ (wr.alloc (.cells #[.int .i64 lo, .int .i64 hi, .int .i64 kk, .int .i64 f, .int .i64 t] 49)).heap.size := by simp
      generalize wr.alloc (.cells #[.int .i64 lo, .int .i64 hi, .int .i64 kk, .int .i64 f, .int .i64 t] 49) = w2 at *
      obtain ⟨q0, q1, q2, q3, q4⟩ := hq
      have hc2 : w2.cell? ⟨b, off + k, none⟩ = some (.int .u8 a) := (hb2.cell (p := ⟨b, off + k, none⟩) (by simp; omega)).trans hc1
      have HB2 := Lib.hid hb2
      have hbw0 := Below.drew (Below.refl w2.heap.size w2)
      have hbs : b < w2.heap.size := by omega
      have hrs : wr.heap.size < w2.heap.size := by omega
      clear hb2 hc1
      cases bb
      all_goals
        go_region_held3 (fun w' => Below w2.heap.size w2 w' ∧ w'.cell? ⟨wr.heap.size, 0, none⟩ = some (.int .i64 lo) ∧ w'.cell? ⟨wr.heap.size, 1, none⟩ = some (.int .i64 hi) ∧ w'.cell? ⟨wr.heap.size, 2, none⟩ = some (.int .i64 kk) ∧ w'.cell? ⟨wr.heap.size, 3, none⟩ = some (.int .i64 f) ∧ w'.cell? ⟨wr.heap.size, 4, none⟩ = some (.int .i64 t) ∧ w'.cell? ⟨b, off + k, none⟩ = some (.int .u8 a))
          (first | go_keep | (go_split_ands; refine ⟨?_, ?_, ?_, ?_, ?_, ?_, ?_⟩; all_goals (first | assumption | exact Below.drew (by assumption) | (refine below_two (by assumption) hb5 ?_; exact Below.size (by assumption)) | (rw [hb5.cell (by have := Below.size (by assumption : Below w2.heap.size w2 _); simp at this ⊢; omega)]; assumption))))
          (first | (go_at_call 27; refine (HFI.out _).mono ?_; rintro e w5 ⟨rfl, hb5⟩) | (go_at_call 26; refine (HHAS.out _).mono ?_; rintro e w5 ⟨rfl, hb5⟩))
      · go_split_ands
        have hb6 : Below w2.heap.size w2 w5 := by assumption
        have HB6 := Lib.hid hb6
        have hnx := HNX.out (of_decide_eq_false HBB.out)
        have HNX2 := Lib.hid hnx
        clear hb6 hb5 hnx
        go_wp2_with (fail)
        go_roundw
        case rel => exact ⟨j + 1, by omega, by go_num, HNX2.out, HB.out.trans ((HB2.out.trans (HB6.out.mono (by omega))).mono (by omega))⟩
        case measure => simp [intOf]; omega
      · go_split_ands
        have hb6 : Below w2.heap.size w2 w5 := by assumption
        have hz6 := hb6.size
        have hbw6 : Below w.heap.size w w5 := HB.out.trans ((HB2.out.trans (hb6.mono (by omega))).mono (by omega))
        have hsc : scanL L = _ := (HSR.out (of_decide_eq_true HBB.out).1 (of_decide_eq_true HBB.out).2).symm
        have HSC := Lib.hid hsc
        have HB6 := Lib.hid hbw6
        obtain ⟨X, m, ok, hX⟩ : ∃ X m ok, scanL L = (X, m, ok) := ⟨_, _, _, rfl⟩
        have HX := Lib.hid hX
        have HCALL := Lib.hid (fun W (hW : Below w5.heap.size w5 W) => (by
          have := rscan_big lo hi f t kk s1 s2 A2 (n - k) (c - k) L W (HC.out.belowM (hbw6.trans (hW.mono (by omega)))) HBL.out (by omega) (by omega) (by omega) (fun q hq => ((hbw6.trans (hW.mono (by omega))).cell (by simp; omega)).trans (HF.out q hq)) (by have := hW.size; omega)
          rw [HA.out, ← HSC.out, hX] at this
          exact this : Calls Tryd.prog 28 #[rw5 lo hi kk f t, .slice A2 (n - k) (c - k)] W (RetT (X, m, ok) W)))
        have hbw7 := Below.drew (Below.refl w5.heap.size w5)
        clear hb6 hb5 hsc hbw6 hX hbw0
        go_wp2_with (fail)
        go_region_held3 (fun w' => Below w5.heap.size w5 w' ∧ w'.cell? ⟨wr.heap.size, 0, none⟩ = some (.int .i64 lo) ∧ w'.cell? ⟨wr.heap.size, 1, none⟩ = some (.int .i64 hi) ∧ w'.cell? ⟨wr.heap.size, 2, none⟩ = some (.int .i64 kk) ∧ w'.cell? ⟨wr.heap.size, 3, none⟩ = some (.int .i64 f) ∧ w'.cell? ⟨wr.heap.size, 4, none⟩ = some (.int .i64 t))
          (first | go_keep | (go_split_ands; refine ⟨?_, ?_, ?_, ?_, ?_, ?_⟩; all_goals (first | assumption | exact Below.drew (by assumption) | (refine below_two (by assumption) hb9 ?_; exact Below.size (by assumption)) | (rw [hb9.cell (by have := Below.size (by assumption : Below w5.heap.size w5 _); simp at this ⊢; omega)]; assumption))))
          (first | (go_at_call 28; refine (HCALL.out _ (by assumption)).mono ?_; rintro e w9 ⟨rfl, hb9⟩))
        go_split_ands
        have hb10 : Below w5.heap.size w5 w9 := by assumption
        go_wp2_with (fail)
        go_ret3
        exact ⟨by rw [HR.out, HX.out]; rfl, HB6.out.trans (hb10.mono (by omega))⟩
    · obtain rfl : j = 9 := by omega
      have hfin : scanL L = (65533, 1, false) := scan_none L (by rw [HA.out]; exact hb0.1) (fun i hi => by rw [HA.out]; exact HNO.out i hi)
      have HFN := Lib.hid hfin
      clear hfin
      go_wp2_with (fail)
      go_ret3
      exact ⟨by rw [HR.out, HFN.out]; rfl, HB.out⟩
end Go.Proofs.YtjhgboncipnkeaaDoor.Ut
