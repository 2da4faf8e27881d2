/- The walk of utf.Scan: the table's rows are gone through; what is told is what stands there. -/
import Derived.Test.YtjhgboncipnkeaaDoorUtRow
import Derived.Deep.MidRow
namespace Go.Proofs.YtjhgboncipnkeaaDoor.Ut
set_option maxRecDepth 100000
open Go Go.RowKit Go.Proofs.YtjhgboncipnkeaaDoor.Wo

/-- The table's rows. -/
def rowT : Nat → Int × Int × Nat × Int × Int
  | 0 => (0, 127, 0, 0, 0)
  | 1 => (194, 223, 1, 128, 191)
  | 2 => (224, 224, 2, 160, 191)
  | 3 => (225, 236, 2, 128, 191)
  | 4 => (237, 237, 2, 128, 159)
  | 5 => (238, 239, 2, 128, 191)
  | 6 => (240, 240, 3, 144, 191)
  | 7 => (241, 243, 3, 128, 191)
  | _ => (244, 244, 3, 128, 143)
def rowV (i : Nat) : Value := rw5 (rowT i).1 (rowT i).2.1 (rowT i).2.2.1 (rowT i).2.2.2.1 (rowT i).2.2.2.2
def rowCells (i : Nat) : List Value := [.int .i64 (rowT i).1, .int .i64 (rowT i).2.1, .int .i64 (rowT i).2.2.1, .int .i64 (rowT i).2.2.2.1, .int .i64 (rowT i).2.2.2.2]
/-- The table's cells. -/
def tabL : List Value := rowCells 0 ++ (rowCells 1 ++ (rowCells 2 ++ (rowCells 3 ++ (rowCells 4 ++ (rowCells 5 ++ (rowCells 6 ++ (rowCells 7 ++ rowCells 8)))))))
theorem tabL_len : tabL.length = 45 := rfl
/-- The table, as it lies in memory. -/
def TabT (w : World) : Prop := w.rangeAt 0 0 tabL
theorem row_small : ∀ i, i < 9 → (rowT i).2.2.1 < 4 ∧ (rowT i).2.2.2.2 ≤ 255 := by decide
theorem run_row (i : Nat) (hi : i < 9) (w : World) : (Instr.index 50 (.agg tabL.toArray) (.int .i64 (i : Int))).run Tryd.prog w = .ok (rowV i) w := by
  obtain rfl | rfl | rfl | rfl | rfl | rfl | rfl | rfl | rfl : i = 0 ∨ i = 1 ∨ i = 2 ∨ i = 3 ∨ i = 4 ∨ i = 5 ∨ i = 6 ∨ i = 7 ∨ i = 8 := by omega
  all_goals kernel_rfl
theorem rowGo0 (f t : Int) (l : List Int) (x : Int) : rowGo f t l 0 0 x = (x, 1, true) := rfl
theorem rowGo1 (f t : Int) (l : List Int) (x : Int) : rowGo f t l 1 0 x = if f ≤ l.getD 1 256 ∧ l.getD 1 256 ≤ t then (x * 64 + l.getD 1 256 % 64, 2, true) else (65533, 1, false) := rfl
theorem rowGo2 (f t : Int) (l : List Int) (x : Int) : rowGo f t l 2 0 x = if f ≤ l.getD 1 256 ∧ l.getD 1 256 ≤ t then (if 128 ≤ l.getD 2 256 ∧ l.getD 2 256 ≤ 191 then ((x * 64 + l.getD 1 256 % 64) * 64 + l.getD 2 256 % 64, 3, true) else (65533, 2, false)) else (65533, 1, false) := rfl
theorem rowGo3 (f t : Int) (l : List Int) (x : Int) : rowGo f t l 3 0 x = if f ≤ l.getD 1 256 ∧ l.getD 1 256 ≤ t then (if 128 ≤ l.getD 2 256 ∧ l.getD 2 256 ≤ 191 then (if 128 ≤ l.getD 3 256 ∧ l.getD 3 256 ≤ 191 then (((x * 64 + l.getD 1 256 % 64) * 64 + l.getD 2 256 % 64) * 64 + l.getD 3 256 % 64, 4, true) else (65533, 3, false)) else (65533, 2, false)) else (65533, 1, false) := rfl
theorem e7 : (2 : Int) ^ (fbits 0).toNat = 128 := rfl
theorem e5 : (2 : Int) ^ (fbits 1).toNat = 32 := rfl
theorem e4 : (2 : Int) ^ (fbits 2).toNat = 16 := rfl
theorem e3 : (2 : Int) ^ (fbits 3).toNat = 8 := rfl
theorem scan_row (i : Nat) (hi : i < 9) (l : List Int) (h0 : 0 ≤ l.getD 0 256) (h1 : (rowT i).1 ≤ l.getD 0 256) (h2 : l.getD 0 256 ≤ (rowT i).2.1) :
    rowGo (rowT i).2.2.2.1 (rowT i).2.2.2.2 l (rowT i).2.2.1 0 (l.getD 0 256 % 2 ^ (fbits (rowT i).2.2.1).toNat) = scanL l := by
  unfold scanL scan4
  obtain rfl | rfl | rfl | rfl | rfl | rfl | rfl | rfl | rfl : i = 0 ∨ i = 1 ∨ i = 2 ∨ i = 3 ∨ i = 4 ∨ i = 5 ∨ i = 6 ∨ i = 7 ∨ i = 8 := by omega
  all_goals
    simp only [rowT] at h1 h2 ⊢
    first | rw [rowGo0, e7] | rw [rowGo1, e5] | rw [rowGo2, e4] | rw [rowGo3, e3]
    generalize l.getD 0 256 = a at *
    generalize l.getD 1 256 = b at *
    generalize l.getD 2 256 = c at *
    generalize l.getD 3 256 = d at *
  · rw [if_pos h2]; exact Prod.ext (by show _ = _; omega) rfl
  · rw [if_neg (c := a ≤ 127) (by omega), if_neg (c := a ≤ 193) (by omega), if_pos (c := a ≤ 223) (by omega)]
  · rw [if_neg (c := a ≤ 127) (by omega), if_neg (c := a ≤ 193) (by omega), if_neg (c := a ≤ 223) (by omega), if_pos (c := a ≤ 239) (by omega), if_pos (c := a = 224) (by omega), if_neg (c := a = 237) (by omega)]
  · rw [if_neg (c := a ≤ 127) (by omega), if_neg (c := a ≤ 193) (by omega), if_neg (c := a ≤ 223) (by omega), if_pos (c := a ≤ 239) (by omega), if_neg (c := a = 224) (by omega), if_neg (c := a = 237) (by omega)]
  · rw [if_neg (c := a ≤ 127) (by omega), if_neg (c := a ≤ 193) (by omega), if_neg (c := a ≤ 223) (by omega), if_pos (c := a ≤ 239) (by omega), if_neg (c := a = 224) (by omega), if_pos (c := a = 237) (by omega)]
  · rw [if_neg (c := a ≤ 127) (by omega), if_neg (c := a ≤ 193) (by omega), if_neg (c := a ≤ 223) (by omega), if_pos (c := a ≤ 239) (by omega), if_neg (c := a = 224) (by omega), if_neg (c := a = 237) (by omega)]
  · rw [if_neg (c := a ≤ 127) (by omega), if_neg (c := a ≤ 193) (by omega), if_neg (c := a ≤ 223) (by omega), if_neg (c := a ≤ 239) (by omega), if_pos (c := a ≤ 244) (by omega), if_pos (c := a = 240) (by omega), if_neg (c := a = 244) (by omega)]
  · rw [if_neg (c := a ≤ 127) (by omega), if_neg (c := a ≤ 193) (by omega), if_neg (c := a ≤ 223) (by omega), if_neg (c := a ≤ 239) (by omega), if_pos (c := a ≤ 244) (by omega), if_neg (c := a = 240) (by omega), if_neg (c := a = 244) (by omega)]
  · rw [if_neg (c := a ≤ 127) (by omega), if_neg (c := a ≤ 193) (by omega), if_neg (c := a ≤ 223) (by omega), if_neg (c := a ≤ 239) (by omega), if_pos (c := a ≤ 244) (by omega), if_neg (c := a = 240) (by omega), if_pos (c := a = 244) (by omega)]
theorem scan_none (l : List Int) (h0 : 0 ≤ l.getD 0 256) (h : ∀ i, i < 9 → ¬ ((rowT i).1 ≤ l.getD 0 256 ∧ l.getD 0 256 ≤ (rowT i).2.1)) : scanL l = (65533, 1, false) := by
  have k0 := h 0 (by omega)
  have k1 := h 1 (by omega)
  have k2 := h 2 (by omega)
  have k3 := h 3 (by omega)
  have k4 := h 4 (by omega)
  have k5 := h 5 (by omega)
  have k6 := h 6 (by omega)
  have k7 := h 7 (by omega)
  have k8 := h 8 (by omega)
  simp only [rowT] at k0 k1 k2 k3 k4 k5 k6 k7 k8
  unfold scanL scan4
  generalize l.getD 0 256 = a at *
  rw [if_neg (by omega)]
  by_cases q : a ≤ 193
  · rw [if_pos q]
  · rw [if_neg q, if_neg (by omega), if_neg (by omega), if_neg (by omega)]

def ScanW (a : Int) (w1 : World) (i : Value) (wr : World) : Prop :=
  ∃ j : Nat, j ≤ 9 ∧ i = .int .i64 j ∧ (∀ q, q < j → ¬ ((rowT q).1 ≤ a ∧ a ≤ (rowT q).2.1)) ∧ Below w1.heap.size w1 wr
def scanAt (l : List Int) (at_ : Int) : Int × Int × Bool := if at_ < 0 ∨ (l.length : Int) ≤ at_ then (0, 0, false) else scanL (l.drop at_.toNat)
set_option maxHeartbeats 4000000 in
theorem scan_any (A : Option Addr) (n c : Nat) (l : List Int) (at_ : Int) (w : World) (h : RY w w.heap.size A n l) (hl : ByteL l) (hnc : n ≤ c) (hn2 : n ≤ 1099511627776) (hT : TabT w) (hF : TabF w) (hg : 2 ≤ w.heap.size) :
    Calls Tryd.prog 14 #[.slice A n c, .int .i64 at_] w (RetT (scanAt l at_) w) := by
  have hlen := h.1
  by_cases h1 : at_ < 0
  · have hR : scanAt l at_ = (0, 0, false) := if_pos (.inl h1)
    have HR := Lib.hid hR
    clear hR
    go_enter Tryd.func14, Tryd.ntmps14
    go_wp2_with (fail)
    go_ret3
    exact ⟨by rw [HR.out]; rfl, Below.refl _ _⟩
  by_cases h2 : (n : Int) ≤ at_
  · have hR : scanAt l at_ = (0, 0, false) := if_pos (.inr (by omega))
    have HR := Lib.hid hR
    clear hR
    go_enter Tryd.func14, Tryd.ntmps14
    go_wp2_with (fail)
    go_ret3
    exact ⟨by rw [HR.out]; rfl, Below.refl _ _⟩
  obtain ⟨k, rfl⟩ := Int.eq_ofNat_of_zero_le (by omega : 0 ≤ at_)
  have hk : k < n := by omega
  have hR : scanAt l k = scanL (l.drop k) := by unfold scanAt; rw [if_neg (by omega)]; rfl
  obtain ⟨b, off, hA, hbB, hc0⟩ := ry_getD h hk
  subst hA
  have hRun := run_from (P := Tryd.prog) Tryd.underlying22 Tryd.sizeOf5 (some ⟨b, off, none⟩) n c k (by omega) k rfl
  have hcut := ry_cut h c k hnc (by omega)
  have hbl := hl.drop k
  have ha : (l.drop k).getD 0 256 = l.getD k 256 := by simp
  generalize hL : l.drop k = L at hR hcut hbl ha
  have hlL : L.length = n - k := by rw [← hL, List.length_drop, hlen]
  rw [← ha] at hc0
  have hb0 := hbl.getD 0
  have hb1 : L.getD 0 256 ≤ 255 := hb0.2.2.2 (by omega)
  obtain ⟨a, ha2⟩ : ∃ a, L.getD 0 256 = a := ⟨_, rfl⟩
  rw [ha2] at hc0 hb0 hb1
  have HA := Lib.hid ha2
  have HR := Lib.hid hR
  have HC := Lib.hid hcut
  have HBL := Lib.hid hbl
  have HF := Lib.hid hF
  have HTT := Lib.hid hT
  have hsize : (Tryd.prog.info? 50).map (·.size) = some tabL.length := by kernel_rfl
  have HSZ := Lib.hid hsize
  clear hsize
  clear hF hT hR hcut hbl ha2 ha hL h hl
  generalize cutA (some ⟨b, off, none⟩) c k = A2 at *
  go_enter Tryd.func14, Tryd.ntmps14
  go_wp2_with (refine wpList_load_mid rfl 50 (.global 0) rfl 0 0 rfl tabL _ HTT.out Tryd.underlying50 rfl HSZ.out ?_)
  go_loopw [18] (fun i wr => ScanW a w i wr) (fun i _ => 9 - (intOf i).toNat)
  case atStart => exact ⟨0, by omega, rfl, fun q hq => absurd hq (by omega), Below.refl _ _⟩
  case round =>
    obtain ⟨j, hj, rfl, hno, hb⟩ := hrel
    have HNO := Lib.hid hno
    have HB := Lib.hid hb
    have hsz := hb.size
    have hc1 : wr.cell? ⟨b, off + k, none⟩ = some (.int .u8 a) := (hb.cell (p := ⟨b, off + k, none⟩) hbB).trans hc0
    clear hno hb
    by_cases hj9 : j < 9
    · have hidx : ∀ W, (Instr.index 50 (.agg tabL.toArray) (.int .i64 (j : Int))).run Tryd.prog W = .ok (rw5 (rowT j).1 (rowT j).2.1 (rowT j).2.2.1 (rowT j).2.2.2.1 (rowT j).2.2.2.2) W := fun W => run_row j hj9 W
      have hs := row_small j hj9
      have HSR := Lib.hid (fun h1 h2 => scan_row j hj9 L (by rw [HA.out]; exact hb0.1) h1 h2)
      have HNX := Lib.hid (fun (h : ¬ ((rowT j).1 ≤ a ∧ a ≤ (rowT j).2.1)) => (fun (q : Nat) (hq : q < j + 1) => (by
        by_cases e : q = j
        · subst e; exact h
        · exact HNO.out q (by omega) : ¬ ((rowT q).1 ≤ a ∧ a ≤ (rowT q).2.1))))
      rw [HA.out] at HSR
      generalize (rowT j).1 = lo at *
      generalize (rowT j).2.1 = hi at *
      generalize (rowT j).2.2.1 = kk at *
      generalize (rowT j).2.2.2.1 = f at *
      generalize (rowT j).2.2.2.2 = t at *
      have HFI := Lib.hid (first_any lo hi kk f t)
      have HHAS := Lib.hid (fun W => has1_any lo hi a hb0.1 hb1 W)
      obtain ⟨bb, hbb⟩ : ∃ bb, decide (lo ≤ a ∧ a ≤ hi) = bb := ⟨_, rfl⟩
      rw [hbb] at HHAS
      have HBB := Lib.hid hbb
      clear hbb
      obtain ⟨s1, s2⟩ := hs
      go_wp2_with (fail)
      have hq := boxed5 (Below.refl _ (wr.alloc (.cells #[.int .i64 lo, .int .i64 hi, .int .i64 kk, .int .i64 f, .int .i64 t] 49)))
      have hb2 := (Below.refl wr.heap.size wr).alloc (Nat.le_refl _) (.cells #[.int .i64 lo, .int .i64 hi, .int .i64 kk, .int .i64 f, .int .i64 t] 49)
      have hz2 : wr.heap.size + 1 ≤ (wr.alloc (.cells #[.int .i64 lo, .int .i64 hi, .int .i64 kk, .int .i64 f, .int .i64 t] 49)).heap.size := by simp
      generalize wr.alloc (.cells #[.int .i64 lo, .int .i64 hi, .int .i64 kk, .int .i64 f, .int .i64 t] 49) = w2 at *
      obtain ⟨q0, q1, q2, q3, q4⟩ := hq
      have hc2 : w2.cell? ⟨b, off + k, none⟩ = some (.int .u8 a) := (hb2.cell (p := ⟨b, off + k, none⟩) (by simp; omega)).trans hc1
      have HB2 := Lib.hid hb2
      have hbw0 := Below.drew (Below.refl w2.heap.size w2)
      have hbs : b < w2.heap.size := by omega
      have hrs : wr.heap.size < w2.heap.size := by omega
      clear hb2 hc1
      cases bb
      all_goals
        go_region_held3 (fun w' => Below w2.heap.size w2 w' ∧ w'.cell? ⟨wr.heap.size, 0, none⟩ = some (.int .i64 lo) ∧ w'.cell? ⟨wr.heap.size, 1, none⟩ = some (.int .i64 hi) ∧ w'.cell? ⟨wr.heap.size, 2, none⟩ = some (.int .i64 kk) ∧ w'.cell? ⟨wr.heap.size, 3, none⟩ = some (.int .i64 f) ∧ w'.cell? ⟨wr.heap.size, 4, none⟩ = some (.int .i64 t) ∧ w'.cell? ⟨b, off + k, none⟩ = some (.int .u8 a))
          (first | go_keep | (go_split_ands; refine ⟨?_, ?_, ?_, ?_, ?_, ?_, ?_⟩; all_goals (first | assumption | exact Below.drew (by assumption) | (refine below_two (by assumption) hb5 ?_; exact Below.size (by assumption)) | (rw [hb5.cell (by have := Below.size (by assumption : Below w2.heap.size w2 _); simp at this ⊢; omega)]; assumption))))
          (first | (go_at_call 27; refine (HFI.out _).mono ?_; rintro e w5 ⟨rfl, hb5⟩) | (go_at_call 26; refine (HHAS.out _).mono ?_; rintro e w5 ⟨rfl, hb5⟩))
      · go_split_ands
        have hb6 : Below w2.heap.size w2 w5 := by assumption
        have HB6 := Lib.hid hb6
        have hnx := HNX.out (of_decide_eq_false HBB.out)
        have HNX2 := Lib.hid hnx
        clear hb6 hb5 hnx
        go_wp2_with (fail)
        go_roundw
        case rel => exact ⟨j + 1, by omega, by go_num, HNX2.out, HB.out.trans ((HB2.out.trans (HB6.out.mono (by omega))).mono (by omega))⟩
        case measure => simp [intOf]; omega
      · go_split_ands
        have hb6 : Below w2.heap.size w2 w5 := by assumption
        have hz6 := hb6.size
        have hbw6 : Below w.heap.size w w5 := HB.out.trans ((HB2.out.trans (hb6.mono (by omega))).mono (by omega))
        have hsc : scanL L = _ := (HSR.out (of_decide_eq_true HBB.out).1 (of_decide_eq_true HBB.out).2).symm
        have HSC := Lib.hid hsc
        have HB6 := Lib.hid hbw6
        obtain ⟨X, m, ok, hX⟩ : ∃ X m ok, scanL L = (X, m, ok) := ⟨_, _, _, rfl⟩
        have HX := Lib.hid hX
        have HCALL := Lib.hid (fun W (hW : Below w5.heap.size w5 W) => (by
          have := rscan_any lo hi f t kk s1 s2 A2 (n - k) (c - k) L W (HC.out.belowM (hbw6.trans (hW.mono (by omega)))) HBL.out (by omega) (by omega) (by omega) (fun q hq => ((hbw6.trans (hW.mono (by omega))).cell (by simp; omega)).trans (HF.out q hq)) (by have := hW.size; omega)
          rw [HA.out, ← HSC.out, hX] at this
          exact this : Calls Tryd.prog 28 #[rw5 lo hi kk f t, .slice A2 (n - k) (c - k)] W (RetT (X, m, ok) W)))
        have hbw7 := Below.drew (Below.refl w5.heap.size w5)
        clear hb6 hb5 hsc hbw6 hX hbw0
        go_wp2_with (fail)
        go_region_held3 (fun w' => Below w5.heap.size w5 w' ∧ w'.cell? ⟨wr.heap.size, 0, none⟩ = some (.int .i64 lo) ∧ w'.cell? ⟨wr.heap.size, 1, none⟩ = some (.int .i64 hi) ∧ w'.cell? ⟨wr.heap.size, 2, none⟩ = some (.int .i64 kk) ∧ w'.cell? ⟨wr.heap.size, 3, none⟩ = some (.int .i64 f) ∧ w'.cell? ⟨wr.heap.size, 4, none⟩ = some (.int .i64 t))
          (first | go_keep | (go_split_ands; refine ⟨?_, ?_, ?_, ?_, ?_, ?_⟩; all_goals (first | assumption | exact Below.drew (by assumption) | (refine below_two (by assumption) hb9 ?_; exact Below.size (by assumption)) | (rw [hb9.cell (by have := Below.size (by assumption : Below w5.heap.size w5 _); simp at this ⊢; omega)]; assumption))))
          (first | (go_at_call 28; refine (HCALL.out _ (by assumption)).mono ?_; rintro e w9 ⟨rfl, hb9⟩))
        go_split_ands
        have hb10 : Below w5.heap.size w5 w9 := by assumption
        go_wp2_with (fail)
        go_ret3
        exact ⟨by rw [HR.out, HX.out]; rfl, HB6.out.trans (hb10.mono (by omega))⟩
    · obtain rfl : j = 9 := by omega
      have hfin : scanL L = (65533, 1, false) := scan_none L (by rw [HA.out]; exact hb0.1) (fun i hi => by rw [HA.out]; exact HNO.out i hi)
      have HFN := Lib.hid hfin
      clear hfin
      go_wp2_with (fail)
      go_ret3
      exact ⟨by rw [HR.out, HFN.out]; rfl, HB.out⟩
end Go.Proofs.YtjhgboncipnkeaaDoor.Ut
