/- The walk of UtfRows. -/
import Derived.Test.YtjhgboncipnkeaaDoorUtRRows
import Derived.Test.YtjhgboncipnkeaaDoorUtSame
import Derived.Test.YtjhgboncipnkeaaDoorUtRowsMath
import Derived.Test.YtjhgboncipnkeaaDoorUtAwake
import Derived.Test.YtjhgboncipnkeaaDoorUtScanBig
namespace Go.Proofs.YtjhgboncipnkeaaDoor.Ut
set_option maxRecDepth 100000
open Go Go.RowKit Go.Shelf Go.Proofs.YtjhgboncipnkeaaDoor.Wo

def LRel (l : List Int) (w2 : World) (v i : Value) (wr : World) : Prop := ∃ (j : Nat) (b : Bool), j ≤ 9 ∧ i = .int .i64 j ∧ v = .bool b ∧ (b = true ↔ ∃ q, q < j ∧ fits q l) ∧ Below w2.heap.size w2 wr
def InRel (l : List Int) (j n : Nat) (w4 : World) (v i : Value) (wr : World) : Prop := ∃ (k : Nat) (b : Bool), k ≤ n ∧ i = .int .i64 k ∧ v = .bool b ∧ (b = true → n = (rowT j).2.2.1 + 1 ∧ ∀ q, q < k → okAt j l q) ∧ (b = false → ¬ fits j l) ∧ Below w4.heap.size w4 wr
theorem RTs.at_ {w : World} {A : Option Addr} (h : RTs w A (rowsN 9)) {j : Nat} (hj : j < 9) : ∃ g A' c', A = some ⟨g, 0, none⟩ ∧ g < w.heap.size ∧ w.cell? ⟨g, j, none⟩ = some (.slice A' ((rowT j).2.2.1 + 1) c') ∧ (rowT j).2.2.1 + 1 ≤ c' ∧ RGp (fun _ => True) w A' (setsN j (rowT j).2.2.1) := by
  obtain ⟨g, e, hg, hc⟩ := h
  obtain ⟨A', c', h1, h2, h3⟩ := hc j (by rw [rowsN_len]; exact hj)
  rw [rowsN_at] at h1 h2 h3
  rw [setsN_len] at h1 h2
  exact ⟨g, A', c', e, hg, h1, h2, h3⟩
theorem span_cells {w : World} {b : Nat} {s : Int × Int} (h : w.heap[b]? = some (spanB s)) : w.cell? ⟨b, 0, none⟩ = some (.int .i64 s.1) ∧ w.cell? ⟨b, 1, none⟩ = some (.int .i64 s.2) := ⟨by simp [World.cell?, h], by simp [World.cell?, h]⟩
set_option maxHeartbeats 8000000 in
theorem walk_UtfRows (A : Option Addr) (c : Nat) (l : List Int) (w : World) (hT : Tabs w) (h : RY w w.heap.size A l.length l) (hc : l.length ≤ c) (hm : l.length ≤ maxLen) (hx : ∀ x ∈ l, 0 ≤ x ∧ x ≤ 255) :
    Calls Tryd.prog 6 #[.slice A l.length c] w (RetB true w) := by
  unfold maxLen at hm
  have HAW := Lib.hid (fun W (hb : Below w.heap.size w W) => awake_any W (hT.below hb hT.2.2))
  have HRO := Lib.hid (rows_any w hT.1)
  have HSC := Lib.hid (fun W (hb : Below w.heap.size w W) => scan_big A l.length c l 0 W (h.belowM hb) hx hc (by omega) (hT.below hb hT.2.2).1 (hT.below hb hT.2.2).2.1 (hT.below hb hT.2.2).2.2)
  have HM := Lib.hid (rows_scan l hx)
  have HBY := Lib.hid (show ByteL l from hx)
  have HY := Lib.hid (fun W (hb : Below w.heap.size w W) k (hk : k < l.length) => ry_getD (h.belowM hb) hk)
  obtain ⟨n, hn⟩ : ∃ n, l.length = n := ⟨_, rfl⟩
  rw [hn] at HSC HY hc hm HM ⊢
  obtain ⟨X, m, ok, hX⟩ : ∃ X m ok, scanAt l 0 = (X, m, ok) := ⟨_, _, _, rfl⟩
  rw [hX] at HSC HM
  have HN := Lib.hid hn
  clear h hT hx hn hX
  go_enter Tryd.func6, Tryd.ntmps6
  go_wp2_with (fail)
  refine HRO.out.mono ?_
  rintro e w1 ⟨A1, c1, rfl, hr1, hb1⟩
  have HR1 := Lib.hid hr1
  have HB1 := Lib.hid hb1
  clear hr1 hb1 HRO
  go_wp2_with (fail)
  refine (rrows_any _).mono ?_
  rintro e w2 ⟨A2, c2, rfl, hr2, hb2⟩
  have HRA := Lib.hid (HR1.out.below hb2)
  have HRB := Lib.hid hr2
  have HB2 := Lib.hid (HB1.out.trans (hb2.mono HB1.out.size))
  clear hr2 hb2 HR1 HB1
  go_wp2_with (fail)
  go_loopw [5, 6] (fun v i wr => LRel l w2 v i wr) (fun _ i _ => 9 - (intOf i).toNat)
  case atStart => exact ⟨0, false, by omega, rfl, rfl, ⟨fun h => (by cases h), fun ⟨q, h, _⟩ => absurd h (by omega)⟩, Below.refl _ _⟩
  case round =>
    rename World => w3
    obtain ⟨j, b0, hj, rfl, rfl, hin, hb⟩ := hrel
    have HIN := Lib.hid hin
    have HB := Lib.hid hb
    clear hin
    by_cases hj9 : j < 9
    · obtain ⟨g1, Aa, ca, e1, hg1, hca, _, hra⟩ := (HRA.out.below hb).at_ hj9
      obtain ⟨g2, Ab, cb, e2, hg2, hcb, _, hrb⟩ := (HRB.out.below hb).at_ hj9
      have hs := (row_small j hj9).1
      have hdr : Below w3.heap.size w3 w3.drew := (Below.refl _ _).drew
      have HSS := Lib.hid (rsets_any _ _ Aa Ab ca cb _ _ (setsN_len j _) w3.drew (hra.below hdr) (hrb.below hdr) (by omega))
      obtain ⟨kk, hkk⟩ : ∃ kk, (rowT j).2.2.1 = kk := ⟨_, rfl⟩
      rw [hkk] at HSS hca hcb hs
      have HKE := Lib.hid hkk
      have HRW := Lib.hid hrb
      have HST := Lib.hid (show ∀ k (h : k < (setsN j (rowT j).2.2.1).length), (setsN j (rowT j).2.2.1)[k] = setAt j k from fun k h => by unfold setAt; rw [List.getD_eq_getElem?_getD, List.getElem?_eq_getElem h]; rfl)
      have i1 : (0 : Int) ≤ (j : Int) := Int.natCast_nonneg _
      have i2 : (j : Int) < 9 := by omega
      subst e1 e2
      clear hra hrb hkk hdr
      go_wp2_with (fail)
      go_still_tail 8, (by kernel_rfl)
      change wpList _ _ _ _ _ w3.drew
      go_wp2_with (fail)
      refine HSS.out.mono ?_
      rintro e w4 ⟨rfl, hb4⟩
      have hb34 : Below w3.heap.size w3 w4 := (Below.refl w3.heap.size w3).drew.trans hb4
      have hcb4 : w4.cell? ⟨g2, j, none⟩ = some (.slice Ab (kk + 1) cb) := (hb34.cell (p := ⟨g2, j, none⟩) hg2).trans hcb
      have HR4 := Lib.hid (HRW.out.below hb34)
      have HB4 := Lib.hid (hb.trans (hb34.mono hb.size))
      have hg4 : g2 < w4.heap.size := Nat.lt_of_lt_of_le hg2 hb34.size
      clear hb4 hb34 hca hcb hb HRW HSS hg1 hg2
      by_cases el : n = kk + 1
      · have el2 : ((n : Int) == ((kk + 1 : Nat) : Int)) = true := by rw [el]; exact beq_self_eq_true _
        have el3 : ((n : Int) == (kk : Int) + 1) = true := el2
        go_wp2_with (fail)
        go_loopw [7, 8] (fun v i wr => InRel l j n w4 v i wr) (fun _ i _ => n + 1 - (intOf i).toNat)
        case atStart => exact ⟨0, true, by omega, rfl, rfl, fun _ => ⟨by rw [HKE.out]; exact el, fun q h => absurd h (by omega)⟩, fun h => (by cases h), Below.refl _ _⟩
        case round =>
          rename World => w5
          obtain ⟨k, b, hk, rfl, rfl, ht, hf, hb5⟩ := hrel
          have HBQ := Lib.hid (HB4.out.trans (hb5.mono HB4.out.size))
          have HB5 := Lib.hid hb5
          have HTR := Lib.hid ht
          have HFR := Lib.hid hf
          clear ht hf
          cases b
          · have HFIT := HFR.out rfl
            clear hb5 el2 el3 hcb4
            by_cases hlt : k < n
            · have d1 : decide ((k : Int) < (n : Int)) = true := decide_eq_true (by omega)
              have HFA := Lib.hid (show ¬ fits j l from HFIT)
              cases b0
              · have HOUT := Lib.hid (show ¬ ∃ q, q < j + 1 ∧ fits q l from fun ⟨q, h1, h2⟩ => (by by_cases e : q = j; (subst e; exact absurd h2 HFA.out); exact absurd (HIN.out.2 ⟨q, by omega, h2⟩) (by simp)))
                go_wp2_with (fail)
                go_roundw
                case rel => exact ⟨_, _, _, ⟨j + 1, false, by omega, by go_num, rfl, ⟨fun h => (by cases h), fun h => absurd h HOUT.out⟩, HBQ.out⟩, rfl, rfl, rfl⟩
                case measure => simp [intOf]; omega
              · have HOUT := Lib.hid (show ∃ q, q < j + 1 ∧ fits q l from (by obtain ⟨q, h1, h2⟩ := HIN.out.1 rfl; exact ⟨q, by omega, h2⟩))
                go_wp2_with (fail)
                go_roundw
                case rel => exact ⟨_, _, _, ⟨j + 1, true, by omega, by go_num, rfl, ⟨fun _ => HOUT.out, fun _ => rfl⟩, HBQ.out⟩, rfl, rfl, rfl⟩
                case measure => simp [intOf]; omega
            · have d1 : decide ((k : Int) < (n : Int)) = false := decide_eq_false (by omega)
              have HFA := Lib.hid (show ¬ fits j l from HFIT)
              cases b0
              · have HOUT := Lib.hid (show ¬ ∃ q, q < j + 1 ∧ fits q l from fun ⟨q, h1, h2⟩ => (by by_cases e : q = j; (subst e; exact absurd h2 HFA.out); exact absurd (HIN.out.2 ⟨q, by omega, h2⟩) (by simp)))
                go_wp2_with (fail)
                go_roundw
                case rel => exact ⟨_, _, _, ⟨j + 1, false, by omega, by go_num, rfl, ⟨fun h => (by cases h), fun h => absurd h HOUT.out⟩, HBQ.out⟩, rfl, rfl, rfl⟩
                case measure => simp [intOf]; omega
              · have HOUT := Lib.hid (show ∃ q, q < j + 1 ∧ fits q l from (by obtain ⟨q, h1, h2⟩ := HIN.out.1 rfl; exact ⟨q, by omega, h2⟩))
                go_wp2_with (fail)
                go_roundw
                case rel => exact ⟨_, _, _, ⟨j + 1, true, by omega, by go_num, rfl, ⟨fun _ => HOUT.out, fun _ => rfl⟩, HBQ.out⟩, rfl, rfl, rfl⟩
                case measure => simp [intOf]; omega
          · by_cases hlt : k < n
            · have d1 : decide ((k : Int) < (n : Int)) = true := decide_eq_true (by omega)
              obtain ⟨g3, off3, b3, e3, hg3, hc3, _, hbl3, _⟩ := (HR4.out.below hb5).at_ (k := k) (by rw [setsN_len, HKE.out]; omega)
              obtain ⟨bb, boff, eA, _, hcy⟩ := HY.out w5 (HB2.out.trans (HBQ.out.mono HB2.out.size)) k hlt
              have hcw : w5.cell? ⟨g2, j, none⟩ = some (.slice Ab (kk + 1) cb) := (hb5.cell (p := ⟨g2, j, none⟩) hg4).trans hcb4
              obtain ⟨hlo, hhi⟩ := span_cells hbl3
              have hq : (setsN j (rowT j).2.2.1)[k]'(by rw [setsN_len, HKE.out]; omega) = setAt j k := HST.out k _
              rw [hq] at hlo hhi
              have hby := (HBY.out.getD k)
              have hy1 : l.getD k 256 ≤ 255 := hby.2.2.2 (by rw [HN.out]; exact hlt)
              have hy0 : 0 ≤ l.getD k 256 := hby.1
              have HOK := Lib.hid (show okAt j l k ↔ (setAt j k).1 ≤ l.getD k 256 ∧ l.getD k 256 ≤ (setAt j k).2 from Iff.rfl)
              generalize (setAt j k).1 = lo at *
              generalize (setAt j k).2 = hi at *
              generalize l.getD k 256 = x at *
              have hwx : IntKind.i64.wrap x = x := IntWalk.i64_in _ (by omega)
              have j1 : (0 : Int) ≤ (k : Int) := Int.natCast_nonneg _
              have j2 : (k : Int) < (n : Int) := by omega
              have j3 : (k : Int) < (kk : Int) + 1 := by omega
              subst e3 eA
              clear hbl3 hq hby hb5 el2 el3 hcb4
              by_cases c1 : lo ≤ x
              · have k1 : decide (lo ≤ x) = true := decide_eq_true c1
                by_cases c2 : x ≤ hi
                · have k2 : decide (x ≤ hi) = true := decide_eq_true c2
                  have HNX := Lib.hid (show n = (rowT j).2.2.1 + 1 ∧ ∀ q, q < k + 1 → okAt j l q from ⟨(HTR.out rfl).1, fun q hq => by
                    by_cases e : q = k
                    · subst e; exact HOK.out.2 ⟨c1, c2⟩
                    · exact (HTR.out rfl).2 q (by omega)⟩)
                  clear c1 c2
                  go_wp2_with (fail)
                  go_quiet (fail)
                  go_wp2_with (fail)
                  go_roundw
                  case rel => exact ⟨k + 1, true, by omega, by go_num, rfl, fun _ => HNX.out, fun q => (by cases q), below_drewN HB5.out _⟩
                  case measure => simp [intOf]; omega
                · have k2 : decide (x ≤ hi) = false := decide_eq_false c2
                  have HNX := Lib.hid (show ¬ fits j l from fun h => c2 (HOK.out.1 (h.2 k (by rw [HN.out]; exact hlt))).2)
                  clear c1 c2
                  go_wp2_with (fail)
                  go_quiet (fail)
                  go_wp2_with (fail)
                  go_roundw
                  case rel => exact ⟨k + 1, false, by omega, by go_num, rfl, fun q => (by cases q), fun _ => HNX.out, below_drewN HB5.out _⟩
                  case measure => simp [intOf]; omega
              · have k1 : decide (lo ≤ x) = false := decide_eq_false c1
                have HNX := Lib.hid (show ¬ fits j l from fun h => c1 (HOK.out.1 (h.2 k (by rw [HN.out]; exact hlt))).1)
                clear c1
                go_wp2_with (fail)
                go_quiet (fail)
                go_wp2_with (fail)
                go_roundw
                case rel => exact ⟨k + 1, false, by omega, by go_num, rfl, fun q => (by cases q), fun _ => HNX.out, below_drewN HB5.out _⟩
                case measure => simp [intOf]; omega
            · have HFIT : fits j l := ⟨by rw [HN.out]; exact (HTR.out rfl).1, fun q hq => (HTR.out rfl).2 q (by rw [HN.out] at hq; omega)⟩
              clear hb5 el2 el3 hcb4
              have d1 : decide ((k : Int) < (n : Int)) = false := decide_eq_false (by omega)
              have HFA := Lib.hid (show fits j l from HFIT)
              cases b0
              · have HOUT := Lib.hid (show ∃ q, q < j + 1 ∧ fits q l from ⟨j, by omega, HFA.out⟩)
                go_wp2_with (fail)
                go_roundw
                case rel => exact ⟨_, _, _, ⟨j + 1, true, by omega, by go_num, rfl, ⟨fun _ => HOUT.out, fun _ => rfl⟩, HBQ.out⟩, rfl, rfl, rfl⟩
                case measure => simp [intOf]; omega
              · have HOUT := Lib.hid (show ∃ q, q < j + 1 ∧ fits q l from (by obtain ⟨q, h1, h2⟩ := HIN.out.1 rfl; exact ⟨q, by omega, h2⟩))
                go_wp2_with (fail)
                go_roundw
                case rel => exact ⟨_, _, _, ⟨j + 1, true, by omega, by go_num, rfl, ⟨fun _ => HOUT.out, fun _ => rfl⟩, HBQ.out⟩, rfl, rfl, rfl⟩
                case measure => simp [intOf]; omega
      · have el2 : ((n : Int) == ((kk + 1 : Nat) : Int)) = false := beq_eq_false_iff_ne.2 (by omega)
        have el3 : ((n : Int) == (kk : Int) + 1) = false := el2
        have HFIT : ¬ fits j l := fun h => el (by have := h.1; rw [HN.out, HKE.out] at this; exact this)
        have HFA0 := Lib.hid HFIT
        clear HFIT
        go_wp2_with (fail)
        go_loopw [7, 8] (fun v i wr => v = .bool false ∧ i = .int .i64 0 ∧ wr = w4) (fun _ _ _ => 0)
        case atStart => exact ⟨rfl, rfl, rfl⟩
        case round =>
          obtain ⟨rfl, rfl, rfl⟩ := hrel
          have HFIT := HFA0.out
          have HBQ := HB4
          by_cases hlt : 0 < n
          · have d1 : decide ((0 : Int) < (n : Int)) = true := decide_eq_true (by omega)
            have d2 : decide (0 < n) = true := decide_eq_true (by omega)
            have HFA := Lib.hid (show ¬ fits j l from HFIT)
            cases b0
            · have HOUT := Lib.hid (show ¬ ∃ q, q < j + 1 ∧ fits q l from fun ⟨q, h1, h2⟩ => (by by_cases e : q = j; (subst e; exact absurd h2 HFA.out); exact absurd (HIN.out.2 ⟨q, by omega, h2⟩) (by simp)))
              go_wp2_with (fail)
              go_roundw
              case rel => exact ⟨j + 1, false, by omega, by go_num, rfl, ⟨fun h => (by cases h), fun h => absurd h HOUT.out⟩, HBQ.out⟩
              case measure => simp [intOf]; omega
            · have HOUT := Lib.hid (show ∃ q, q < j + 1 ∧ fits q l from (by obtain ⟨q, h1, h2⟩ := HIN.out.1 rfl; exact ⟨q, by omega, h2⟩))
              go_wp2_with (fail)
              go_roundw
              case rel => exact ⟨j + 1, true, by omega, by go_num, rfl, ⟨fun _ => HOUT.out, fun _ => rfl⟩, HBQ.out⟩
              case measure => simp [intOf]; omega
          · have d1 : decide ((0 : Int) < (n : Int)) = false := decide_eq_false (by omega)
            have d2 : decide (0 < n) = false := decide_eq_false (by omega)
            have HFA := Lib.hid (show ¬ fits j l from HFIT)
            cases b0
            · have HOUT := Lib.hid (show ¬ ∃ q, q < j + 1 ∧ fits q l from fun ⟨q, h1, h2⟩ => (by by_cases e : q = j; (subst e; exact absurd h2 HFA.out); exact absurd (HIN.out.2 ⟨q, by omega, h2⟩) (by simp)))
              go_wp2_with (fail)
              go_roundw
              case rel => exact ⟨j + 1, false, by omega, by go_num, rfl, ⟨fun h => (by cases h), fun h => absurd h HOUT.out⟩, HBQ.out⟩
              case measure => simp [intOf]; omega
            · have HOUT := Lib.hid (show ∃ q, q < j + 1 ∧ fits q l from (by obtain ⟨q, h1, h2⟩ := HIN.out.1 rfl; exact ⟨q, by omega, h2⟩))
              go_wp2_with (fail)
              go_roundw
              case rel => exact ⟨j + 1, true, by omega, by go_num, rfl, ⟨fun _ => HOUT.out, fun _ => rfl⟩, HBQ.out⟩
              case measure => simp [intOf]; omega
    · have hj' : j = 9 := by omega
      subst hj'
      have HBF := Lib.hid (HB2.out.trans (HB.out.mono HB2.out.size))
      have hiff : b0 = true ↔ (ok = true ∧ m = (n : Int)) := HIN.out.trans (by
        have h := HM.out
        exact h.symm)
      clear hb
      cases ok
      · have hb0 : b0 = false := by
          cases b0
          · rfl
          · exact absurd (hiff.1 rfl).1 (by simp)
        subst hb0
        clear hiff
        go_wp2_with (fail)
        refine (HSC.out _ HBF.out).mono ?_
        rintro e w7 ⟨rfl, hb7⟩
        have HB7 := Lib.hid (HBF.out.trans (hb7.mono HBF.out.size))
        clear hb7
        go_wp2_with (go_at_call 13; refine (HAW.out _ HB7.out).mono ?_; rintro e w8 ⟨rfl, hb8⟩)
        go_ret
        exact ⟨rfl, HB7.out.trans (hb8.mono HB7.out.size)⟩
      · by_cases hmn : m = (n : Int)
        · have hb0 : b0 = true := hiff.2 ⟨rfl, hmn⟩
          subst hb0
          clear hiff
          have d1 : (m == (n : Int)) = true := by rw [hmn]; exact beq_self_eq_true _
          go_wp2_with (fail)
          refine (HSC.out _ HBF.out).mono ?_
          rintro e w7 ⟨rfl, hb7⟩
          have HB7 := Lib.hid (HBF.out.trans (hb7.mono HBF.out.size))
          clear hb7
          go_wp2_with (go_at_call 13; refine (HAW.out _ HB7.out).mono ?_; rintro e w8 ⟨rfl, hb8⟩)
          go_ret
          exact ⟨rfl, HB7.out.trans (hb8.mono HB7.out.size)⟩
        · have hb0 : b0 = false := by
            cases b0
            · rfl
            · exact absurd (hiff.1 rfl).2 hmn
          subst hb0
          clear hiff
          have d1 : (m == (n : Int)) = false := beq_eq_false_iff_ne.2 hmn
          go_wp2_with (fail)
          refine (HSC.out _ HBF.out).mono ?_
          rintro e w7 ⟨rfl, hb7⟩
          have HB7 := Lib.hid (HBF.out.trans (hb7.mono HBF.out.size))
          clear hb7
          go_wp2_with (go_at_call 13; refine (HAW.out _ HB7.out).mono ?_; rintro e w8 ⟨rfl, hb8⟩)
          go_ret
          exact ⟨rfl, HB7.out.trans (hb8.mono HB7.out.size)⟩
end Go.Proofs.YtjhgboncipnkeaaDoor.Ut
