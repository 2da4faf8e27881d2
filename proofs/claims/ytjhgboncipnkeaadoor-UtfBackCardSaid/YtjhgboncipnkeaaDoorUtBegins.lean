/- The walks of the reference's begins and scalar. -/
import Derived.Test.YtjhgboncipnkeaaDoorUtRefMath
import Derived.Test.YtjhgboncipnkeaaDoorUtRow
import Derived.Test.YtjhgboncipnkeaaDoorWoText
import Derived.Deep.CutRange
import Derived.Deep.DeepCutAuto
import Derived.Deep.RegionWith
import Derived.BigRegion
import Derived.RegionTactic
import Derived.IntWalk
namespace Go.Proofs.YtjhgboncipnkeaaDoor.Ut
set_option maxRecDepth 100000
open Go Go.RowKit Go.Proofs.YtjhgboncipnkeaaDoor.Wo

def BegRel (l : List Int) (n : Nat) (G : Option (Int × Int)) (w1 : World) (f t i : Value) (wr : World) : Prop :=
  ∃ (j : Nat) (F T : Int), 1 ≤ j ∧ j ≤ n ∧ i = .int .i64 j ∧ f = .int .i64 F ∧ t = .int .i64 T ∧ 0 ≤ F ∧ F ≤ T ∧ (T + 1) * 64 ^ (n - j) ≤ 16777216 ∧ begGo l (n - j) j F T = G ∧ Below w1.heap.size w1 wr
theorem beg_room {n j : Nat} {T : Int} (hn : n ≤ 4) (h1 : 1 ≤ j) (hj : j < n) (h0 : 0 ≤ T) (h : (T + 1) * 64 ^ (n - j) ≤ 16777216) : T ≤ 262143 ∧ ∀ q : Int, 0 ≤ q → q ≤ 63 → (T * 64 + q + 1) * 64 ^ (n - (j + 1)) ≤ 16777216 := by
  obtain e | e | e : n - j = 1 ∨ n - j = 2 ∨ n - j = 3 := by omega
  all_goals
    rw [show n - (j + 1) = (n - j) - 1 from by omega, e]
    rw [e] at h
    simp at h ⊢
    exact ⟨by omega, fun q h1 h2 => by omega⟩
theorem begGo_in {l : List Int} {n j : Nat} {F T y : Int} {G : Option (Int × Int)} (hj : j < n) (hjl : j < l.length) (hy : l.getD j 256 = y) (hr : ¬ (y - 128 < 0 ∨ 63 < y - 128)) (h : begGo l (n - j) j F T = G) : begGo l (n - (j + 1)) (j + 1) (F * 64 + (y - 128)) (T * 64 + (y - 128)) = G := by
  rw [show n - j = (n - (j + 1)) + 1 from by omega, begGo, if_pos hjl, hy, if_neg hr] at h
  exact h
theorem begGo_out {l : List Int} {n j : Nat} {F T y : Int} {G : Option (Int × Int)} (hj : j < n) (hjl : j < l.length) (hy : l.getD j 256 = y) (hr : y - 128 < 0 ∨ 63 < y - 128) (h : begGo l (n - j) j F T = G) : G = none := by
  rw [show n - j = (n - (j + 1)) + 1 from by omega, begGo, if_pos hjl, hy, if_pos hr] at h
  exact h.symm
theorem begGo_far {l : List Int} {n j : Nat} {F T : Int} {G : Option (Int × Int)} (hj : j < n) (hjl : ¬ j < l.length) (h : begGo l (n - j) j F T = G) : begGo l (n - (j + 1)) (j + 1) (F * 64) (T * 64 + 63) = G := by
  rw [show n - j = (n - (j + 1)) + 1 from by omega, begGo, if_neg hjl] at h
  exact h
theorem five_cells (w : World) (a b c d e : Int) (i : Nat) (hi : i < 5) : (w.alloc (.cells #[.int .i64 a, .int .i64 b, .int .i64 c, .int .i64 d, .int .i64 e] 3)).cell? ⟨w.heap.size, i, none⟩ = some (.int .i64 ([a, b, c, d, e].getD i 0)) := by
  obtain rfl | rfl | rfl | rfl | rfl : i = 0 ∨ i = 1 ∨ i = 2 ∨ i = 3 ∨ i = 4 := by omega
  all_goals simp
theorem ret_as {R r : Bool} {w w' : World} {e : Ending} (h1 : R = r) (h2 : e = .returned (.bool r)) (h3 : Below w.heap.size w w') : RetB R w e w' := ⟨by rw [h1]; exact h2, h3⟩
set_option maxHeartbeats 4000000 in
theorem begins3_any (A : Option Addr) (k c : Nat) (l : List Int) (w : World) (h : RY w w.heap.size A k l) (hl : ByteL l) (hk : 1 ≤ k) (hk4 : k ≤ 4) :
    Calls Tryd.prog 30 #[.slice A k c, .int .i64 3] w (RetB (begB l 3) w) := by
  obtain ⟨b, off, rfl, hbB, hc0⟩ := ry_getD h (k := 0) (by omega)
  rw [Nat.add_zero] at hc0
  have hlen := h.1
  have hb0 := hl.getD 0
  have hb1 : l.getD 0 256 ≤ 255 := hb0.2.2.2 (by omega)
  have hdef : begB l 3 = if l.getD 0 256 - 224 < 0 ∨ 16 ≤ l.getD 0 256 - 224 then false else begEnd 3 (begGo l (3 - 1) 1 (l.getD 0 256 - 224) (l.getD 0 256 - 224)) := rfl
  generalize l.getD 0 256 = a at hc0 hb0 hb1 hdef
  have HH := Lib.hid h
  have HL := Lib.hid hl
  have HLEN := Lib.hid hlen
  generalize begB l 3 = R at hdef ⊢
  have HD := Lib.hid hdef
  clear h hl hlen hdef
  by_cases q1 : a - 224 < 0
  · have hR := Lib.hid (show R = false by rw [HD.out]; exact if_pos (.inl q1))
    clear HD
    go_enter Tryd.func30, Tryd.ntmps30
    go_wp2_with (fail)
    go_ret
    exact ret_as hR.out rfl (((Below.refl _ _).alloc (Nat.le_refl _) _).alloc (by simp) _)
  by_cases q2 : 16 ≤ a - 224
  · have hR := Lib.hid (show R = false by rw [HD.out]; exact if_pos (.inr q2))
    clear HD
    go_enter Tryd.func30, Tryd.ntmps30
    go_wp2_with (fail)
    go_ret
    exact ret_as hR.out rfl ((((Below.refl _ _).alloc (Nat.le_refl _) _).alloc (by simp) _).alloc (by simp; omega) _)
  have hR : R = begEnd 3 (begGo l (3 - 1) 1 (a - 224) (a - 224)) := by rw [HD.out]; exact if_neg (by omega)
  generalize hG : begGo l (3 - 1) 1 (a - 224) (a - 224) = G at hR
  have HG := Lib.hid hG
  have HR := Lib.hid hR
  clear hG hR HD
  have hinit : (a - 224 + 1) * 64 ^ (3 - 1) ≤ 16777216 := by simp; omega
  go_enter Tryd.func30, Tryd.ntmps30
  go_wp2_with (fail)
  have hbw : Below w.heap.size w (((w.alloc (.cells #[.int .i64 0, .int .i64 0, .int .i64 128, .int .i64 2048, .int .i64 65536] 3)).alloc (.cells #[.int .i64 0, .int .i64 0, .int .i64 192, .int .i64 224, .int .i64 240] 3)).alloc (.cells #[.int .i64 0, .int .i64 0, .int .i64 32, .int .i64 16, .int .i64 8] 3)) := (((Below.refl _ _).alloc (Nat.le_refl _) _).alloc (by simp) _).alloc (by simp; omega) _
  generalize (((w.alloc (.cells #[.int .i64 0, .int .i64 0, .int .i64 128, .int .i64 2048, .int .i64 65536] 3)).alloc (.cells #[.int .i64 0, .int .i64 0, .int .i64 192, .int .i64 224, .int .i64 240] 3)).alloc (.cells #[.int .i64 0, .int .i64 0, .int .i64 32, .int .i64 16, .int .i64 8] 3)) = w1 at hbw ⊢
  have HBW := Lib.hid hbw
  have hsz := hbw.size
  clear hbw hc0
  go_loopw [8, 9, 10] (fun f t i wr => BegRel l 3 G w1 f t i wr) (fun _ _ i _ => 3 - (intOf i).toNat)
  case atStart => exact ⟨1, _, _, by omega, by omega, rfl, rfl, rfl, by omega, by omega, hinit, HG.out, Below.refl _ _⟩
  case round =>
    obtain ⟨j, F, T, hj1, hj2, rfl, rfl, rfl, hF, hFT, hroom, hg, hb⟩ := hrel
    have HGO := Lib.hid hg
    have HB := Lib.hid (HBW.out.trans (hb.mono hsz))
    have HB1 := Lib.hid hb
    clear hg
    by_cases hjn : j < 3
    · obtain ⟨hT, hroom2⟩ := beg_room (by omega) hj1 hjn (by omega) hroom
      have HRO := Lib.hid hroom2
      clear hroom hroom2
      by_cases hjk : j < k
      · obtain ⟨b2, off2, e, _, hc2⟩ := ry_getD (HH.out.below HB.out) (k := j) hjk
        injection e with e
        injection e with e1 e2
        subst e1 e2
        have hyr := HL.out.getD j
        have hy1 : l.getD j 256 ≤ 255 := hyr.2.2.2 (by rw [HLEN.out]; exact hjk)
        obtain ⟨y, hy⟩ : ∃ y, l.getD j 256 = y := ⟨_, rfl⟩
        rw [hy] at hc2 hyr hy1
        have HY := Lib.hid hy
        have d1 : decide (j < k) = true := decide_eq_true hjk
        clear hy hb
        by_cases r1 : y - 128 < 0
        · have hN := Lib.hid (begGo_out hjn (by rw [HLEN.out]; exact hjk) HY.out (.inl r1) HGO.out)
          go_wp2_with (fail)
          go_ret
          exact ret_as (by rw [HR.out, hN.out]; rfl) rfl HB.out
        by_cases r2 : 63 < y - 128
        · have hN := Lib.hid (begGo_out hjn (by rw [HLEN.out]; exact hjk) HY.out (.inr r2) HGO.out)
          go_wp2_with (fail)
          go_ret
          exact ret_as (by rw [HR.out, hN.out]; rfl) rfl HB.out
        have hN := Lib.hid (begGo_in hjn (by rw [HLEN.out]; exact hjk) HY.out (by omega) HGO.out)
        go_wp2_with (fail)
        go_roundw
        case rel => exact ⟨j + 1, F * 64 + (y - 128), T * 64 + (y - 128), by omega, by omega, by go_num, rfl, rfl, by omega, by omega, HRO.out _ (by omega) (by omega), hN.out, HB1.out⟩
        case measure => simp [intOf]; omega
      · have hN := Lib.hid (begGo_far hjn (by rw [HLEN.out]; exact hjk) HGO.out)
        have d1 : decide (j < k) = false := decide_eq_false hjk
        clear hb
        go_wp2_with (fail)
        go_roundw
        case rel => exact ⟨j + 1, F * 64, T * 64 + 63, by omega, by omega, by go_num, rfl, rfl, by omega, by omega, HRO.out _ (by omega) (by omega), hN.out, HB1.out⟩
        case measure => simp [intOf]; omega
    · obtain rfl : j = 3 := by omega
      have hN : R = begEnd 3 (some (F, T)) := by rw [HR.out, ← HGO.out]; rfl
      have hT2 : T ≤ 16777215 := by simp at hroom; omega
      have HN := Lib.hid hN
      clear hN hb hroom
      go_wp2_with (fail)
      all_goals
        go_ret
        refine ret_as ?_ rfl HB.out
        rw [HN.out]
        show ((decide (max F 2048 < 55296) && decide (max F 2048 ≤ min T 1114111)) || (decide (57343 < min T 1114111) && decide (max F 2048 ≤ min T 1114111))) = _
        rw [Bool.eq_iff_iff]
        simp only [Bool.or_eq_true, Bool.and_eq_true, decide_eq_true_eq, iff_true, Bool.false_eq_true, iff_false]
        omega
set_option maxHeartbeats 4000000 in
theorem begins4_any (A : Option Addr) (k c : Nat) (l : List Int) (w : World) (h : RY w w.heap.size A k l) (hl : ByteL l) (hk : 1 ≤ k) (hk4 : k ≤ 4) :
    Calls Tryd.prog 30 #[.slice A k c, .int .i64 4] w (RetB (begB l 4) w) := by
  obtain ⟨b, off, rfl, hbB, hc0⟩ := ry_getD h (k := 0) (by omega)
  rw [Nat.add_zero] at hc0
  have hlen := h.1
  have hb0 := hl.getD 0
  have hb1 : l.getD 0 256 ≤ 255 := hb0.2.2.2 (by omega)
  have hdef : begB l 4 = if l.getD 0 256 - 240 < 0 ∨ 8 ≤ l.getD 0 256 - 240 then false else begEnd 4 (begGo l (4 - 1) 1 (l.getD 0 256 - 240) (l.getD 0 256 - 240)) := rfl
  generalize l.getD 0 256 = a at hc0 hb0 hb1 hdef
  have HH := Lib.hid h
  have HL := Lib.hid hl
  have HLEN := Lib.hid hlen
  generalize begB l 4 = R at hdef ⊢
  have HD := Lib.hid hdef
  clear h hl hlen hdef
  by_cases q1 : a - 240 < 0
  · have hR := Lib.hid (show R = false by rw [HD.out]; exact if_pos (.inl q1))
    clear HD
    go_enter Tryd.func30, Tryd.ntmps30
    go_wp2_with (fail)
    go_ret
    exact ret_as hR.out rfl (((Below.refl _ _).alloc (Nat.le_refl _) _).alloc (by simp) _)
  by_cases q2 : 8 ≤ a - 240
  · have hR := Lib.hid (show R = false by rw [HD.out]; exact if_pos (.inr q2))
    clear HD
    go_enter Tryd.func30, Tryd.ntmps30
    go_wp2_with (fail)
    go_ret
    exact ret_as hR.out rfl ((((Below.refl _ _).alloc (Nat.le_refl _) _).alloc (by simp) _).alloc (by simp; omega) _)
  have hR : R = begEnd 4 (begGo l (4 - 1) 1 (a - 240) (a - 240)) := by rw [HD.out]; exact if_neg (by omega)
  generalize hG : begGo l (4 - 1) 1 (a - 240) (a - 240) = G at hR
  have HG := Lib.hid hG
  have HR := Lib.hid hR
  clear hG hR HD
  have hinit : (a - 240 + 1) * 64 ^ (4 - 1) ≤ 16777216 := by simp; omega
  go_enter Tryd.func30, Tryd.ntmps30
  go_wp2_with (fail)
  have hbw : Below w.heap.size w (((w.alloc (.cells #[.int .i64 0, .int .i64 0, .int .i64 128, .int .i64 2048, .int .i64 65536] 3)).alloc (.cells #[.int .i64 0, .int .i64 0, .int .i64 192, .int .i64 224, .int .i64 240] 3)).alloc (.cells #[.int .i64 0, .int .i64 0, .int .i64 32, .int .i64 16, .int .i64 8] 3)) := (((Below.refl _ _).alloc (Nat.le_refl _) _).alloc (by simp) _).alloc (by simp; omega) _
  generalize (((w.alloc (.cells #[.int .i64 0, .int .i64 0, .int .i64 128, .int .i64 2048, .int .i64 65536] 3)).alloc (.cells #[.int .i64 0, .int .i64 0, .int .i64 192, .int .i64 224, .int .i64 240] 3)).alloc (.cells #[.int .i64 0, .int .i64 0, .int .i64 32, .int .i64 16, .int .i64 8] 3)) = w1 at hbw ⊢
  have HBW := Lib.hid hbw
  have hsz := hbw.size
  clear hbw hc0
  go_loopw [8, 9, 10] (fun f t i wr => BegRel l 4 G w1 f t i wr) (fun _ _ i _ => 4 - (intOf i).toNat)
  case atStart => exact ⟨1, _, _, by omega, by omega, rfl, rfl, rfl, by omega, by omega, hinit, HG.out, Below.refl _ _⟩
  case round =>
    obtain ⟨j, F, T, hj1, hj2, rfl, rfl, rfl, hF, hFT, hroom, hg, hb⟩ := hrel
    have HGO := Lib.hid hg
    have HB := Lib.hid (HBW.out.trans (hb.mono hsz))
    have HB1 := Lib.hid hb
    clear hg
    by_cases hjn : j < 4
    · obtain ⟨hT, hroom2⟩ := beg_room (by omega) hj1 hjn (by omega) hroom
      have HRO := Lib.hid hroom2
      clear hroom hroom2
      by_cases hjk : j < k
      · obtain ⟨b2, off2, e, _, hc2⟩ := ry_getD (HH.out.below HB.out) (k := j) hjk
        injection e with e
        injection e with e1 e2
        subst e1 e2
        have hyr := HL.out.getD j
        have hy1 : l.getD j 256 ≤ 255 := hyr.2.2.2 (by rw [HLEN.out]; exact hjk)
        obtain ⟨y, hy⟩ : ∃ y, l.getD j 256 = y := ⟨_, rfl⟩
        rw [hy] at hc2 hyr hy1
        have HY := Lib.hid hy
        have d1 : decide (j < k) = true := decide_eq_true hjk
        clear hy hb
        by_cases r1 : y - 128 < 0
        · have hN := Lib.hid (begGo_out hjn (by rw [HLEN.out]; exact hjk) HY.out (.inl r1) HGO.out)
          go_wp2_with (fail)
          go_ret
          exact ret_as (by rw [HR.out, hN.out]; rfl) rfl HB.out
        by_cases r2 : 63 < y - 128
        · have hN := Lib.hid (begGo_out hjn (by rw [HLEN.out]; exact hjk) HY.out (.inr r2) HGO.out)
          go_wp2_with (fail)
          go_ret
          exact ret_as (by rw [HR.out, hN.out]; rfl) rfl HB.out
        have hN := Lib.hid (begGo_in hjn (by rw [HLEN.out]; exact hjk) HY.out (by omega) HGO.out)
        go_wp2_with (fail)
        go_roundw
        case rel => exact ⟨j + 1, F * 64 + (y - 128), T * 64 + (y - 128), by omega, by omega, by go_num, rfl, rfl, by omega, by omega, HRO.out _ (by omega) (by omega), hN.out, HB1.out⟩
        case measure => simp [intOf]; omega
      · have hN := Lib.hid (begGo_far hjn (by rw [HLEN.out]; exact hjk) HGO.out)
        have d1 : decide (j < k) = false := decide_eq_false hjk
        clear hb
        go_wp2_with (fail)
        go_roundw
        case rel => exact ⟨j + 1, F * 64, T * 64 + 63, by omega, by omega, by go_num, rfl, rfl, by omega, by omega, HRO.out _ (by omega) (by omega), hN.out, HB1.out⟩
        case measure => simp [intOf]; omega
    · obtain rfl : j = 4 := by omega
      have hN : R = begEnd 4 (some (F, T)) := by rw [HR.out, ← HGO.out]; rfl
      have hT2 : T ≤ 16777215 := by simp at hroom; omega
      have HN := Lib.hid hN
      clear hN hb hroom
      go_wp2_with (fail)
      all_goals
        go_ret
        refine ret_as ?_ rfl HB.out
        rw [HN.out]
        show ((decide (max F 65536 < 55296) && decide (max F 65536 ≤ min T 1114111)) || (decide (57343 < min T 1114111) && decide (max F 65536 ≤ min T 1114111))) = _
        rw [Bool.eq_iff_iff]
        simp only [Bool.or_eq_true, Bool.and_eq_true, decide_eq_true_eq, iff_true, Bool.false_eq_true, iff_false]
        omega
end Go.Proofs.YtjhgboncipnkeaaDoor.Ut
