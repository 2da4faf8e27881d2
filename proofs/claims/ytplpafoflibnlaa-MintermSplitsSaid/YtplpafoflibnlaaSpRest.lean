/- The walks of ref.Count, ref.Nth, ref.At and ref.Move. -/
import Derived.Test.YtplpafoflibnlaaSpHelp
import Derived.Deep.RegionHeld3
import Derived.Deep.AppendLies
import Derived.IntWalk
namespace Go.Proofs.Ytplpafoflibnlaa.Sp
set_option maxRecDepth 100000
open Go Go.RowKit

def RCountRel (p : List Span) (w2 : World) (n i : Value) (wr : World) : Prop := ∃ k : Nat, k ≤ p.length ∧ i = .int .i64 k ∧ n = .int .i64 (cnt (p.take k)) ∧ Below w2.heap.size w2 wr
set_option maxHeartbeats 1000000 in
theorem rcount_any (A : Option Addr) (n c : Nat) (l p0 : List Span) (w : World) (h : RS w w.heap.size A n l) (hn : n ≤ 68719476736) (hp0 : Is p0 (mem l)) :
    Calls Try.prog 13 #[.slice A n c] w (RetI (cnt p0) w) := by
  have HP0 := Lib.hid hp0; clear hp0
  go_enter Try.func13, Try.ntmps13
  go_wp2_with (fail)
  refine (rnorm_any A n c l _ h hn).mono ?_
  rintro e w2 ⟨v2, p, rfl, hP, ho2, hb2⟩
  obtain rfl : p0 = p := HP0.out.eq hP fun _ => Iff.rfl
  obtain ⟨A2, c2, hv2, hc2, hr2⟩ := own_RS ho2
  subst hv2
  have HP := Lib.hid hP.1
  have hs2 := hP.1.short
  clear hP ho2
  go_wp2_with (fail)
  go_loopw [3, 5] (fun n i wr => RCountRel p0 w2 n i wr) (fun _ i _ => p0.length - (intOf i).toNat)
  case atStart => exact ⟨0, Nat.zero_le _, rfl, by simp [cnt], Below.refl _ _⟩
  case round =>
    obtain ⟨k, hk, rfl, rfl, hb⟩ := hrel
    have hz := hb.size
    by_cases hlt : k < p0.length
    · obtain ⟨b, off, lo, hi, hA, hbB, hlk, hc1, hc2'⟩ := (hr2.below hb).at_ hlt
      have hbs : b < wr.heap.size := by omega
      have hok := ok_at HP.out hlk
      have h1 := cnt_nonneg (HP.out.take k)
      have h2 := cnt_le (HP.out.take k)
      have HL := Lib.hid hlk; clear hlk
      rw [hA]
      clear hA
      generalize hcn : cnt (p0.take k) = m at *
      have HCN := Lib.hid hcn; clear hcn
      go_wp2_with (fail)
      go_quiet (fail)
      go_wp2_with (fail)
      go_roundw
      case rel => exact ⟨k + 1, by omega, by go_num, by rw [cnt_take HL.out, HCN.out]; congr 1; omega, below_drewN hb _⟩
      case measure => simp [intOf]; omega
    · have HT := Lib.hid (show p0.take k = p0 from List.take_of_length_le (by omega))
      go_wp2_with (fail)
      go_ret
      exact ⟨ret_int (by rw [HT.out]), hb2.trans (hb.mono hb2.size)⟩

def RNthRel (p : List Span) (i0 : Int) (w2 : World) (v i : Value) (wr : World) : Prop := ∃ (k : Nat) (j : Int), k ≤ p.length ∧ i = .int .i64 k ∧ v = .int .i64 j ∧ j ≤ i0 ∧ (0 ≤ i0 → 0 ≤ j) ∧ (i0 < 0 → k = 0 ∧ j = i0) ∧ nth p i0 = nth (p.drop k) j ∧ Below w2.heap.size w2 wr
set_option maxHeartbeats 1000000 in
theorem rnth_any (A : Option Addr) (c : Nat) (p0 : List Span) (i0 : Int) (w : World) (h : RS w w.heap.size A p0.length p0) (hp : Plain p0) (hi0 : i0 ≤ 9223372036854775807) :
    Calls Try.prog 58 #[.slice A p0.length c, .int .i64 i0] w (RetIB (nthB p0 i0) w) := by
  have hs := hp.short
  have HP := Lib.hid hp; clear hp
  go_enter Try.func58, Try.ntmps58
  go_wp2_with (fail)
  go_loopw [1, 6] (fun v i wr => RNthRel p0 i0 w v i wr) (fun _ i _ => p0.length - (intOf i).toNat)
  case atStart => exact ⟨0, i0, Nat.zero_le _, rfl, rfl, by omega, fun h => h, fun _ => ⟨rfl, rfl⟩, rfl, Below.refl _ _⟩
  case round =>
    obtain ⟨k, j, hk, rfl, rfl, hj1, hj0, hjn, hnth, hb⟩ := hrel
    have hz := hb.size
    have HN := Lib.hid hnth; clear hnth
    by_cases hneg : i0 < 0
    · have HV := Lib.hid (show nthB p0 i0 = (0, false) from if_pos hneg)
      have hj : j < 0 := by have := hjn hneg; omega
      clear hj0 hjn
      by_cases hlt : k < p0.length
      · go_wp2_with (fail)
        go_ret2
        exact ⟨ret_ib HV.out.symm, hb⟩
      · go_wp2_with (fail)
        go_ret2
        exact ⟨ret_ib HV.out.symm, hb⟩
    · have hj : 0 ≤ j := hj0 (by omega)
      clear hj0 hjn
      by_cases hlt : k < p0.length
      · obtain ⟨b, off, lo, hi, hA, hbB, hlk, hc1, hc2⟩ := (h.below hb).at_ hlt
        have hbs : b < wr.heap.size := by omega
        have hok := ok_at HP.out hlk
        have HL := Lib.hid hlk; clear hlk
        rw [hA]
        clear hA
        by_cases hji : j < hi - lo + 1
        · have hv : nthB p0 i0 = (lo + j, true) := by
            unfold nthB
            rw [if_neg hneg, HN.out, nth_drop HL.out, if_pos hji]
          have HV := Lib.hid hv; clear hv
          go_wp2_with (fail)
          go_quiet (fail)
          go_wp2_with (fail)
          go_ret2
          exact ⟨ret_ib HV.out.symm, below_drewN hb _⟩
        · have hv := HN.out
          rw [nth_drop HL.out, if_neg hji] at hv
          have HV := Lib.hid hv; clear hv
          go_wp2_with (fail)
          go_quiet (fail)
          go_wp2_with (fail)
          go_roundw
          case rel => exact ⟨k + 1, j - (hi - lo + 1), by omega, by go_num, rfl, by omega, fun _ => by omega, fun h => absurd h (by omega), HV.out, below_drewN hb _⟩
          case measure => simp [intOf]; omega
      · have hv : nthB p0 i0 = (0, false) := by
          unfold nthB
          rw [if_neg hneg, HN.out, List.drop_eq_nil_of_le (by omega), nth]
        have HV := Lib.hid hv; clear hv
        go_wp2_with (fail)
        go_ret2
        exact ⟨ret_ib HV.out.symm, hb⟩

set_option maxHeartbeats 400000 in
theorem rat_any (A : Option Addr) (n c : Nat) (l p0 : List Span) (i0 : Int) (w : World) (h : RS w w.heap.size A n l) (hn : n ≤ 68719476736) (hp0 : Is p0 (mem l)) (hi0 : i0 ≤ 9223372036854775807) :
    Calls Try.prog 29 #[.slice A n c, .int .i64 i0] w (RetIB (nthB p0 i0) w) := by
  have HP0 := Lib.hid hp0; clear hp0
  go_enter Try.func29, Try.ntmps29
  go_wp2_with (fail)
  refine (rnorm_any A n c l _ h hn).mono ?_
  rintro e w2 ⟨v2, p, rfl, hP, ho2, hb2⟩
  obtain rfl : p0 = p := HP0.out.eq hP fun _ => Iff.rfl
  obtain ⟨A2, c2, hv2, hc2, hr2⟩ := own_RS ho2
  subst hv2
  have H := Lib.hid (rnth_any A2 c2 p0 i0 w2 hr2 hP.1 hi0)
  obtain ⟨⟨a, b⟩, hab⟩ : ∃ q, nthB p0 i0 = q := ⟨_, rfl⟩
  rw [hab] at H
  have HAB := Lib.hid hab.symm
  clear hP ho2 hab
  go_wp2_with (fail)
  refine H.out.mono ?_
  rintro e w3 ⟨rfl, hb3⟩
  go_wp2_with (fail)
  go_ret2
  exact ⟨ret_ib HAB.out, hb2.trans (hb3.mono hb2.size)⟩

/-- A list of spans, each moved. -/
def shift (d : Int) (p : List Span) : List Span := p.map fun q => (q.1 + d, q.2 + d)
theorem shift_mem (d : Int) (p : List Span) (hp : Plain p) (x : Int) : mem (shift d p) x ↔ Rng x ∧ mem p (x - d) := by
  unfold mem shift
  constructor
  · rintro ⟨h, q, hq, h1, h2⟩
    obtain ⟨q', hq', rfl⟩ := List.mem_map.1 hq
    have := hp.2 q' hq'
    unfold Ok at this
    simp only at h1 h2
    exact ⟨h, by unfold Rng; omega, q', hq', by omega, by omega⟩
  · rintro ⟨h, _, q, hq, h1, h2⟩
    exact ⟨h, _, List.mem_map.2 ⟨q, hq, rfl⟩, by simp only; omega, by simp only; omega⟩
theorem shift_next {d lo hi : Int} {p : List Span} {k : Nat} (hk : ∃ hl : k < p.length, p[k] = (lo, hi)) : shift d (p.take (k + 1)) = shift d (p.take k) ++ [(lo + d, hi + d)] := by
  obtain ⟨hl, e⟩ := hk
  rw [List.take_succ_eq_append_getElem hl, e]
  simp [shift]
def RMoveRel (p : List Span) (d : Int) (w2 : World) (v i : Value) (wr : World) : Prop := ∃ k : Nat, k ≤ p.length ∧ i = .int .i64 k ∧ OwnsL wr w2.heap.size v (shift d (p.take k)) ∧ Below w2.heap.size w2 wr
theorem shift_len (d : Int) (p : List Span) (k : Nat) (hk : k ≤ p.length) : (shift d (p.take k)).length = k := by simp [shift]; omega
end Go.Proofs.Ytplpafoflibnlaa.Sp
