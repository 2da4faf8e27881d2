/- The walks of ref.Count, ref.Nth, ref.At and ref.Move. -/
import Derived.Test.YtfjghokjecdfgaaSpHelp
import Derived.Deep.RegionHeld3
import Derived.Deep.AppendLies
import Derived.IntWalk
namespace Go.Proofs.Ytfjghokjecdfgaa.Sp
set_option maxRecDepth 100000
open Go Go.RowKit

def RCountRel (p : List Span) (w2 : World) (n i : Value) (wr : World) : Prop := ∃ k : Nat, k ≤ p.length ∧ i = .int .i64 k ∧ n = .int .i64 (cnt (p.take k)) ∧ Below w2.heap.size w2 wr
set_option maxHeartbeats 1000000 in
theorem rcount_any (A : Option Addr) (n c : Nat) (l p0 : List Span) (w : World) (h : RS w w.heap.size A n l) (hn : n ≤ 68719476736) (hp0 : Is p0 (mem l)) :
    Calls Try.prog 22 #[.slice A n c] w (RetI (cnt p0) w) := by
  have HP0 := Lib.hid hp0; clear hp0
  go_enter Try.func22, Try.ntmps22
  go_wp2_with (fail)
  refine (rnorm_any A n c l _ h hn).mono ?_
  rintro e w2 ⟨v2, p, rfl, hP, ho2, hb2⟩
  obtain rfl : p0 = p := HP0.out.eq hP fun _ => Iff.rfl
  obtain ⟨A2, c2, hv2, hc2, hr2⟩ := own_RS ho2
  subst hv2
  have HP := Lib.hid hP.1
  have hs2 := hP.1.short
  clear hP ho2
  go_wp2_with (fail)
  go_loopw [3, 5] (fun n i wr => RCountRel p0 w2 n i wr) (fun _ i _ => p0.length - (intOf i).toNat)
  case atStart => exact ⟨0, Nat.zero_le _, rfl, by simp [cnt], Below.refl _ _⟩
  case round =>
    obtain ⟨k, hk, rfl, rfl, hb⟩ := hrel
    have hz := hb.size
    by_cases hlt : k < p0.length
    · obtain ⟨b, off, lo, hi, hA, hbB, hlk, hc1, hc2'⟩ := (hr2.below hb).at_ hlt
      have hbs : b < wr.heap.size := by omega
      have hok := ok_at HP.out hlk
      have h1 := cnt_nonneg (HP.out.take k)
      have h2 := cnt_le (HP.out.take k)
      have HL := Lib.hid hlk; clear hlk
      rw [hA]
      clear hA
      generalize hcn : cnt (p0.take k) = m at *
      have HCN := Lib.hid hcn; clear hcn
      go_wp2_with (fail)
      go_quiet (fail)
      go_wp2_with (fail)
      go_roundw
      case rel => exact ⟨k + 1, by omega, by go_num, by rw [cnt_take HL.out, HCN.out]; congr 1; omega, below_drewN hb _⟩
      case measure => simp [intOf]; omega
    · have HT := Lib.hid (show p0.take k = p0 from List.take_of_length_le (by omega))
      go_wp2_with (fail)
      go_ret
      exact ⟨ret_int (by rw [HT.out]), hb2.trans (hb.mono hb2.size)⟩

def RNthRel (p : List Span) (i0 : Int) (w2 : World) (v i : Value) (wr : World) : Prop := ∃ (k : Nat) (j : Int), k ≤ p.length ∧ i = .int .i64 k ∧ v = .int .i64 j ∧ j ≤ i0 ∧ (0 ≤ i0 → 0 ≤ j) ∧ (i0 < 0 → k = 0 ∧ j = i0) ∧ nth p i0 = nth (p.drop k) j ∧ Below w2.heap.size w2 wr
set_option maxHeartbeats 1000000 in
theorem rnth_any (A : Option Addr) (c : Nat) (p0 : List Span) (i0 : Int) (w : World) (h : RS w w.heap.size A p0.length p0) (hp : Plain p0) (hi0 : i0 ≤ 9223372036854775807) :
    Calls Try.prog 55 #[.slice A p0.length c, .int .i64 i0] w (RetIB (nthB p0 i0) w) := by
  have hs := hp.short
  have HP := Lib.hid hp; clear hp
  go_enter Try.func55, Try.ntmps55
  go_wp2_with (fail)
  go_loopw [1, 6] (fun v i wr => RNthRel p0 i0 w v i wr) (fun _ i _ => p0.length - (intOf i).toNat)
  case atStart => exact ⟨0, i0, Nat.zero_le _, rfl, rfl, by omega, fun h => h, fun _ => ⟨rfl, rfl⟩, rfl, Below.refl _ _⟩
  case round =>
    obtain ⟨k, j, hk, rfl, rfl, hj1, hj0, hjn, hnth, hb⟩ := hrel
    have hz := hb.size
    have HN := Lib.hid hnth; clear hnth
    by_cases hneg : i0 < 0
    · have HV := Lib.hid (show nthB p0 i0 = (0, false) from if_pos hneg)
      have hj : j < 0 := by have := hjn hneg; omega
      clear hj0 hjn
      by_cases hlt : k < p0.length
      · go_wp2_with (fail)
        go_ret2
        exact ⟨ret_ib HV.out.symm, hb⟩
      · go_wp2_with (fail)
        go_ret2
        exact ⟨ret_ib HV.out.symm, hb⟩
    · have hj : 0 ≤ j := hj0 (by omega)
      clear hj0 hjn
      by_cases hlt : k < p0.length
      · obtain ⟨b, off, lo, hi, hA, hbB, hlk, hc1, hc2⟩ := (h.below hb).at_ hlt
        have hbs : b < wr.heap.size := by omega
        have hok := ok_at HP.out hlk
        have HL := Lib.hid hlk; clear hlk
        rw [hA]
        clear hA
        by_cases hji : j < hi - lo + 1
        · have hv : nthB p0 i0 = (lo + j, true) := by
            unfold nthB
            rw [if_neg hneg, HN.out, nth_drop HL.out, if_pos hji]
          have HV := Lib.hid hv; clear hv
          go_wp2_with (fail)
          go_quiet (fail)
          go_wp2_with (fail)
          go_ret2
          exact ⟨ret_ib HV.out.symm, below_drewN hb _⟩
        · have hv := HN.out
          rw [nth_drop HL.out, if_neg hji] at hv
          have HV := Lib.hid hv; clear hv
          go_wp2_with (fail)
          go_quiet (fail)
          go_wp2_with (fail)
          go_roundw
          case rel => exact ⟨k + 1, j - (hi - lo + 1), by omega, by go_num, rfl, by omega, fun _ => by omega, fun h => absurd h (by omega), HV.out, below_drewN hb _⟩
          case measure => simp [intOf]; omega
      · have hv : nthB p0 i0 = (0, false) := by
          unfold nthB
          rw [if_neg hneg, HN.out, List.drop_eq_nil_of_le (by omega), nth]
        have HV := Lib.hid hv; clear hv
        go_wp2_with (fail)
        go_ret2
        exact ⟨ret_ib HV.out.symm, hb⟩

set_option maxHeartbeats 400000 in
theorem rat_any (A : Option Addr) (n c : Nat) (l p0 : List Span) (i0 : Int) (w : World) (h : RS w w.heap.size A n l) (hn : n ≤ 68719476736) (hp0 : Is p0 (mem l)) (hi0 : i0 ≤ 9223372036854775807) :
    Calls Try.prog 26 #[.slice A n c, .int .i64 i0] w (RetIB (nthB p0 i0) w) := by
  have HP0 := Lib.hid hp0; clear hp0
  go_enter Try.func26, Try.ntmps26
  go_wp2_with (fail)
  refine (rnorm_any A n c l _ h hn).mono ?_
  rintro e w2 ⟨v2, p, rfl, hP, ho2, hb2⟩
  obtain rfl : p0 = p := HP0.out.eq hP fun _ => Iff.rfl
  obtain ⟨A2, c2, hv2, hc2, hr2⟩ := own_RS ho2
  subst hv2
  have H := Lib.hid (rnth_any A2 c2 p0 i0 w2 hr2 hP.1 hi0)
  obtain ⟨⟨a, b⟩, hab⟩ : ∃ q, nthB p0 i0 = q := ⟨_, rfl⟩
  rw [hab] at H
  have HAB := Lib.hid hab.symm
  clear hP ho2 hab
  go_wp2_with (fail)
  refine H.out.mono ?_
  rintro e w3 ⟨rfl, hb3⟩
  go_wp2_with (fail)
  go_ret2
  exact ⟨ret_ib HAB.out, hb2.trans (hb3.mono hb2.size)⟩

/-- A list of spans, each moved. -/
def shift (d : Int) (p : List Span) : List Span := p.map fun q => (q.1 + d, q.2 + d)
theorem shift_mem (d : Int) (p : List Span) (hp : Plain p) (x : Int) : mem (shift d p) x ↔ Rng x ∧ mem p (x - d) := by
  unfold mem shift
  constructor
  · rintro ⟨h, q, hq, h1, h2⟩
    obtain ⟨q', hq', rfl⟩ := List.mem_map.1 hq
    have := hp.2 q' hq'
    unfold Ok at this
    simp only at h1 h2
    exact ⟨h, by unfold Rng; omega, q', hq', by omega, by omega⟩
  · rintro ⟨h, _, q, hq, h1, h2⟩
    exact ⟨h, _, List.mem_map.2 ⟨q, hq, rfl⟩, by simp only; omega, by simp only; omega⟩
theorem shift_next {d lo hi : Int} {p : List Span} {k : Nat} (hk : ∃ hl : k < p.length, p[k] = (lo, hi)) : shift d (p.take (k + 1)) = shift d (p.take k) ++ [(lo + d, hi + d)] := by
  obtain ⟨hl, e⟩ := hk
  rw [List.take_succ_eq_append_getElem hl, e]
  simp [shift]
def RMoveRel (p : List Span) (d : Int) (w2 : World) (v i : Value) (wr : World) : Prop := ∃ k : Nat, k ≤ p.length ∧ i = .int .i64 k ∧ OwnsL wr w2.heap.size v (shift d (p.take k)) ∧ Below w2.heap.size w2 wr
theorem shift_len (d : Int) (p : List Span) (k : Nat) (hk : k ≤ p.length) : (shift d (p.take k)).length = k := by simp [shift]; omega
set_option maxHeartbeats 1000000 in
theorem rmove_any (A : Option Addr) (n c : Nat) (l : List Span) (d : Int) (w : World) (h : RS w w.heap.size A n l) (hn : n ≤ 68719476736) :
    Calls Try.prog 37 #[.slice A n c, .int .i64 d] w (SetOut (fun x => Rng x ∧ mem l (x - d)) w) := by
  obtain ⟨i0, hi0, hz0, hz1, hz2⟩ := info_parts infoSpan
  by_cases h2 : 2147483648 < d
  · go_enter Try.func37, Try.ntmps37
    go_wp2_with (fail)
    go_ret
    exact ⟨_, [], rfl, moved_none (.inr h2), World.ownsRow_nil _ _ _ _, Below.refl _ _⟩
  by_cases h1 : d < -2147483648
  · go_enter Try.func37, Try.ntmps37
    go_wp2_with (fail)
    go_ret
    exact ⟨_, [], rfl, moved_none (.inl h1), World.ownsRow_nil _ _ _ _, Below.refl _ _⟩
  go_enter Try.func37, Try.ntmps37
  go_wp2_with (fail)
  refine (rnorm_any A n c l _ h hn).mono ?_
  rintro e w2 ⟨v2, p, rfl, hP, ho2, hb2⟩
  obtain ⟨A2, c2, hv2, hc2, hr2⟩ := own_RS ho2
  subst hv2
  have hz2' := hb2.size
  have hs2 := hP.1.short
  have HPS := Lib.hid hP.2
  have HP := Lib.hid hP.1
  clear hP ho2
  go_wp2_with (fail)
  go_loopw [6, 7] (fun v i wr => RMoveRel p d w2 v i wr) (fun _ i _ => p.length - (intOf i).toNat)
  case atStart => exact ⟨0, Nat.zero_le _, rfl, World.ownsRow_nil _ _ _ _, Below.refl _ _⟩
  case round =>
    obtain ⟨k, hk, rfl, ho, hb⟩ := hrel
    have hz := hb.size
    have HLEN := Lib.hid (shift_len d p k hk)
    have HO := Lib.hid ho; clear ho
    by_cases hlt : k < p.length
    · obtain ⟨b, off, lo, hi, hA, hbB, hlk, hc1, hc2'⟩ := (hr2.below hb).at_ hlt
      have hbs : b < wr.heap.size := by omega
      have hok := ok_at HP.out hlk
      have HNX := Lib.hid (shift_next (d := d) hlk)
      clear hlk
      rw [hA]
      clear hA
      have hag : u6.ownBlock ≠ some b := fun e => by have := (HO.out.lt _ e).1; omega
      have s1 : IntKind.i64.wrap (lo + d) = lo + d := IntWalk.i64_in _ (by omega)
      have s2 : IntKind.i64.wrap (hi + d) = hi + d := IntWalk.i64_in _ (by omega)
      have i1 : (0 : Int) ≤ (k : Int) := Int.natCast_nonneg _
      have i2 : (k : Int) < (p.length : Int) := by omega
      go_wp2_with (fail)
      go_region_held3 (fun w' => w'.cell? ⟨b, off + k * 2, none⟩ = some (.int .i64 lo) ∧ w'.cell? ⟨b, off + k * 2 + 1, none⟩ = some (.int .i64 hi))
        (first
          | go_keep
          | (go_split_ands
             refine ⟨?_, ?_⟩
             · (rw [hgrow.cell_far _ (by simp; omega) (Ne.symm hag)]; assumption)
             · (rw [hgrow.cell_far _ (by simp; omega) (Ne.symm hag)]; assumption)))
        ((refine step_append_lies _ (by rfl) _ _ _ (by rfl) w2.heap.size 40 i0 _ 2 16 Try.underlying22 hi0 hz0 hz1 hz2 rfl (by omega) u6 (shift d (p.take k)).length (flat (shift d (p.take k))) (by rfl) ((HO.out.alloc _).drew)
            ⟨wr.heap.size, 0, none⟩ 1 1 [.int .i64 (lo + d), .int .i64 (hi + d)] (by rfl) (by rfl) (World.news_of_block (cs := #[.int .i64 (lo + d), .int .i64 (hi + d)]) (t := 40) (fr := (0, 0)) (heap_alloc_new wr _)) (by simp [Value.oneCell'])
            (by omega) (by rw [HLEN.out]; simp only [maxLen]; omega) (by rw [HLEN.out]; omega) (by simp; omega) (wr.heap.size + 1) (by simp) ?_; intro gg cap w4 hown1 hgrow hat hlt))
      have hown2 : OwnsL w4 w2.heap.size (.slice (some ⟨gg, 0, none⟩) ((shift d (p.take k)).length + 1) cap) (shift d (p.take k) ++ [(lo + d, hi + d)]) := by
        unfold OwnsL; rw [flat_append, List.length_append]; exact hown1
      rw [← HNX.out] at hown2
      have HG1 := Lib.hid (((hb.alloc hz _).drew).grown hgrow (by simp; omega) (own_ge HO.out))
      have HO5 := Lib.hid hown2; clear hown2 hown1 hgrow hat hlt s1 s2 i1 i2
      go_wp2_with (fail)
      go_roundw
      case rel => exact ⟨k + 1, by omega, by go_num, HO5.out, HG1.out⟩
      case measure => simp [intOf]; omega
    · have hT : p.take k = p := List.take_of_length_le (by omega)
      have ho := HO.out
      rw [hT] at ho
      obtain ⟨A5, c5, hv5, hc5, hr5⟩ := own_RS ho
      have hl5 : (shift d p).length ≤ 1073741825 := by simp [shift]; omega
      have H := Lib.hid (rnorm_any A5 (shift d p).length c5 (shift d p) wr hr5 (by omega))
      have HV := Lib.hid hv5
      clear hT ho hr5 hv5
      rw [HV.out]
      go_wp2_with (fail)
      refine H.out.mono ?_
      rintro e w6 ⟨v6, o6, rfl, his6, ho6, hb6⟩
      have HI6 := Lib.hid his6; clear his6
      go_wp2_with (fail)
      go_ret
      exact ⟨v6, o6, rfl, HI6.out.congr fun x => by rw [shift_mem d p HP.out, HPS.out], own_mono ho6 (by omega), hb2.trans ((hb.mono hz2').trans (hb6.mono (by omega)))⟩
end Go.Proofs.Ytfjghokjecdfgaa.Sp
