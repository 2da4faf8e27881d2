/- The walks of span.Count, First, Last, At and Move. -/
import Derived.Test.YtfjghokjecdfgaaSpMinus
namespace Go.Proofs.Ytfjghokjecdfgaa.Sp
set_option maxRecDepth 100000
open Go Go.RowKit

def RetI (v : Int) (w : World) (e : Ending) (w' : World) : Prop := e = .returned (.int .i64 v) ∧ Below w.heap.size w w'
def RetIB (v : Int × Bool) (w : World) (e : Ending) (w' : World) : Prop := e = .returned (.tuple #[.int .i64 v.1, .bool v.2]) ∧ Below w.heap.size w w'
theorem ret_int {a b : Int} (h : a = b) : Ending.returned (.int .i64 a) = .returned (.int .i64 b) := by rw [h]
theorem ret_ib {a : Int} {b : Bool} {v : Int × Bool} (h : (a, b) = v) : Ending.returned (.tuple #[.int .i64 a, .bool b]) = .returned (.tuple #[.int .i64 v.1, .bool v.2]) := by rw [← h]
theorem cnt_take {p : List Span} {k : Nat} {lo hi : Int} (hk : ∃ hl : k < p.length, p[k] = (lo, hi)) : cnt (p.take (k + 1)) = cnt (p.take k) + (hi - lo + 1) := by
  obtain ⟨hl, e⟩ := hk
  rw [List.take_succ_eq_append_getElem hl, e, cnt_append]
  simp only [cnt]; omega

def CountRel (p : List Span) (w2 : World) (n i : Value) (wr : World) : Prop := ∃ k : Nat, k ≤ p.length ∧ i = .int .i64 k ∧ n = .int .i64 (cnt (p.take k)) ∧ Below w2.heap.size w2 wr
set_option maxHeartbeats 1000000 in
theorem count_any (A : Option Addr) (n c : Nat) (l p0 : List Span) (w : World) (h : RS w w.heap.size A n l) (hn : n ≤ 1099511627776) (hc : n ≤ c) (hp0 : Is p0 (mem l)) :
    Calls Try.prog 29 #[.slice A n c] w (RetI (cnt p0) w) := by
  have HP0 := Lib.hid hp0; clear hp0
  go_enter Try.func29, Try.ntmps29
  go_wp2_with (fail)
  refine (plain_any A n c l _ h hn hc).mono ?_
  rintro e w2 ⟨A2, n2, c2, p, rfl, hP, hr2, hs2, hnc2, hb2⟩
  obtain rfl : p0 = p := HP0.out.eq hP fun _ => Iff.rfl
  have HP := Lib.hid hP.1; clear hP
  obtain rfl : p0.length = n2 := hr2.1
  go_wp2_with (fail)
  go_loopw [3, 9] (fun n i wr => CountRel p0 w2 n i wr) (fun _ i _ => p0.length - (intOf i).toNat)
  case atStart => exact ⟨0, Nat.zero_le _, rfl, by simp [cnt], Below.refl _ _⟩
  case round =>
    obtain ⟨k, hk, rfl, rfl, hb⟩ := hrel
    have hz := hb.size
    by_cases hlt : k < p0.length
    · obtain ⟨b, off, lo, hi, hA, hbB, hlk, hc1, hc2⟩ := (hr2.below hb).at_ hlt
      have hbs : b < wr.heap.size := by omega
      have hok := ok_at HP.out hlk
      have h1 := cnt_nonneg (HP.out.take k)
      have h2 := cnt_le (HP.out.take k)
      have HL := Lib.hid hlk; clear hlk
      rw [hA]
      clear hA
      generalize hcn : cnt (p0.take k) = m at *
      have HCN := Lib.hid hcn; clear hcn
      go_wp2_with (fail)
      go_roundw
      case rel => exact ⟨k + 1, by omega, by go_num, by rw [cnt_take HL.out, HCN.out], hb.alloc hz _⟩
      case measure => simp [intOf]; omega
    · have HT := Lib.hid (show p0.take k = p0 from List.take_of_length_le (by omega))
      go_wp2_with (fail)
      go_ret
      exact ⟨ret_int (by rw [HT.out]), hb2.trans (hb.mono hb2.size)⟩

def fstP : List Span → Int × Bool
  | [] => (0, false)
  | p :: _ => (p.1, true)
def lstP (l : List Span) : Int × Bool := match l.getLast? with
  | none => (0, false)
  | some p => (p.2, true)
set_option maxHeartbeats 400000 in
theorem first_any (A : Option Addr) (n c : Nat) (l p0 : List Span) (w : World) (h : RS w w.heap.size A n l) (hn : n ≤ 1099511627776) (hc : n ≤ c) (hp0 : Is p0 (mem l)) :
    Calls Try.prog 23 #[.slice A n c] w (RetIB (fstP p0) w) := by
  have HP0 := Lib.hid hp0; clear hp0
  go_enter Try.func23, Try.ntmps23
  go_wp2_with (fail)
  refine (plain_any A n c l _ h hn hc).mono ?_
  rintro e w2 ⟨A2, n2, c2, p, rfl, hP, hr2, hs2, hnc2, hb2⟩
  obtain rfl : p0 = p := HP0.out.eq hP fun _ => Iff.rfl
  clear hP
  obtain rfl : p0.length = n2 := hr2.1
  rcases p0 with _ | ⟨⟨lo, hi⟩, p⟩
  · simp only [List.length_nil]
    go_wp2_with (fail)
    go_ret2
    exact ⟨rfl, hb2⟩
  · obtain ⟨b, off, lo', hi', hA, hbB, hlk, hc1, hc2⟩ := hr2.at_ (k := 0) (by simp)
    obtain ⟨_, e⟩ := hlk
    simp only [List.getElem_cons_zero] at e
    injection e with e1 e2
    subst e1 e2
    rw [hA]
    simp only [Nat.zero_mul, Nat.add_zero] at hc1
    simp only [List.length_cons]
    clear hA hr2 hc2
    go_wp2_with (fail)
    go_ret2
    exact ⟨rfl, hb2⟩
set_option maxHeartbeats 400000 in
theorem last_any (A : Option Addr) (n c : Nat) (l p0 : List Span) (w : World) (h : RS w w.heap.size A n l) (hn : n ≤ 1099511627776) (hc : n ≤ c) (hp0 : Is p0 (mem l)) :
    Calls Try.prog 24 #[.slice A n c] w (RetIB (lstP p0) w) := by
  have HP0 := Lib.hid hp0; clear hp0
  go_enter Try.func24, Try.ntmps24
  go_wp2_with (fail)
  refine (plain_any A n c l _ h hn hc).mono ?_
  rintro e w2 ⟨A2, n2, c2, p, rfl, hP, hr2, hs2, hnc2, hb2⟩
  obtain rfl : p0 = p := HP0.out.eq hP fun _ => Iff.rfl
  clear hP
  obtain rfl : p0.length = n2 := hr2.1
  rcases List.eq_nil_or_concat p0 with rfl | ⟨o, ⟨lo, hi⟩, rfl⟩
  · simp only [List.length_nil]
    go_wp2_with (fail)
    go_ret2
    exact ⟨rfl, hb2⟩
  · rw [List.concat_eq_append] at *
    obtain ⟨b, off, lo', hi', hA, hbB, hlk, hc1, hc2⟩ := hr2.at_ (k := o.length) (by simp)
    obtain ⟨_, e⟩ := hlk
    rw [List.getElem_append_right (by omega)] at e
    simp only [Nat.sub_self, List.getElem_cons_zero] at e
    injection e with e1 e2
    subst e1 e2
    rw [hA]
    have HLS := Lib.hid (show lstP (o ++ [(lo, hi)]) = (hi, true) by simp [lstP])
    simp only [List.length_append, List.length_singleton] at hs2 ⊢
    clear hA hr2 hc1
    go_wp2_with (fail)
    go_ret2
    exact ⟨ret_ib HLS.out.symm, hb2⟩

def nthB (p : List Span) (i : Int) : Int × Bool := if i < 0 then (0, false) else match nth p i with
  | none => (0, false)
  | some v => (v, true)
theorem nth_drop {p : List Span} {k : Nat} {lo hi i : Int} (hk : ∃ hl : k < p.length, p[k] = (lo, hi)) : nth (p.drop k) i = if i < hi - lo + 1 then some (lo + i) else nth (p.drop (k + 1)) (i - (hi - lo + 1)) := by
  obtain ⟨hl, e⟩ := hk
  rw [List.drop_eq_getElem_cons hl, e, nth]
def AtRel (p : List Span) (i0 : Int) (w2 : World) (v i : Value) (wr : World) : Prop := ∃ (k : Nat) (j : Int), k ≤ p.length ∧ i = .int .i64 k ∧ v = .int .i64 j ∧ 0 ≤ j ∧ j ≤ i0 ∧ nth p i0 = nth (p.drop k) j ∧ Below w2.heap.size w2 wr
set_option maxHeartbeats 1000000 in
theorem at_any (A : Option Addr) (n c : Nat) (l p0 : List Span) (i0 : Int) (w : World) (h : RS w w.heap.size A n l) (hn : n ≤ 1099511627776) (hc : n ≤ c) (hp0 : Is p0 (mem l)) (hi0 : i0 ≤ 9223372036854775807) :
    Calls Try.prog 25 #[.slice A n c, .int .i64 i0] w (RetIB (nthB p0 i0) w) := by
  by_cases hneg : i0 < 0
  · have HV := Lib.hid (show nthB p0 i0 = (0, false) from if_pos hneg)
    go_enter Try.func25, Try.ntmps25
    go_wp2_with (fail)
    go_ret2
    exact ⟨ret_ib HV.out.symm, Below.refl _ _⟩
  have HP0 := Lib.hid hp0; clear hp0
  go_enter Try.func25, Try.ntmps25
  go_wp2_with (fail)
  refine (plain_any A n c l _ h hn hc).mono ?_
  rintro e w2 ⟨A2, n2, c2, p, rfl, hP, hr2, hs2, hnc2, hb2⟩
  obtain rfl : p0 = p := HP0.out.eq hP fun _ => Iff.rfl
  have HP := Lib.hid hP.1; clear hP
  obtain rfl : p0.length = n2 := hr2.1
  go_wp2_with (fail)
  go_loopw [1, 14] (fun v i wr => AtRel p0 i0 w2 v i wr) (fun _ i _ => p0.length - (intOf i).toNat)
  case atStart => exact ⟨0, i0, Nat.zero_le _, rfl, rfl, by omega, by omega, rfl, Below.refl _ _⟩
  case round =>
    obtain ⟨k, j, hk, rfl, rfl, hj0, hj1, hnth, hb⟩ := hrel
    have hz := hb.size
    have HN := Lib.hid hnth; clear hnth
    by_cases hlt : k < p0.length
    · obtain ⟨b, off, lo, hi, hA, hbB, hlk, hc1, hc2⟩ := (hr2.below hb).at_ hlt
      have hbs : b < wr.heap.size := by omega
      have hok := ok_at HP.out hlk
      have HL := Lib.hid hlk; clear hlk
      rw [hA]
      clear hA
      by_cases hji : j < hi - lo + 1
      · have hv : nthB p0 i0 = (lo + j, true) := by
          unfold nthB
          rw [if_neg (by omega), HN.out, nth_drop HL.out, if_pos hji]
        have HV := Lib.hid hv; clear hv
        go_wp2_with (fail)
        go_ret2
        exact ⟨ret_ib HV.out.symm, hb2.trans ((hb.alloc hz _).mono hb2.size)⟩
      · have hv := HN.out
        rw [nth_drop HL.out, if_neg hji] at hv
        have HV := Lib.hid hv; clear hv
        go_wp2_with (fail)
        go_roundw
        case rel => exact ⟨k + 1, j - (hi - lo + 1), by omega, by go_num, rfl, by omega, by omega, HV.out, hb.alloc hz _⟩
        case measure => simp [intOf]; omega
    · have hv : nthB p0 i0 = (0, false) := by
        unfold nthB
        rw [if_neg (by omega), HN.out, List.drop_eq_nil_of_le (by omega), nth]
      have HV := Lib.hid hv; clear hv
      go_wp2_with (fail)
      go_ret2
      exact ⟨ret_ib HV.out.symm, hb2.trans (hb.mono hb2.size)⟩

def MoveRel (p : List Span) (d : Int) (w2 : World) (v i : Value) (wr : World) : Prop := ∃ (k : Nat) (o : List Span), k ≤ p.length ∧ i = .int .i64 k ∧ OwnsL wr w2.heap.size v o ∧ MoveInv p d k o ∧ Below w2.heap.size w2 wr
theorem move_next {p o : List Span} {d : Int} {k : Nat} {lo hi : Int} (h : MoveInv p d k o) (hp : Plain p) (hk : ∃ hl : k < p.length, p[k] = (lo, hi)) : MoveInv p d (k + 1) (putL o (lo + d) (hi + d)) := by
  obtain ⟨hl, e⟩ := hk
  have := h.next hp hl
  rw [e] at this
  exact this
theorem moved_none {l : List Span} {d : Int} (h : d < -2147483648 ∨ 2147483648 < d) : Is [] fun x => Rng x ∧ mem l (x - d) :=
  ⟨Plain.nil, fun x => ⟨fun hm => absurd hm (mem_nil x), fun ⟨h1, h2, _⟩ => by unfold Rng at h1 h2; omega⟩⟩
set_option maxHeartbeats 1000000 in
theorem move_any (A : Option Addr) (n c : Nat) (l : List Span) (d : Int) (w : World) (h : RS w w.heap.size A n l) (hn : n ≤ 1099511627776) (hc : n ≤ c) :
    Calls Try.prog 36 #[.slice A n c, .int .i64 d] w (SetOut (fun x => Rng x ∧ mem l (x - d)) w) := by
  by_cases h1 : d < -2147483648
  · go_enter Try.func36, Try.ntmps36
    go_wp2_with (fail)
    go_ret
    exact ⟨_, [], rfl, moved_none (.inl h1), World.ownsRow_nil _ _ _ _, Below.refl _ _⟩
  by_cases h2 : 2147483648 < d
  · go_enter Try.func36, Try.ntmps36
    go_wp2_with (fail)
    go_ret
    exact ⟨_, [], rfl, moved_none (.inr h2), World.ownsRow_nil _ _ _ _, Below.refl _ _⟩
  go_enter Try.func36, Try.ntmps36
  go_wp2_with (fail)
  refine (plain_any A n c l _ h hn hc).mono ?_
  rintro e w2 ⟨A2, n2, c2, p, rfl, hP, hr2, hs2, hnc2, hb2⟩
  have HPS := Lib.hid hP.2
  have HP := Lib.hid hP.1; clear hP
  have hz2 := hb2.size
  obtain rfl : p.length = n2 := hr2.1
  go_wp2_with (fail)
  refine (grow_any _ _ (by omega) (by omega)).mono ?_
  rintro e w3 ⟨v0, rfl, ho0, hb0⟩
  have HO0 := Lib.hid ho0; clear ho0
  go_wp2_with (fail)
  go_loopw [6, 22] (fun v i wr => MoveRel p d w2 v i wr) (fun _ i _ => p.length - (intOf i).toNat)
  case atStart => exact ⟨0, [], Nat.zero_le _, rfl, HO0.out, MoveInv.start p d, hb0⟩
  case round =>
    obtain ⟨k, o, hk, rfl, ho, hi, hb⟩ := hrel
    have hz := hb.size
    have HO := Lib.hid ho; clear ho
    have HI := Lib.hid hi; clear hi
    by_cases hlt : k < p.length
    · obtain ⟨b, off, lo, hi, hA, hbB, hlk, hc1, hc2⟩ := (hr2.below hb).at_ hlt
      have hbs : b < wr.heap.size := by omega
      have hok := ok_at HP.out hlk
      have HNX := Lib.hid (move_next HI.out HP.out hlk)
      clear hlk
      rw [hA]
      clear hA
      go_wp2_with (fail)
      refine (put_any w2.heap.size _ o (lo + d) (hi + d) _ (World.ownsRow.alloc HO.out _) (by simp; omega) (by have := HI.out.plain.short; omega)).mono ?_
      rintro e w3 ⟨v3, rfl, ho3, hb3⟩
      have HO3 := Lib.hid ho3; clear ho3
      go_wp2_with (fail)
      go_roundw
      case rel => exact ⟨k + 1, _, by omega, by go_num, HO3.out, HNX.out, (hb.alloc hz _).trans hb3⟩
      case measure => simp [intOf]; omega
    · have HD := Lib.hid (HI.out.done (show p.length ≤ k by omega))
      go_wp2_with (fail)
      go_ret
      exact ⟨_, o, rfl, HD.out.congr fun x => by rw [HPS.out], own_mono HO.out hz2, hb2.trans (hb.mono hz2)⟩
end Go.Proofs.Ytfjghokjecdfgaa.Sp
