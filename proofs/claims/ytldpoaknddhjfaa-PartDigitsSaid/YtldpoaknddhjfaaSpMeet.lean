/- The walks of span.Meet and span.Meets. -/
import Derived.Test.YtldpoaknddhjfaaSpClip
import Derived.StillTailTactics
namespace Go.Proofs.Ytldpoaknddhjfaa.Sp
set_option maxRecDepth 100000
open Go Go.RowKit

def MeetRel (p q : List Span) (w2 : World) (out i j : Value) (wr : World) : Prop :=
  ∃ (a b : Nat) (o : List Span), a ≤ p.length ∧ b ≤ q.length ∧ i = .int .i64 a ∧ j = .int .i64 b ∧ OwnsL wr w2.heap.size out o ∧ MeetInv p q a b o ∧ Below w2.heap.size w2 wr

theorem meet_left {p q o : List Span} {a b : Nat} {lo1 hi1 lo2 hi2 L H : Int} (h : MeetInv p q a b o) (hp : Plain p) (hq : Plain q) (h1 : ∃ hl : a < p.length, p[a] = (lo1, hi1)) (h2 : ∃ hl : b < q.length, q[b] = (lo2, hi2)) (hlt : hi1 < hi2) (eL : max lo1 lo2 = L) (eH : min hi1 hi2 = H) : MeetInv p q (a + 1) b (putL o L H) := by
  obtain ⟨hl1, e1⟩ := h1
  obtain ⟨hl2, e2⟩ := h2
  have := h.left hp hq hl1 hl2 (by rw [e1, e2]; exact hlt)
  rw [e1, e2] at this
  simp only [eL, eH] at this
  exact this
theorem meet_right {p q o : List Span} {a b : Nat} {lo1 hi1 lo2 hi2 L H : Int} (h : MeetInv p q a b o) (hp : Plain p) (hq : Plain q) (h1 : ∃ hl : a < p.length, p[a] = (lo1, hi1)) (h2 : ∃ hl : b < q.length, q[b] = (lo2, hi2)) (hlt : hi2 ≤ hi1) (eL : max lo1 lo2 = L) (eH : min hi1 hi2 = H) : MeetInv p q a (b + 1) (putL o L H) := by
  obtain ⟨hl1, e1⟩ := h1
  obtain ⟨hl2, e2⟩ := h2
  have := h.right hp hq hl1 hl2 (by rw [e1, e2]; exact hlt)
  rw [e1, e2] at this
  simp only [eL, eH] at this
  exact this

/-- One span of a plain list, in memory. -/
theorem one_of {w : World} {A : Option Addr} {q : List Span} (h : RS w w.heap.size A q.length q) (hq : Plain q) (h1 : q.length = 1) : ∃ b off, ∃ lo hi : Int, A = some ⟨b, off, none⟩ ∧ b < w.heap.size ∧ q = [(lo, hi)] ∧ Ok (lo, hi) ∧ w.cell? ⟨b, off, none⟩ = some (.int .i64 lo) ∧ w.cell? ⟨b, off + 1, none⟩ = some (.int .i64 hi) := by
  obtain ⟨b, off, lo, hi, e, hb, ⟨hl, he⟩, hc1, hc2⟩ := h.at_ (k := 0) (by omega)
  rw [Nat.zero_mul, Nat.add_zero] at hc1 hc2
  refine ⟨b, off, lo, hi, e, hb, ?_, by rw [← he]; exact hq.2 _ (List.getElem_mem hl), hc1, hc2⟩
  apply List.ext_getElem
  · simp [h1]
  · intro j h2 h3
    obtain rfl : j = 0 := by omega
    simpa using he
set_option maxHeartbeats 4000000 in
theorem meet_any (A A' : Option Addr) (n n' c c' : Nat) (l r : List Span) (w : World) (h : RS w w.heap.size A n l) (h' : RS w w.heap.size A' n' r) (hn : n ≤ 1099511627776) (hn' : n' ≤ 1099511627776) (hc : n ≤ c) (hc' : n' ≤ c') :
    Calls Try.prog 24 #[.slice A n c, .slice A' n' c'] w (SetOut (fun x => mem l x ∧ mem r x) w) := by
  go_enter Try.func24, Try.ntmps24
  go_wp2_with (fail)
  refine (plain_any A n c l _ h hn hc).mono ?_
  rintro e w1 ⟨A1, n1, c1, p, rfl, hP, hr1, hs1, hnc1, hb1⟩
  have h1 := h'.belowM hb1
  have HPS := Lib.hid hP.2
  have HP := Lib.hid hP.1
  clear hP
  go_wp2_with (fail)
  refine (plain_any A' n' c' r _ h1 hn' hc').mono ?_
  rintro e w2 ⟨A2, n2, c2, q, rfl, hQ, hr2, hs2, hnc2, hb2⟩
  have hr1 := hr1.belowM hb2
  have HQS := Lib.hid hQ.2
  have HQ := Lib.hid hQ.1
  clear hQ
  have hz1 := hb1.size
  have hz2 := hb2.size
  obtain rfl : p.length = n1 := hr1.1
  obtain rfl : q.length = n2 := hr2.1
  have HBB := Lib.hid (hb1.trans (hb2.mono hz1))
  by_cases hp1 : p.length = 1
  · obtain ⟨b, off, lo, hi, rfl, hb, hpe, hok, hc1, hc2⟩ := one_of hr1 HP.out hp1
    have HPE := Lib.hid hpe; clear hpe
    have HOK := Lib.hid hok; clear hok
    have HR2 := Lib.hid hr2; clear hr2 hr1 h1
    rw [hp1]
    go_wp2_with (fail)
    refine (clip_any A2 q.length c2 q lo hi _ HR2.out HQ.out hnc2 HOK.out).mono ?_
    rintro e w3 ⟨v, out, rfl, his, ho, hb3⟩
    have HIS := Lib.hid his; clear his
    go_wp2_with (fail)
    go_ret
    exact ⟨v, out, rfl, HIS.out.congr fun x => by rw [← HPE.out, HPS.out, HQS.out]; exact and_comm, own_mono ho (by omega), HBB.out.trans (hb3.mono (by omega))⟩
  by_cases hq1 : q.length = 1
  · obtain ⟨b, off, lo, hi, rfl, hb, hpe, hok, hc1, hc2⟩ := one_of hr2 HQ.out hq1
    have HPE := Lib.hid hpe; clear hpe
    have HOK := Lib.hid hok; clear hok
    have HR1 := Lib.hid hr1; clear hr2 hr1 h1
    have hp2 : ¬ ((p.length : Int) = 1) := by omega
    rw [hq1]
    go_wp2_with (fail)
    refine (clip_any A1 p.length c1 p lo hi _ HR1.out HP.out hnc1 HOK.out).mono ?_
    rintro e w3 ⟨v, out, rfl, his, ho, hb3⟩
    have HIS := Lib.hid his; clear his
    go_wp2_with (fail)
    go_ret
    exact ⟨v, out, rfl, HIS.out.congr fun x => by rw [← HPE.out, HPS.out, HQS.out], own_mono ho (by omega), HBB.out.trans (hb3.mono (by omega))⟩
  have hp2 : ¬ ((p.length : Int) = 1) := by omega
  have hq2 : ¬ ((q.length : Int) = 1) := by omega
  go_wp2_with (fail)
  refine (grow_any _ _ (by omega) (by omega)).mono ?_
  rintro e w3 ⟨v0, rfl, ho0, hb0⟩
  have HO0 := Lib.hid ho0; clear ho0
  go_wp2_with (fail)
  go_loopw [7, 8, 9] (fun out i j wr => MeetRel p q w2 out i j wr) (fun _ i j _ => (p.length - (intOf i).toNat) + (q.length - (intOf j).toNat))
  case atStart => exact ⟨0, 0, [], Nat.zero_le _, Nat.zero_le _, rfl, rfl, HO0.out, MeetInv.start p q, hb0⟩
  case round =>
    obtain ⟨a, b, o, ha, hb, rfl, rfl, ho, hi, hbl⟩ := hrel
    have hz := hbl.size
    have HO := Lib.hid ho; clear ho
    have HI := Lib.hid hi; clear hi
    by_cases hai : a < p.length
    · by_cases hbj : b < q.length
      · obtain ⟨b1, off1, lo1, hi1, hA1, hb1B, hlk1, hc11, hc12⟩ := (hr1.below hbl).at_ hai
        obtain ⟨b2, off2, lo2, hi2, hA2, hb2B, hlk2, hc21, hc22⟩ := (hr2.below hbl).at_ hbj
        have hbs1 : b1 < wr.heap.size := by omega
        have hbs2 : b2 < wr.heap.size := by omega
        have HL1 := Lib.hid hlk1; clear hlk1
        have HL2 := Lib.hid hlk2; clear hlk2
        rw [hA1, hA2]
        clear hA1 hA2
        by_cases hlt : hi1 < hi2
        · have HNX := Lib.hid (meet_left HI.out HP.out HQ.out HL1.out HL2.out hlt rfl rfl)
          go_wp2_with (fail)
          go_still_tail 23, (by kernel_rfl)
          change wpList _ _ _ _ _ wr.drew
          go_wp2_with (fail)
          refine (put_any w2.heap.size _ o (max lo1 lo2) (min hi1 hi2) wr.drew HO.out hz (by have := HI.out.plain.short; omega)).mono ?_
          rintro e w3 ⟨v3, rfl, ho3, hb3⟩
          have hz3 := hb3.size
          have hc12' : w3.cell? ⟨b1, off1 + a * 2 + 1, none⟩ = some (.int .i64 hi1) := (hb3.cell hb1B).trans hc12
          have hc22' : w3.cell? ⟨b2, off2 + b * 2 + 1, none⟩ = some (.int .i64 hi2) := (hb3.cell hb2B).trans hc22
          have HO3 := Lib.hid ho3; clear ho3
          clear hc11 hc12 hc21 hc22
          go_wp2_with (fail)
          go_quiet (fail)
          go_wp2_with (fail)
          go_roundw
          case rel => exact ⟨a + 1, b, _, by omega, by omega, by go_num, rfl, HO3.out, HNX.out, below_drewN ((hbl.drew).trans hb3) _⟩
          case measure => simp [intOf]; omega
        · have HNX := Lib.hid (meet_right HI.out HP.out HQ.out HL1.out HL2.out (by omega) rfl rfl)
          go_wp2_with (fail)
          go_still_tail 23, (by kernel_rfl)
          change wpList _ _ _ _ _ wr.drew
          go_wp2_with (fail)
          refine (put_any w2.heap.size _ o (max lo1 lo2) (min hi1 hi2) wr.drew HO.out hz (by have := HI.out.plain.short; omega)).mono ?_
          rintro e w3 ⟨v3, rfl, ho3, hb3⟩
          have hz3 := hb3.size
          have hc12' : w3.cell? ⟨b1, off1 + a * 2 + 1, none⟩ = some (.int .i64 hi1) := (hb3.cell hb1B).trans hc12
          have hc22' : w3.cell? ⟨b2, off2 + b * 2 + 1, none⟩ = some (.int .i64 hi2) := (hb3.cell hb2B).trans hc22
          have HO3 := Lib.hid ho3; clear ho3
          clear hc11 hc12 hc21 hc22
          go_wp2_with (fail)
          go_quiet (fail)
          go_wp2_with (fail)
          go_roundw
          case rel => exact ⟨a, b + 1, _, by omega, by omega, rfl, by go_num, HO3.out, HNX.out, below_drewN ((hbl.drew).trans hb3) _⟩
          case measure => simp [intOf]; omega
      · have HD := Lib.hid (HI.out.done (.inr (by omega)))
        go_wp2_with (fail)
        go_ret
        exact ⟨_, o, rfl, HD.out.congr fun x => by rw [HPS.out, HQS.out], own_mono HO.out (by omega), (hb1.trans (hb2.mono hz1)).trans (hbl.mono (by omega))⟩
    · have HD := Lib.hid (HI.out.done (.inl (by omega)))
      go_wp2_with (fail)
      go_ret
      exact ⟨_, o, rfl, HD.out.congr fun x => by rw [HPS.out, HQS.out], own_mono HO.out (by omega), (hb1.trans (hb2.mono hz1)).trans (hbl.mono (by omega))⟩

end Go.Proofs.Ytldpoaknddhjfaa.Sp
