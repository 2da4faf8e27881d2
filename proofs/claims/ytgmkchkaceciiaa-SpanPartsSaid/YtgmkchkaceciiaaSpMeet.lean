/- The walks of span.Meet and span.Meets. -/
import Derived.Test.YtgmkchkaceciiaaSpClip
import Derived.StillTailTactics
namespace Go.Proofs.Ytgmkchkaceciiaa.Sp
set_option maxRecDepth 100000
open Go Go.RowKit

def MeetRel (p q : List Span) (w2 : World) (out i j : Value) (wr : World) : Prop :=
  ∃ (a b : Nat) (o : List Span), a ≤ p.length ∧ b ≤ q.length ∧ i = .int .i64 a ∧ j = .int .i64 b ∧ OwnsL wr w2.heap.size out o ∧ MeetInv p q a b o ∧ Below w2.heap.size w2 wr

theorem meet_left {p q o : List Span} {a b : Nat} {lo1 hi1 lo2 hi2 L H : Int} (h : MeetInv p q a b o) (hp : Plain p) (hq : Plain q) (h1 : ∃ hl : a < p.length, p[a] = (lo1, hi1)) (h2 : ∃ hl : b < q.length, q[b] = (lo2, hi2)) (hlt : hi1 < hi2) (eL : max lo1 lo2 = L) (eH : min hi1 hi2 = H) : MeetInv p q (a + 1) b (putL o L H) := by
  obtain ⟨hl1, e1⟩ := h1
  obtain ⟨hl2, e2⟩ := h2
  have := h.left hp hq hl1 hl2 (by rw [e1, e2]; exact hlt)
  rw [e1, e2] at this
  simp only [eL, eH] at this
  exact this
theorem meet_right {p q o : List Span} {a b : Nat} {lo1 hi1 lo2 hi2 L H : Int} (h : MeetInv p q a b o) (hp : Plain p) (hq : Plain q) (h1 : ∃ hl : a < p.length, p[a] = (lo1, hi1)) (h2 : ∃ hl : b < q.length, q[b] = (lo2, hi2)) (hlt : hi2 ≤ hi1) (eL : max lo1 lo2 = L) (eH : min hi1 hi2 = H) : MeetInv p q a (b + 1) (putL o L H) := by
  obtain ⟨hl1, e1⟩ := h1
  obtain ⟨hl2, e2⟩ := h2
  have := h.right hp hq hl1 hl2 (by rw [e1, e2]; exact hlt)
  rw [e1, e2] at this
  simp only [eL, eH] at this
  exact this

/-- One span of a plain list, in memory. -/
theorem one_of {w : World} {A : Option Addr} {q : List Span} (h : RS w w.heap.size A q.length q) (hq : Plain q) (h1 : q.length = 1) : ∃ b off, ∃ lo hi : Int, A = some ⟨b, off, none⟩ ∧ b < w.heap.size ∧ q = [(lo, hi)] ∧ Ok (lo, hi) ∧ w.cell? ⟨b, off, none⟩ = some (.int .i64 lo) ∧ w.cell? ⟨b, off + 1, none⟩ = some (.int .i64 hi) := by
  obtain ⟨b, off, lo, hi, e, hb, ⟨hl, he⟩, hc1, hc2⟩ := h.at_ (k := 0) (by omega)
  rw [Nat.zero_mul, Nat.add_zero] at hc1 hc2
  refine ⟨b, off, lo, hi, e, hb, ?_, by rw [← he]; exact hq.2 _ (List.getElem_mem hl), hc1, hc2⟩
  apply List.ext_getElem
  · simp [h1]
  · intro j h2 h3
    obtain rfl : j = 0 := by omega
    simpa using he
set_option maxHeartbeats 4000000 in
theorem meet_any (A A' : Option Addr) (n n' c c' : Nat) (l r : List Span) (w : World) (h : RS w w.heap.size A n l) (h' : RS w w.heap.size A' n' r) (hn : n ≤ 1099511627776) (hn' : n' ≤ 1099511627776) (hc : n ≤ c) (hc' : n' ≤ c') :
    Calls Try.prog 17 #[.slice A n c, .slice A' n' c'] w (SetOut (fun x => mem l x ∧ mem r x) w) := by
  go_enter Try.func17, Try.ntmps17
  go_wp2_with (fail)
  refine (plain_any A n c l _ h hn hc).mono ?_
  rintro e w1 ⟨A1, n1, c1, p, rfl, hP, hr1, hs1, hnc1, hb1⟩
  have h1 := h'.belowM hb1
  have HPS := Lib.hid hP.2
  have HP := Lib.hid hP.1
  clear hP
  go_wp2_with (fail)
  refine (plain_any A' n' c' r _ h1 hn' hc').mono ?_
  rintro e w2 ⟨A2, n2, c2, q, rfl, hQ, hr2, hs2, hnc2, hb2⟩
  have hr1 := hr1.belowM hb2
  have HQS := Lib.hid hQ.2
  have HQ := Lib.hid hQ.1
  clear hQ
  have hz1 := hb1.size
  have hz2 := hb2.size
  obtain rfl : p.length = n1 := hr1.1
  obtain rfl : q.length = n2 := hr2.1
  have HBB := Lib.hid (hb1.trans (hb2.mono hz1))
  by_cases hp1 : p.length = 1
  · obtain ⟨b, off, lo, hi, rfl, hb, hpe, hok, hc1, hc2⟩ := one_of hr1 HP.out hp1
    have HPE := Lib.hid hpe; clear hpe
    have HOK := Lib.hid hok; clear hok
    have HR2 := Lib.hid hr2; clear hr2 hr1 h1
    rw [hp1]
    go_wp2_with (fail)
    refine (clip_any A2 q.length c2 q lo hi _ HR2.out HQ.out hnc2 HOK.out).mono ?_
    rintro e w3 ⟨v, out, rfl, his, ho, hb3⟩
    have HIS := Lib.hid his; clear his
    go_wp2_with (fail)
    go_ret
    exact ⟨v, out, rfl, HIS.out.congr fun x => by rw [← HPE.out, HPS.out, HQS.out]; exact and_comm, own_mono ho (by omega), HBB.out.trans (hb3.mono (by omega))⟩
  by_cases hq1 : q.length = 1
  · obtain ⟨b, off, lo, hi, rfl, hb, hpe, hok, hc1, hc2⟩ := one_of hr2 HQ.out hq1
    have HPE := Lib.hid hpe; clear hpe
    have HOK := Lib.hid hok; clear hok
    have HR1 := Lib.hid hr1; clear hr2 hr1 h1
    have hp2 : ¬ ((p.length : Int) = 1) := by omega
    rw [hq1]
    go_wp2_with (fail)
    refine (clip_any A1 p.length c1 p lo hi _ HR1.out HP.out hnc1 HOK.out).mono ?_
    rintro e w3 ⟨v, out, rfl, his, ho, hb3⟩
    have HIS := Lib.hid his; clear his
    go_wp2_with (fail)
    go_ret
    exact ⟨v, out, rfl, HIS.out.congr fun x => by rw [← HPE.out, HPS.out, HQS.out], own_mono ho (by omega), HBB.out.trans (hb3.mono (by omega))⟩
  have hp2 : ¬ ((p.length : Int) = 1) := by omega
  have hq2 : ¬ ((q.length : Int) = 1) := by omega
  go_wp2_with (fail)
  refine (grow_any _ _ (by omega) (by omega)).mono ?_
  rintro e w3 ⟨v0, rfl, ho0, hb0⟩
  have HO0 := Lib.hid ho0; clear ho0
  go_wp2_with (fail)
  go_loopw [7, 8, 9] (fun out i j wr => MeetRel p q w2 out i j wr) (fun _ i j _ => (p.length - (intOf i).toNat) + (q.length - (intOf j).toNat))
  case atStart => exact ⟨0, 0, [], Nat.zero_le _, Nat.zero_le _, rfl, rfl, HO0.out, MeetInv.start p q, hb0⟩
  case round =>
    obtain ⟨a, b, o, ha, hb, rfl, rfl, ho, hi, hbl⟩ := hrel
    have hz := hbl.size
    have HO := Lib.hid ho; clear ho
    have HI := Lib.hid hi; clear hi
    by_cases hai : a < p.length
    · by_cases hbj : b < q.length
      · obtain ⟨b1, off1, lo1, hi1, hA1, hb1B, hlk1, hc11, hc12⟩ := (hr1.below hbl).at_ hai
        obtain ⟨b2, off2, lo2, hi2, hA2, hb2B, hlk2, hc21, hc22⟩ := (hr2.below hbl).at_ hbj
        have hbs1 : b1 < wr.heap.size := by omega
        have hbs2 : b2 < wr.heap.size := by omega
        have HL1 := Lib.hid hlk1; clear hlk1
        have HL2 := Lib.hid hlk2; clear hlk2
        rw [hA1, hA2]
        clear hA1 hA2
        by_cases hlt : hi1 < hi2
        · have HNX := Lib.hid (meet_left HI.out HP.out HQ.out HL1.out HL2.out hlt rfl rfl)
          go_wp2_with (fail)
          go_still_tail 23, (by kernel_rfl)
          change wpList _ _ _ _ _ wr.drew
          go_wp2_with (fail)
          refine (put_any w2.heap.size _ o (max lo1 lo2) (min hi1 hi2) wr.drew HO.out hz (by have := HI.out.plain.short; omega)).mono ?_
          rintro e w3 ⟨v3, rfl, ho3, hb3⟩
          have hz3 := hb3.size
          have hc12' : w3.cell? ⟨b1, off1 + a * 2 + 1, none⟩ = some (.int .i64 hi1) := (hb3.cell hb1B).trans hc12
          have hc22' : w3.cell? ⟨b2, off2 + b * 2 + 1, none⟩ = some (.int .i64 hi2) := (hb3.cell hb2B).trans hc22
          have HO3 := Lib.hid ho3; clear ho3
          clear hc11 hc12 hc21 hc22
          go_wp2_with (fail)
          go_quiet (fail)
          go_wp2_with (fail)
          go_roundw
          case rel => exact ⟨a + 1, b, _, by omega, by omega, by go_num, rfl, HO3.out, HNX.out, below_drewN ((hbl.drew).trans hb3) _⟩
          case measure => simp [intOf]; omega
        · have HNX := Lib.hid (meet_right HI.out HP.out HQ.out HL1.out HL2.out (by omega) rfl rfl)
          go_wp2_with (fail)
          go_still_tail 23, (by kernel_rfl)
          change wpList _ _ _ _ _ wr.drew
          go_wp2_with (fail)
          refine (put_any w2.heap.size _ o (max lo1 lo2) (min hi1 hi2) wr.drew HO.out hz (by have := HI.out.plain.short; omega)).mono ?_
          rintro e w3 ⟨v3, rfl, ho3, hb3⟩
          have hz3 := hb3.size
          have hc12' : w3.cell? ⟨b1, off1 + a * 2 + 1, none⟩ = some (.int .i64 hi1) := (hb3.cell hb1B).trans hc12
          have hc22' : w3.cell? ⟨b2, off2 + b * 2 + 1, none⟩ = some (.int .i64 hi2) := (hb3.cell hb2B).trans hc22
          have HO3 := Lib.hid ho3; clear ho3
          clear hc11 hc12 hc21 hc22
          go_wp2_with (fail)
          go_quiet (fail)
          go_wp2_with (fail)
          go_roundw
          case rel => exact ⟨a, b + 1, _, by omega, by omega, rfl, by go_num, HO3.out, HNX.out, below_drewN ((hbl.drew).trans hb3) _⟩
          case measure => simp [intOf]; omega
      · have HD := Lib.hid (HI.out.done (.inr (by omega)))
        go_wp2_with (fail)
        go_ret
        exact ⟨_, o, rfl, HD.out.congr fun x => by rw [HPS.out, HQS.out], own_mono HO.out (by omega), (hb1.trans (hb2.mono hz1)).trans (hbl.mono (by omega))⟩
    · have HD := Lib.hid (HI.out.done (.inl (by omega)))
      go_wp2_with (fail)
      go_ret
      exact ⟨_, o, rfl, HD.out.congr fun x => by rw [HPS.out, HQS.out], own_mono HO.out (by omega), (hb1.trans (hb2.mono hz1)).trans (hbl.mono (by omega))⟩

/-- Two sets have nothing in common. -/
def Apart (P Q : List Span) : Prop := ∀ x, ¬ (mem P x ∧ mem Q x)
theorem Apart.comm {P Q : List Span} : Apart P Q ↔ Apart Q P := ⟨fun h x a => h x ⟨a.2, a.1⟩, fun h x a => h x ⟨a.2, a.1⟩⟩
theorem Apart.skip {s t : Span} {P Q : List Span} (hQ : Plain (t :: Q)) (h : s.2 < t.1) : Apart (s :: P) (t :: Q) ↔ Apart P (t :: Q) := by
  refine ⟨fun H x ⟨a, b⟩ => H x ⟨mem_cons.2 (.inr a), b⟩, fun H x ⟨a, b⟩ => ?_⟩
  rcases mem_cons.1 a with ⟨_, _, h1⟩ | a
  · rcases mem_cons.1 b with ⟨_, h2, _⟩ | ⟨_, p, hp, h3, _⟩
    · omega
    · have h4 := hQ.cons.2.2 p hp
      have h5 := hQ.cons.1.1
      omega
  · exact H x ⟨a, b⟩
theorem Apart.hit {s t : Span} {P Q : List Span} (hP : Plain (s :: P)) (hQ : Plain (t :: Q)) (h1 : ¬ s.2 < t.1) (h2 : ¬ t.2 < s.1) : ¬ Apart (s :: P) (t :: Q) := by
  have a := hP.cons.1
  have b := hQ.cons.1
  unfold Ok at a b
  intro H
  refine H (max s.1 t.1) ⟨mem_cons.2 (.inl ⟨?_, ?_, ?_⟩), mem_cons.2 (.inl ⟨?_, ?_, ?_⟩)⟩ <;> first | (unfold Rng; omega) | omega
/-- The slice value reads as the plain list P, and lies below block B. -/
def CutS (B : Nat) (v : Value) (P : List Span) (wr : World) : Prop := ∃ A n c, v = .slice A n c ∧ n ≤ c ∧ RS wr B A n P ∧ Plain P
def MeetsRel (p q : List Span) (B : Nat) (w2 : World) (v u : Value) (wr : World) : Prop :=
  ∃ P Q, CutS B v P wr ∧ CutS B u Q wr ∧ (Apart p q ↔ Apart P Q) ∧ Below B w2 wr
theorem MeetsRel.skip {p q : List Span} {B n c : Nat} {w2 wr : World} {A : Option Addr} {s t : Span} {P Q : List Span} {u : Value} (hr : RS wr B A (n + 1) (s :: P)) (hc : n + 1 ≤ c) (hP : Plain (s :: P)) (hu : CutS B u (t :: Q) wr) (h : s.2 < t.1) (hi : Apart p q ↔ Apart (s :: P) (t :: Q)) (hb : Below B w2 wr) (nq : Nat) (v : Value) (hv : v = .slice (if c = 1 then A else A.map (·.add 2)) n (c - 1)) :
    MeetsRel p q B w2 v u (wr.drewN nq) := by
  obtain ⟨A', n', c', rfl, h1, h2, h3⟩ := hu
  have hcut := hr.cut (k := 1) (by omega) hc
  rw [Nat.add_sub_cancel, List.drop_succ_cons, List.drop_zero, Nat.one_mul] at hcut
  have hd : Below B wr (wr.drewN nq) := below_drewN (Below.refl _ _) nq
  exact ⟨P, t :: Q, ⟨_, _, _, hv, by omega, hcut.below hd, hP.cons.2.1⟩, ⟨A', n', c', rfl, h1, h2.below hd, h3⟩, hi.trans (Apart.skip h3 h), hb.trans hd⟩
theorem MeetsRel.swap {p q : List Span} {B : Nat} {w2 wr : World} {v u : Value} (h : MeetsRel q p B w2 u v wr) : MeetsRel p q B w2 v u wr := by
  obtain ⟨P, Q, h1, h2, h3, h4⟩ := h
  exact ⟨Q, P, h2, h1, (Apart.comm.trans h3).trans Apart.comm, h4⟩
theorem CutS.cases {B : Nat} {v : Value} {P : List Span} {wr : World} (h : CutS B v P wr) : (P = [] ∧ ∃ A c, v = .slice A 0 c) ∨ ∃ b off c lo hi P', P = (lo, hi) :: P' ∧ v = .slice (some ⟨b, off, none⟩) (P'.length + 1) c ∧ b < B ∧ P'.length + 1 ≤ c ∧ RS wr B (some ⟨b, off, none⟩) (P'.length + 1) ((lo, hi) :: P') ∧ Plain ((lo, hi) :: P') ∧ wr.cell? ⟨b, off, none⟩ = some (.int .i64 lo) ∧ wr.cell? ⟨b, off + 1, none⟩ = some (.int .i64 hi) := by
  obtain ⟨A, n, c, rfl, hc, hr, hp⟩ := h
  have hn := hr.1
  cases P with
  | nil =>
    obtain rfl : n = 0 := hn.symm
    exact .inl ⟨rfl, A, c, rfl⟩
  | cons s P' =>
    obtain ⟨lo, hi⟩ := s
    obtain rfl : P'.length + 1 = n := hn
    obtain ⟨b, off, lo', hi', rfl, hb, ⟨_, he⟩, h1, h2⟩ := hr.at_ (k := 0) (by omega)
    simp only [List.getElem_cons_zero, Prod.mk.injEq] at he
    obtain ⟨rfl, rfl⟩ := he
    simp only [Nat.zero_mul, Nat.add_zero] at h1 h2
    exact .inr ⟨b, off, c, lo, hi, P', rfl, rfl, hb, hc, hr, hp, h1, h2⟩
def lenM : Value → Nat
  | .slice _ n _ => n
  | _ => 0
set_option maxHeartbeats 1000000 in
theorem meets_any (A A' : Option Addr) (n n' c c' : Nat) (l r : List Span) (b : Bool) (w : World) (h : RS w w.heap.size A n l) (h' : RS w w.heap.size A' n' r) (hn : n ≤ 1099511627776) (hn' : n' ≤ 1099511627776) (hc : n ≤ c) (hc' : n' ≤ c')
    (hb : b = false ↔ ∀ x, ¬ (mem l x ∧ mem r x)) :
    Calls Try.prog 20 #[.slice A n c, .slice A' n' c'] w (RetB b w) := by
  have HB := Lib.hid hb; clear hb
  go_enter Try.func20, Try.ntmps20
  go_wp2_with (fail)
  refine (plain_any A n c l _ h hn hc).mono ?_
  rintro e w1 ⟨A1, n1, c1, p, rfl, hP, hr1, hs1, hnc1, hb1⟩
  have h1 := h'.belowM hb1
  have HPS := Lib.hid hP.2
  have HP := Lib.hid hP.1
  clear hP
  go_wp2_with (fail)
  refine (plain_any A' n' c' r _ h1 hn' hc').mono ?_
  rintro e w2 ⟨A2, n2, c2, q, rfl, hQ, hr2, hs2, hnc2, hb2⟩
  have hr1 := hr1.belowM hb2
  have HQS := Lib.hid hQ.2
  have HQ := Lib.hid hQ.1
  clear hQ
  have hz1 := hb1.size
  have hz2 := hb2.size
  have HR1 := Lib.hid hr1
  have HR2 := Lib.hid hr2
  clear hr1 hr2 h1
  have HBB := Lib.hid (hb1.trans (hb2.mono hz1))
  have HAP := Lib.hid (show b = false ↔ Apart p q from HB.out.trans ⟨fun H x a => H x ⟨(HPS.out x).1 a.1, (HQS.out x).1 a.2⟩, fun H x a => H x ⟨(HPS.out x).2 a.1, (HQS.out x).2 a.2⟩⟩)
  go_wp2_with (fail)
  go_loopw [5, 6] (fun v u wr => MeetsRel p q w2.heap.size w2 v u wr) (fun v u _ => lenM v + lenM u)
  case atStart => exact ⟨p, q, ⟨A1, n1, c1, rfl, hnc1, HR1.out, HP.out⟩, ⟨A2, n2, c2, rfl, hnc2, HR2.out, HQ.out⟩, Iff.rfl, Below.refl _ _⟩
  case round =>
    obtain ⟨P, Q, hv, hu, hi, hbl⟩ := hrel
    have HI := Lib.hid hi; clear hi
    have HBL := Lib.hid hbl; clear hbl
    have HU := Lib.hid hu
    have HV := Lib.hid hv
    rcases hv.cases with ⟨rfl, Av, cv, rfl⟩ | ⟨bv, ov, cv, lo1, hi1, P', rfl, rfl, hbv, hcv, hrv, hpv, c11, c12⟩
    · have HF := Lib.hid (show b = false from HAP.out.2 (HI.out.2 fun x a => mem_nil x a.1))
      obtain ⟨Au, nu, cu, rfl, _, _, _⟩ := hu
      clear HU HV
      go_wp2_with (fail)
      go_ret
      exact ⟨congrArg (fun z => Ending.returned (Value.bool z)) HF.out.symm, HBB.out.trans (HBL.out.mono (by omega))⟩
    · rcases hu.cases with ⟨rfl, Au, cu, rfl⟩ | ⟨bu, ou, cu, lo2, hi2, Q', rfl, rfl, hbu, hcu, hru, hpu, c21, c22⟩
      · have HF := Lib.hid (show b = false from HAP.out.2 (HI.out.2 fun x a => mem_nil x a.2))
        clear HU HV hv hu hrv hpv
        go_wp2_with (fail)
        go_ret
        exact ⟨congrArg (fun z => Ending.returned (Value.bool z)) HF.out.symm, HBB.out.trans (HBL.out.mono (by omega))⟩
      · have HRV := Lib.hid hrv; clear hrv
        have HRU := Lib.hid hru; clear hru
        have HPV := Lib.hid hpv; clear hpv
        have HPU := Lib.hid hpu; clear hpu
        clear hv hu
        have hzl := HBL.out.size
        have dv : decide ((0 : Int) < ((P'.length + 1 : Nat) : Int)) = true := by simp
        have du : decide ((0 : Int) < ((Q'.length + 1 : Nat) : Int)) = true := by simp
        by_cases hlt : hi1 < lo2
        · by_cases hcap : cv = 1
          · subst hcap
            go_wp2_with (fail)
            go_quiet (fail)
            go_wp2_with (fail)
            go_roundw
            case rel => exact MeetsRel.skip HRV.out hcv HPV.out HU.out hlt HI.out HBL.out _ _ (by simp; omega)
            case measure => simp [lenM]
          · go_wp2_with (fail)
            go_quiet (fail)
            go_wp2_with (fail)
            go_roundw
            case rel => exact MeetsRel.skip HRV.out hcv HPV.out HU.out hlt HI.out HBL.out _ _ (by simp [hcap, Go.WideShapes.add_plain])
            case measure => simp [lenM]
        by_cases hlt2 : hi2 < lo1
        · have HI2 := Lib.hid ((Apart.comm.trans HI.out).trans Apart.comm)
          by_cases hcap : cu = 1
          · subst hcap
            go_wp2_with (fail)
            go_quiet (fail)
            go_wp2_with (fail)
            go_quiet (fail)
            go_wp2_with (fail)
            go_roundw
            case rel => exact MeetsRel.swap (MeetsRel.skip HRU.out hcu HPU.out HV.out hlt2 HI2.out HBL.out _ _ (by simp; omega))
            case measure => simp [lenM]
          · go_wp2_with (fail)
            go_quiet (fail)
            go_wp2_with (fail)
            go_quiet (fail)
            go_wp2_with (fail)
            go_roundw
            case rel => exact MeetsRel.swap (MeetsRel.skip HRU.out hcu HPU.out HV.out hlt2 HI2.out HBL.out _ _ (by simp [hcap, Go.WideShapes.add_plain]))
            case measure => simp [lenM]
        · have HT := Lib.hid (show b = true from by
            cases b
            · exact (Apart.hit HPV.out HPU.out hlt hlt2 (HI.out.1 (HAP.out.1 rfl))).elim
            · rfl)
          go_wp2_with (fail)
          go_quiet (fail)
          go_wp2_with (fail)
          go_quiet (fail)
          go_wp2_with (fail)
          go_ret
          exact ⟨congrArg (fun z => Ending.returned (Value.bool z)) HT.out.symm, HBB.out.trans ((below_drewN (below_drewN HBL.out _) _).mono (by omega))⟩
end Go.Proofs.Ytgmkchkaceciiaa.Sp
