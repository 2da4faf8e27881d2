/- The walks of term.copies, numbersRight, Right, and of the document's Numbers, Right. -/
import Derived.Test.YtgmkchkaceciiaaTeFun
namespace Go.Proofs.Ytgmkchkaceciiaa.Te
set_option maxRecDepth 100000
open Go Go.RowKit Go.Proofs.Ytgmkchkaceciiaa.Sp Go.Proofs.Ytgmkchkaceciiaa.Pa
attribute [local go_sem] part_guard part_eq

def copyB : List PT → Bool
  | [] => true
  | [p] => takesAll p
  | _ => false
/-- Each part's Up is above the one's ahead of it. -/
def RiseTo (l : List PT) (k : Nat) : Prop := ∀ i, (h : i + 1 < l.length) → i + 1 < k → l[i].2.2.2 < l[i + 1].2.2.2
noncomputable def riseB (l : List PT) : Bool := @decide (RiseTo l l.length) (Classical.propDecidable _)
theorem riseB_true {l : List PT} {k : Nat} (h : RiseTo l k) (hk : l.length ≤ k) : riseB l = true := by
  unfold riseB
  have : RiseTo l l.length := fun i h1 h2 => h i h1 (by omega)
  simpa using this
theorem riseB_false {l : List PT} {i : Nat} {a d t u a' d' t' u' : Int} (h0 : ∃ hl : i < l.length, l[i] = (a, d, t, u)) (h1 : ∃ hl : i + 1 < l.length, l[i + 1] = (a', d', t', u')) (hu : u' ≤ u) : riseB l = false := by
  obtain ⟨l0, e0⟩ := h0
  obtain ⟨l1, e1⟩ := h1
  unfold riseB
  have : ¬ RiseTo l l.length := fun h => by
    have := h i l1 l1
    rw [e0, e1] at this
    simp only at this
    omega
  simpa using this
theorem rise_next {l : List PT} {i : Nat} {a d t u a' d' t' u' : Int} (h : RiseTo l (i + 1)) (h0 : ∃ hl : i < l.length, l[i] = (a, d, t, u)) (h1 : ∃ hl : i + 1 < l.length, l[i + 1] = (a', d', t', u')) (hu : u < u') : RiseTo l (i + 2) := by
  obtain ⟨l0, e0⟩ := h0
  obtain ⟨l1, e1⟩ := h1
  intro j hj hk
  by_cases e : j = i
  · subst e
    rw [e0, e1]
    exact hu
  · exact h j hj (by omega)
noncomputable def numB (b d t u s : Int) (l : List PT) : Bool := decide (Sm b) && (decide (Sm s) && (decide (Bits d t u) && (decide (l.length ≤ 4) && riseB l)))
def NRel (l : List PT) (B : Nat) (w2 : World) (i : Value) (wr : World) : Prop :=
  ∃ k : Nat, (k + 1 ≤ l.length ∨ k = 0) ∧ i = .int .i64 ((k + 1 : Nat) : Int) ∧ RiseTo l (k + 1) ∧ Below B w2 wr
set_option maxHeartbeats 4000000 in
theorem tnum_any (b d t u s : Int) (A : Option Addr) (n c : Nat) (l : List PT) (w : World) (h : RP w w.heap.size A n l) (hn : n ≤ maxLen) :
    Calls Try.prog 126 #[trm b d t u s A n c] w (RetB (numB b d t u s l) w) := by
  unfold maxLen at hn
  have hlen := h.1
  subst hlen
  have hbw : Below w.heap.size w (w.alloc (.cells (tcells b d t u s A l.length c) 114)) := (Below.refl _ w).alloc (Nat.le_refl _) _
  obtain ⟨w0, hw0⟩ : ∃ w0, w.alloc (.cells (tcells b d t u s A l.length c) 114) = w0 := ⟨_, rfl⟩
  have X6 := Lib.hid (fun W (hb : Below w0.heap.size w0 W) => show Boxed6 W w.heap.size b d t u s A l.length c from by rw [← hw0] at hb; exact boxed6 hb)
  rw [hw0] at hbw
  have hz0 : w.heap.size < w0.heap.size := by rw [← hw0]; simp
  have HW := Lib.hid hbw
  have H := Lib.hid (h.belowM hbw)
  have HB0 := Lib.hid (Below.refl w0.heap.size w0)
  obtain ⟨r0, r1, r2, r3, r4, r5⟩ := X6.out w0 (Below.refl _ _)
  clear h hbw
  have HS := Lib.hid (small_any b)
  have HS2 := Lib.hid (small_any s)
  have HO := Lib.hid (outer_any b d t u s A l.length c)
  have HR := Lib.hid (right_any 0 d t u 1)
  by_cases h1 : Sm b
  case neg =>
    rw [decide_eq_false h1] at HS
    go_enter Try.func126, Try.ntmps126
    go_wp2_with (fail)
    refine (HS.out _).mono ?_
    rintro e w1 ⟨rfl, rfl⟩
    go_wp2_with (fail)
    go_ret
    exact ⟨ret_bool (by simp [numB, h1]), HW.out⟩
  rw [decide_eq_true h1] at HS
  by_cases h2 : Sm s
  case neg =>
    rw [decide_eq_false h2] at HS2
    go_enter Try.func126, Try.ntmps126
    go_wp2_with (fail)
    refine (HS.out _).mono ?_
    rintro e w1 ⟨rfl, rfl⟩
    go_wp2_with (fail)
    refine (HS2.out _).mono ?_
    rintro e w1 ⟨rfl, rfl⟩
    go_wp2_with (fail)
    go_ret
    exact ⟨ret_bool (by simp [numB, h2]), HW.out⟩
  rw [decide_eq_true h2] at HS2
  by_cases h3 : Bits d t u
  case neg =>
    rw [show rightB 0 d t u 1 = false from (by simp [rightB, h3])] at HR
    go_enter Try.func126, Try.ntmps126
    go_wp2_with (fail)
    refine (HS.out _).mono ?_
    rintro e w1 ⟨rfl, rfl⟩
    go_wp2_with (fail)
    refine (HS2.out _).mono ?_
    rintro e w1 ⟨rfl, rfl⟩
    go_wp2_with (fail)
    refine (HO.out _).mono ?_
    rintro e w1 ⟨rfl, hb1⟩
    go_wp2_with (fail)
    refine (HR.out _).mono ?_
    rintro e w2 ⟨rfl, hb2⟩
    go_wp2_with (fail)
    go_ret
    exact ⟨ret_bool (by simp [numB, h3]), HW.out.trans ((hb1.trans (hb2.mono hb1.size)).mono HW.out.size)⟩
  rw [show rightB 0 d t u 1 = true from (by simp [rightB, h3])] at HR
  by_cases h4 : l.length ≤ 4
  case neg =>
    go_enter Try.func126, Try.ntmps126
    go_wp2_with (fail)
    refine (HS.out _).mono ?_
    rintro e w1 ⟨rfl, rfl⟩
    go_wp2_with (fail)
    refine (HS2.out _).mono ?_
    rintro e w1 ⟨rfl, rfl⟩
    go_wp2_with (fail)
    refine (HO.out _).mono ?_
    rintro e w1 ⟨rfl, hb1⟩
    go_wp2_with (fail)
    refine (HR.out _).mono ?_
    rintro e w2 ⟨rfl, hb2⟩
    have hb := hb1.trans (hb2.mono hb1.size)
    obtain ⟨q0, q1, q2, q3, q4, q5⟩ := X6.out w2 hb
    have HBB := Lib.hid hb
    clear hb hb1 hb2 r0 r1 r2 r3 r4 r5
    go_wp2_with (fail)
    go_ret
    exact ⟨ret_bool (by simp [numB, h4]), HW.out.trans (HBB.out.mono HW.out.size)⟩
  have HN := Lib.hid (show numB b d t u s l = riseB l from by simp [numB, h1, h2, h3, h4])
  clear h1 h2 h3
  go_enter Try.func126, Try.ntmps126
  go_wp2_with (fail)
  refine (HS.out _).mono ?_
  rintro e w1 ⟨rfl, rfl⟩
  go_wp2_with (fail)
  refine (HS2.out _).mono ?_
  rintro e w1 ⟨rfl, rfl⟩
  go_wp2_with (fail)
  refine (HO.out _).mono ?_
  rintro e w1 ⟨rfl, hb1⟩
  go_wp2_with (fail)
  refine (HR.out _).mono ?_
  rintro e w2 ⟨rfl, hb2⟩
  have hb := hb1.trans (hb2.mono hb1.size)
  obtain ⟨q0, q1, q2, q3, q4, q5⟩ := X6.out w2 hb
  have HBB := Lib.hid hb
  clear hb hb1 hb2 r0 r1 r2 r3 r4 r5
  go_wp2_with (fail)
  go_loopw [3] (fun i wr => NRel l w0.heap.size w0 i wr) (fun i _ => l.length + 1 - (intOf i).toNat)
  case atStart => exact ⟨0, .inr rfl, rfl, fun i _ hi => by omega, HBB.out⟩
  case round =>
    obtain ⟨k, hk, rfl, hA, hb⟩ := hrel
    have HA := Lib.hid hA
    have HB := Lib.hid hb
    have hz := hb.size
    obtain ⟨r0, r1, r2, r3, r4, r5⟩ := X6.out wr hb
    by_cases hlt : k + 1 < l.length
    · obtain ⟨bb, off, a', d', t', u', hA', hbB, hlk, c1, c2, c3, c4⟩ := (H.out.below hb).at_ hlt
      obtain ⟨bb', off', a'', d'', t'', u'', hA'', hbB', hlk', c1', c2', c3', c4'⟩ := (H.out.below hb).at_ (k := k) (by omega)
      subst hA'
      injection hA'' with hA''
      injection hA'' with e1 e2 _
      subst e1 e2
      have HLK := Lib.hid hlk
      have HLK' := Lib.hid hlk'
      clear hA hb hlk hlk' q0 q1 q2 q3 q4 q5 hk
      by_cases a4 : u' ≤ u''
      · go_wp2_with (fail)
        go_quiet (fail)
        go_wp2_with (fail)
        go_ret
        exact ⟨ret_bool (HN.out.trans (riseB_false HLK'.out HLK.out a4)).symm, HW.out.trans ((below_drewN HB.out _).mono HW.out.size)⟩
      · go_wp2_with (fail)
        go_quiet (fail)
        go_wp2_with (fail)
        go_roundw
        case rel => exact ⟨k + 1, by omega, by go_num, rise_next HA.out HLK'.out HLK.out (by omega), below_drewN HB.out _⟩
        case measure => simp [intOf]; omega
    · have HT := Lib.hid (riseB_true hA (by omega))
      clear hA hb
      go_wp2_with (fail)
      go_ret
      exact ⟨ret_bool (HN.out.trans HT.out).symm, HW.out.trans (HB.out.mono HW.out.size)⟩
set_option maxHeartbeats 4000000 in
theorem rnum_any (b d t u s : Int) (A : Option Addr) (n c : Nat) (l : List PT) (w : World) (h : RP w w.heap.size A n l) (hn : n ≤ maxLen) :
    Calls Try.prog 121 #[trm b d t u s A n c] w (RetB (numB b d t u s l) w) := by
  unfold maxLen at hn
  have hlen := h.1
  subst hlen
  have hbw : Below w.heap.size w (w.alloc (.cells (tcells b d t u s A l.length c) 114)) := (Below.refl _ w).alloc (Nat.le_refl _) _
  obtain ⟨w0, hw0⟩ : ∃ w0, w.alloc (.cells (tcells b d t u s A l.length c) 114) = w0 := ⟨_, rfl⟩
  have X6 := Lib.hid (fun W (hb : Below w0.heap.size w0 W) => show Boxed6 W w.heap.size b d t u s A l.length c from by rw [← hw0] at hb; exact boxed6 hb)
  rw [hw0] at hbw
  have hz0 : w.heap.size < w0.heap.size := by rw [← hw0]; simp
  have HW := Lib.hid hbw
  have H := Lib.hid (h.belowM hbw)
  have HB0 := Lib.hid (Below.refl w0.heap.size w0)
  obtain ⟨r0, r1, r2, r3, r4, r5⟩ := X6.out w0 (Below.refl _ _)
  clear h hbw
  have HS := Lib.hid (rsmall_any b)
  have HS2 := Lib.hid (rsmall_any s)
  have HO := Lib.hid (router_any b d t u s A l.length c)
  have HR := Lib.hid (rbits_any 0 d t u)
  by_cases h1 : Sm b
  case neg =>
    rw [decide_eq_false h1] at HS
    go_enter Try.func121, Try.ntmps121
    go_wp2_with (fail)
    refine (HS.out _).mono ?_
    rintro e w1 ⟨rfl, rfl⟩
    go_wp2_with (fail)
    go_ret
    exact ⟨ret_bool (by simp [numB, h1]), HW.out⟩
  rw [decide_eq_true h1] at HS
  by_cases h2 : Sm s
  case neg =>
    rw [decide_eq_false h2] at HS2
    go_enter Try.func121, Try.ntmps121
    go_wp2_with (fail)
    refine (HS.out _).mono ?_
    rintro e w1 ⟨rfl, rfl⟩
    go_wp2_with (fail)
    refine (HS2.out _).mono ?_
    rintro e w1 ⟨rfl, rfl⟩
    go_wp2_with (fail)
    go_ret
    exact ⟨ret_bool (by simp [numB, h2]), HW.out⟩
  rw [decide_eq_true h2] at HS2
  by_cases h3 : Bits d t u
  case neg =>
    rw [show decide (Bits d t u) = false from (decide_eq_false h3)] at HR
    go_enter Try.func121, Try.ntmps121
    go_wp2_with (fail)
    refine (HS.out _).mono ?_
    rintro e w1 ⟨rfl, rfl⟩
    go_wp2_with (fail)
    refine (HS2.out _).mono ?_
    rintro e w1 ⟨rfl, rfl⟩
    go_wp2_with (fail)
    refine (HO.out _).mono ?_
    rintro e w1 ⟨rfl, hb1⟩
    go_wp2_with (fail)
    refine (HR.out _).mono ?_
    rintro e w2 ⟨rfl, hb2⟩
    go_wp2_with (fail)
    go_ret
    exact ⟨ret_bool (by simp [numB, h3]), HW.out.trans ((hb1.trans (hb2.mono hb1.size)).mono HW.out.size)⟩
  rw [show decide (Bits d t u) = true from (decide_eq_true h3)] at HR
  by_cases h4 : l.length ≤ 4
  case neg =>
    go_enter Try.func121, Try.ntmps121
    go_wp2_with (fail)
    refine (HS.out _).mono ?_
    rintro e w1 ⟨rfl, rfl⟩
    go_wp2_with (fail)
    refine (HS2.out _).mono ?_
    rintro e w1 ⟨rfl, rfl⟩
    go_wp2_with (fail)
    refine (HO.out _).mono ?_
    rintro e w1 ⟨rfl, hb1⟩
    go_wp2_with (fail)
    refine (HR.out _).mono ?_
    rintro e w2 ⟨rfl, hb2⟩
    have hb := hb1.trans (hb2.mono hb1.size)
    obtain ⟨q0, q1, q2, q3, q4, q5⟩ := X6.out w2 hb
    have HBB := Lib.hid hb
    clear hb hb1 hb2 r0 r1 r2 r3 r4 r5
    go_wp2_with (fail)
    go_ret
    exact ⟨ret_bool (by simp [numB, h4]), HW.out.trans (HBB.out.mono HW.out.size)⟩
  have HN := Lib.hid (show numB b d t u s l = riseB l from by simp [numB, h1, h2, h3, h4])
  clear h1 h2 h3
  go_enter Try.func121, Try.ntmps121
  go_wp2_with (fail)
  refine (HS.out _).mono ?_
  rintro e w1 ⟨rfl, rfl⟩
  go_wp2_with (fail)
  refine (HS2.out _).mono ?_
  rintro e w1 ⟨rfl, rfl⟩
  go_wp2_with (fail)
  refine (HO.out _).mono ?_
  rintro e w1 ⟨rfl, hb1⟩
  go_wp2_with (fail)
  refine (HR.out _).mono ?_
  rintro e w2 ⟨rfl, hb2⟩
  have hb := hb1.trans (hb2.mono hb1.size)
  obtain ⟨q0, q1, q2, q3, q4, q5⟩ := X6.out w2 hb
  have HBB := Lib.hid hb
  clear hb hb1 hb2 r0 r1 r2 r3 r4 r5
  go_wp2_with (fail)
  go_loopw [3] (fun i wr => NRel l w0.heap.size w0 i wr) (fun i _ => l.length + 1 - (intOf i).toNat)
  case atStart => exact ⟨0, .inr rfl, rfl, fun i _ hi => by omega, HBB.out⟩
  case round =>
    obtain ⟨k, hk, rfl, hA, hb⟩ := hrel
    have HA := Lib.hid hA
    have HB := Lib.hid hb
    have hz := hb.size
    obtain ⟨r0, r1, r2, r3, r4, r5⟩ := X6.out wr hb
    by_cases hlt : k + 1 < l.length
    · obtain ⟨bb, off, a', d', t', u', hA', hbB, hlk, c1, c2, c3, c4⟩ := (H.out.below hb).at_ hlt
      obtain ⟨bb', off', a'', d'', t'', u'', hA'', hbB', hlk', c1', c2', c3', c4'⟩ := (H.out.below hb).at_ (k := k) (by omega)
      subst hA'
      injection hA'' with hA''
      injection hA'' with e1 e2 _
      subst e1 e2
      have HLK := Lib.hid hlk
      have HLK' := Lib.hid hlk'
      clear hA hb hlk hlk' q0 q1 q2 q3 q4 q5 hk
      by_cases a4 : u' ≤ u''
      · go_wp2_with (fail)
        go_quiet (fail)
        go_wp2_with (fail)
        go_ret
        exact ⟨ret_bool (HN.out.trans (riseB_false HLK'.out HLK.out a4)).symm, HW.out.trans ((below_drewN HB.out _).mono HW.out.size)⟩
      · go_wp2_with (fail)
        go_quiet (fail)
        go_wp2_with (fail)
        go_roundw
        case rel => exact ⟨k + 1, by omega, by go_num, rise_next HA.out HLK'.out HLK.out (by omega), below_drewN HB.out _⟩
        case measure => simp [intOf]; omega
    · have HT := Lib.hid (riseB_true hA (by omega))
      clear hA hb
      go_wp2_with (fail)
      go_ret
      exact ⟨ret_bool (HN.out.trans HT.out).symm, HW.out.trans (HB.out.mono HW.out.size)⟩
end Go.Proofs.Ytgmkchkaceciiaa.Te
