/- The walks of term.Right and of the document's Right. -/
import Derived.Test.YtgmkchkaceciiaaTeCopies
namespace Go.Proofs.Ytgmkchkaceciiaa.Te
set_option maxRecDepth 100000
open Go Go.RowKit Go.Proofs.Ytgmkchkaceciiaa.Sp Go.Proofs.Ytgmkchkaceciiaa.Pa

noncomputable def rightT (i o m b d t u s : Int) (l : List PT) : Bool := decide (i = 1 ∨ i = 2) && (decide (o = 1 ∨ o = 2) && (numB b d t u s l && (partsB m l && ((!(i == 2) || copyB l) && (!(o == 2) || plainT b d t u)))))
theorem copyB_of {l : List PT} (h : l.length ≤ 1) (ha : ∀ q ∈ l, takesAll q = true) : copyB l = true := by
  match l, h, ha with
  | [], _, _ => rfl
  | [p], _, ha => exact ha p (by simp)
theorem copyB_long {l : List PT} (h : 2 ≤ l.length) : copyB l = false := by
  match l, h with
  | _ :: _ :: _, _ => rfl
theorem copyB_not {l : List PT} {k : Nat} {a d t u : Int} (hk : ∃ hl : k < l.length, l[k] = (a, d, t, u)) (ha : takesAll (a, d, t, u) = false) : copyB l = false := by
  obtain ⟨hl, e⟩ := hk
  match l, hl, e with
  | [p], hl, e =>
    have : k = 0 := by simp at hl; omega
    subst this
    simp only [List.getElem_cons_zero] at e
    subst e
    exact ha
  | _ :: _ :: _, _, _ => rfl
set_option maxHeartbeats 4000000 in
theorem tright_any (i o m b d t u s : Int) (A : Option Addr) (n c : Nat) (l : List PT) (w : World) (h : RP w w.heap.size A n l) (hn : n ≤ maxLen) :
    Calls Try.prog 107 #[trm b d t u s A n c, .int .i64 i, .int .i64 o, .int .i64 m] w (RetB (rightT i o m b d t u s l) w) := by
  unfold maxLen at hn
  have hlen := h.1
  subst hlen
  have hbw : Below w.heap.size w (w.alloc (.cells (tcells b d t u s A l.length c) 114)) := (Below.refl _ w).alloc (Nat.le_refl _) _
  obtain ⟨w0, hw0⟩ : ∃ w0, w.alloc (.cells (tcells b d t u s A l.length c) 114) = w0 := ⟨_, rfl⟩
  have X6 := Lib.hid (fun W (hb : Below w0.heap.size w0 W) => show Boxed6 W w.heap.size b d t u s A l.length c from by rw [← hw0] at hb; exact boxed6 hb)
  rw [hw0] at hbw
  have HW := Lib.hid hbw
  have H := Lib.hid (h.belowM hbw)
  have HB0 := Lib.hid (Below.refl w0.heap.size w0)
  obtain ⟨r0, r1, r2, r3, r4, r5⟩ := X6.out w0 (Below.refl _ _)
  clear h hbw
  have HI := Lib.hid (known_any i)
  have HO := Lib.hid (known_any o)
  have HN := Lib.hid (fun W (hW : RP W W.heap.size A l.length l) => tnum_any b d t u s A l.length c l W hW hn)
  have HP := Lib.hid (fun W (hW : RP W W.heap.size A l.length l) => tparts_any b d t u s A l.length c l m W hW hn)
  have HC := Lib.hid (fun W (hW : RP W W.heap.size A l.length l) => copies_any b d t u s A l.length c l W hW hn)
  have HL := Lib.hid (tplain_any b d t u s A l.length c)
  by_cases k1 : i = 1 ∨ i = 2
  case neg =>
    rw [decide_eq_false k1] at HI
    go_enter Try.func107, Try.ntmps107
    go_wp2_with (fail)
    refine (HI.out _).mono ?_
    rintro e w9 ⟨rfl, rfl⟩
    go_wp2_with (fail)
    go_ret
    exact ⟨ret_bool (by simp [rightT, k1]), HW.out.trans (HB0.out.mono HW.out.size)⟩
  rw [decide_eq_true k1] at HI
  by_cases k2 : o = 1 ∨ o = 2
  case neg =>
    rw [decide_eq_false k2] at HO
    go_enter Try.func107, Try.ntmps107
    go_wp2_with (fail)
    refine (HI.out _).mono ?_
    rintro e w9 ⟨rfl, rfl⟩
    go_wp2_with (fail)
    refine (HO.out _).mono ?_
    rintro e w9 ⟨rfl, rfl⟩
    go_wp2_with (fail)
    go_ret
    exact ⟨ret_bool (by simp [rightT, k2]), HW.out.trans (HB0.out.mono HW.out.size)⟩
  rw [decide_eq_true k2] at HO
  rcases k3 : numB b d t u s l with _ | _
  case false =>
    rw [k3] at HN
    go_enter Try.func107, Try.ntmps107
    go_wp2_with (fail)
    refine (HI.out _).mono ?_
    rintro e w9 ⟨rfl, rfl⟩
    go_wp2_with (fail)
    refine (HO.out _).mono ?_
    rintro e w9 ⟨rfl, rfl⟩
    go_wp2_with (fail)
    refine (HN.out _ (H.out.belowM HB0.out)).mono ?_
    rintro e w1 ⟨rfl, hb1⟩
    have HB1 := Lib.hid (HB0.out.trans (hb1.mono HB0.out.size))
    clear r0 r1 r2 r3 r4 r5
    obtain ⟨r0, r1, r2, r3, r4, r5⟩ := X6.out w1 HB1.out
    clear hb1
    go_wp2_with (fail)
    go_ret
    exact ⟨ret_bool (by simp [rightT, k3]), HW.out.trans (HB1.out.mono HW.out.size)⟩
  case true =>
  rw [k3] at HN
  rcases k4 : partsB m l with _ | _
  case false =>
    rw [k4] at HP
    go_enter Try.func107, Try.ntmps107
    go_wp2_with (fail)
    refine (HI.out _).mono ?_
    rintro e w9 ⟨rfl, rfl⟩
    go_wp2_with (fail)
    refine (HO.out _).mono ?_
    rintro e w9 ⟨rfl, rfl⟩
    go_wp2_with (fail)
    refine (HN.out _ (H.out.belowM HB0.out)).mono ?_
    rintro e w1 ⟨rfl, hb1⟩
    have HB1 := Lib.hid (HB0.out.trans (hb1.mono HB0.out.size))
    clear r0 r1 r2 r3 r4 r5
    obtain ⟨r0, r1, r2, r3, r4, r5⟩ := X6.out w1 HB1.out
    clear hb1
    go_wp2_with (fail)
    refine (HP.out _ (H.out.belowM HB1.out)).mono ?_
    rintro e w2 ⟨rfl, hb2⟩
    have HB2 := Lib.hid (HB1.out.trans (hb2.mono HB1.out.size))
    clear r0 r1 r2 r3 r4 r5
    obtain ⟨r0, r1, r2, r3, r4, r5⟩ := X6.out w2 HB2.out
    clear hb2
    go_wp2_with (fail)
    go_ret
    exact ⟨ret_bool (by simp [rightT, k4]), HW.out.trans (HB2.out.mono HW.out.size)⟩
  case true =>
  rw [k4] at HP
  rcases k1 with rfl | rfl
  · rcases k2 with rfl | rfl
    · go_enter Try.func107, Try.ntmps107
      go_wp2_with (fail)
      refine (HI.out _).mono ?_
      rintro e w9 ⟨rfl, rfl⟩
      go_wp2_with (fail)
      refine (HO.out _).mono ?_
      rintro e w9 ⟨rfl, rfl⟩
      go_wp2_with (fail)
      refine (HN.out _ (H.out.belowM HB0.out)).mono ?_
      rintro e w1 ⟨rfl, hb1⟩
      have HB1 := Lib.hid (HB0.out.trans (hb1.mono HB0.out.size))
      clear r0 r1 r2 r3 r4 r5
      obtain ⟨r0, r1, r2, r3, r4, r5⟩ := X6.out w1 HB1.out
      clear hb1
      go_wp2_with (fail)
      refine (HP.out _ (H.out.belowM HB1.out)).mono ?_
      rintro e w2 ⟨rfl, hb2⟩
      have HB2 := Lib.hid (HB1.out.trans (hb2.mono HB1.out.size))
      clear r0 r1 r2 r3 r4 r5
      obtain ⟨r0, r1, r2, r3, r4, r5⟩ := X6.out w2 HB2.out
      clear hb2
      go_wp2_with (fail)
      go_ret
      exact ⟨ret_bool (by simp [rightT, k3, k4]), HW.out.trans (HB2.out.mono HW.out.size)⟩
    · go_enter Try.func107, Try.ntmps107
      go_wp2_with (fail)
      refine (HI.out _).mono ?_
      rintro e w9 ⟨rfl, rfl⟩
      go_wp2_with (fail)
      refine (HO.out _).mono ?_
      rintro e w9 ⟨rfl, rfl⟩
      go_wp2_with (fail)
      refine (HN.out _ (H.out.belowM HB0.out)).mono ?_
      rintro e w1 ⟨rfl, hb1⟩
      have HB1 := Lib.hid (HB0.out.trans (hb1.mono HB0.out.size))
      clear r0 r1 r2 r3 r4 r5
      obtain ⟨r0, r1, r2, r3, r4, r5⟩ := X6.out w1 HB1.out
      clear hb1
      go_wp2_with (fail)
      refine (HP.out _ (H.out.belowM HB1.out)).mono ?_
      rintro e w2 ⟨rfl, hb2⟩
      have HB2 := Lib.hid (HB1.out.trans (hb2.mono HB1.out.size))
      clear r0 r1 r2 r3 r4 r5
      obtain ⟨r0, r1, r2, r3, r4, r5⟩ := X6.out w2 HB2.out
      clear hb2
      go_wp2_with (fail)
      refine (HL.out _).mono ?_
      rintro e w3 ⟨rfl, hb3⟩
      have HB3 := Lib.hid (HB2.out.trans (hb3.mono HB2.out.size))
      clear r0 r1 r2 r3 r4 r5
      obtain ⟨r0, r1, r2, r3, r4, r5⟩ := X6.out w3 HB3.out
      clear hb3
      go_wp2_with (fail)
      go_ret
      exact ⟨ret_bool (by simp [rightT, k3, k4]), HW.out.trans (HB3.out.mono HW.out.size)⟩
  · rcases k5 : copyB l with _ | _
    · rw [k5] at HC
      go_enter Try.func107, Try.ntmps107
      go_wp2_with (fail)
      refine (HI.out _).mono ?_
      rintro e w9 ⟨rfl, rfl⟩
      go_wp2_with (fail)
      refine (HO.out _).mono ?_
      rintro e w9 ⟨rfl, rfl⟩
      go_wp2_with (fail)
      refine (HN.out _ (H.out.belowM HB0.out)).mono ?_
      rintro e w1 ⟨rfl, hb1⟩
      have HB1 := Lib.hid (HB0.out.trans (hb1.mono HB0.out.size))
      clear r0 r1 r2 r3 r4 r5
      obtain ⟨r0, r1, r2, r3, r4, r5⟩ := X6.out w1 HB1.out
      clear hb1
      go_wp2_with (fail)
      refine (HP.out _ (H.out.belowM HB1.out)).mono ?_
      rintro e w2 ⟨rfl, hb2⟩
      have HB2 := Lib.hid (HB1.out.trans (hb2.mono HB1.out.size))
      clear r0 r1 r2 r3 r4 r5
      obtain ⟨r0, r1, r2, r3, r4, r5⟩ := X6.out w2 HB2.out
      clear hb2
      go_wp2_with (fail)
      refine (HC.out _ (H.out.belowM HB2.out)).mono ?_
      rintro e w3 ⟨rfl, hb3⟩
      have HB3 := Lib.hid (HB2.out.trans (hb3.mono HB2.out.size))
      clear r0 r1 r2 r3 r4 r5
      obtain ⟨r0, r1, r2, r3, r4, r5⟩ := X6.out w3 HB3.out
      clear hb3
      go_wp2_with (fail)
      go_ret
      exact ⟨ret_bool (by simp [rightT, k5]), HW.out.trans (HB3.out.mono HW.out.size)⟩
    · rw [k5] at HC
      rcases k2 with rfl | rfl
      · go_enter Try.func107, Try.ntmps107
        go_wp2_with (fail)
        refine (HI.out _).mono ?_
        rintro e w9 ⟨rfl, rfl⟩
        go_wp2_with (fail)
        refine (HO.out _).mono ?_
        rintro e w9 ⟨rfl, rfl⟩
        go_wp2_with (fail)
        refine (HN.out _ (H.out.belowM HB0.out)).mono ?_
        rintro e w1 ⟨rfl, hb1⟩
        have HB1 := Lib.hid (HB0.out.trans (hb1.mono HB0.out.size))
        clear r0 r1 r2 r3 r4 r5
        obtain ⟨r0, r1, r2, r3, r4, r5⟩ := X6.out w1 HB1.out
        clear hb1
        go_wp2_with (fail)
        refine (HP.out _ (H.out.belowM HB1.out)).mono ?_
        rintro e w2 ⟨rfl, hb2⟩
        have HB2 := Lib.hid (HB1.out.trans (hb2.mono HB1.out.size))
        clear r0 r1 r2 r3 r4 r5
        obtain ⟨r0, r1, r2, r3, r4, r5⟩ := X6.out w2 HB2.out
        clear hb2
        go_wp2_with (fail)
        refine (HC.out _ (H.out.belowM HB2.out)).mono ?_
        rintro e w3 ⟨rfl, hb3⟩
        have HB3 := Lib.hid (HB2.out.trans (hb3.mono HB2.out.size))
        clear r0 r1 r2 r3 r4 r5
        obtain ⟨r0, r1, r2, r3, r4, r5⟩ := X6.out w3 HB3.out
        clear hb3
        go_wp2_with (fail)
        go_ret
        exact ⟨ret_bool (by simp [rightT, k3, k4, k5]), HW.out.trans (HB3.out.mono HW.out.size)⟩
      · go_enter Try.func107, Try.ntmps107
        go_wp2_with (fail)
        refine (HI.out _).mono ?_
        rintro e w9 ⟨rfl, rfl⟩
        go_wp2_with (fail)
        refine (HO.out _).mono ?_
        rintro e w9 ⟨rfl, rfl⟩
        go_wp2_with (fail)
        refine (HN.out _ (H.out.belowM HB0.out)).mono ?_
        rintro e w1 ⟨rfl, hb1⟩
        have HB1 := Lib.hid (HB0.out.trans (hb1.mono HB0.out.size))
        clear r0 r1 r2 r3 r4 r5
        obtain ⟨r0, r1, r2, r3, r4, r5⟩ := X6.out w1 HB1.out
        clear hb1
        go_wp2_with (fail)
        refine (HP.out _ (H.out.belowM HB1.out)).mono ?_
        rintro e w2 ⟨rfl, hb2⟩
        have HB2 := Lib.hid (HB1.out.trans (hb2.mono HB1.out.size))
        clear r0 r1 r2 r3 r4 r5
        obtain ⟨r0, r1, r2, r3, r4, r5⟩ := X6.out w2 HB2.out
        clear hb2
        go_wp2_with (fail)
        refine (HC.out _ (H.out.belowM HB2.out)).mono ?_
        rintro e w3 ⟨rfl, hb3⟩
        have HB3 := Lib.hid (HB2.out.trans (hb3.mono HB2.out.size))
        clear r0 r1 r2 r3 r4 r5
        obtain ⟨r0, r1, r2, r3, r4, r5⟩ := X6.out w3 HB3.out
        clear hb3
        go_wp2_with (fail)
        refine (HL.out _).mono ?_
        rintro e w4 ⟨rfl, hb4⟩
        have HB4 := Lib.hid (HB3.out.trans (hb4.mono HB3.out.size))
        clear r0 r1 r2 r3 r4 r5
        obtain ⟨r0, r1, r2, r3, r4, r5⟩ := X6.out w4 HB4.out
        clear hb4
        go_wp2_with (fail)
        go_ret
        exact ⟨ret_bool (by simp [rightT, k3, k4, k5]), HW.out.trans (HB4.out.mono HW.out.size)⟩
/-- The loop of the document's Right: as far as k all parts are right, and, into scalars' windows, there is one at most, that takes all. -/
def RRel (i m : Int) (l : List PT) (B : Nat) (w2 : World) (iv : Value) (wr : World) : Prop :=
  ∃ k : Nat, k ≤ l.length ∧ iv = .int .i64 k ∧ AllR m l k ∧ (i = 2 → k ≤ 1 ∧ ∀ q ∈ l.take k, takesAll q = true) ∧ Below B w2 wr
set_option maxHeartbeats 4000000 in
theorem rrightT_any (i o m b d t u s : Int) (A : Option Addr) (n c : Nat) (l : List PT) (w : World) (h : RP w w.heap.size A n l) (hn : n ≤ maxLen) :
    Calls Try.prog 105 #[trm b d t u s A n c, .int .i64 i, .int .i64 o, .int .i64 m] w (RetB (rightT i o m b d t u s l) w) := by
  unfold maxLen at hn
  have hlen := h.1
  subst hlen
  have hbw : Below w.heap.size w (w.alloc (.cells (tcells b d t u s A l.length c) 114)) := (Below.refl _ w).alloc (Nat.le_refl _) _
  obtain ⟨w0, hw0⟩ : ∃ w0, w.alloc (.cells (tcells b d t u s A l.length c) 114) = w0 := ⟨_, rfl⟩
  have X6 := Lib.hid (fun W (hb : Below w0.heap.size w0 W) => show Boxed6 W w.heap.size b d t u s A l.length c from by rw [← hw0] at hb; exact boxed6 hb)
  rw [hw0] at hbw
  have HW := Lib.hid hbw
  have H := Lib.hid (h.belowM hbw)
  have HB0 := Lib.hid (Below.refl w0.heap.size w0)
  obtain ⟨r0, r1, r2, r3, r4, r5⟩ := X6.out w0 (Below.refl _ _)
  clear h hbw
  have HN := Lib.hid (fun W (hW : RP W W.heap.size A l.length l) => rnum_any b d t u s A l.length c l W hW hn)
  have HL := Lib.hid (rplain_any b d t u s A l.length c)
  by_cases k1 : i = 1 ∨ i = 2
  case neg =>
    have e1 : (i == 1) = false := by simp; omega
    have e2 : (i == 2) = false := by simp; omega
    go_enter Try.func105, Try.ntmps105
    go_wp2_with (fail)
    go_ret
    exact ⟨ret_bool (by simp [rightT, k1]), HW.out.trans (HB0.out.mono HW.out.size)⟩
  by_cases k2 : o = 1 ∨ o = 2
  case neg =>
    have e1 : (o == 1) = false := by simp; omega
    have e2 : (o == 2) = false := by simp; omega
    rcases k1 with rfl | rfl
    · go_enter Try.func105, Try.ntmps105
      go_wp2_with (fail)
      go_ret
      exact ⟨ret_bool (by simp [rightT, k2]), HW.out.trans (HB0.out.mono HW.out.size)⟩
    · go_enter Try.func105, Try.ntmps105
      go_wp2_with (fail)
      go_ret
      exact ⟨ret_bool (by simp [rightT, k2]), HW.out.trans (HB0.out.mono HW.out.size)⟩
  rcases k3 : numB b d t u s l with _ | _
  case false =>
    rw [k3] at HN
    rcases k1 with rfl | rfl <;> rcases k2 with rfl | rfl
    · go_enter Try.func105, Try.ntmps105
      go_wp2_with (fail)
      refine (HN.out _ (H.out.belowM HB0.out)).mono ?_
      rintro e w1 ⟨rfl, hb1⟩
      have HB1 := Lib.hid (HB0.out.trans (hb1.mono HB0.out.size))
      clear r0 r1 r2 r3 r4 r5
      obtain ⟨r0, r1, r2, r3, r4, r5⟩ := X6.out w1 HB1.out
      clear hb1
      go_wp2_with (fail)
      go_ret
      exact ⟨ret_bool (by simp [rightT, k3]), HW.out.trans (HB1.out.mono HW.out.size)⟩
    · go_enter Try.func105, Try.ntmps105
      go_wp2_with (fail)
      refine (HN.out _ (H.out.belowM HB0.out)).mono ?_
      rintro e w1 ⟨rfl, hb1⟩
      have HB1 := Lib.hid (HB0.out.trans (hb1.mono HB0.out.size))
      clear r0 r1 r2 r3 r4 r5
      obtain ⟨r0, r1, r2, r3, r4, r5⟩ := X6.out w1 HB1.out
      clear hb1
      go_wp2_with (fail)
      go_ret
      exact ⟨ret_bool (by simp [rightT, k3]), HW.out.trans (HB1.out.mono HW.out.size)⟩
    · go_enter Try.func105, Try.ntmps105
      go_wp2_with (fail)
      refine (HN.out _ (H.out.belowM HB0.out)).mono ?_
      rintro e w1 ⟨rfl, hb1⟩
      have HB1 := Lib.hid (HB0.out.trans (hb1.mono HB0.out.size))
      clear r0 r1 r2 r3 r4 r5
      obtain ⟨r0, r1, r2, r3, r4, r5⟩ := X6.out w1 HB1.out
      clear hb1
      go_wp2_with (fail)
      go_ret
      exact ⟨ret_bool (by simp [rightT, k3]), HW.out.trans (HB1.out.mono HW.out.size)⟩
    · go_enter Try.func105, Try.ntmps105
      go_wp2_with (fail)
      refine (HN.out _ (H.out.belowM HB0.out)).mono ?_
      rintro e w1 ⟨rfl, hb1⟩
      have HB1 := Lib.hid (HB0.out.trans (hb1.mono HB0.out.size))
      clear r0 r1 r2 r3 r4 r5
      obtain ⟨r0, r1, r2, r3, r4, r5⟩ := X6.out w1 HB1.out
      clear hb1
      go_wp2_with (fail)
      go_ret
      exact ⟨ret_bool (by simp [rightT, k3]), HW.out.trans (HB1.out.mono HW.out.size)⟩
  case true =>
  rw [k3] at HN
  have K3 := Lib.hid k3
  clear k3
  rcases k1 with rfl | rfl <;> rcases k2 with rfl | rfl
  · go_enter Try.func105, Try.ntmps105
    go_wp2_with (fail)
    refine (HN.out _ (H.out.belowM HB0.out)).mono ?_
    rintro e w1 ⟨rfl, hb1⟩
    have HB1 := Lib.hid (HB0.out.trans (hb1.mono HB0.out.size))
    clear r0 r1 r2 r3 r4 r5
    obtain ⟨r0, r1, r2, r3, r4, r5⟩ := X6.out w1 HB1.out
    clear hb1
    go_wp2_with (fail)
    go_loopw [9] (fun iv wr => RRel 1 m l w0.heap.size w0 iv wr) (fun iv _ => l.length - (intOf iv).toNat)
    case atStart => exact ⟨0, Nat.zero_le _, rfl, fun q hq => by simp at hq, fun _ => ⟨Nat.zero_le _, fun q hq => by simp at hq⟩, HB1.out⟩
    case round =>
      obtain ⟨k, hk, rfl, hA, hS, hb⟩ := hrel
      have HA := Lib.hid hA
      have HS := Lib.hid hS
      have HB := Lib.hid hb
      have hz := hb.size
      obtain ⟨q0, q1, q2, q3, q4, q5⟩ := X6.out wr hb
      clear r0 r1 r2 r3 r4 r5
      by_cases hlt : k < l.length
      · obtain ⟨bb, off, a', d', t', u', hA', hbB, hlk, c1, c2, c3, c4⟩ := (H.out.below hb).at_ hlt
        have HLK := Lib.hid hlk
        have HR := Lib.hid (rright_any a' d' t' u' m)
        have HC2 := Lib.hid (show ∀ W, Below wr.heap.size wr W → W.cell? ⟨bb, off + k * 4, none⟩ = some (.int .i64 a') ∧ W.cell? ⟨bb, off + k * 4 + 1, none⟩ = some (.int .i64 d') ∧ W.cell? ⟨bb, off + k * 4 + 2, none⟩ = some (.int .i64 t') ∧ W.cell? ⟨bb, off + k * 4 + 3, none⟩ = some (.int .i64 u') from fun W hW => ⟨(hW.cell (by simp only; omega)).trans c1, (hW.cell (by simp only; omega)).trans c2, (hW.cell (by simp only; omega)).trans c3, (hW.cell (by simp only; omega)).trans c4⟩)
        subst hA'
        clear hA hS hb hlk
        rcases hr : rightB a' d' t' u' m with _ | _
        · rw [hr] at HR
          have HRR := Lib.hid hr
          clear hr
          go_wp2_with (fail)
          refine (HR.out _).mono ?_
          rintro e w2 ⟨rfl, hb2⟩
          go_wp2_with (fail)
          go_ret
          exact ⟨ret_bool (by simp [rightT, partsB_false HLK.out HRR.out]), HW.out.trans ((HB.out.trans (hb2.mono hz)).mono HW.out.size)⟩
        · rw [hr] at HR
          have HRR := Lib.hid hr
          clear hr
          go_wp2_with (fail)
          refine (HR.out _).mono ?_
          rintro e w2 ⟨rfl, hb2⟩
          go_wp2_with (fail)
          go_roundw
          case rel => exact ⟨k + 1, by omega, by go_num, allR_next HA.out HLK.out HRR.out, fun e => absurd e (by decide), HB.out.trans (hb2.mono hz)⟩
          case measure => simp [intOf]; omega
      · have hkl : k = l.length := by omega
        subst hkl
        have HP := Lib.hid (partsB_true hA)
        clear hA hS hb
        go_wp2_with (fail)
        go_ret
        exact ⟨ret_bool (by simp [rightT, K3.out, HP.out]), HW.out.trans (HB.out.mono HW.out.size)⟩
  · go_enter Try.func105, Try.ntmps105
    go_wp2_with (fail)
    refine (HN.out _ (H.out.belowM HB0.out)).mono ?_
    rintro e w1 ⟨rfl, hb1⟩
    have HB1 := Lib.hid (HB0.out.trans (hb1.mono HB0.out.size))
    clear r0 r1 r2 r3 r4 r5
    obtain ⟨r0, r1, r2, r3, r4, r5⟩ := X6.out w1 HB1.out
    clear hb1
    go_wp2_with (fail)
    go_loopw [9] (fun iv wr => RRel 1 m l w0.heap.size w0 iv wr) (fun iv _ => l.length - (intOf iv).toNat)
    case atStart => exact ⟨0, Nat.zero_le _, rfl, fun q hq => by simp at hq, fun _ => ⟨Nat.zero_le _, fun q hq => by simp at hq⟩, HB1.out⟩
    case round =>
      obtain ⟨k, hk, rfl, hA, hS, hb⟩ := hrel
      have HA := Lib.hid hA
      have HS := Lib.hid hS
      have HB := Lib.hid hb
      have hz := hb.size
      obtain ⟨q0, q1, q2, q3, q4, q5⟩ := X6.out wr hb
      clear r0 r1 r2 r3 r4 r5
      by_cases hlt : k < l.length
      · obtain ⟨bb, off, a', d', t', u', hA', hbB, hlk, c1, c2, c3, c4⟩ := (H.out.below hb).at_ hlt
        have HLK := Lib.hid hlk
        have HR := Lib.hid (rright_any a' d' t' u' m)
        have HC2 := Lib.hid (show ∀ W, Below wr.heap.size wr W → W.cell? ⟨bb, off + k * 4, none⟩ = some (.int .i64 a') ∧ W.cell? ⟨bb, off + k * 4 + 1, none⟩ = some (.int .i64 d') ∧ W.cell? ⟨bb, off + k * 4 + 2, none⟩ = some (.int .i64 t') ∧ W.cell? ⟨bb, off + k * 4 + 3, none⟩ = some (.int .i64 u') from fun W hW => ⟨(hW.cell (by simp only; omega)).trans c1, (hW.cell (by simp only; omega)).trans c2, (hW.cell (by simp only; omega)).trans c3, (hW.cell (by simp only; omega)).trans c4⟩)
        subst hA'
        clear hA hS hb hlk
        rcases hr : rightB a' d' t' u' m with _ | _
        · rw [hr] at HR
          have HRR := Lib.hid hr
          clear hr
          go_wp2_with (fail)
          refine (HR.out _).mono ?_
          rintro e w2 ⟨rfl, hb2⟩
          go_wp2_with (fail)
          go_ret
          exact ⟨ret_bool (by simp [rightT, partsB_false HLK.out HRR.out]), HW.out.trans ((HB.out.trans (hb2.mono hz)).mono HW.out.size)⟩
        · rw [hr] at HR
          have HRR := Lib.hid hr
          clear hr
          go_wp2_with (fail)
          refine (HR.out _).mono ?_
          rintro e w2 ⟨rfl, hb2⟩
          go_wp2_with (fail)
          go_roundw
          case rel => exact ⟨k + 1, by omega, by go_num, allR_next HA.out HLK.out HRR.out, fun e => absurd e (by decide), HB.out.trans (hb2.mono hz)⟩
          case measure => simp [intOf]; omega
      · have hkl : k = l.length := by omega
        subst hkl
        have HP := Lib.hid (partsB_true hA)
        clear hA hS hb
        go_wp2_with (fail)
        refine (HL.out _).mono ?_
        rintro e w3 ⟨rfl, hb3⟩
        go_wp2_with (fail)
        go_ret
        exact ⟨ret_bool (by simp [rightT, K3.out, HP.out]), HW.out.trans ((HB.out.trans (hb3.mono hz)).mono HW.out.size)⟩
  · go_enter Try.func105, Try.ntmps105
    go_wp2_with (fail)
    refine (HN.out _ (H.out.belowM HB0.out)).mono ?_
    rintro e w1 ⟨rfl, hb1⟩
    have HB1 := Lib.hid (HB0.out.trans (hb1.mono HB0.out.size))
    clear r0 r1 r2 r3 r4 r5
    obtain ⟨r0, r1, r2, r3, r4, r5⟩ := X6.out w1 HB1.out
    clear hb1
    go_wp2_with (fail)
    go_loopw [9] (fun iv wr => RRel 2 m l w0.heap.size w0 iv wr) (fun iv _ => l.length - (intOf iv).toNat)
    case atStart => exact ⟨0, Nat.zero_le _, rfl, fun q hq => by simp at hq, fun _ => ⟨Nat.zero_le _, fun q hq => by simp at hq⟩, HB1.out⟩
    case round =>
      obtain ⟨k, hk, rfl, hA, hS, hb⟩ := hrel
      have HA := Lib.hid hA
      have HS := Lib.hid hS
      have HB := Lib.hid hb
      have hz := hb.size
      obtain ⟨q0, q1, q2, q3, q4, q5⟩ := X6.out wr hb
      clear r0 r1 r2 r3 r4 r5
      by_cases hlt : k < l.length
      · obtain ⟨bb, off, a', d', t', u', hA', hbB, hlk, c1, c2, c3, c4⟩ := (H.out.below hb).at_ hlt
        have HLK := Lib.hid hlk
        have HR := Lib.hid (rright_any a' d' t' u' m)
        have HT := Lib.hid (all_any a' d' t' u')
        have HC2 := Lib.hid (show ∀ W, Below wr.heap.size wr W → W.cell? ⟨bb, off + k * 4, none⟩ = some (.int .i64 a') ∧ W.cell? ⟨bb, off + k * 4 + 1, none⟩ = some (.int .i64 d') ∧ W.cell? ⟨bb, off + k * 4 + 2, none⟩ = some (.int .i64 t') ∧ W.cell? ⟨bb, off + k * 4 + 3, none⟩ = some (.int .i64 u') from fun W hW => ⟨(hW.cell (by simp only; omega)).trans c1, (hW.cell (by simp only; omega)).trans c2, (hW.cell (by simp only; omega)).trans c3, (hW.cell (by simp only; omega)).trans c4⟩)
        subst hA'
        clear hA hS hb hlk
        rcases hr : rightB a' d' t' u' m with _ | _
        · rw [hr] at HR
          have HRR := Lib.hid hr
          clear hr
          go_wp2_with (fail)
          refine (HR.out _).mono ?_
          rintro e w2 ⟨rfl, hb2⟩
          go_wp2_with (fail)
          go_ret
          exact ⟨ret_bool (by simp [rightT, partsB_false HLK.out HRR.out]), HW.out.trans ((HB.out.trans (hb2.mono hz)).mono HW.out.size)⟩
        · rw [hr] at HR
          have HRR := Lib.hid hr
          clear hr
          rcases k with _ | k
          · simp only [Nat.zero_mul, Nat.add_zero] at c1 c2 c3 c4
            rcases ht : takesAll (a', d', t', u') with _ | _
            · rw [ht] at HT
              have HTT := Lib.hid ht
              clear ht
              go_wp2_with (fail)
              refine (HR.out _).mono ?_
              rintro e w2 ⟨rfl, hb2⟩
              obtain ⟨s1, s2, s3, s4⟩ := HC2.out _ hb2
              have hbx := HB.out.trans (hb2.mono hz)
              obtain ⟨z0, z1, z2, z3, z4, z5⟩ := X6.out w2 hbx
              clear q0 q1 q2 q3 q4 q5 c1 c2 c3 c4
              have HBX := Lib.hid hbx
              clear hbx hb2
              simp only [Nat.zero_mul, Nat.add_zero] at s1 s2 s3 s4
              go_wp2_with (fail)
              refine (HT.out _).mono ?_
              rintro e w3 ⟨rfl, hb3⟩
              go_wp2_with (fail)
              go_ret
              exact ⟨ret_bool (by simp [rightT, copyB_not HLK.out HTT.out]), HW.out.trans ((HBX.out.trans (hb3.mono HBX.out.size)).mono HW.out.size)⟩
            · rw [ht] at HT
              have HTT := Lib.hid ht
              clear ht
              go_wp2_with (fail)
              refine (HR.out _).mono ?_
              rintro e w2 ⟨rfl, hb2⟩
              obtain ⟨s1, s2, s3, s4⟩ := HC2.out _ hb2
              have hbx := HB.out.trans (hb2.mono hz)
              obtain ⟨z0, z1, z2, z3, z4, z5⟩ := X6.out w2 hbx
              clear q0 q1 q2 q3 q4 q5 c1 c2 c3 c4
              have HBX := Lib.hid hbx
              clear hbx hb2
              simp only [Nat.zero_mul, Nat.add_zero] at s1 s2 s3 s4
              go_wp2_with (fail)
              refine (HT.out _).mono ?_
              rintro e w3 ⟨rfl, hb3⟩
              go_wp2_with (fail)
              go_roundw
              case rel => exact ⟨0 + 1, by omega, by go_num, allR_next HA.out HLK.out HRR.out, fun _ => ⟨Nat.le_refl _, fun q hq => by
                obtain ⟨hl, e⟩ := HLK.out
                rw [List.take_succ_eq_append_getElem hl, List.mem_append] at hq
                rcases hq with hq | hq
                · simp at hq
                · rw [List.mem_singleton, e] at hq
                  subst hq
                  exact HTT.out⟩, HBX.out.trans (hb3.mono HBX.out.size)⟩
              case measure => simp [intOf]; omega
          · have hkd : decide ((0 : Int) < ((k + 1 : Nat) : Int)) = true := by simp
            go_wp2_with (fail)
            refine (HR.out _).mono ?_
            rintro e w2 ⟨rfl, hb2⟩
            go_wp2_with (fail)
            go_ret
            exact ⟨ret_bool (by simp [rightT, copyB_long (l := l) (by omega)]), HW.out.trans ((HB.out.trans (hb2.mono hz)).mono HW.out.size)⟩
      · have hkl : k = l.length := by omega
        subst hkl
        have HP := Lib.hid (partsB_true hA)
        have HCB := Lib.hid (copyB_of (hS rfl).1 (fun q hq => (hS rfl).2 q (by rw [List.take_length]; exact hq)))
        clear hA hS hb
        go_wp2_with (fail)
        go_ret
        exact ⟨ret_bool (by simp [rightT, K3.out, HP.out, HCB.out]), HW.out.trans (HB.out.mono HW.out.size)⟩
  · go_enter Try.func105, Try.ntmps105
    go_wp2_with (fail)
    refine (HN.out _ (H.out.belowM HB0.out)).mono ?_
    rintro e w1 ⟨rfl, hb1⟩
    have HB1 := Lib.hid (HB0.out.trans (hb1.mono HB0.out.size))
    clear r0 r1 r2 r3 r4 r5
    obtain ⟨r0, r1, r2, r3, r4, r5⟩ := X6.out w1 HB1.out
    clear hb1
    go_wp2_with (fail)
    go_loopw [9] (fun iv wr => RRel 2 m l w0.heap.size w0 iv wr) (fun iv _ => l.length - (intOf iv).toNat)
    case atStart => exact ⟨0, Nat.zero_le _, rfl, fun q hq => by simp at hq, fun _ => ⟨Nat.zero_le _, fun q hq => by simp at hq⟩, HB1.out⟩
    case round =>
      obtain ⟨k, hk, rfl, hA, hS, hb⟩ := hrel
      have HA := Lib.hid hA
      have HS := Lib.hid hS
      have HB := Lib.hid hb
      have hz := hb.size
      obtain ⟨q0, q1, q2, q3, q4, q5⟩ := X6.out wr hb
      clear r0 r1 r2 r3 r4 r5
      by_cases hlt : k < l.length
      · obtain ⟨bb, off, a', d', t', u', hA', hbB, hlk, c1, c2, c3, c4⟩ := (H.out.below hb).at_ hlt
        have HLK := Lib.hid hlk
        have HR := Lib.hid (rright_any a' d' t' u' m)
        have HT := Lib.hid (all_any a' d' t' u')
        have HC2 := Lib.hid (show ∀ W, Below wr.heap.size wr W → W.cell? ⟨bb, off + k * 4, none⟩ = some (.int .i64 a') ∧ W.cell? ⟨bb, off + k * 4 + 1, none⟩ = some (.int .i64 d') ∧ W.cell? ⟨bb, off + k * 4 + 2, none⟩ = some (.int .i64 t') ∧ W.cell? ⟨bb, off + k * 4 + 3, none⟩ = some (.int .i64 u') from fun W hW => ⟨(hW.cell (by simp only; omega)).trans c1, (hW.cell (by simp only; omega)).trans c2, (hW.cell (by simp only; omega)).trans c3, (hW.cell (by simp only; omega)).trans c4⟩)
        subst hA'
        clear hA hS hb hlk
        rcases hr : rightB a' d' t' u' m with _ | _
        · rw [hr] at HR
          have HRR := Lib.hid hr
          clear hr
          go_wp2_with (fail)
          refine (HR.out _).mono ?_
          rintro e w2 ⟨rfl, hb2⟩
          go_wp2_with (fail)
          go_ret
          exact ⟨ret_bool (by simp [rightT, partsB_false HLK.out HRR.out]), HW.out.trans ((HB.out.trans (hb2.mono hz)).mono HW.out.size)⟩
        · rw [hr] at HR
          have HRR := Lib.hid hr
          clear hr
          rcases k with _ | k
          · simp only [Nat.zero_mul, Nat.add_zero] at c1 c2 c3 c4
            rcases ht : takesAll (a', d', t', u') with _ | _
            · rw [ht] at HT
              have HTT := Lib.hid ht
              clear ht
              go_wp2_with (fail)
              refine (HR.out _).mono ?_
              rintro e w2 ⟨rfl, hb2⟩
              obtain ⟨s1, s2, s3, s4⟩ := HC2.out _ hb2
              have hbx := HB.out.trans (hb2.mono hz)
              obtain ⟨z0, z1, z2, z3, z4, z5⟩ := X6.out w2 hbx
              clear q0 q1 q2 q3 q4 q5 c1 c2 c3 c4
              have HBX := Lib.hid hbx
              clear hbx hb2
              simp only [Nat.zero_mul, Nat.add_zero] at s1 s2 s3 s4
              go_wp2_with (fail)
              refine (HT.out _).mono ?_
              rintro e w3 ⟨rfl, hb3⟩
              go_wp2_with (fail)
              go_ret
              exact ⟨ret_bool (by simp [rightT, copyB_not HLK.out HTT.out]), HW.out.trans ((HBX.out.trans (hb3.mono HBX.out.size)).mono HW.out.size)⟩
            · rw [ht] at HT
              have HTT := Lib.hid ht
              clear ht
              go_wp2_with (fail)
              refine (HR.out _).mono ?_
              rintro e w2 ⟨rfl, hb2⟩
              obtain ⟨s1, s2, s3, s4⟩ := HC2.out _ hb2
              have hbx := HB.out.trans (hb2.mono hz)
              obtain ⟨z0, z1, z2, z3, z4, z5⟩ := X6.out w2 hbx
              clear q0 q1 q2 q3 q4 q5 c1 c2 c3 c4
              have HBX := Lib.hid hbx
              clear hbx hb2
              simp only [Nat.zero_mul, Nat.add_zero] at s1 s2 s3 s4
              go_wp2_with (fail)
              refine (HT.out _).mono ?_
              rintro e w3 ⟨rfl, hb3⟩
              go_wp2_with (fail)
              go_roundw
              case rel => exact ⟨0 + 1, by omega, by go_num, allR_next HA.out HLK.out HRR.out, fun _ => ⟨Nat.le_refl _, fun q hq => by
                obtain ⟨hl, e⟩ := HLK.out
                rw [List.take_succ_eq_append_getElem hl, List.mem_append] at hq
                rcases hq with hq | hq
                · simp at hq
                · rw [List.mem_singleton, e] at hq
                  subst hq
                  exact HTT.out⟩, HBX.out.trans (hb3.mono HBX.out.size)⟩
              case measure => simp [intOf]; omega
          · have hkd : decide ((0 : Int) < ((k + 1 : Nat) : Int)) = true := by simp
            go_wp2_with (fail)
            refine (HR.out _).mono ?_
            rintro e w2 ⟨rfl, hb2⟩
            go_wp2_with (fail)
            go_ret
            exact ⟨ret_bool (by simp [rightT, copyB_long (l := l) (by omega)]), HW.out.trans ((HB.out.trans (hb2.mono hz)).mono HW.out.size)⟩
      · have hkl : k = l.length := by omega
        subst hkl
        have HP := Lib.hid (partsB_true hA)
        have HCB := Lib.hid (copyB_of (hS rfl).1 (fun q hq => (hS rfl).2 q (by rw [List.take_length]; exact hq)))
        clear hA hS hb
        go_wp2_with (fail)
        refine (HL.out _).mono ?_
        rintro e w3 ⟨rfl, hb3⟩
        go_wp2_with (fail)
        go_ret
        exact ⟨ret_bool (by simp [rightT, K3.out, HP.out, HCB.out]), HW.out.trans ((HB.out.trans (hb3.mono hz)).mono HW.out.size)⟩
end Go.Proofs.Ytgmkchkaceciiaa.Te
