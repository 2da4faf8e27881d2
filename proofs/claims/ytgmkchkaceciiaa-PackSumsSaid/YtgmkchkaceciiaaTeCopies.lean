/- The walk of term.copies. -/
import Derived.Test.YtgmkchkaceciiaaTeRight
namespace Go.Proofs.Ytgmkchkaceciiaa.Te
set_option maxRecDepth 100000
open Go Go.RowKit Go.Proofs.Ytgmkchkaceciiaa.Sp Go.Proofs.Ytgmkchkaceciiaa.Pa
attribute [local go_sem] part_guard part_eqN
set_option maxHeartbeats 2000000 in
theorem copies_any (b d t u s : Int) (A : Option Addr) (n c : Nat) (l : List PT) (w : World) (h : RP w w.heap.size A n l) (hn : n ≤ maxLen) :
    Calls Try.prog 128 #[trm b d t u s A n c] w (RetB (copyB l) w) := by
  by_cases n0 : n = 0
  · subst n0
    unfold maxLen at hn
    have hlen := h.1
    have hbw : Below w.heap.size w (w.alloc (.cells (tcells b d t u s A 0 c) 114)) := (Below.refl _ w).alloc (Nat.le_refl _) _
    obtain ⟨w0, hw0⟩ : ∃ w0, w.alloc (.cells (tcells b d t u s A 0 c) 114) = w0 := ⟨_, rfl⟩
    have X6 := Lib.hid (fun W (hb : Below w0.heap.size w0 W) => show Boxed6 W w.heap.size b d t u s A 0 c from by rw [← hw0] at hb; exact boxed6 hb)
    rw [hw0] at hbw
    have hz0 : w.heap.size < w0.heap.size := by rw [← hw0]; simp
    have HW := Lib.hid hbw
    have H := Lib.hid (h.belowM hbw)
    have HB0 := Lib.hid (Below.refl w0.heap.size w0)
    obtain ⟨r0, r1, r2, r3, r4, r5⟩ := X6.out w0 (Below.refl _ _)
    clear h hbw
    obtain rfl := List.eq_nil_of_length_eq_zero hlen
    go_enter Try.func128, Try.ntmps128
    go_wp2_with (fail)
    go_quiet (fail)
    go_wp2_with (fail)
    go_ret
    exact ⟨rfl, HW.out.trans ((below_drewN (Below.refl _ w0) _).mono HW.out.size)⟩
  by_cases n1 : n = 1
  · subst n1
    unfold maxLen at hn
    have hlen := h.1
    have hbw : Below w.heap.size w (w.alloc (.cells (tcells b d t u s A 1 c) 114)) := (Below.refl _ w).alloc (Nat.le_refl _) _
    obtain ⟨w0, hw0⟩ : ∃ w0, w.alloc (.cells (tcells b d t u s A 1 c) 114) = w0 := ⟨_, rfl⟩
    have X6 := Lib.hid (fun W (hb : Below w0.heap.size w0 W) => show Boxed6 W w.heap.size b d t u s A 1 c from by rw [← hw0] at hb; exact boxed6 hb)
    rw [hw0] at hbw
    have hz0 : w.heap.size < w0.heap.size := by rw [← hw0]; simp
    have HW := Lib.hid hbw
    have H := Lib.hid (h.belowM hbw)
    have HB0 := Lib.hid (Below.refl w0.heap.size w0)
    obtain ⟨r0, r1, r2, r3, r4, r5⟩ := X6.out w0 (Below.refl _ _)
    clear h hbw
    obtain ⟨bb, off, a', d', t', u', hA', hbB, hlk, c1, c2, c3, c4⟩ := H.out.at_ (k := 0) (by omega)
    subst hA'
    simp only [Nat.zero_mul, Nat.add_zero] at c1 c2 c3 c4
    have HC := Lib.hid (show copyB l = takesAll (a', d', t', u') from by
      obtain ⟨hl, e⟩ := hlk
      match l, hlen with
      | [p], _ => simp only [List.getElem_cons_zero] at e; subst e; rfl)
    have Q := Lib.hid (show ∀ W, Below w0.heap.size w0 W → W.cell? ⟨w.heap.size, 5, none⟩ = some (.slice (some ⟨bb, off, none⟩) 1 c) ∧ W.cell? ⟨bb, off, none⟩ = some (.int .i64 a') ∧ W.cell? ⟨bb, off + 1, none⟩ = some (.int .i64 d') ∧ W.cell? ⟨bb, off + 2, none⟩ = some (.int .i64 t') ∧ W.cell? ⟨bb, off + 3, none⟩ = some (.int .i64 u') from fun W hW => ⟨(X6.out W hW).2.2.2.2.2, (hW.cell hbB).trans c1, (hW.cell hbB).trans c2, (hW.cell hbB).trans c3, (hW.cell hbB).trans c4⟩)
    clear hlk
    by_cases z1 : d' = 0
    · by_cases z2 : t' = 21
      · by_cases z3 : u' = 0
        · subst z1 z2 z3
          go_enter Try.func128, Try.ntmps128
          go_wp2_with (fail)
          go_region_held3 (fun w' => w'.cell? ⟨w.heap.size, 5, none⟩ = some (.slice (some ⟨bb, off, none⟩) 1 c) ∧ w'.cell? ⟨bb, off, none⟩ = some (.int .i64 a') ∧ w'.cell? ⟨bb, off + 1, none⟩ = some (.int .i64 0) ∧ w'.cell? ⟨bb, off + 2, none⟩ = some (.int .i64 21) ∧ w'.cell? ⟨bb, off + 3, none⟩ = some (.int .i64 0))
            (first | exact Q.out _ (Below.refl _ _).drew | exact Q.out _ (Below.refl _ _) | exact Q.out _ hB2 | go_keep)
            (first
              | (go_at_call 140; (with_reducible refine (whole_any _ _).mono ?_); rintro q2 w2 ⟨rfl, hb2⟩; have hB2 : Below w0.heap.size w0 w2 := (Below.refl _ w0).drew.trans (hb2.mono (by simp))))
          go_wp2_with (fail)
          go_ret
          exact ⟨ret_bool (by rw [HC.out]; rfl), HW.out.trans (hB2.mono HW.out.size)⟩
        · have z3' : (u' == 0) = false := by simpa using z3
          subst z1 z2
          go_enter Try.func128, Try.ntmps128
          go_wp2_with (fail)
          go_region_held3 (fun w' => w'.cell? ⟨w.heap.size, 5, none⟩ = some (.slice (some ⟨bb, off, none⟩) 1 c) ∧ w'.cell? ⟨bb, off, none⟩ = some (.int .i64 a') ∧ w'.cell? ⟨bb, off + 1, none⟩ = some (.int .i64 0) ∧ w'.cell? ⟨bb, off + 2, none⟩ = some (.int .i64 21) ∧ w'.cell? ⟨bb, off + 3, none⟩ = some (.int .i64 u'))
            (first | exact Q.out _ (Below.refl _ _).drew | exact Q.out _ (Below.refl _ _) | exact Q.out _ hB2 | go_keep)
            (first
              | (go_at_call 140; (with_reducible refine (whole_any _ _).mono ?_); rintro q2 w2 ⟨rfl, hb2⟩; have hB2 : Below w0.heap.size w0 w2 := (Below.refl _ w0).drew.trans (hb2.mono (by simp))))
          go_wp2_with (fail)
          go_ret
          exact ⟨ret_bool (by rw [HC.out]; simp [takesAll, z3]), HW.out.trans (hB2.mono HW.out.size)⟩
      · have z2' : (t' == 21) = false := by simpa using z2
        subst z1
        go_enter Try.func128, Try.ntmps128
        go_wp2_with (fail)
        go_region_held3 (fun w' => w'.cell? ⟨w.heap.size, 5, none⟩ = some (.slice (some ⟨bb, off, none⟩) 1 c) ∧ w'.cell? ⟨bb, off, none⟩ = some (.int .i64 a') ∧ w'.cell? ⟨bb, off + 1, none⟩ = some (.int .i64 0) ∧ w'.cell? ⟨bb, off + 2, none⟩ = some (.int .i64 t') ∧ w'.cell? ⟨bb, off + 3, none⟩ = some (.int .i64 u'))
          (first | exact Q.out _ (Below.refl _ _).drew | exact Q.out _ (Below.refl _ _) | exact Q.out _ hB2 | go_keep)
          (first
            | (go_at_call 140; (with_reducible refine (whole_any _ _).mono ?_); rintro q2 w2 ⟨rfl, hb2⟩; have hB2 : Below w0.heap.size w0 w2 := (Below.refl _ w0).drew.trans (hb2.mono (by simp))))
        go_wp2_with (fail)
        go_ret
        exact ⟨ret_bool (by rw [HC.out]; simp [takesAll, z2]), HW.out.trans (hB2.mono HW.out.size)⟩
    · have z1' : (d' == 0) = false := by simpa using z1
      go_enter Try.func128, Try.ntmps128
      go_wp2_with (fail)
      go_region_held3 (fun w' => w'.cell? ⟨w.heap.size, 5, none⟩ = some (.slice (some ⟨bb, off, none⟩) 1 c) ∧ w'.cell? ⟨bb, off, none⟩ = some (.int .i64 a') ∧ w'.cell? ⟨bb, off + 1, none⟩ = some (.int .i64 d') ∧ w'.cell? ⟨bb, off + 2, none⟩ = some (.int .i64 t') ∧ w'.cell? ⟨bb, off + 3, none⟩ = some (.int .i64 u'))
        (first | exact Q.out _ (Below.refl _ _).drew | exact Q.out _ (Below.refl _ _) | exact Q.out _ hB2 | go_keep)
        (first
          | (go_at_call 140; (with_reducible refine (whole_any _ _).mono ?_); rintro q2 w2 ⟨rfl, hb2⟩; have hB2 : Below w0.heap.size w0 w2 := (Below.refl _ w0).drew.trans (hb2.mono (by simp))))
      go_wp2_with (fail)
      go_ret
      exact ⟨ret_bool (by rw [HC.out]; simp [takesAll, z1]), HW.out.trans (hB2.mono HW.out.size)⟩
  unfold maxLen at hn
  have hlen := h.1
  have hbw : Below w.heap.size w (w.alloc (.cells (tcells b d t u s A n c) 114)) := (Below.refl _ w).alloc (Nat.le_refl _) _
  obtain ⟨w0, hw0⟩ : ∃ w0, w.alloc (.cells (tcells b d t u s A n c) 114) = w0 := ⟨_, rfl⟩
  have X6 := Lib.hid (fun W (hb : Below w0.heap.size w0 W) => show Boxed6 W w.heap.size b d t u s A n c from by rw [← hw0] at hb; exact boxed6 hb)
  rw [hw0] at hbw
  have hz0 : w.heap.size < w0.heap.size := by rw [← hw0]; simp
  have HW := Lib.hid hbw
  have H := Lib.hid (h.belowM hbw)
  have HB0 := Lib.hid (Below.refl w0.heap.size w0)
  obtain ⟨r0, r1, r2, r3, r4, r5⟩ := X6.out w0 (Below.refl _ _)
  clear h hbw
  have hd0 : ((n : Int) == 0) = false := by simp; omega
  have hd1 : ((n : Int) == 1) = false := by simp; omega
  have HC := Lib.hid (show copyB l = false from by
    match l, hlen with
    | [], e => exact absurd e.symm n0
    | [_], e => exact absurd e.symm n1
    | _ :: _ :: _, _ => rfl)
  go_enter Try.func128, Try.ntmps128
  go_wp2_with (fail)
  go_quiet (fail)
  go_wp2_with (fail)
  go_ret
  exact ⟨ret_bool HC.out.symm, HW.out.trans ((below_drewN (Below.refl _ w0) _).mono HW.out.size)⟩
end Go.Proofs.Ytgmkchkaceciiaa.Te
