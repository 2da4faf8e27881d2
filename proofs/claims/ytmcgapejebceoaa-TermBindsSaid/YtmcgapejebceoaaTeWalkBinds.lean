/- The walk of the law TermBinds. -/
import Derived.Test.YtmcgapejebceoaaTeRBind
import Derived.Test.YtmcgapejebceoaaTeAwake
namespace Go.Proofs.Ytmcgapejebceoaa.Te
set_option maxRecDepth 100000
open Go Go.RowKit Go.Proofs.Ytmcgapejebceoaa.Sp Go.Proofs.Ytmcgapejebceoaa.Pa

theorem rr_part {w : World} {B b off j n : Nat} {xs : List Int} (h : RR w B (some ⟨b, off, none⟩) n xs) (hj : j < n) : RR w B (some ⟨b, off + j, none⟩) 1 [atI xs j] := by
  obtain ⟨h1, h2, h3⟩ := h
  have hl : j < xs.length := by omega
  have e : atI xs j = xs[j] := atI_get rfl ⟨hl, rfl⟩
  obtain ⟨b', off', e', hb, hc⟩ := h3 (by omega)
  injection e' with e'
  injection e' with e1 e2 _
  subst e1 e2
  refine ⟨rfl, fun x hx => ?_, fun _ => ⟨b, off + j, rfl, hb, fun i hi => ?_⟩⟩
  · rw [List.mem_singleton] at hx
    subst hx
    rw [e]
    exact h2 _ (List.getElem_mem hl)
  · obtain rfl : i = 0 := by simp at hi; omega
    simp only [List.getElem_cons_zero, Nat.add_zero]
    rw [e]
    exact hc j hl
set_option maxHeartbeats 8000000 in
theorem binds_G1 (b d t u s : Int) (A : Option Addr) (c : Nat) (l : List PT) (C : Option Addr) (f : Nat) (xs : List Int) (at_ : Int) (w : World) (h : RP w w.heap.size A l.length l) (hl : l.length ≤ maxLen) (hc : RR w w.heap.size C xs.length xs) (_hm : xs.length ≤ maxLen) (g1 : 20 < l.length) :
    Calls Try.prog 6 #[trm b d t u s A l.length c, .slice C xs.length f, .int .i64 at_] w (RetB true w) := by
  have HG1 := Lib.hid (fun W => tgreat_any b d t u s A l.length c W hl)
  rw [decide_eq_true g1] at HG1
  obtain ⟨w0, hw0⟩ : ∃ w0, w.alloc (.cells (tcells b d t u s A l.length c) 24) = w0 := ⟨_, rfl⟩
  have hs0 : w0.heap.size = w.heap.size + 1 := by rw [← hw0]; simp
  have hb0 : Below w.heap.size w w0 := by rw [← hw0]; exact (Below.refl _ _).alloc (Nat.le_refl _) _
  have XT := Lib.hid (fun W (hb : Below w0.heap.size w0 W) => show Boxed6 W w.heap.size b d t u s A l.length c from by rw [← hw0] at hb; exact boxed6 hb)
  have H := Lib.hid (h.belowM hb0)
  have HC := Lib.hid (hc.belowM hb0)
  have HB0 := Lib.hid hb0
  clear h hc hb0
  obtain ⟨q0, q1, q2, q3, q4, q5⟩ := XT.out w0 (Below.refl w0.heap.size w0)
  go_enter Try.func6, Try.ntmps6
  go_wp2_with (fail)
  refine (HG1.out _).mono ?_
  rintro qq1 w1 ⟨rfl, hb1⟩
  clear q0 q1 q2 q3 q4 q5
  have HB_w0_w1 := Lib.hid (below_next (Below.refl w0.heap.size w0) hb1)
  clear hb1
  obtain ⟨q0, q1, q2, q3, q4, q5⟩ := XT.out w1 HB_w0_w1.out
  go_wp2_with (fail)
  clear q0 q1 q2 q3 q4 q5
  refine (tawake_any _).mono ?_
  rintro qq2 w2 ⟨rfl, hb2⟩
  have HB_w0_w2 := Lib.hid (below_next HB_w0_w1.out hb2)
  clear hb2
  go_wp2_with (fail)
  go_ret
  exact ⟨rfl, below_next HB0.out HB_w0_w2.out⟩
set_option maxHeartbeats 8000000 in
theorem binds_G2 (b d t u s : Int) (A : Option Addr) (c : Nat) (l : List PT) (C : Option Addr) (f : Nat) (xs : List Int) (at_ : Int) (w : World) (h : RP w w.heap.size A l.length l) (hl : l.length ≤ maxLen) (hc : RR w w.heap.size C xs.length xs) (_hm : xs.length ≤ maxLen) (g1 : ¬ 20 < l.length) (g2 : 100 < xs.length) :
    Calls Try.prog 6 #[trm b d t u s A l.length c, .slice C xs.length f, .int .i64 at_] w (RetB true w) := by
  have HG1 := Lib.hid (fun W => tgreat_any b d t u s A l.length c W hl)
  rw [decide_eq_false g1] at HG1
  have hd3 : decide ((100 : Int) < (xs.length : Int)) = true := by simp; omega
  obtain ⟨w0, hw0⟩ : ∃ w0, w.alloc (.cells (tcells b d t u s A l.length c) 24) = w0 := ⟨_, rfl⟩
  have hs0 : w0.heap.size = w.heap.size + 1 := by rw [← hw0]; simp
  have hb0 : Below w.heap.size w w0 := by rw [← hw0]; exact (Below.refl _ _).alloc (Nat.le_refl _) _
  have XT := Lib.hid (fun W (hb : Below w0.heap.size w0 W) => show Boxed6 W w.heap.size b d t u s A l.length c from by rw [← hw0] at hb; exact boxed6 hb)
  have H := Lib.hid (h.belowM hb0)
  have HC := Lib.hid (hc.belowM hb0)
  have HB0 := Lib.hid hb0
  clear h hc hb0
  obtain ⟨q0, q1, q2, q3, q4, q5⟩ := XT.out w0 (Below.refl w0.heap.size w0)
  go_enter Try.func6, Try.ntmps6
  go_wp2_with (fail)
  refine (HG1.out _).mono ?_
  rintro qq1 w1 ⟨rfl, hb1⟩
  clear q0 q1 q2 q3 q4 q5
  have HB_w0_w1 := Lib.hid (below_next (Below.refl w0.heap.size w0) hb1)
  clear hb1
  obtain ⟨q0, q1, q2, q3, q4, q5⟩ := XT.out w1 HB_w0_w1.out
  go_wp2_with (fail)
  clear q0 q1 q2 q3 q4 q5
  refine (tawake_any _).mono ?_
  rintro qq2 w2 ⟨rfl, hb2⟩
  have HB_w0_w2 := Lib.hid (below_next HB_w0_w1.out hb2)
  clear hb2
  go_wp2_with (fail)
  go_ret
  exact ⟨rfl, below_next HB0.out HB_w0_w2.out⟩
set_option maxHeartbeats 8000000 in
theorem binds_M1 (b d t u s : Int) (A : Option Addr) (c : Nat) (l : List PT) (C : Option Addr) (f : Nat) (xs : List Int) (at_ : Int) (w : World) (h : RP w w.heap.size A l.length l) (hl : l.length ≤ maxLen) (hs : R64 s) (hc : RR w w.heap.size C xs.length xs) (hm : xs.length ≤ maxLen) (g1 : ¬ 20 < l.length) (g2 : ¬ 100 < xs.length) (sn : Int) (ln : List PT) (hr : bindT at_ xs s l = (sn, ln)) (hln : ln.length ≤ 20) (v : Int) (hv : valueT b d t u s l xs = (v, false)) :
    Calls Try.prog 6 #[trm b d t u s A l.length c, .slice C xs.length f, .int .i64 at_] w (RetB true w) := by
  have HG1 := Lib.hid (fun W => tgreat_any b d t u s A l.length c W hl)
  rw [decide_eq_false g1] at HG1
  have hd3 : decide ((100 : Int) < (xs.length : Int)) = false := by simp; omega
  obtain ⟨w0, hw0⟩ : ∃ w0, w.alloc (.cells (tcells b d t u s A l.length c) 24) = w0 := ⟨_, rfl⟩
  have hs0 : w0.heap.size = w.heap.size + 1 := by rw [← hw0]; simp
  have hb0 : Below w.heap.size w w0 := by rw [← hw0]; exact (Below.refl _ _).alloc (Nat.le_refl _) _
  have XT := Lib.hid (fun W (hb : Below w0.heap.size w0 W) => show Boxed6 W w.heap.size b d t u s A l.length c from by rw [← hw0] at hb; exact boxed6 hb)
  have H := Lib.hid (h.belowM hb0)
  have HC := Lib.hid (hc.belowM hb0)
  have HB0 := Lib.hid hb0
  have HP := Lib.hid (fun W h1 h2 => tbind_any b d t u s A C c f l xs at_ W h1 (by omega) h2 hm hs)
  have HQ := Lib.hid (fun W h1 h2 => rbind_any b d t u s A C c f l xs at_ W h1 (by omega) h2 hm hs)
  rw [hr] at HP HQ
  have HSM := Lib.hid (fun W D1 D2 g1 g2 h1 h2 => rsame_eq b d t u sn D1 D2 ln.length g1 g2 ln W h1 h2 (by unfold maxLen; omega))
  have HV := Lib.hid (fun W h1 h2 => tvalue_any b d t u s A C l.length c xs.length f l xs W h1 hl h2 hm)
  rw [hv] at HV
  clear hv hr
  unfold maxLen at hl hm
  clear h hc hb0
  obtain ⟨q0, q1, q2, q3, q4, q5⟩ := XT.out w0 (Below.refl w0.heap.size w0)
  go_enter Try.func6, Try.ntmps6
  go_wp2_with (fail)
  refine (HG1.out _).mono ?_
  rintro qq1 w1 ⟨rfl, hb1⟩
  clear q0 q1 q2 q3 q4 q5
  have HB_w0_w1 := Lib.hid (below_next (Below.refl w0.heap.size w0) hb1)
  clear hb1
  obtain ⟨q0, q1, q2, q3, q4, q5⟩ := XT.out w1 HB_w0_w1.out
  go_wp2_with (fail)
  refine (HP.out _ (H.out.belowM HB_w0_w1.out) (HC.out.belowM HB_w0_w1.out)).mono ?_
  rintro qq2 w2 ⟨A2, c2, rfl, hr2, hcc2, hb2⟩
  clear q0 q1 q2 q3 q4 q5
  have HB_w0_w2 := Lib.hid (below_next HB_w0_w1.out hb2)
  clear hb2
  obtain ⟨wa, hwa⟩ : ∃ wa, w2.alloc (.cells (tcells b d t u sn A2 ln.length c2) 24) = wa := ⟨_, rfl⟩
  have h2wa : Below w2.heap.size w2 wa := by rw [← hwa]; exact (Below.refl _ _).alloc (Nat.le_refl _) _
  have hswa : wa.heap.size = w2.heap.size + 1 := by rw [← hwa]; simp
  have HB_w0_wa := Lib.hid (below_next HB_w0_w2.out h2wa)
  have X1 := Lib.hid (fun W (hb : Below wa.heap.size wa W) => show Boxed6 W w2.heap.size b d t u sn A2 ln.length c2 from by rw [← hwa] at hb; exact boxed6 hb)
  have R1 := Lib.hid (hr2.belowM h2wa)
  clear hr2 h2wa hcc2
  have HS := Lib.hid (fun W (hb : Below wa.heap.size wa W) => show Below wa.heap.size wa W ∧ (W.cell? ⟨w.heap.size, 0, none⟩ = some (.int .i64 b) ∧ W.cell? ⟨w.heap.size, 1, none⟩ = some (.int .i64 d) ∧ W.cell? ⟨w.heap.size, 2, none⟩ = some (.int .i64 t) ∧ W.cell? ⟨w.heap.size, 3, none⟩ = some (.int .i64 u) ∧ W.cell? ⟨w.heap.size, 4, none⟩ = some (.int .i64 s) ∧ W.cell? ⟨w.heap.size, 5, none⟩ = some (.slice A l.length c)) ∧ (W.cell? ⟨w2.heap.size, 0, none⟩ = some (.int .i64 b) ∧ W.cell? ⟨w2.heap.size, 1, none⟩ = some (.int .i64 d) ∧ W.cell? ⟨w2.heap.size, 2, none⟩ = some (.int .i64 t) ∧ W.cell? ⟨w2.heap.size, 3, none⟩ = some (.int .i64 u) ∧ W.cell? ⟨w2.heap.size, 4, none⟩ = some (.int .i64 sn) ∧ W.cell? ⟨w2.heap.size, 5, none⟩ = some (.slice A2 ln.length c2)) from ⟨hb, XT.out W (below_next HB_w0_wa.out hb), X1.out W hb⟩)
  have HQ5 := Lib.hid (fun W (hb : Below wa.heap.size wa W) => HQ.out W (H.out.belowM (below_next HB_w0_wa.out hb)) (HC.out.belowM (below_next HB_w0_wa.out hb)))
  have HSM5 := Lib.hid (fun W D2 g2 (hb : Below wa.heap.size wa W) h2 => HSM.out W A2 D2 c2 g2 (R1.out.belowM hb) h2)
  go_wp2_with (fail)
  go_region_held3 (fun W => Below wa.heap.size wa W ∧ (W.cell? ⟨w.heap.size, 0, none⟩ = some (.int .i64 b) ∧ W.cell? ⟨w.heap.size, 1, none⟩ = some (.int .i64 d) ∧ W.cell? ⟨w.heap.size, 2, none⟩ = some (.int .i64 t) ∧ W.cell? ⟨w.heap.size, 3, none⟩ = some (.int .i64 u) ∧ W.cell? ⟨w.heap.size, 4, none⟩ = some (.int .i64 s) ∧ W.cell? ⟨w.heap.size, 5, none⟩ = some (.slice A l.length c)) ∧ (W.cell? ⟨w2.heap.size, 0, none⟩ = some (.int .i64 b) ∧ W.cell? ⟨w2.heap.size, 1, none⟩ = some (.int .i64 d) ∧ W.cell? ⟨w2.heap.size, 2, none⟩ = some (.int .i64 t) ∧ W.cell? ⟨w2.heap.size, 3, none⟩ = some (.int .i64 u) ∧ W.cell? ⟨w2.heap.size, 4, none⟩ = some (.int .i64 sn) ∧ W.cell? ⟨w2.heap.size, 5, none⟩ = some (.slice A2 ln.length c2)))
    (first | exact HS.out _ (Below.refl _ _).drew | exact HS.out _ hB2 | (go_split_ands; exact HS.out _ (below_al (by assumption) _)))
    (first
      | (go_at_call 22; go_split_ands; (with_reducible refine (HQ5.out _ (by assumption)).mono ?_); rintro q2 w9 ⟨A9, c9, rfl, hr9, hc9, hb9⟩; have hB2 := below_next (w := wa) (by assumption) hb9)
      | (go_at_call 15; go_split_ands; (with_reducible refine (HSM5.out _ _ _ (by assumption) (by assumption)).mono ?_); rintro q2 w9 ⟨rfl, hb9⟩; have hB2 := below_next (w := wa) (by assumption) hb9))
  have HB9 := Lib.hid hB2
  clear hB2
  obtain ⟨q0, q1, q2, q3, q4, q5⟩ := XT.out w9 (below_next HB_w0_wa.out HB9.out)
  go_wp2_with (fail)
  refine (HV.out _ (H.out.belowM (below_next HB_w0_wa.out HB9.out)) (HC.out.belowM (below_next HB_w0_wa.out HB9.out))).mono ?_
  rintro qq3 w3 ⟨rfl, hb3⟩
  clear q0 q1 q2 q3 q4 q5
  have HB_w0_w3 := Lib.hid (below_next (below_next HB_w0_wa.out HB9.out) hb3)
  have HB_wa_w3 := Lib.hid (below_next HB9.out hb3)
  clear hb3
  go_wp2_with (fail)
  refine (tawake_any _).mono ?_
  rintro qq4 w4 ⟨rfl, hb4⟩
  have HB_w0_w4 := Lib.hid (below_next HB_w0_w3.out hb4)
  have HB_wa_w4 := Lib.hid (below_next HB_wa_w3.out hb4)
  clear hb4
  go_wp2_with (fail)
  go_ret
  exact ⟨rfl, below_next HB0.out HB_w0_w4.out⟩
set_option maxHeartbeats 8000000 in
theorem binds_M2 (b d t u s : Int) (A : Option Addr) (c : Nat) (l : List PT) (C : Option Addr) (f : Nat) (xs : List Int) (at_ : Int) (w : World) (h : RP w w.heap.size A l.length l) (hl : l.length ≤ maxLen) (hs : R64 s) (hc : RR w w.heap.size C xs.length xs) (hm : xs.length ≤ maxLen) (g1 : ¬ 20 < l.length) (g2 : ¬ 100 < xs.length) (sn : Int) (ln : List PT) (hr : bindT at_ xs s l = (sn, ln)) (hln : ln.length ≤ 20) (v : Int) (hv : valueT b d t u s l xs = (v, true)) (h1 : at_ < 0) :
    Calls Try.prog 6 #[trm b d t u s A l.length c, .slice C xs.length f, .int .i64 at_] w (RetB true w) := by
  have HG1 := Lib.hid (fun W => tgreat_any b d t u s A l.length c W hl)
  rw [decide_eq_false g1] at HG1
  have hd3 : decide ((100 : Int) < (xs.length : Int)) = false := by simp; omega
  obtain ⟨w0, hw0⟩ : ∃ w0, w.alloc (.cells (tcells b d t u s A l.length c) 24) = w0 := ⟨_, rfl⟩
  have hs0 : w0.heap.size = w.heap.size + 1 := by rw [← hw0]; simp
  have hb0 : Below w.heap.size w w0 := by rw [← hw0]; exact (Below.refl _ _).alloc (Nat.le_refl _) _
  have XT := Lib.hid (fun W (hb : Below w0.heap.size w0 W) => show Boxed6 W w.heap.size b d t u s A l.length c from by rw [← hw0] at hb; exact boxed6 hb)
  have H := Lib.hid (h.belowM hb0)
  have HC := Lib.hid (hc.belowM hb0)
  have HB0 := Lib.hid hb0
  have HP := Lib.hid (fun W h1 h2 => tbind_any b d t u s A C c f l xs at_ W h1 (by omega) h2 hm hs)
  have HQ := Lib.hid (fun W h1 h2 => rbind_any b d t u s A C c f l xs at_ W h1 (by omega) h2 hm hs)
  rw [hr] at HP HQ
  have HSM := Lib.hid (fun W D1 D2 g1 g2 h1 h2 => rsame_eq b d t u sn D1 D2 ln.length g1 g2 ln W h1 h2 (by unfold maxLen; omega))
  have HV := Lib.hid (fun W h1 h2 => tvalue_any b d t u s A C l.length c xs.length f l xs W h1 hl h2 hm)
  rw [hv] at HV
  clear hv hr
  have hd1 : decide (at_ < 0) = true := by simp; omega
  unfold maxLen at hl hm
  clear h hc hb0
  obtain ⟨q0, q1, q2, q3, q4, q5⟩ := XT.out w0 (Below.refl w0.heap.size w0)
  go_enter Try.func6, Try.ntmps6
  go_wp2_with (fail)
  refine (HG1.out _).mono ?_
  rintro qq1 w1 ⟨rfl, hb1⟩
  clear q0 q1 q2 q3 q4 q5
  have HB_w0_w1 := Lib.hid (below_next (Below.refl w0.heap.size w0) hb1)
  clear hb1
  obtain ⟨q0, q1, q2, q3, q4, q5⟩ := XT.out w1 HB_w0_w1.out
  go_wp2_with (fail)
  refine (HP.out _ (H.out.belowM HB_w0_w1.out) (HC.out.belowM HB_w0_w1.out)).mono ?_
  rintro qq2 w2 ⟨A2, c2, rfl, hr2, hcc2, hb2⟩
  clear q0 q1 q2 q3 q4 q5
  have HB_w0_w2 := Lib.hid (below_next HB_w0_w1.out hb2)
  clear hb2
  obtain ⟨wa, hwa⟩ : ∃ wa, w2.alloc (.cells (tcells b d t u sn A2 ln.length c2) 24) = wa := ⟨_, rfl⟩
  have h2wa : Below w2.heap.size w2 wa := by rw [← hwa]; exact (Below.refl _ _).alloc (Nat.le_refl _) _
  have hswa : wa.heap.size = w2.heap.size + 1 := by rw [← hwa]; simp
  have HB_w0_wa := Lib.hid (below_next HB_w0_w2.out h2wa)
  have X1 := Lib.hid (fun W (hb : Below wa.heap.size wa W) => show Boxed6 W w2.heap.size b d t u sn A2 ln.length c2 from by rw [← hwa] at hb; exact boxed6 hb)
  have R1 := Lib.hid (hr2.belowM h2wa)
  clear hr2 h2wa hcc2
  have HS := Lib.hid (fun W (hb : Below wa.heap.size wa W) => show Below wa.heap.size wa W ∧ (W.cell? ⟨w.heap.size, 0, none⟩ = some (.int .i64 b) ∧ W.cell? ⟨w.heap.size, 1, none⟩ = some (.int .i64 d) ∧ W.cell? ⟨w.heap.size, 2, none⟩ = some (.int .i64 t) ∧ W.cell? ⟨w.heap.size, 3, none⟩ = some (.int .i64 u) ∧ W.cell? ⟨w.heap.size, 4, none⟩ = some (.int .i64 s) ∧ W.cell? ⟨w.heap.size, 5, none⟩ = some (.slice A l.length c)) ∧ (W.cell? ⟨w2.heap.size, 0, none⟩ = some (.int .i64 b) ∧ W.cell? ⟨w2.heap.size, 1, none⟩ = some (.int .i64 d) ∧ W.cell? ⟨w2.heap.size, 2, none⟩ = some (.int .i64 t) ∧ W.cell? ⟨w2.heap.size, 3, none⟩ = some (.int .i64 u) ∧ W.cell? ⟨w2.heap.size, 4, none⟩ = some (.int .i64 sn) ∧ W.cell? ⟨w2.heap.size, 5, none⟩ = some (.slice A2 ln.length c2)) from ⟨hb, XT.out W (below_next HB_w0_wa.out hb), X1.out W hb⟩)
  have HQ5 := Lib.hid (fun W (hb : Below wa.heap.size wa W) => HQ.out W (H.out.belowM (below_next HB_w0_wa.out hb)) (HC.out.belowM (below_next HB_w0_wa.out hb)))
  have HSM5 := Lib.hid (fun W D2 g2 (hb : Below wa.heap.size wa W) h2 => HSM.out W A2 D2 c2 g2 (R1.out.belowM hb) h2)
  go_wp2_with (fail)
  go_region_held3 (fun W => Below wa.heap.size wa W ∧ (W.cell? ⟨w.heap.size, 0, none⟩ = some (.int .i64 b) ∧ W.cell? ⟨w.heap.size, 1, none⟩ = some (.int .i64 d) ∧ W.cell? ⟨w.heap.size, 2, none⟩ = some (.int .i64 t) ∧ W.cell? ⟨w.heap.size, 3, none⟩ = some (.int .i64 u) ∧ W.cell? ⟨w.heap.size, 4, none⟩ = some (.int .i64 s) ∧ W.cell? ⟨w.heap.size, 5, none⟩ = some (.slice A l.length c)) ∧ (W.cell? ⟨w2.heap.size, 0, none⟩ = some (.int .i64 b) ∧ W.cell? ⟨w2.heap.size, 1, none⟩ = some (.int .i64 d) ∧ W.cell? ⟨w2.heap.size, 2, none⟩ = some (.int .i64 t) ∧ W.cell? ⟨w2.heap.size, 3, none⟩ = some (.int .i64 u) ∧ W.cell? ⟨w2.heap.size, 4, none⟩ = some (.int .i64 sn) ∧ W.cell? ⟨w2.heap.size, 5, none⟩ = some (.slice A2 ln.length c2)))
    (first | exact HS.out _ (Below.refl _ _).drew | exact HS.out _ hB2 | (go_split_ands; exact HS.out _ (below_al (by assumption) _)))
    (first
      | (go_at_call 22; go_split_ands; (with_reducible refine (HQ5.out _ (by assumption)).mono ?_); rintro q2 w9 ⟨A9, c9, rfl, hr9, hc9, hb9⟩; have hB2 := below_next (w := wa) (by assumption) hb9)
      | (go_at_call 15; go_split_ands; (with_reducible refine (HSM5.out _ _ _ (by assumption) (by assumption)).mono ?_); rintro q2 w9 ⟨rfl, hb9⟩; have hB2 := below_next (w := wa) (by assumption) hb9))
  have HB9 := Lib.hid hB2
  clear hB2
  obtain ⟨q0, q1, q2, q3, q4, q5⟩ := XT.out w9 (below_next HB_w0_wa.out HB9.out)
  go_wp2_with (fail)
  refine (HV.out _ (H.out.belowM (below_next HB_w0_wa.out HB9.out)) (HC.out.belowM (below_next HB_w0_wa.out HB9.out))).mono ?_
  rintro qq3 w3 ⟨rfl, hb3⟩
  clear q0 q1 q2 q3 q4 q5
  have HB_w0_w3 := Lib.hid (below_next (below_next HB_w0_wa.out HB9.out) hb3)
  have HB_wa_w3 := Lib.hid (below_next HB9.out hb3)
  clear hb3
  go_wp2_with (fail)
  refine (tawake_any _).mono ?_
  rintro qq4 w4 ⟨rfl, hb4⟩
  have HB_w0_w4 := Lib.hid (below_next HB_w0_w3.out hb4)
  have HB_wa_w4 := Lib.hid (below_next HB_wa_w3.out hb4)
  clear hb4
  go_wp2_with (fail)
  go_ret
  exact ⟨rfl, below_next HB0.out HB_w0_w4.out⟩
set_option maxHeartbeats 8000000 in
theorem binds_M3 (b d t u s : Int) (A : Option Addr) (c : Nat) (l : List PT) (C : Option Addr) (f : Nat) (xs : List Int) (at_ : Int) (w : World) (h : RP w w.heap.size A l.length l) (hl : l.length ≤ maxLen) (hs : R64 s) (hc : RR w w.heap.size C xs.length xs) (hm : xs.length ≤ maxLen) (g1 : ¬ 20 < l.length) (g2 : ¬ 100 < xs.length) (sn : Int) (ln : List PT) (hr : bindT at_ xs s l = (sn, ln)) (hln : ln.length ≤ 20) (v : Int) (hv : valueT b d t u s l xs = (v, true)) (h1 : 0 ≤ at_) (h2 : (xs.length : Int) ≤ at_) :
    Calls Try.prog 6 #[trm b d t u s A l.length c, .slice C xs.length f, .int .i64 at_] w (RetB true w) := by
  have HG1 := Lib.hid (fun W => tgreat_any b d t u s A l.length c W hl)
  rw [decide_eq_false g1] at HG1
  have hd3 : decide ((100 : Int) < (xs.length : Int)) = false := by simp; omega
  obtain ⟨w0, hw0⟩ : ∃ w0, w.alloc (.cells (tcells b d t u s A l.length c) 24) = w0 := ⟨_, rfl⟩
  have hs0 : w0.heap.size = w.heap.size + 1 := by rw [← hw0]; simp
  have hb0 : Below w.heap.size w w0 := by rw [← hw0]; exact (Below.refl _ _).alloc (Nat.le_refl _) _
  have XT := Lib.hid (fun W (hb : Below w0.heap.size w0 W) => show Boxed6 W w.heap.size b d t u s A l.length c from by rw [← hw0] at hb; exact boxed6 hb)
  have H := Lib.hid (h.belowM hb0)
  have HC := Lib.hid (hc.belowM hb0)
  have HB0 := Lib.hid hb0
  have HP := Lib.hid (fun W h1 h2 => tbind_any b d t u s A C c f l xs at_ W h1 (by omega) h2 hm hs)
  have HQ := Lib.hid (fun W h1 h2 => rbind_any b d t u s A C c f l xs at_ W h1 (by omega) h2 hm hs)
  rw [hr] at HP HQ
  have HSM := Lib.hid (fun W D1 D2 g1 g2 h1 h2 => rsame_eq b d t u sn D1 D2 ln.length g1 g2 ln W h1 h2 (by unfold maxLen; omega))
  have HV := Lib.hid (fun W h1 h2 => tvalue_any b d t u s A C l.length c xs.length f l xs W h1 hl h2 hm)
  rw [hv] at HV
  clear hv hr
  have hd1 : decide (at_ < 0) = false := by simp; omega
  have hd2 : decide ((xs.length : Int) ≤ at_) = true := by simp; omega
  unfold maxLen at hl hm
  clear h hc hb0
  obtain ⟨q0, q1, q2, q3, q4, q5⟩ := XT.out w0 (Below.refl w0.heap.size w0)
  go_enter Try.func6, Try.ntmps6
  go_wp2_with (fail)
  refine (HG1.out _).mono ?_
  rintro qq1 w1 ⟨rfl, hb1⟩
  clear q0 q1 q2 q3 q4 q5
  have HB_w0_w1 := Lib.hid (below_next (Below.refl w0.heap.size w0) hb1)
  clear hb1
  obtain ⟨q0, q1, q2, q3, q4, q5⟩ := XT.out w1 HB_w0_w1.out
  go_wp2_with (fail)
  refine (HP.out _ (H.out.belowM HB_w0_w1.out) (HC.out.belowM HB_w0_w1.out)).mono ?_
  rintro qq2 w2 ⟨A2, c2, rfl, hr2, hcc2, hb2⟩
  clear q0 q1 q2 q3 q4 q5
  have HB_w0_w2 := Lib.hid (below_next HB_w0_w1.out hb2)
  clear hb2
  obtain ⟨wa, hwa⟩ : ∃ wa, w2.alloc (.cells (tcells b d t u sn A2 ln.length c2) 24) = wa := ⟨_, rfl⟩
  have h2wa : Below w2.heap.size w2 wa := by rw [← hwa]; exact (Below.refl _ _).alloc (Nat.le_refl _) _
  have hswa : wa.heap.size = w2.heap.size + 1 := by rw [← hwa]; simp
  have HB_w0_wa := Lib.hid (below_next HB_w0_w2.out h2wa)
  have X1 := Lib.hid (fun W (hb : Below wa.heap.size wa W) => show Boxed6 W w2.heap.size b d t u sn A2 ln.length c2 from by rw [← hwa] at hb; exact boxed6 hb)
  have R1 := Lib.hid (hr2.belowM h2wa)
  clear hr2 h2wa hcc2
  have HS := Lib.hid (fun W (hb : Below wa.heap.size wa W) => show Below wa.heap.size wa W ∧ (W.cell? ⟨w.heap.size, 0, none⟩ = some (.int .i64 b) ∧ W.cell? ⟨w.heap.size, 1, none⟩ = some (.int .i64 d) ∧ W.cell? ⟨w.heap.size, 2, none⟩ = some (.int .i64 t) ∧ W.cell? ⟨w.heap.size, 3, none⟩ = some (.int .i64 u) ∧ W.cell? ⟨w.heap.size, 4, none⟩ = some (.int .i64 s) ∧ W.cell? ⟨w.heap.size, 5, none⟩ = some (.slice A l.length c)) ∧ (W.cell? ⟨w2.heap.size, 0, none⟩ = some (.int .i64 b) ∧ W.cell? ⟨w2.heap.size, 1, none⟩ = some (.int .i64 d) ∧ W.cell? ⟨w2.heap.size, 2, none⟩ = some (.int .i64 t) ∧ W.cell? ⟨w2.heap.size, 3, none⟩ = some (.int .i64 u) ∧ W.cell? ⟨w2.heap.size, 4, none⟩ = some (.int .i64 sn) ∧ W.cell? ⟨w2.heap.size, 5, none⟩ = some (.slice A2 ln.length c2)) from ⟨hb, XT.out W (below_next HB_w0_wa.out hb), X1.out W hb⟩)
  have HQ5 := Lib.hid (fun W (hb : Below wa.heap.size wa W) => HQ.out W (H.out.belowM (below_next HB_w0_wa.out hb)) (HC.out.belowM (below_next HB_w0_wa.out hb)))
  have HSM5 := Lib.hid (fun W D2 g2 (hb : Below wa.heap.size wa W) h2 => HSM.out W A2 D2 c2 g2 (R1.out.belowM hb) h2)
  go_wp2_with (fail)
  go_region_held3 (fun W => Below wa.heap.size wa W ∧ (W.cell? ⟨w.heap.size, 0, none⟩ = some (.int .i64 b) ∧ W.cell? ⟨w.heap.size, 1, none⟩ = some (.int .i64 d) ∧ W.cell? ⟨w.heap.size, 2, none⟩ = some (.int .i64 t) ∧ W.cell? ⟨w.heap.size, 3, none⟩ = some (.int .i64 u) ∧ W.cell? ⟨w.heap.size, 4, none⟩ = some (.int .i64 s) ∧ W.cell? ⟨w.heap.size, 5, none⟩ = some (.slice A l.length c)) ∧ (W.cell? ⟨w2.heap.size, 0, none⟩ = some (.int .i64 b) ∧ W.cell? ⟨w2.heap.size, 1, none⟩ = some (.int .i64 d) ∧ W.cell? ⟨w2.heap.size, 2, none⟩ = some (.int .i64 t) ∧ W.cell? ⟨w2.heap.size, 3, none⟩ = some (.int .i64 u) ∧ W.cell? ⟨w2.heap.size, 4, none⟩ = some (.int .i64 sn) ∧ W.cell? ⟨w2.heap.size, 5, none⟩ = some (.slice A2 ln.length c2)))
    (first | exact HS.out _ (Below.refl _ _).drew | exact HS.out _ hB2 | (go_split_ands; exact HS.out _ (below_al (by assumption) _)))
    (first
      | (go_at_call 22; go_split_ands; (with_reducible refine (HQ5.out _ (by assumption)).mono ?_); rintro q2 w9 ⟨A9, c9, rfl, hr9, hc9, hb9⟩; have hB2 := below_next (w := wa) (by assumption) hb9)
      | (go_at_call 15; go_split_ands; (with_reducible refine (HSM5.out _ _ _ (by assumption) (by assumption)).mono ?_); rintro q2 w9 ⟨rfl, hb9⟩; have hB2 := below_next (w := wa) (by assumption) hb9))
  have HB9 := Lib.hid hB2
  clear hB2
  obtain ⟨q0, q1, q2, q3, q4, q5⟩ := XT.out w9 (below_next HB_w0_wa.out HB9.out)
  go_wp2_with (fail)
  refine (HV.out _ (H.out.belowM (below_next HB_w0_wa.out HB9.out)) (HC.out.belowM (below_next HB_w0_wa.out HB9.out))).mono ?_
  rintro qq3 w3 ⟨rfl, hb3⟩
  clear q0 q1 q2 q3 q4 q5
  have HB_w0_w3 := Lib.hid (below_next (below_next HB_w0_wa.out HB9.out) hb3)
  have HB_wa_w3 := Lib.hid (below_next HB9.out hb3)
  clear hb3
  go_wp2_with (fail)
  refine (tawake_any _).mono ?_
  rintro qq4 w4 ⟨rfl, hb4⟩
  have HB_w0_w4 := Lib.hid (below_next HB_w0_w3.out hb4)
  have HB_wa_w4 := Lib.hid (below_next HB_wa_w3.out hb4)
  clear hb4
  go_wp2_with (fail)
  go_ret
  exact ⟨rfl, below_next HB0.out HB_w0_w4.out⟩
set_option maxHeartbeats 8000000 in
theorem binds_M4 (b d t u s : Int) (A : Option Addr) (c : Nat) (l : List PT) (C : Option Addr) (f : Nat) (xs : List Int) (at_ : Int) (w : World) (h : RP w w.heap.size A l.length l) (hl : l.length ≤ maxLen) (hs : R64 s) (hc : RR w w.heap.size C xs.length xs) (hm : xs.length ≤ maxLen) (hcap : xs.length ≤ f) (g1 : ¬ 20 < l.length) (g2 : ¬ 100 < xs.length) (sn : Int) (ln : List PT) (hr : bindT at_ xs s l = (sn, ln)) (hln : ln.length ≤ 20) (v : Int) (hv : valueT b d t u s l xs = (v, true)) (j : Nat) (hj : at_ = j) (h2 : j < xs.length) (hx : valueT b d t u sn ln [atI xs j] = (v, true)) :
    Calls Try.prog 6 #[trm b d t u s A l.length c, .slice C xs.length f, .int .i64 at_] w (RetB true w) := by
  have HG1 := Lib.hid (fun W => tgreat_any b d t u s A l.length c W hl)
  rw [decide_eq_false g1] at HG1
  have hd3 : decide ((100 : Int) < (xs.length : Int)) = false := by simp; omega
  subst hj
  obtain ⟨cb, coff, cx, hC, hcb, hxk, y1, x1, x2⟩ := hc.at_ h2
  subst hC
  clear hxk y1 x1 x2
  obtain ⟨w0, hw0⟩ : ∃ w0, w.alloc (.cells (tcells b d t u s A l.length c) 24) = w0 := ⟨_, rfl⟩
  have hs0 : w0.heap.size = w.heap.size + 1 := by rw [← hw0]; simp
  have hb0 : Below w.heap.size w w0 := by rw [← hw0]; exact (Below.refl _ _).alloc (Nat.le_refl _) _
  have XT := Lib.hid (fun W (hb : Below w0.heap.size w0 W) => show Boxed6 W w.heap.size b d t u s A l.length c from by rw [← hw0] at hb; exact boxed6 hb)
  have H := Lib.hid (h.belowM hb0)
  have HC := Lib.hid (hc.belowM hb0)
  have HB0 := Lib.hid hb0
  have HP := Lib.hid (fun W h1 h2 => tbind_any b d t u s A (some ⟨cb, coff, none⟩) c f l xs (j : Int) W h1 (by omega) h2 hm hs)
  have HQ := Lib.hid (fun W h1 h2 => rbind_any b d t u s A (some ⟨cb, coff, none⟩) c f l xs (j : Int) W h1 (by omega) h2 hm hs)
  rw [hr] at HP HQ
  have HSM := Lib.hid (fun W D1 D2 g1 g2 h1 h2 => rsame_eq b d t u sn D1 D2 ln.length g1 g2 ln W h1 h2 (by unfold maxLen; omega))
  have HV := Lib.hid (fun W h1 h2 => tvalue_any b d t u s A (some ⟨cb, coff, none⟩) l.length c xs.length f l xs W h1 hl h2 hm)
  rw [hv] at HV
  have HX := Lib.hid (fun W D D2 g g2 h1 h2 => tvalue_any b d t u sn D D2 ln.length g 1 g2 ln [atI xs j] W h1 (by unfold maxLen; omega) h2 (by unfold maxLen; omega))
  rw [hx] at HX
  clear hx
  have hd1 : decide ((j : Int) < 0) = false := decide_eq_false (by omega)
  have hd2 : decide ((xs.length : Int) ≤ (j : Int)) = false := decide_eq_false (by omega)
  clear hv hr
  unfold maxLen at hl hm
  clear h hc hb0
  obtain ⟨q0, q1, q2, q3, q4, q5⟩ := XT.out w0 (Below.refl w0.heap.size w0)
  go_enter Try.func6, Try.ntmps6
  go_wp2_with (fail)
  refine (HG1.out _).mono ?_
  rintro qq1 w1 ⟨rfl, hb1⟩
  clear q0 q1 q2 q3 q4 q5
  have HB_w0_w1 := Lib.hid (below_next (Below.refl w0.heap.size w0) hb1)
  clear hb1
  obtain ⟨q0, q1, q2, q3, q4, q5⟩ := XT.out w1 HB_w0_w1.out
  go_wp2_with (fail)
  refine (HP.out _ (H.out.belowM HB_w0_w1.out) (HC.out.belowM HB_w0_w1.out)).mono ?_
  rintro qq2 w2 ⟨A2, c2, rfl, hr2, hcc2, hb2⟩
  clear q0 q1 q2 q3 q4 q5
  have HB_w0_w2 := Lib.hid (below_next HB_w0_w1.out hb2)
  clear hb2
  obtain ⟨wa, hwa⟩ : ∃ wa, w2.alloc (.cells (tcells b d t u sn A2 ln.length c2) 24) = wa := ⟨_, rfl⟩
  have h2wa : Below w2.heap.size w2 wa := by rw [← hwa]; exact (Below.refl _ _).alloc (Nat.le_refl _) _
  have hswa : wa.heap.size = w2.heap.size + 1 := by rw [← hwa]; simp
  have HB_w0_wa := Lib.hid (below_next HB_w0_w2.out h2wa)
  have X1 := Lib.hid (fun W (hb : Below wa.heap.size wa W) => show Boxed6 W w2.heap.size b d t u sn A2 ln.length c2 from by rw [← hwa] at hb; exact boxed6 hb)
  have R1 := Lib.hid (hr2.belowM h2wa)
  clear hr2 h2wa hcc2
  have HS := Lib.hid (fun W (hb : Below wa.heap.size wa W) => show Below wa.heap.size wa W ∧ (W.cell? ⟨w.heap.size, 0, none⟩ = some (.int .i64 b) ∧ W.cell? ⟨w.heap.size, 1, none⟩ = some (.int .i64 d) ∧ W.cell? ⟨w.heap.size, 2, none⟩ = some (.int .i64 t) ∧ W.cell? ⟨w.heap.size, 3, none⟩ = some (.int .i64 u) ∧ W.cell? ⟨w.heap.size, 4, none⟩ = some (.int .i64 s) ∧ W.cell? ⟨w.heap.size, 5, none⟩ = some (.slice A l.length c)) ∧ (W.cell? ⟨w2.heap.size, 0, none⟩ = some (.int .i64 b) ∧ W.cell? ⟨w2.heap.size, 1, none⟩ = some (.int .i64 d) ∧ W.cell? ⟨w2.heap.size, 2, none⟩ = some (.int .i64 t) ∧ W.cell? ⟨w2.heap.size, 3, none⟩ = some (.int .i64 u) ∧ W.cell? ⟨w2.heap.size, 4, none⟩ = some (.int .i64 sn) ∧ W.cell? ⟨w2.heap.size, 5, none⟩ = some (.slice A2 ln.length c2)) from ⟨hb, XT.out W (below_next HB_w0_wa.out hb), X1.out W hb⟩)
  have HQ5 := Lib.hid (fun W (hb : Below wa.heap.size wa W) => HQ.out W (H.out.belowM (below_next HB_w0_wa.out hb)) (HC.out.belowM (below_next HB_w0_wa.out hb)))
  have HSM5 := Lib.hid (fun W D2 g2 (hb : Below wa.heap.size wa W) h2 => HSM.out W A2 D2 c2 g2 (R1.out.belowM hb) h2)
  go_wp2_with (fail)
  go_region_held3 (fun W => Below wa.heap.size wa W ∧ (W.cell? ⟨w.heap.size, 0, none⟩ = some (.int .i64 b) ∧ W.cell? ⟨w.heap.size, 1, none⟩ = some (.int .i64 d) ∧ W.cell? ⟨w.heap.size, 2, none⟩ = some (.int .i64 t) ∧ W.cell? ⟨w.heap.size, 3, none⟩ = some (.int .i64 u) ∧ W.cell? ⟨w.heap.size, 4, none⟩ = some (.int .i64 s) ∧ W.cell? ⟨w.heap.size, 5, none⟩ = some (.slice A l.length c)) ∧ (W.cell? ⟨w2.heap.size, 0, none⟩ = some (.int .i64 b) ∧ W.cell? ⟨w2.heap.size, 1, none⟩ = some (.int .i64 d) ∧ W.cell? ⟨w2.heap.size, 2, none⟩ = some (.int .i64 t) ∧ W.cell? ⟨w2.heap.size, 3, none⟩ = some (.int .i64 u) ∧ W.cell? ⟨w2.heap.size, 4, none⟩ = some (.int .i64 sn) ∧ W.cell? ⟨w2.heap.size, 5, none⟩ = some (.slice A2 ln.length c2)))
    (first | exact HS.out _ (Below.refl _ _).drew | exact HS.out _ hB2 | (go_split_ands; exact HS.out _ (below_al (by assumption) _)))
    (first
      | (go_at_call 22; go_split_ands; (with_reducible refine (HQ5.out _ (by assumption)).mono ?_); rintro q2 w9 ⟨A9, c9, rfl, hr9, hc9, hb9⟩; have hB2 := below_next (w := wa) (by assumption) hb9)
      | (go_at_call 15; go_split_ands; (with_reducible refine (HSM5.out _ _ _ (by assumption) (by assumption)).mono ?_); rintro q2 w9 ⟨rfl, hb9⟩; have hB2 := below_next (w := wa) (by assumption) hb9))
  have HB9 := Lib.hid hB2
  clear hB2
  obtain ⟨q0, q1, q2, q3, q4, q5⟩ := XT.out w9 (below_next HB_w0_wa.out HB9.out)
  go_wp2_with (fail)
  refine (HV.out _ (H.out.belowM (below_next HB_w0_wa.out HB9.out)) (HC.out.belowM (below_next HB_w0_wa.out HB9.out))).mono ?_
  rintro qq3 w3 ⟨rfl, hb3⟩
  clear q0 q1 q2 q3 q4 q5
  have HB_w0_w3 := Lib.hid (below_next (below_next HB_w0_wa.out HB9.out) hb3)
  have HB_wa_w3 := Lib.hid (below_next HB9.out hb3)
  clear hb3
  have HS2 := Lib.hid (fun W (hb : Below w3.heap.size w3 W) => show Below w3.heap.size w3 W ∧ (W.cell? ⟨w2.heap.size, 0, none⟩ = some (.int .i64 b) ∧ W.cell? ⟨w2.heap.size, 1, none⟩ = some (.int .i64 d) ∧ W.cell? ⟨w2.heap.size, 2, none⟩ = some (.int .i64 t) ∧ W.cell? ⟨w2.heap.size, 3, none⟩ = some (.int .i64 u) ∧ W.cell? ⟨w2.heap.size, 4, none⟩ = some (.int .i64 sn) ∧ W.cell? ⟨w2.heap.size, 5, none⟩ = some (.slice A2 ln.length c2)) from ⟨hb, X1.out W (below_next HB_wa_w3.out hb)⟩)
  have HX5 := Lib.hid (fun W D2 g2 (hb : Below w3.heap.size w3 W) h2 => HX.out W A2 D2 c2 g2 (R1.out.belowM (below_next HB_wa_w3.out hb)) h2)
  have HC5 := Lib.hid (fun W (hb : Below w3.heap.size w3 W) => rr_part (HC.out.belowM (below_next HB_w0_w3.out hb)) h2)
  have hj0 : (0 : Int) ≤ (j : Int) := by omega
  have hj1 : (j : Int) ≤ (j : Int) + 1 := by omega
  have hj2 : (j : Int) + 1 ≤ (f : Int) := by omega
  have hj3 : IntKind.i64.wrap ((j : Int) + 1) = (j : Int) + 1 := IntWalk.i64_in _ (by omega)
  have hj4 : ((j : Int) + 1).toNat = j + 1 := by omega
  have hj5 : (0 : Int) ≤ (j : Int) + 1 := by omega
  have hj6 : j + 1 ≤ f := by omega
  have hj7 : j + 1 - j = 1 := by omega
  have hj8 : ¬ f = j := by omega
  have hj9 : ¬ f - j = 0 := by omega
  go_wp2_with (fail)
  go_region_held3 (fun W => Below w3.heap.size w3 W ∧ (W.cell? ⟨w2.heap.size, 0, none⟩ = some (.int .i64 b) ∧ W.cell? ⟨w2.heap.size, 1, none⟩ = some (.int .i64 d) ∧ W.cell? ⟨w2.heap.size, 2, none⟩ = some (.int .i64 t) ∧ W.cell? ⟨w2.heap.size, 3, none⟩ = some (.int .i64 u) ∧ W.cell? ⟨w2.heap.size, 4, none⟩ = some (.int .i64 sn) ∧ W.cell? ⟨w2.heap.size, 5, none⟩ = some (.slice A2 ln.length c2)))
    (first | exact HS2.out _ (Below.refl _ _).drew | exact HS2.out _ hB3 | (go_split_ands; exact HS2.out _ (below_al (by assumption) _)))
    (first
      | (go_at_call 17; go_split_ands; (with_reducible refine (HX5.out _ _ _ (by assumption) (HC5.out _ (by assumption))).mono ?_); rintro q2 w19 ⟨rfl, hb19⟩; have hB3 := below_next (w := w3) (by assumption) hb19))
  have HB19 := Lib.hid hB3
  clear hB3
  go_wp2_with (fail)
  refine (tawake_any _).mono ?_
  rintro qq4 w4 ⟨rfl, hb4⟩
  have HB_w0_w4 := Lib.hid (below_next (below_next HB_w0_w3.out HB19.out) hb4)
  clear hb4
  go_wp2_with (fail)
  go_ret
  exact ⟨rfl, below_next HB0.out HB_w0_w4.out⟩

theorem walk_TermBinds (b d t u s : Int) (A : Option Addr) (c : Nat) (l : List PT) (C : Option Addr) (f : Nat) (xs : List Int) (at_ : Int) (w : World) (h : RP w w.heap.size A l.length l) (hl : l.length ≤ maxLen) (hs : R64 s) (hc : RR w w.heap.size C xs.length xs) (hcap : xs.length ≤ f) (hm : xs.length ≤ maxLen) :
    Calls Try.prog 6 #[trm b d t u s A l.length c, .slice C xs.length f, .int .i64 at_] w (RetB true w) := by
  by_cases g1 : 20 < l.length
  · exact binds_G1 b d t u s A c l C f xs at_ w h hl hc hm g1
  by_cases g2 : 100 < xs.length
  · exact binds_G2 b d t u s A c l C f xs at_ w h hl hc hm g1 g2
  have hln := bindT_len (at_ := at_) (xs := xs) (s := s) l
  have hbv := fun v => bind_value b d t u s v l xs at_ hs
  obtain ⟨⟨sn, ln⟩, hr⟩ : ∃ r, bindT at_ xs s l = r := ⟨_, rfl⟩
  rw [hr] at hln hbv
  dsimp only at hln hbv
  obtain ⟨⟨v, ok⟩, hv⟩ : ∃ q, valueT b d t u s l xs = q := ⟨_, rfl⟩
  cases ok
  · exact binds_M1 b d t u s A c l C f xs at_ w h hl hs hc hm g1 g2 sn ln hr (by omega) v hv
  by_cases h1 : at_ < 0
  · exact binds_M2 b d t u s A c l C f xs at_ w h hl hs hc hm g1 g2 sn ln hr (by omega) v hv h1
  by_cases h2 : (xs.length : Int) ≤ at_
  · exact binds_M3 b d t u s A c l C f xs at_ w h hl hs hc hm g1 g2 sn ln hr (by omega) v hv (by omega) h2
  obtain ⟨j, hj⟩ := Int.eq_ofNat_of_zero_le (show 0 ≤ at_ by omega)
  exact binds_M4 b d t u s A c l C f xs at_ w h hl hs hc hm hcap g1 g2 sn ln hr (by omega) v hv j hj (by omega) (by rw [← hj]; exact hbv v (by omega) (by omega) hv)
end Go.Proofs.Ytmcgapejebceoaa.Te
