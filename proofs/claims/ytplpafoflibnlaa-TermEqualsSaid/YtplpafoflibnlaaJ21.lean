/- The walk of the law TermEquals. -/
import Derived.Test.YtplpafoflibnlaaJ14
import Derived.Test.YtplpafoflibnlaaJ19
import Derived.Test.YtplpafoflibnlaaJ20
namespace Go.Proofs.Ytplpafoflibnlaa.Te
set_option maxRecDepth 100000
open Go Go.RowKit Go.Proofs.Ytplpafoflibnlaa.Sp Go.Proofs.Ytplpafoflibnlaa.Pa

theorem lens_1 {w w1 : World} {A : Option Addr} {n c : Nat} {ty : TypeId} (h : w.alloc (.cells #[.slice A n c] ty) = w1) : Lens w1 w.heap.size [n] := fun j hj => by
  rw [← h]
  obtain rfl : j = 0 := by simp at hj; omega
  exact ⟨A, c, by simp⟩
theorem own_len {w : World} {base : Nat} {v : Value} {xs : List Span} (_ : OwnsL w base v xs) (h : Plain xs) : xs.length ≤ 68719476736 := by have := h.short; omega
set_option maxHeartbeats 16000000 in
theorem walk_TermEquals (P R : TM) (As : Option Addr) (cs : Nat) (sl : List Span) (w : World)
    (h : RP w w.heap.size P.A P.l.length P.l) (hml : P.l.length ≤ maxLen) (hs : R64 P.s) (h' : RP w w.heap.size R.A R.l.length R.l) (hml' : R.l.length ≤ maxLen) (hs' : R64 R.s) (hS : RS w w.heap.size As sl.length sl) (hcs : sl.length ≤ cs) (hmS : sl.length ≤ maxLen) :
    Calls Try.prog 4 #[trm P.b P.d P.t P.u P.s P.A P.l.length P.c, trm R.b R.d R.t R.u R.s R.A R.l.length R.c, .slice As sl.length cs] w (RetB true w) := by
  obtain ⟨w0, hw0⟩ : ∃ w0, (w.alloc (.cells (tcells P.b P.d P.t P.u P.s P.A P.l.length P.c) 24)).alloc (.cells (tcells R.b R.d R.t R.u R.s R.A R.l.length R.c) 24) = w0 := ⟨_, rfl⟩
  have hs0 : w0.heap.size = w.heap.size + 1 + 1 := by rw [← hw0]; simp
  have hb0 : Below w.heap.size w w0 := by rw [← hw0]; exact ((Below.refl _ _).alloc (Nat.le_refl _) _).alloc (by simp) _
  have hXP : BoxF w0 w.heap.size P.b P.d P.t P.u P.s P.A P.l.length P.c := by
    rw [← hw0]
    exact (BoxF.new w _ _ _ _ _ _ _ _ _).keep ((Below.refl _ _).alloc (Nat.le_refl _) _) (by simp)
  have hXR : BoxF w0 (w.heap.size + 1) R.b R.d R.t R.u R.s R.A R.l.length R.c := by
    rw [← hw0]
    have q := BoxF.new (w.alloc (.cells (tcells P.b P.d P.t P.u P.s P.A P.l.length P.c) 24)) R.b R.d R.t R.u R.s R.A R.l.length R.c 24
    simpa using q
  have XP := Lib.hid (fun W (hb : Below w0.heap.size w0 W) => show Boxed6 W w.heap.size P.b P.d P.t P.u P.s P.A P.l.length P.c from (hXP.keep hb (by omega)).1)
  have XR := Lib.hid (fun W (hb : Below w0.heap.size w0 W) => show Boxed6 W (w.heap.size + 1) R.b R.d R.t R.u R.s R.A R.l.length R.c from (hXR.keep hb (by omega)).1)
  obtain ⟨w1, hw1⟩ : ∃ w1, w0.alloc (.cells #[.slice As sl.length cs] 25) = w1 := ⟨_, rfl⟩
  have hs1 : w1.heap.size = w0.heap.size + 1 := by rw [← hw1]; simp
  have h01 : Below w0.heap.size w0 w1 := by rw [← hw1]; exact (Below.refl _ _).alloc (Nat.le_refl _) _
  have hlen := lens_1 hw1
  rw [hs0] at hlen
  obtain ⟨bb, hbb⟩ : ∃ bb : Bool, bb = true ↔ 20 < P.l.length ∨ ∃ m ∈ [sl.length], 50 < m := by
    by_cases q : 20 < P.l.length ∨ ∃ m ∈ [sl.length], 50 < m
    · exact ⟨true, ⟨fun _ => q, fun _ => rfl⟩⟩
    · exact ⟨false, ⟨fun e => (by cases e), fun e => absurd e q⟩⟩
  have HGR := Lib.hid (tgl_any P.b P.d P.t P.u P.s P.A P.l.length P.c (w.heap.size + 1 + 1) 1 [sl.length] bb w1 hml (by omega) hlen (by simp) (fun m hm => by simp at hm; omega) hbb)
  simp only [List.length_cons, List.length_nil, Nat.zero_add] at HGR
  have HGB := Lib.hid (fun W => tgreat_any R.b R.d R.t R.u R.s R.A R.l.length R.c W hml')
  have H01 := Lib.hid h01
  have HB0 := Lib.hid hb0
  have H0 := Lib.hid (h.belowM hb0)
  have H0' := Lib.hid (h'.belowM hb0)
  have HS0 := Lib.hid (hS.belowM hb0)
  obtain ⟨q0, q1, q2, q3, q4, q5⟩ := XP.out w0 (Below.refl _ _)
  have hsm : bb = false → P.l.length ≤ 20 ∧ sl.length ≤ 50 := fun e => by
    have hno : ¬ (20 < P.l.length ∨ ∃ m ∈ [sl.length], 50 < m) := fun q => by rw [hbb.2 q] at e; cases e
    exact ⟨Nat.not_lt.1 fun q => hno (.inl q), Nat.not_lt.1 fun q => hno (.inr ⟨_, by simp, q⟩)⟩
  clear h h' hS h01 hb0 hlen hbb hmS hXP hXR
  unfold maxLen at hml hml'
  cases bb
  case true =>
    clear hsm
    go_enter Try.func4, Try.ntmps4
    go_wp2_with (fail)
    refine HGR.out.mono ?_
    rintro qq2 w2 ⟨rfl, hb2⟩
    clear q0 q1 q2 q3 q4 q5
    go_wp2_with (fail)
    refine (tawake_any _).mono ?_
    rintro qq3 w3 ⟨rfl, hb3⟩
    go_wp2_with (fail)
    go_ret
    exact ⟨rfl, below_next HB0.out (below_next (below_next H01.out hb2) hb3)⟩
  obtain ⟨hl, hsl⟩ := hsm rfl
  clear hsm
  by_cases g2 : 20 < R.l.length
  · rw [decide_eq_true g2] at HGB
    go_enter Try.func4, Try.ntmps4
    go_wp2_with (fail)
    refine HGR.out.mono ?_
    rintro qq2 w2 ⟨rfl, hb2⟩
    have H02 := Lib.hid (below_next H01.out hb2)
    clear hb2 q0 q1 q2 q3 q4 q5
    obtain ⟨q0, q1, q2, q3, q4, q5⟩ := XR.out w2 H02.out
    go_wp2_with (fail)
    refine (HGB.out _).mono ?_
    rintro qq3 w3 ⟨rfl, hb3⟩
    clear q0 q1 q2 q3 q4 q5
    go_wp2_with (fail)
    refine (tawake_any _).mono ?_
    rintro qq4 w4 ⟨rfl, hb4⟩
    go_wp2_with (fail)
    go_ret
    exact ⟨rfl, below_next HB0.out (below_next (below_next H02.out hb3) hb4)⟩
  rw [decide_eq_false g2] at HGB
  have hl' : R.l.length ≤ 20 := by omega
  have HSY := Lib.hid (fun W hW => rsymbols_any As cs sl W hW (by omega))
  go_enter Try.func4, Try.ntmps4
  go_wp2_with (fail)
  refine HGR.out.mono ?_
  rintro qq2 w2 ⟨rfl, hb2⟩
  have H02 := Lib.hid (below_next H01.out hb2)
  clear hb2 q0 q1 q2 q3 q4 q5
  obtain ⟨q0, q1, q2, q3, q4, q5⟩ := XR.out w2 H02.out
  go_wp2_with (fail)
  refine (HGB.out _).mono ?_
  rintro qq2b w2b ⟨rfl, hb2b⟩
  have H02b := Lib.hid (below_next H02.out hb2b)
  clear hb2b q0 q1 q2 q3 q4 q5
  go_wp2_with (fail)
  refine (HSY.out _ (HS0.out.belowM H02b.out)).mono ?_
  rintro qq3 w3 ⟨v3, o3, rfl, hi3, ho3, hb3⟩
  obtain ⟨A3, c3, rfl, hc3, hr3⟩ := own_RS ho3
  have hn3 := own_len ho3 hi3.1
  have HC3 := Lib.hid (rcount_any A3 o3.length c3 o3 o3 w3 hr3 hn3 (Is.self hi3.1))
  have H03 := Lib.hid (below_next H02b.out hb3)
  obtain ⟨N, hN⟩ : ∃ N, cnt o3 = N := ⟨_, rfl⟩
  rw [hN] at HC3
  clear hi3 ho3 hb3 hr3 hN
  go_wp2_with (fail)
  refine HC3.out.mono ?_
  rintro qq4 w4 ⟨rfl, hb4⟩
  have H04 := Lib.hid (below_next H03.out hb4)
  clear hb4
  by_cases hbig : 3000 < N
  · have hd : decide (3000 < N) = true := decide_eq_true hbig
    go_wp2_with (fail)
    refine (tawake_any _).mono ?_
    rintro qq5 w5 ⟨rfl, hb5⟩
    go_wp2_with (fail)
    go_ret
    exact ⟨rfl, below_next HB0.out (below_next H04.out hb5)⟩
  have hd : decide (3000 < N) = false := decide_eq_false hbig
  have HP5 := Lib.hid (fun W (hb : Below w4.heap.size w4 W) => eq_any P R As cs sl W (H0.out.belowM (below_next H04.out hb)) hl hs (H0'.out.belowM (below_next H04.out hb)) hl' hs' (HS0.out.belowM (below_next H04.out hb)) hcs hsl)
  have HR5 := Lib.hid (fun W (hb : Below w4.heap.size w4 W) => requal_any P R As cs sl W (H0.out.belowM (below_next H04.out hb)) hl (H0'.out.belowM (below_next H04.out hb)) hl' (HS0.out.belowM (below_next H04.out hb)) hsl)
  have HSS := Lib.hid (fun W (hb : Below w4.heap.size w4 W) => show Below w4.heap.size w4 W ∧ (W.cell? ⟨w.heap.size, 0, none⟩ = some (.int .i64 P.b) ∧ W.cell? ⟨w.heap.size, 1, none⟩ = some (.int .i64 P.d) ∧ W.cell? ⟨w.heap.size, 2, none⟩ = some (.int .i64 P.t) ∧ W.cell? ⟨w.heap.size, 3, none⟩ = some (.int .i64 P.u) ∧ W.cell? ⟨w.heap.size, 4, none⟩ = some (.int .i64 P.s) ∧ W.cell? ⟨w.heap.size, 5, none⟩ = some (.slice P.A P.l.length P.c)) ∧ (W.cell? ⟨w.heap.size + 1, 0, none⟩ = some (.int .i64 R.b) ∧ W.cell? ⟨w.heap.size + 1, 1, none⟩ = some (.int .i64 R.d) ∧ W.cell? ⟨w.heap.size + 1, 2, none⟩ = some (.int .i64 R.t) ∧ W.cell? ⟨w.heap.size + 1, 3, none⟩ = some (.int .i64 R.u) ∧ W.cell? ⟨w.heap.size + 1, 4, none⟩ = some (.int .i64 R.s) ∧ W.cell? ⟨w.heap.size + 1, 5, none⟩ = some (.slice R.A R.l.length R.c)) from ⟨hb, XP.out W (below_next H04.out hb), XR.out W (below_next H04.out hb)⟩)
  go_wp2_with (fail)
  go_region_held3 (fun W => Below w4.heap.size w4 W ∧ (W.cell? ⟨w.heap.size, 0, none⟩ = some (.int .i64 P.b) ∧ W.cell? ⟨w.heap.size, 1, none⟩ = some (.int .i64 P.d) ∧ W.cell? ⟨w.heap.size, 2, none⟩ = some (.int .i64 P.t) ∧ W.cell? ⟨w.heap.size, 3, none⟩ = some (.int .i64 P.u) ∧ W.cell? ⟨w.heap.size, 4, none⟩ = some (.int .i64 P.s) ∧ W.cell? ⟨w.heap.size, 5, none⟩ = some (.slice P.A P.l.length P.c)) ∧ (W.cell? ⟨w.heap.size + 1, 0, none⟩ = some (.int .i64 R.b) ∧ W.cell? ⟨w.heap.size + 1, 1, none⟩ = some (.int .i64 R.d) ∧ W.cell? ⟨w.heap.size + 1, 2, none⟩ = some (.int .i64 R.t) ∧ W.cell? ⟨w.heap.size + 1, 3, none⟩ = some (.int .i64 R.u) ∧ W.cell? ⟨w.heap.size + 1, 4, none⟩ = some (.int .i64 R.s) ∧ W.cell? ⟨w.heap.size + 1, 5, none⟩ = some (.slice R.A R.l.length R.c)))
    (first | exact HSS.out _ (Below.refl _ _).drew | exact HSS.out _ hB5 | exact HSS.out _ hB4 | exact HSS.out _ hB3 | exact HSS.out _ hB2)
    (first
      | (go_at_call 19; go_split_ands; (with_reducible refine (HP5.out _ (by assumption)).mono ?_); rintro e9 w9 ⟨v9, o9, rfl, hi9, ho9, hb9⟩; obtain ⟨A9, c9, rfl, hc9, hr9⟩ := own_RS ho9; have hB2 := below_next (w := w4) (by assumption) hb9)
      | (go_at_call 20; go_split_ands; (with_reducible refine (HR5.out _ (by assumption)).mono ?_); rintro e10 w10 ⟨v10, o10, rfl, hi10, ho10, hb10⟩; obtain ⟨A10, c10, rfl, hc10, hr10⟩ := own_RS ho10; have hr9b := hr9.belowM hb10; have hB3 := below_next (w := w4) (by assumption) hb10)
      | (go_at_call 16; go_split_ands; have e910 := Is.eq hi9 hi10 (fun _ => Iff.rfl); subst e910; have hbnd := hi9.1.short; have HSM := same_any A9 A10 o9.length o9.length c9 c10 o9 o9 _ hr9b hr10 (by omega) (by omega); rw [decide_eq_true rfl] at HSM; refine HSM.mono ?_; rintro e11 w11 ⟨rfl, hb11⟩; have hB4 := below_next (w := w4) (by assumption) hb11)
      | (go_at_call 15; (with_reducible refine (tawake_any _).mono ?_); rintro e12 w12 ⟨rfl, hb12⟩; go_split_ands; have hB5 := below_next (w := w4) (by assumption) hb12))
  go_wp2_with (fail)
  go_ret
  exact ⟨rfl, below_next HB0.out (below_next H04.out hB5)⟩
end Go.Proofs.Ytplpafoflibnlaa.Te
