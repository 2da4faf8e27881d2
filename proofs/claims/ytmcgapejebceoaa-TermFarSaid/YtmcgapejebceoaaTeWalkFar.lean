/- The walk of the law TermFar. -/
import Derived.Test.YtmcgapejebceoaaTeEq
import Derived.Test.YtmcgapejebceoaaTeGreat
namespace Go.Proofs.Ytmcgapejebceoaa.Te
set_option maxRecDepth 100000
open Go Go.RowKit Go.Proofs.Ytmcgapejebceoaa.Sp Go.Proofs.Ytmcgapejebceoaa.Pa

theorem lens_pair {w w1 : World} {A B : Option Addr} {n m c e : Nat} {ty : TypeId} (h : w.alloc (.cells #[.slice A n c, .slice B m e] ty) = w1) : Lens w1 w.heap.size [n, m] := fun j hj => by
  rw [← h]
  rcases (show j = 0 ∨ j = 1 from by simp at hj; omega) with rfl | rfl
  · exact ⟨A, c, by simp⟩
  · exact ⟨B, e, by simp⟩
theorem rr_lit {W : World} {g : Nat} {x : Int} (h0 : W.cell? ⟨g, 0, none⟩ = some (.int .i32 x)) (hg : g < W.heap.size) (h1 : -2147483648 ≤ x) (h2 : x ≤ 2147483647) : RR W W.heap.size (some ⟨g, 0, none⟩) 1 [x] :=
  ⟨rfl, fun y hy => by simp at hy; omega, fun _ => ⟨g, 0, rfl, hg, fun j hj => by
    obtain rfl : j = 0 := by simp at hj; omega
    exact h0⟩⟩
theorem memB_eq {l : List Span} {x : Int} {b : Bool} (h : mem l x ↔ b = true) : memB l x = b := by
  cases b
  · exact memB_false (fun q => by have := h.1 q; cases this)
  · exact memB_true (h.2 rfl)
theorem value_sy {b d t u s v : Int} {l : List PT} {x : Int} (h : valueT b d t u s l [x] = (v, true)) : Sy x := symB_iff.1 (value_true h).1 x (List.mem_singleton.2 rfl)
set_option maxHeartbeats 16000000 in
theorem walk_TermFar (P R : TM) (As : Option Addr) (cs : Nat) (sl : List Span) (Ag : Option Addr) (cg : Nat) (gl : List Span) (x : Int) (w : World)
    (h : RP w w.heap.size P.A P.l.length P.l) (hml : P.l.length ≤ maxLen) (hs : R64 P.s) (h' : RP w w.heap.size R.A R.l.length R.l) (hml' : R.l.length ≤ maxLen) (hs' : R64 R.s) (hS : RS w w.heap.size As sl.length sl) (hcs : sl.length ≤ cs) (hmS : sl.length ≤ maxLen) (hG : RS w w.heap.size Ag gl.length gl) (hmG : gl.length ≤ maxLen) (hx1 : -2147483648 ≤ x) (hx2 : x ≤ 2147483647) :
    Calls Try.prog 9 #[trm P.b P.d P.t P.u P.s P.A P.l.length P.c, trm R.b R.d R.t R.u R.s R.A R.l.length R.c, .slice As sl.length cs, .slice Ag gl.length cg, .int .i32 x] w (RetB true w) := by
  obtain ⟨w0, hw0⟩ : ∃ w0, (w.alloc (.cells (tcells P.b P.d P.t P.u P.s P.A P.l.length P.c) 24)).alloc (.cells (tcells R.b R.d R.t R.u R.s R.A R.l.length R.c) 24) = w0 := ⟨_, rfl⟩
  have hs0 : w0.heap.size = w.heap.size + 1 + 1 := by rw [← hw0]; simp
  have hb0 : Below w.heap.size w w0 := by rw [← hw0]; exact ((Below.refl _ _).alloc (Nat.le_refl _) _).alloc (by simp) _
  have hXP : BoxF w0 w.heap.size P.b P.d P.t P.u P.s P.A P.l.length P.c := by
    rw [← hw0]
    exact (BoxF.new w _ _ _ _ _ _ _ _ _).keep ((Below.refl _ _).alloc (Nat.le_refl _) _) (by simp)
  have hXR : BoxF w0 (w.heap.size + 1) R.b R.d R.t R.u R.s R.A R.l.length R.c := by
    rw [← hw0]
    have q := BoxF.new (w.alloc (.cells (tcells P.b P.d P.t P.u P.s P.A P.l.length P.c) 24)) R.b R.d R.t R.u R.s R.A R.l.length R.c 24
    simpa using q
  have XP := Lib.hid (fun W (hb : Below w0.heap.size w0 W) => show Boxed6 W w.heap.size P.b P.d P.t P.u P.s P.A P.l.length P.c from (hXP.keep hb (by omega)).1)
  have XR := Lib.hid (fun W (hb : Below w0.heap.size w0 W) => show Boxed6 W (w.heap.size + 1) R.b R.d R.t R.u R.s R.A R.l.length R.c from (hXR.keep hb (by omega)).1)
  obtain ⟨w1, hw1⟩ : ∃ w1, w0.alloc (.cells #[.slice As sl.length cs, .slice Ag gl.length cg] 44) = w1 := ⟨_, rfl⟩
  have hs1 : w1.heap.size = w0.heap.size + 1 := by rw [← hw1]; simp
  have h01 : Below w0.heap.size w0 w1 := by rw [← hw1]; exact (Below.refl _ _).alloc (Nat.le_refl _) _
  have hlen := lens_pair hw1
  rw [hs0] at hlen
  obtain ⟨bb, hbb⟩ : ∃ bb : Bool, bb = true ↔ 20 < P.l.length ∨ ∃ m ∈ [sl.length, gl.length], 50 < m := by
    by_cases q : 20 < P.l.length ∨ ∃ m ∈ [sl.length, gl.length], 50 < m
    · exact ⟨true, ⟨fun _ => q, fun _ => rfl⟩⟩
    · exact ⟨false, ⟨fun e => (by cases e), fun e => absurd e q⟩⟩
  have HGR := Lib.hid (tgl_any P.b P.d P.t P.u P.s P.A P.l.length P.c (w.heap.size + 1 + 1) 2 [sl.length, gl.length] bb w1 hml (by omega) hlen (by simp) (fun m hm => by simp at hm; omega) hbb)
  simp only [List.length_cons, List.length_nil, Nat.zero_add, Nat.reduceAdd] at HGR
  have H01 := Lib.hid h01
  have HB0 := Lib.hid hb0
  have H0 := Lib.hid (h.belowM hb0)
  have H0' := Lib.hid (h'.belowM hb0)
  have HS0 := Lib.hid (hS.belowM hb0)
  have HG0 := Lib.hid (hG.belowM hb0)
  obtain ⟨q0, q1, q2, q3, q4, q5⟩ := XP.out w0 (Below.refl _ _)
  have hsm : bb = false → P.l.length ≤ 20 ∧ sl.length ≤ 50 ∧ gl.length ≤ 50 := fun e => by
    have hno : ¬ (20 < P.l.length ∨ ∃ m ∈ [sl.length, gl.length], 50 < m) := fun q => by rw [hbb.2 q] at e; cases e
    refine ⟨?_, ?_, ?_⟩
    · exact Nat.not_lt.1 fun q => hno (.inl q)
    · exact Nat.not_lt.1 fun q => hno (.inr ⟨_, by simp, q⟩)
    · exact Nat.not_lt.1 fun q => hno (.inr ⟨gl.length, by simp, q⟩)
  clear h h' hS hG h01 hb0 hlen hbb hmS hmG hXP hXR
  unfold maxLen at hml hml'
  cases bb
  case true =>
    clear hsm
    go_enter Try.func9, Try.ntmps9
    go_wp2_with (fail)
    refine HGR.out.mono ?_
    rintro qq2 w2 ⟨rfl, hb2⟩
    clear q0 q1 q2 q3 q4 q5
    go_wp2_with (fail)
    refine (tawake_any _).mono ?_
    rintro qq3 w3 ⟨rfl, hb3⟩
    go_wp2_with (fail)
    go_ret
    exact ⟨rfl, below_next HB0.out (below_next (below_next H01.out hb2) hb3)⟩
  obtain ⟨hl, hsl, hgl⟩ := hsm rfl
  clear hsm
  by_cases g2 : 1 < P.l.length
  · have hd : decide ((1 : Int) < (P.l.length : Int)) = true := decide_eq_true (by omega)
    go_enter Try.func9, Try.ntmps9
    go_wp2_with (fail)
    refine HGR.out.mono ?_
    rintro qq2 w2 ⟨rfl, hb2⟩
    have H02 := Lib.hid (below_next H01.out hb2)
    clear q0 q1 q2 q3 q4 q5
    obtain ⟨q0, q1, q2, q3, q4, q5⟩ := XP.out w2 H02.out
    go_wp2_with (fail)
    refine (tawake_any _).mono ?_
    rintro qq3 w3 ⟨rfl, hb3⟩
    go_wp2_with (fail)
    go_ret
    exact ⟨rfl, below_next HB0.out (below_next H02.out hb3)⟩
  have hd : decide ((1 : Int) < (P.l.length : Int)) = false := decide_eq_false (by omega)
  by_cases g3 : 1 < R.l.length
  · have hd3 : decide ((1 : Int) < (R.l.length : Int)) = true := decide_eq_true (by omega)
    go_enter Try.func9, Try.ntmps9
    go_wp2_with (fail)
    refine HGR.out.mono ?_
    rintro qq2 w2 ⟨rfl, hb2⟩
    have H02 := Lib.hid (below_next H01.out hb2)
    clear q0 q1 q2 q3 q4 q5
    obtain ⟨q0, q1, q2, q3, q4, q5⟩ := XP.out w2 H02.out
    obtain ⟨p0, p1, p2, p3, p4, p5⟩ := XR.out w2 H02.out
    go_wp2_with (fail)
    refine (tawake_any _).mono ?_
    rintro qq3 w3 ⟨rfl, hb3⟩
    go_wp2_with (fail)
    go_ret
    exact ⟨rfl, below_next HB0.out (below_next H02.out hb3)⟩
  have hd3 : decide ((1 : Int) < (R.l.length : Int)) = false := decide_eq_false (by omega)
  have hl' : R.l.length ≤ 20 := by omega
  have hwx : IntKind.i64.wrap x = x := IntWalk.i64_in _ (by omega)
  obtain ⟨⟨v, ok⟩, hv⟩ : ∃ q, valueT P.b P.d P.t P.u P.s P.l [x] = q := ⟨_, rfl⟩
  obtain ⟨⟨v2, is⟩, hv2⟩ : ∃ q, valueT R.b R.d R.t R.u R.s R.l [x] = q := ⟨_, rfl⟩
  have HV := Lib.hid (fun W D h1 h2 => tvalue_any P.b P.d P.t P.u P.s P.A D P.l.length P.c 1 1 P.l [x] W h1 (by unfold maxLen; omega) h2 (by unfold maxLen; omega))
  have HV2 := Lib.hid (fun W D h1 h2 => tvalue_any R.b R.d R.t R.u R.s R.A D R.l.length R.c 1 1 R.l [x] W h1 (by unfold maxLen; omega) h2 (by unfold maxLen; omega))
  rw [hv] at HV
  rw [hv2] at HV2
  obtain ⟨inB, hin⟩ : ∃ q, memB sl x = q := ⟨_, rfl⟩
  obtain ⟨gB, hgB⟩ : ∃ q, memB gl v = q := ⟨_, rfl⟩
  have HPRE := Lib.hid (show ∀ o, Is o (fun y => mem sl y ∧ Sy y ∧ PQ P.b P.d P.t P.u P.s P.l gl y) → memB o x = (inB && (ok && gB)) from fun o ho => memB_eq (by
    rw [ho.2 x, ← hin, ← hgB]
    dsimp only
    unfold PQ
    rw [hv]
    simp only [Bool.and_eq_true, memB_iff]
    constructor
    · rintro ⟨a1, _, v', e, a3⟩
      injection e with e1 e2
      subst e1 e2
      exact ⟨a1, rfl, a3⟩
    · rintro ⟨a1, a2, a3⟩
      subst a2
      exact ⟨a1, value_sy hv, v, rfl, a3⟩))
  have HEQ := Lib.hid (show ∀ o, Is o (fun y => mem sl y ∧ Sy y ∧ QE P R y) → memB o x = (inB && (ok && (is && (v == v2)))) from fun o ho => memB_eq (by
    rw [ho.2 x, ← hin]
    dsimp only
    unfold QE
    rw [hv, hv2]
    simp only [Bool.and_eq_true, memB_iff, beq_iff_eq]
    constructor
    · rintro ⟨a1, _, v', e, e'⟩
      injection e with e1 e2
      injection e' with e3 e4
      subst e1 e2 e4
      exact ⟨a1, rfl, rfl, e3.symm⟩
    · rintro ⟨a1, a2, a3, a4⟩
      subst a2 a3 a4
      exact ⟨a1, value_sy hv, v, rfl, rfl⟩))
  have HHS := Lib.hid (fun W h1 => has_any As sl.length cs sl x W h1 (by omega))
  have HHG := Lib.hid (fun W h1 => has_any Ag gl.length cg gl v W h1 (by omega))
  rw [hin] at HHS
  rw [hgB] at HHG
  clear hv hv2 hin hgB
  go_enter Try.func9, Try.ntmps9
  go_wp2_with (fail)
  refine HGR.out.mono ?_
  rintro qq2 w2 ⟨rfl, hb2⟩
  have H02 := Lib.hid (below_next H01.out hb2)
  clear hb2 q0 q1 q2 q3 q4 q5
  obtain ⟨q0, q1, q2, q3, q4, q5⟩ := XP.out w2 H02.out
  obtain ⟨p0, p1, p2, p3, p4, p5⟩ := XR.out w2 H02.out
  obtain ⟨w3, hw3⟩ : ∃ w3, w2.alloc (.cells #[.int .i32 x] 21) = w3 := ⟨_, rfl⟩
  have hs3 : w3.heap.size = w2.heap.size + 1 := by rw [← hw3]; simp
  have h03 : Below w0.heap.size w0 w3 := by rw [← hw3]; exact below_al H02.out _
  have rv3 : RR w3 w3.heap.size (some ⟨w2.heap.size, 0, none⟩) 1 [x] := rr_lit (by rw [← hw3]; simp) (by omega) hx1 hx2
  have H03 := Lib.hid h03
  clear h03
  go_wp2_with (fail)
  refine (HV.out _ _ (H0.out.belowM H03.out) rv3).mono ?_
  rintro qq4 w4 ⟨rfl, hb4⟩
  have H04 := Lib.hid (below_next H03.out hb4)
  clear hb4 rv3 q0 q1 q2 q3 q4 q5 p0 p1 p2 p3 p4 p5
  obtain ⟨p0, p1, p2, p3, p4, p5⟩ := XR.out w4 H04.out
  obtain ⟨w5, hw5⟩ : ∃ w5, w4.alloc (.cells #[.int .i32 x] 21) = w5 := ⟨_, rfl⟩
  have hs5 : w5.heap.size = w4.heap.size + 1 := by rw [← hw5]; simp
  have h05 : Below w0.heap.size w0 w5 := by rw [← hw5]; exact below_al H04.out _
  have rv5 : RR w5 w5.heap.size (some ⟨w4.heap.size, 0, none⟩) 1 [x] := rr_lit (by rw [← hw5]; simp) (by omega) hx1 hx2
  have H05 := Lib.hid h05
  clear h05
  go_wp2_with (fail)
  refine (HV2.out _ _ (H0'.out.belowM H05.out) rv5).mono ?_
  rintro qq6 w6 ⟨rfl, hb6⟩
  have H06 := Lib.hid (below_next H05.out hb6)
  clear hb6 rv5 p0 p1 p2 p3 p4 p5
  go_wp2_with (fail)
  refine (HHS.out _ (HS0.out.belowM H06.out)).mono ?_
  rintro qq7 w7 ⟨rfl, hb7⟩
  have H07 := Lib.hid (below_next H06.out hb7)
  clear hb7
  obtain ⟨q0, q1, q2, q3, q4, q5⟩ := XP.out w7 H07.out
  have HP := Lib.hid (pre_any P.b P.d P.t P.u P.s P.A P.c P.l As cs sl Ag cg gl w7 (H0.out.belowM H07.out) hl hs (HS0.out.belowM H07.out) hcs hsl (HG0.out.belowM H07.out) hgl)
  go_wp2_with (fail)
  refine HP.out.mono ?_
  rintro qq8 w8 ⟨v8, o8, rfl, hi8, ho8, hb8⟩
  obtain ⟨A8, c8, rfl, hc8, hr8⟩ := own_RS ho8
  have hH8 := has_any A8 o8.length c8 o8 x w8 hr8 (by have := hi8.1.short; omega)
  rw [HPRE.out o8 hi8] at hH8
  have HH8 := Lib.hid hH8
  have H08 := Lib.hid (below_next H07.out hb8)
  clear hi8 ho8 hb8 hr8 hH8 q0 q1 q2 q3 q4 q5
  go_wp2_with (fail)
  refine HH8.out.mono ?_
  rintro qq9 w9 ⟨rfl, hb9⟩
  have H09 := Lib.hid (below_next H08.out hb9)
  clear hb9
  obtain ⟨q0, q1, q2, q3, q4, q5⟩ := XP.out w9 H09.out
  obtain ⟨p0, p1, p2, p3, p4, p5⟩ := XR.out w9 H09.out
  have HE := Lib.hid (eq_any P R As cs sl w9 (H0.out.belowM H09.out) hl hs (H0'.out.belowM H09.out) hl' hs' (HS0.out.belowM H09.out) hcs hsl)
  go_wp2_with (fail)
  refine HE.out.mono ?_
  rintro qq10 w10 ⟨v10, o10, rfl, hi10, ho10, hb10⟩
  obtain ⟨A10, c10, rfl, hc10, hr10⟩ := own_RS ho10
  have hH10 := has_any A10 o10.length c10 o10 x w10 hr10 (by have := hi10.1.short; omega)
  rw [HEQ.out o10 hi10] at hH10
  have HH10 := Lib.hid hH10
  have H010 := Lib.hid (below_next H09.out hb10)
  clear hi10 ho10 hb10 hr10 hH10 q0 q1 q2 q3 q4 q5 p0 p1 p2 p3 p4 p5
  go_wp2_with (fail)
  refine HH10.out.mono ?_
  rintro qq11 w11 ⟨rfl, hb11⟩
  have H011 := Lib.hid (below_next H010.out hb11)
  have HGG := Lib.hid (HHG.out _ (HG0.out.belowM H011.out))
  clear hb11
  cases inB
  · go_wp2_with (fail)
    refine (tawake_any _).mono ?_
    rintro qq12 w12 ⟨rfl, hb12⟩
    go_wp2_with (fail)
    go_ret
    exact ⟨rfl, below_next HB0.out (below_next H011.out hb12)⟩
  cases ok
  · go_wp2_with (fail)
    refine (tawake_any _).mono ?_
    rintro qq12 w12 ⟨rfl, hb12⟩
    go_wp2_with (fail)
    go_ret
    exact ⟨rfl, below_next HB0.out (below_next H011.out hb12)⟩
  cases is
  · cases gB <;>
    · go_wp2_with (fail)
      refine HGG.out.mono ?_
      rintro qq12 w12 ⟨rfl, hb12⟩
      go_wp2_with (fail)
      refine (tawake_any _).mono ?_
      rintro qq13 w13 ⟨rfl, hb13⟩
      go_wp2_with (fail)
      go_ret
      exact ⟨rfl, below_next HB0.out (below_next (below_next H011.out hb12) hb13)⟩
  · by_cases hvv : v = v2
    · subst hvv
      cases gB <;>
      · go_wp2_with (fail)
        refine HGG.out.mono ?_
        rintro qq12 w12 ⟨rfl, hb12⟩
        go_wp2_with (fail)
        refine (tawake_any _).mono ?_
        rintro qq13 w13 ⟨rfl, hb13⟩
        go_wp2_with (fail)
        go_ret
        exact ⟨rfl, below_next HB0.out (below_next (below_next H011.out hb12) hb13)⟩
    · have hvv' : (v == v2) = false := by simpa using hvv
      cases gB <;>
      · go_wp2_with (fail)
        refine HGG.out.mono ?_
        rintro qq12 w12 ⟨rfl, hb12⟩
        go_wp2_with (fail)
        refine (tawake_any _).mono ?_
        rintro qq13 w13 ⟨rfl, hb13⟩
        go_wp2_with (fail)
        go_ret
        exact ⟨rfl, below_next HB0.out (below_next (below_next H011.out hb12) hb13)⟩
end Go.Proofs.Ytmcgapejebceoaa.Te
