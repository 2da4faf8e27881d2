/- The walk of the law TermPres. -/
import Derived.Test.YtplpafoflibnlaaM14
import Derived.Test.YtplpafoflibnlaaM18
import Derived.Test.YtplpafoflibnlaaM19
namespace Go.Proofs.Ytplpafoflibnlaa.Te
set_option maxRecDepth 100000
open Go Go.RowKit Go.Proofs.Ytplpafoflibnlaa.Sp Go.Proofs.Ytplpafoflibnlaa.Pa

theorem lens_two {w w1 : World} {A B : Option Addr} {n m c e : Nat} {ty : TypeId} (h : w.alloc (.cells #[.slice A n c, .slice B m e] ty) = w1) : Lens w1 w.heap.size [n, m] := fun j hj => by
  rw [← h]
  rcases (show j = 0 ∨ j = 1 from by simp at hj; omega) with rfl | rfl
  · exact ⟨A, c, by simp⟩
  · exact ⟨B, e, by simp⟩
theorem own_len {w : World} {base : Nat} {v : Value} {xs : List Span} (_ : OwnsL w base v xs) (h : Plain xs) : xs.length ≤ 68719476736 := by have := h.short; omega
set_option maxHeartbeats 8000000 in
theorem walk_TermPres (b d t u s : Int) (A : Option Addr) (c : Nat) (l : List PT) (As : Option Addr) (cs : Nat) (sl : List Span) (Ag : Option Addr) (cg : Nat) (gl : List Span) (w : World)
    (h : RP w w.heap.size A l.length l) (hml : l.length ≤ maxLen) (hs : R64 s) (hS : RS w w.heap.size As sl.length sl) (hcs : sl.length ≤ cs) (hmS : sl.length ≤ maxLen) (hG : RS w w.heap.size Ag gl.length gl) (hmG : gl.length ≤ maxLen) :
    Calls Try.prog 3 #[trm b d t u s A l.length c, .slice As sl.length cs, .slice Ag gl.length cg] w (RetB true w) := by
  obtain ⟨w0, hw0⟩ : ∃ w0, w.alloc (.cells (tcells b d t u s A l.length c) 24) = w0 := ⟨_, rfl⟩
  have hs0 : w0.heap.size = w.heap.size + 1 := by rw [← hw0]; simp
  have hb0 : Below w.heap.size w w0 := by rw [← hw0]; exact (Below.refl _ _).alloc (Nat.le_refl _) _
  have XT := Lib.hid (fun W (hb : Below w0.heap.size w0 W) => show Boxed6 W w.heap.size b d t u s A l.length c from by rw [← hw0] at hb; exact boxed6 hb)
  obtain ⟨w1, hw1⟩ : ∃ w1, w0.alloc (.cells #[.slice As sl.length cs, .slice Ag gl.length cg] 25) = w1 := ⟨_, rfl⟩
  have hs1 : w1.heap.size = w0.heap.size + 1 := by rw [← hw1]; simp
  have h01 : Below w0.heap.size w0 w1 := by rw [← hw1]; exact (Below.refl _ _).alloc (Nat.le_refl _) _
  have hlen := lens_two hw1
  rw [hs0] at hlen
  obtain ⟨bb, hbb⟩ : ∃ bb : Bool, bb = true ↔ 20 < l.length ∨ ∃ m ∈ [sl.length, gl.length], 50 < m := by
    by_cases q : 20 < l.length ∨ ∃ m ∈ [sl.length, gl.length], 50 < m
    · exact ⟨true, ⟨fun _ => q, fun _ => rfl⟩⟩
    · exact ⟨false, ⟨fun e => (by cases e), fun e => absurd e q⟩⟩
  have HGR := Lib.hid (tgl_any b d t u s A l.length c (w.heap.size + 1) 2 [sl.length, gl.length] bb w1 hml (by omega) hlen (by simp) (fun m hm => by simp at hm; omega) hbb)
  simp only [List.length_cons, List.length_nil, Nat.zero_add, Nat.reduceAdd] at HGR
  have H01 := Lib.hid h01
  have HB0 := Lib.hid hb0
  have H0 := Lib.hid (h.belowM hb0)
  have HS0 := Lib.hid (hS.belowM hb0)
  have HG0 := Lib.hid (hG.belowM hb0)
  obtain ⟨q0, q1, q2, q3, q4, q5⟩ := XT.out w0 (Below.refl _ _)
  have hsm : bb = false → l.length ≤ 20 ∧ sl.length ≤ 50 ∧ gl.length ≤ 50 := fun e => by
    have hno : ¬ (20 < l.length ∨ ∃ m ∈ [sl.length, gl.length], 50 < m) := fun q => by rw [hbb.2 q] at e; cases e
    refine ⟨?_, ?_, ?_⟩
    · exact Nat.not_lt.1 fun q => hno (.inl q)
    · exact Nat.not_lt.1 fun q => hno (.inr ⟨_, by simp, q⟩)
    · exact Nat.not_lt.1 fun q => hno (.inr ⟨gl.length, by simp, q⟩)
  clear h hS hG h01 hb0 hlen hbb hml hmS hmG
  cases bb
  case true =>
    clear hsm
    go_enter Try.func3, Try.ntmps3
    go_wp2_with (fail)
    refine HGR.out.mono ?_
    rintro qq2 w2 ⟨rfl, hb2⟩
    go_wp2_with (fail)
    refine (tawake_any _).mono ?_
    rintro qq3 w3 ⟨rfl, hb3⟩
    go_wp2_with (fail)
    go_ret
    exact ⟨rfl, below_next HB0.out (below_next (below_next H01.out hb2) hb3)⟩
  obtain ⟨hl, hsl, hgl⟩ := hsm rfl
  clear hsm
  have HSY := Lib.hid (fun W hW => rsymbols_any As cs sl W hW (by omega))
  go_enter Try.func3, Try.ntmps3
  go_wp2_with (fail)
  refine HGR.out.mono ?_
  rintro qq2 w2 ⟨rfl, hb2⟩
  have H02 := Lib.hid (below_next H01.out hb2)
  clear hb2 q0 q1 q2 q3 q4 q5
  go_wp2_with (fail)
  refine (HSY.out _ (HS0.out.belowM H02.out)).mono ?_
  rintro qq3 w3 ⟨v3, o3, rfl, hi3, ho3, hb3⟩
  obtain ⟨A3, c3, rfl, hc3, hr3⟩ := own_RS ho3
  have hn3 := own_len ho3 hi3.1
  have HC3 := Lib.hid (rcount_any A3 o3.length c3 o3 o3 w3 hr3 hn3 (Is.self hi3.1))
  have H03 := Lib.hid (below_next H02.out hb3)
  obtain ⟨N, hN⟩ : ∃ N, cnt o3 = N := ⟨_, rfl⟩
  rw [hN] at HC3
  clear hi3 ho3 hb3 hr3 hN
  go_wp2_with (fail)
  refine HC3.out.mono ?_
  rintro qq4 w4 ⟨rfl, hb4⟩
  have H04 := Lib.hid (below_next H03.out hb4)
  clear hb4
  by_cases hbig : 3000 < N
  · have hd : decide (3000 < N) = true := decide_eq_true hbig
    go_wp2_with (fail)
    refine (tawake_any _).mono ?_
    rintro qq5 w5 ⟨rfl, hb5⟩
    go_wp2_with (fail)
    go_ret
    exact ⟨rfl, below_next HB0.out (below_next H04.out hb5)⟩
  have hd : decide (3000 < N) = false := decide_eq_false hbig
  have HP5 := Lib.hid (fun W (hb : Below w4.heap.size w4 W) => pre_any b d t u s A c l As cs sl Ag cg gl W (H0.out.belowM (below_next H04.out hb)) hl hs (HS0.out.belowM (below_next H04.out hb)) hcs hsl (HG0.out.belowM (below_next H04.out hb)) hgl)
  have HR5 := Lib.hid (fun W (hb : Below w4.heap.size w4 W) => rpre_any b d t u s A c l As cs sl Ag cg gl W (H0.out.belowM (below_next H04.out hb)) hl (HS0.out.belowM (below_next H04.out hb)) hsl (HG0.out.belowM (below_next H04.out hb)) hgl)
  have HSS := Lib.hid (fun W (hb : Below w4.heap.size w4 W) => show Below w4.heap.size w4 W ∧ (W.cell? ⟨w.heap.size, 0, none⟩ = some (.int .i64 b) ∧ W.cell? ⟨w.heap.size, 1, none⟩ = some (.int .i64 d) ∧ W.cell? ⟨w.heap.size, 2, none⟩ = some (.int .i64 t) ∧ W.cell? ⟨w.heap.size, 3, none⟩ = some (.int .i64 u) ∧ W.cell? ⟨w.heap.size, 4, none⟩ = some (.int .i64 s) ∧ W.cell? ⟨w.heap.size, 5, none⟩ = some (.slice A l.length c)) from ⟨hb, XT.out W (below_next H04.out hb)⟩)
  go_wp2_with (fail)
  go_region_held3 (fun W => Below w4.heap.size w4 W ∧ (W.cell? ⟨w.heap.size, 0, none⟩ = some (.int .i64 b) ∧ W.cell? ⟨w.heap.size, 1, none⟩ = some (.int .i64 d) ∧ W.cell? ⟨w.heap.size, 2, none⟩ = some (.int .i64 t) ∧ W.cell? ⟨w.heap.size, 3, none⟩ = some (.int .i64 u) ∧ W.cell? ⟨w.heap.size, 4, none⟩ = some (.int .i64 s) ∧ W.cell? ⟨w.heap.size, 5, none⟩ = some (.slice A l.length c)))
    (first | exact HSS.out _ (Below.refl _ _).drew | exact HSS.out _ hB5 | exact HSS.out _ hB4 | exact HSS.out _ hB3 | exact HSS.out _ hB2)
    (first
      | (go_at_call 17; go_split_ands; (with_reducible refine (HP5.out _ (by assumption)).mono ?_); rintro e9 w9 ⟨v9, o9, rfl, hi9, ho9, hb9⟩; obtain ⟨A9, c9, rfl, hc9, hr9⟩ := own_RS ho9; have hB2 := below_next (w := w4) (by assumption) hb9)
      | (go_at_call 18; go_split_ands; (with_reducible refine (HR5.out _ (by assumption)).mono ?_); rintro e10 w10 ⟨v10, o10, rfl, hi10, ho10, hb10⟩; obtain ⟨A10, c10, rfl, hc10, hr10⟩ := own_RS ho10; have hr9b := hr9.belowM hb10; have hB3 := below_next (w := w4) (by assumption) hb10)
      | (go_at_call 16; go_split_ands; have e910 := Is.eq hi9 hi10 (fun _ => Iff.rfl); subst e910; have hbnd := hi9.1.short; have HSM := same_any A9 A10 o9.length o9.length c9 c10 o9 o9 _ hr9b hr10 (by omega) (by omega); rw [decide_eq_true rfl] at HSM; refine HSM.mono ?_; rintro e11 w11 ⟨rfl, hb11⟩; have hB4 := below_next (w := w4) (by assumption) hb11)
      | (go_at_call 15; (with_reducible refine (tawake_any _).mono ?_); rintro e12 w12 ⟨rfl, hb12⟩; go_split_ands; have hB5 := below_next (w := w4) (by assumption) hb12))
  go_wp2_with (fail)
  go_ret
  exact ⟨rfl, below_next HB0.out (below_next H04.out hB5)⟩
end Go.Proofs.Ytplpafoflibnlaa.Te
