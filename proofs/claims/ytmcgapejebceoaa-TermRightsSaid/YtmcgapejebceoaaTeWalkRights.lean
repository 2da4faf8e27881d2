/- The walk of the law TermRights. -/
import Derived.Test.YtmcgapejebceoaaTeAwake
import Derived.Deep.RegionHeld3
namespace Go.Proofs.Ytmcgapejebceoaa.Te
set_option maxRecDepth 100000
open Go Go.RowKit Go.Proofs.Ytmcgapejebceoaa.Sp Go.Proofs.Ytmcgapejebceoaa.Pa

theorem below_next {w W W' : World} (h1 : Below w.heap.size w W) (h2 : Below W.heap.size W W') : Below w.heap.size w W' := h1.trans (h2.mono h1.size)
theorem below_al {w W : World} (h1 : Below w.heap.size w W) (o : Obj) : Below w.heap.size w (W.alloc o) := h1.alloc h1.size o
theorem rp_one {W : World} {g : Nat} {a d t u : Int} (h0 : W.cell? ⟨g, 0, none⟩ = some (.int .i64 a)) (h1 : W.cell? ⟨g, 1, none⟩ = some (.int .i64 d)) (h2 : W.cell? ⟨g, 2, none⟩ = some (.int .i64 t)) (h3 : W.cell? ⟨g, 3, none⟩ = some (.int .i64 u)) (hg : g < W.heap.size) : RP W W.heap.size (some ⟨g, 0, none⟩) 1 [(a, d, t, u)] :=
  ⟨rfl, fun _ => ⟨g, 0, rfl, hg, fun j hj => by
    obtain rfl : j = 0 := by simp at hj; omega
    exact ⟨h0, h1, h2, h3⟩⟩⟩
set_option maxHeartbeats 8000000 in
theorem walk_TermRights (b d t u s : Int) (A : Option Addr) (c : Nat) (l : List PT) (k o m x : Int) (w : World) (h : RP w w.heap.size A l.length l) (hn : l.length ≤ maxLen) (hx1 : -2147483648 ≤ x) (hx2 : x ≤ 2147483647) :
    Calls Try.prog 3 #[trm b d t u s A l.length c, .int .i64 k, .int .i64 o, .int .i64 m, .int .i32 x] w (RetB true w) := by
  have HG := Lib.hid (fun W => tgreat_any b d t u s A l.length c W hn)
  have hbw : Below w.heap.size w (w.alloc (.cells (tcells b d t u s A l.length c) 24)) := (Below.refl _ w).alloc (Nat.le_refl _) _
  obtain ⟨w0, hw0⟩ : ∃ w0, w.alloc (.cells (tcells b d t u s A l.length c) 24) = w0 := ⟨_, rfl⟩
  have hs0 : w0.heap.size = w.heap.size + 1 := by rw [← hw0]; simp
  have X6 := Lib.hid (fun W (hb : Below w0.heap.size w0 W) => show Boxed6 W w.heap.size b d t u s A l.length c from by rw [← hw0] at hb; exact boxed6 hb)
  rw [hw0] at hbw
  have HW := Lib.hid hbw
  have H := Lib.hid (h.belowM hbw)
  obtain ⟨r0, r1, r2, r3, r4, r5⟩ := X6.out w0 (Below.refl _ _)
  clear h hbw
  by_cases g1 : 20 < l.length
  · rw [decide_eq_true g1] at HG
    go_enter Try.func3, Try.ntmps3
    go_wp2_with (fail)
    refine (HG.out _).mono ?_
    rintro e w1 ⟨rfl, hb1⟩
    go_wp2_with (fail)
    refine (tawake_any _).mono ?_
    rintro e w2 ⟨rfl, hb2⟩
    go_wp2_with (fail)
    go_ret
    exact ⟨rfl, HW.out.trans ((hb1.trans (hb2.mono hb1.size)).mono HW.out.size)⟩
  rw [decide_eq_false g1] at HG
  have HR := Lib.hid (fun W hW => tright_any k o m b d t u s A l.length c l W hW hn)
  have HX := Lib.hid (fun W hW => rrightT_any k o m b d t u s A l.length c l W hW hn)
  obtain ⟨R, hR⟩ : ∃ R, rightT k o m b d t u s l = R := ⟨_, rfl⟩
  rw [hR] at HR HX
  clear hR g1
  have hRR : (R == R) = true := by simp
  go_enter Try.func3, Try.ntmps3
  go_wp2_with (fail)
  refine (HG.out _).mono ?_
  rintro e w1 ⟨rfl, hb1⟩
  have HB1 := Lib.hid hb1
  clear hb1 r0 r1 r2 r3 r4 r5
  go_wp2_with (fail)
  refine (copy_any m x _).mono ?_
  rintro e w2 ⟨A2, c2, rfl, hr2, hc2, hb2⟩
  simp only [List.length_singleton] at hr2 hc2 ⊢
  have hb22 := below_next HB1.out hb2
  obtain ⟨w5, hw5⟩ : ∃ w5, w2.alloc (.cells (tcells 0 0 21 0 x A2 1 c2) 24) = w5 := ⟨_, rfl⟩
  have XC := Lib.hid (fun W (hb : Below w5.heap.size w5 W) => show Boxed6 W w2.heap.size 0 0 21 0 x A2 1 c2 from by rw [← hw5] at hb; exact boxed6 hb)
  have h25 : Below w2.heap.size w2 w5 := by rw [← hw5]; exact (Below.refl _ _).alloc (Nat.le_refl _) _
  have HB5 := Lib.hid (below_next hb22 h25)
  have HRC := Lib.hid (hr2.belowM h25)
  have hz5 : w0.heap.size ≤ w5.heap.size := HB5.out.size
  have X5 := Lib.hid (fun W (hb : Below w5.heap.size w5 W) => X6.out W (below_next HB5.out hb))
  have HR5 := Lib.hid (fun W (hb : Below w5.heap.size w5 W) => HR.out W (H.out.belowM (below_next HB5.out hb)))
  have HX5 := Lib.hid (fun W (hb : Below w5.heap.size w5 W) => HX.out W (H.out.belowM (below_next HB5.out hb)))
  have HS := Lib.hid (fun W (hb : Below w5.heap.size w5 W) => show Below w5.heap.size w5 W ∧ (W.cell? ⟨w.heap.size, 0, none⟩ = some (.int .i64 b) ∧ W.cell? ⟨w.heap.size, 1, none⟩ = some (.int .i64 d) ∧ W.cell? ⟨w.heap.size, 2, none⟩ = some (.int .i64 t) ∧ W.cell? ⟨w.heap.size, 3, none⟩ = some (.int .i64 u) ∧ W.cell? ⟨w.heap.size, 4, none⟩ = some (.int .i64 s) ∧ W.cell? ⟨w.heap.size, 5, none⟩ = some (.slice A l.length c)) ∧ (W.cell? ⟨w2.heap.size, 0, none⟩ = some (.int .i64 0) ∧ W.cell? ⟨w2.heap.size, 1, none⟩ = some (.int .i64 0) ∧ W.cell? ⟨w2.heap.size, 2, none⟩ = some (.int .i64 21) ∧ W.cell? ⟨w2.heap.size, 3, none⟩ = some (.int .i64 0) ∧ W.cell? ⟨w2.heap.size, 4, none⟩ = some (.int .i64 x) ∧ W.cell? ⟨w2.heap.size, 5, none⟩ = some (.slice A2 1 c2)) from ⟨hb, X5.out W hb, XC.out W hb⟩)
  have HSA1 := Lib.hid (fun W (_ : Below w5.heap.size w5 W) => rsame_eq 0 0 21 0 x none none 0 0 0 [] W (RP.nil_ _ _ _) (RP.nil_ _ _ _) (by unfold maxLen; omega))
  have HSA2 := Lib.hid (fun W (B : Option Addr) (hb : Below w5.heap.size w5 W) (hB : RP W W.heap.size B 1 [(m, 0, 21, 0)]) => rsame_eq 0 0 21 0 x A2 B 1 c2 1 [(m, 0, 21, 0)] W (HRC.out.belowM hb) hB (by unfold maxLen; omega))
  clear hb2 hr2 hb22 h25
  go_wp2_with (fail)
  (try rw [hw5])
  have hwx : IntKind.i64.wrap x = x := IntWalk.i64_in _ (by omega)
  go_region_held3 (fun W => Below w5.heap.size w5 W ∧ (W.cell? ⟨w.heap.size, 0, none⟩ = some (.int .i64 b) ∧ W.cell? ⟨w.heap.size, 1, none⟩ = some (.int .i64 d) ∧ W.cell? ⟨w.heap.size, 2, none⟩ = some (.int .i64 t) ∧ W.cell? ⟨w.heap.size, 3, none⟩ = some (.int .i64 u) ∧ W.cell? ⟨w.heap.size, 4, none⟩ = some (.int .i64 s) ∧ W.cell? ⟨w.heap.size, 5, none⟩ = some (.slice A l.length c)) ∧ (W.cell? ⟨w2.heap.size, 0, none⟩ = some (.int .i64 0) ∧ W.cell? ⟨w2.heap.size, 1, none⟩ = some (.int .i64 0) ∧ W.cell? ⟨w2.heap.size, 2, none⟩ = some (.int .i64 21) ∧ W.cell? ⟨w2.heap.size, 3, none⟩ = some (.int .i64 0) ∧ W.cell? ⟨w2.heap.size, 4, none⟩ = some (.int .i64 x) ∧ W.cell? ⟨w2.heap.size, 5, none⟩ = some (.slice A2 1 c2)))
    (first | exact HS.out _ (Below.refl _ _).drew | exact HS.out _ hB2 | (go_split_ands; exact HS.out _ (below_al (by assumption) _)))
    (first
      | (go_at_call 13; go_split_ands; (with_reducible refine (HR5.out _ (by assumption)).mono ?_); rintro q2 w9 ⟨rfl, hb9⟩; have hB2 := below_next (w := w5) (by assumption) hb9)
      | (go_at_call 14; go_split_ands; (with_reducible refine (HX5.out _ (by assumption)).mono ?_); rintro q2 w9 ⟨rfl, hb9⟩; have hB2 := below_next (w := w5) (by assumption) hb9)
      | (go_at_call 16; (with_reducible refine (const_nil x hx1 hx2 _).mono ?_); rintro q2 w9 ⟨rfl, hb9⟩; go_split_ands; have hB2 := below_next (w := w5) (by assumption) hb9)
      | (go_at_call 15; go_split_ands; (with_reducible refine (HSA1.out _ (by assumption)).mono ?_); rintro q2 w9 ⟨rfl, hb9⟩; have hB2 := below_next (w := w5) (by assumption) hb9)
      | (go_at_call 15; go_split_ands; (with_reducible refine (HSA2.out _ _ (by assumption) (rp_one (by simp) (by simp) (by simp) (by simp) (by simp))).mono ?_); rintro q2 w9 ⟨rfl, hb9⟩; have hB2 := below_next (w := w5) (by assumption) hb9)
      | (go_at_call 11; (with_reducible refine (tawake_any _).mono ?_); rintro q2 w9 ⟨rfl, hb9⟩; go_split_ands; have hB2 := below_next (w := w5) (by assumption) hb9))
  all_goals
    go_wp2_with (fail)
    go_ret
    exact ⟨rfl, below_next HW.out (below_next HB5.out hB2)⟩
end Go.Proofs.Ytmcgapejebceoaa.Te
