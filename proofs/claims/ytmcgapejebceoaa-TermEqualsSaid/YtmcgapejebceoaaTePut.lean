/- The walks of term.add, and of term.Put at the law's example. -/
import Derived.Test.YtmcgapejebceoaaTeCopies
import Derived.Test.YtmcgapejebceoaaTeConst
import Derived.Lib.SliceRun
namespace Go.Proofs.Ytmcgapejebceoaa.Te
set_option maxRecDepth 100000
open Go Go.RowKit Go.Proofs.Ytmcgapejebceoaa.Sp Go.Proofs.Ytmcgapejebceoaa.Pa

def addT (a b : Int) : Int × Bool := if Sm a ∧ Sm b ∧ Sm (a + b) then (a + b, true) else (0, false)
theorem tadd_any (a b : Int) (w : World) : Calls Try.prog 46 #[.int .i64 a, .int .i64 b] w (RetW (.tuple #[.int .i64 (addT a b).1, .bool (addT a b).2]) w) := by
  have HA := Lib.hid (small_any a)
  have HB := Lib.hid (small_any b)
  by_cases h1 : Sm a
  case neg =>
    rw [decide_eq_false h1] at HA
    have HE := Lib.hid (show addT a b = (0, false) from if_neg (fun h => h1 h.1))
    go_enter Try.func46, Try.ntmps46
    go_wp2_with (fail)
    refine (HA.out _).mono ?_
    rintro e w1 ⟨rfl, rfl⟩
    go_wp2_with (fail)
    go_ret2
    exact ⟨ret_v HE.out, rfl⟩
  rw [decide_eq_true h1] at HA
  by_cases h2 : Sm b
  case neg =>
    rw [decide_eq_false h2] at HB
    have HE := Lib.hid (show addT a b = (0, false) from if_neg (fun h => h2 h.2.1))
    go_enter Try.func46, Try.ntmps46
    go_wp2_with (fail)
    refine (HA.out _).mono ?_
    rintro e w1 ⟨rfl, rfl⟩
    go_wp2_with (fail)
    refine (HB.out _).mono ?_
    rintro e w1 ⟨rfl, rfl⟩
    go_wp2_with (fail)
    go_ret2
    exact ⟨ret_v HE.out, rfl⟩
  rw [decide_eq_true h2] at HB
  have HC := Lib.hid (small_any (a + b))
  unfold Sm at h1 h2
  obtain ⟨a1, a2⟩ := h1
  obtain ⟨b1, b2⟩ := h2
  by_cases h3 : Sm (a + b)
  case neg =>
    rw [decide_eq_false h3] at HC
    have HE := Lib.hid (show addT a b = (0, false) from if_neg (fun h => h3 h.2.2))
    clear h3
    go_enter Try.func46, Try.ntmps46
    go_wp2_with (fail)
    refine (HA.out _).mono ?_
    rintro e w1 ⟨rfl, rfl⟩
    go_wp2_with (fail)
    refine (HB.out _).mono ?_
    rintro e w1 ⟨rfl, rfl⟩
    go_wp2_with (fail)
    refine (HC.out _).mono ?_
    rintro e w1 ⟨rfl, rfl⟩
    go_wp2_with (fail)
    go_ret2
    exact ⟨ret_v HE.out, rfl⟩
  rw [decide_eq_true h3] at HC
  have HE := Lib.hid (show addT a b = (a + b, true) from if_pos ⟨⟨a1, a2⟩, ⟨b1, b2⟩, h3⟩)
  clear h3
  go_enter Try.func46, Try.ntmps46
  go_wp2_with (fail)
  refine (HA.out _).mono ?_
  rintro e w1 ⟨rfl, rfl⟩
  go_wp2_with (fail)
  refine (HB.out _).mono ?_
  rintro e w1 ⟨rfl, rfl⟩
  go_wp2_with (fail)
  refine (HC.out _).mono ?_
  rintro e w1 ⟨rfl, rfl⟩
  go_wp2_with (fail)
  go_ret2
  exact ⟨ret_v HE.out, rfl⟩
theorem part_nil : ∀ (w : World) (a : Option Addr) (n c n' c' : Nat), (binOp .eql 22 (.slice a n c) (.slice none n' c')).run Try.prog w = .ok (.bool a.isNone) w := fun w a n c n' c' => Lib.run_eql_slice_nil w _ _ a n c n' c' Try.underlying22
theorem clone_nil (w : World) : Calls Try.prog 47 #[.slice none 0 0] w (RetW (.slice none 0 0) w) := by
  have q := part_nil
  go_enter Try.func47, Try.ntmps47
  go_wp2_with (fail)
  go_ret
  exact ⟨rfl, rfl⟩
def RetTB (b d t u s : Int) (ok : Bool) (w : World) (e : Ending) (w' : World) : Prop := e = .returned (.tuple #[trm b d t u s none 0 0, .bool ok]) ∧ Below w.heap.size w w'
attribute [local go_sem] part_guard part_eqN
set_option maxHeartbeats 4000000 in
theorem put_ex (A : Option Addr) (c : Nat) (w : World) (h : RP w w.heap.size A 1 [(0, 0, 21, 0)]) :
    Calls Try.prog 19 #[trm 0 0 21 0 1 A 1 c, trm 0 0 21 0 97 none 0 0] w (RetTB 0 0 21 0 98 true w) := by
  obtain ⟨bb, off, a', d', t', u', hA', hbB, ⟨_, hlk⟩, c1, c2, c3, c4⟩ := h.at_ (k := 0) (by omega)
  simp only [List.getElem_cons_zero, Prod.mk.injEq] at hlk
  obtain ⟨rfl, rfl, rfl, rfl⟩ := hlk
  subst hA'
  simp only [Nat.zero_mul, Nat.add_zero] at c1 c2 c3 c4
  obtain ⟨w0, hw0⟩ : ∃ w0, ((w.alloc (.cells (tcells 0 0 21 0 1 (some ⟨bb, off, none⟩) 1 c) 24)).alloc (.cells (tcells 0 0 21 0 97 none 0 0) 24)).alloc (.cells (tcells 0 0 0 0 0 none 0 0) 24) = w0 := ⟨_, rfl⟩
  have hs0 : w0.heap.size = w.heap.size + 1 + 1 + 1 := by rw [← hw0]; simp
  have hb0 : Below w.heap.size w w0 := by rw [← hw0]; exact (((Below.refl _ _).alloc (Nat.le_refl _) _).alloc (by simp) _).alloc (by simp only [World.size_alloc]; omega) _
  have XU := Lib.hid (fun W (hb : Below w0.heap.size w0 W) => show Boxed6 W w.heap.size 0 0 21 0 1 (some ⟨bb, off, none⟩) 1 c from by
    rw [← hw0] at hb
    exact boxed6 (((((Below.refl _ _).alloc (Nat.le_refl _) _).alloc (by simp) _).trans (hb.mono (by simp)))))
  have XT := Lib.hid (fun W (hb : Below w0.heap.size w0 W) => show Boxed6 W (w.heap.size + 1) 0 0 21 0 97 none 0 0 from by
    rw [← hw0] at hb
    have := boxed6 (w := w.alloc (.cells (tcells 0 0 21 0 1 (some ⟨bb, off, none⟩) 1 c) 24)) (((Below.refl _ _).alloc (Nat.le_refl _) _).trans (hb.mono (by simp)))
    simpa using this)
  have XR := Lib.hid (fun W (hb : Below w0.heap.size w0 W) => show Boxed6 W (w.heap.size + 1 + 1) 0 0 0 0 0 none 0 0 from by
    rw [← hw0] at hb
    have := boxed6 (w := (w.alloc (.cells (tcells 0 0 21 0 1 (some ⟨bb, off, none⟩) 1 c) 24)).alloc (.cells (tcells 0 0 21 0 97 none 0 0) 24)) hb
    simpa using this)
  have HC := Lib.hid (show ∀ W, Below w0.heap.size w0 W → W.cell? ⟨w.heap.size, 5, none⟩ = some (.slice (some ⟨bb, off, none⟩) 1 c) ∧ W.cell? ⟨bb, off, none⟩ = some (.int .i64 0) ∧ W.cell? ⟨bb, off + 1, none⟩ = some (.int .i64 0) ∧ W.cell? ⟨bb, off + 2, none⟩ = some (.int .i64 21) ∧ W.cell? ⟨bb, off + 3, none⟩ = some (.int .i64 0) from fun W hW => by
    have hw := hb0.trans (hW.mono hb0.size)
    exact ⟨(XU.out W hW).2.2.2.2.2, (hw.cell hbB).trans c1, (hw.cell hbB).trans c2, (hw.cell hbB).trans c3, (hw.cell hbB).trans c4⟩)
  have HFZ := Lib.hid (show ∀ W, Below w0.heap.size w0 W → ∀ i, i < 6 → W.frozen? ⟨w.heap.size + 1 + 1, i, none⟩ = false from fun W hW i hi => by
    rw [hW.frozen (by simp only; omega), ← hw0]
    have q : ∀ (w' : World) (cs : Array Value), (w'.alloc (.cells cs 24)).frozen? ⟨w'.heap.size, i, none⟩ = false := fun w' cs => by simp
    have q1 := q ((w.alloc (.cells (tcells 0 0 21 0 1 (some ⟨bb, off, none⟩) 1 c) 24)).alloc (.cells (tcells 0 0 21 0 97 none 0 0) 24)) (tcells 0 0 0 0 0 none 0 0)
    rw [World.size_alloc, World.size_alloc] at q1
    exact q1)
  have HB0 := Lib.hid hb0
  have HL := Lib.hid (fun W => tplain_any 0 0 21 0 97 none 0 0 W)
  have HA := Lib.hid (fun W => tadd_any 1 97 W)
  rw [show plainT 0 0 21 0 = true from rfl] at HL
  rw [show addT 1 97 = (98, true) from rfl] at HA
  have HN := Lib.hid clone_nil
  obtain ⟨p0, p1, p2, p3, p4⟩ := HC.out w0 (Below.refl _ _)
  clear c1 c2 c3 c4 hb0 h
  go_enter Try.func19, Try.ntmps19
  go_wp2_with (fail)
  go_region_held3 (fun w' => w'.cell? ⟨w.heap.size, 5, none⟩ = some (.slice (some ⟨bb, off, none⟩) 1 c) ∧ w'.cell? ⟨bb, off, none⟩ = some (.int .i64 0) ∧ w'.cell? ⟨bb, off + 1, none⟩ = some (.int .i64 0) ∧ w'.cell? ⟨bb, off + 2, none⟩ = some (.int .i64 21) ∧ w'.cell? ⟨bb, off + 3, none⟩ = some (.int .i64 0))
    (first | go_keep | exact HC.out _ (Below.refl _ _).drew | exact HC.out _ hB2)
    (first
      | (go_at_call 31; (with_reducible refine (whole_any _ _).mono ?_); rintro q2 w2 ⟨rfl, hb2⟩; have hB2 : Below w0.heap.size w0 w2 := (Below.refl _ w0).drew.trans (hb2.mono (by simp))))
  have HB2 := Lib.hid hB2
  clear hB2 hb2 p0 p1 p2 p3 p4
  have hz2 := HB2.out.size
  obtain ⟨w3, hw3⟩ : ∃ w3, w2.alloc (.cells (tcells 0 0 0 0 0 none 0 0) 24) = w3 := ⟨_, rfl⟩
  have h23 : Below w2.heap.size w2 w3 := by rw [← hw3]; exact (Below.refl _ _).alloc (Nat.le_refl _) _
  have h03 := HB2.out.trans (h23.mono hz2)
  obtain ⟨t0, t1, t2, t3, t4, t5⟩ := XT.out _ h03
  go_wp2_with (fail)
  refine (HL.out _).mono ?_
  rintro e w4 ⟨rfl, hb4⟩
  have XG : Boxed6 w4 w2.heap.size 0 0 0 0 0 none 0 0 := by rw [← hw3] at hb4; exact boxed6 hb4
  obtain ⟨g0, g1, g2, g3, g4, g5⟩ := XG
  have h34 := h03.trans (hb4.mono h03.size)
  obtain ⟨u0, u1, u2, u3, u4, u5⟩ := XU.out _ h34
  obtain ⟨s0, s1, s2, s3, s4, s5⟩ := XT.out _ h34
  obtain ⟨r0, r1, r2, r3, r4, r5⟩ := XR.out _ h34
  have fz : ∀ i, i < 6 → w4.frozen? ⟨w2.heap.size, i, none⟩ = false := fun i hi => by
    rw [← hw3] at hb4
    rw [hb4.frozen (p := ⟨w2.heap.size, i, none⟩) (by simp)]
    simp
  have f0 := fz 0 (by omega)
  have f1 := fz 1 (by omega)
  have f2 := fz 2 (by omega)
  have f3 := fz 3 (by omega)
  have f4 := fz 4 (by omega)
  have f5 := fz 5 (by omega)
  have k0 := HFZ.out _ h34 0 (by omega)
  have k1 := HFZ.out _ h34 1 (by omega)
  have k2 := HFZ.out _ h34 2 (by omega)
  have k3 := HFZ.out _ h34 3 (by omega)
  have k4 := HFZ.out _ h34 4 (by omega)
  have k5 := HFZ.out _ h34 5 (by omega)
  have hlt : w.heap.size + 1 + 1 < w2.heap.size := by omega
  have hlt2 : w2.heap.size < w4.heap.size := by have := hb4.size; rw [← hw3] at this; simp at this; omega
  have ne1 : ¬ (w.heap.size = w2.heap.size) := by omega
  have ne2 : ¬ (w.heap.size + 1 = w2.heap.size) := by omega
  have ne3 : ¬ (w.heap.size + 1 + 1 = w2.heap.size) := by omega
  have H34 := Lib.hid h34
  clear fz h34 h03 h23 hb4 t0 t1 t2 t3 t4 t5
  go_wp2_with (fail)
  obtain ⟨w5, hw5⟩ : ∃ w5, ((((((w4.setCell ⟨w2.heap.size, 0, none⟩ (.int .i64 0)).setCell ⟨w2.heap.size, 1, none⟩ (.int .i64 0)).setCell ⟨w2.heap.size, 2, none⟩ (.int .i64 21)).setCell ⟨w2.heap.size, 3, none⟩ (.int .i64 0)).setCell ⟨w2.heap.size, 4, none⟩ (.int .i64 1)).setCell ⟨w2.heap.size, 5, none⟩ (.slice (some ⟨bb, off, none⟩) 1 c)) = w5 := ⟨_, rfl⟩
  rw [hw5]
  have hB5 : Below w0.heap.size w4 w5 := by
    rw [← hw5]
    exact (((((((Below.refl _ _).setCell (by simp only; omega) _).setCell (by simp only; omega) _).setCell (by simp only; omega) _).setCell (by simp only; omega) _).setCell (by simp only; omega) _).setCell (by simp only; omega) _)
  have G5 : Boxed6 w5 w2.heap.size 0 0 21 0 1 (some ⟨bb, off, none⟩) 1 c := by
    rw [← hw5]
    refine ⟨?_, ?_, ?_, ?_, ?_, ?_⟩ <;> simp [go_sem, g0, g1, g2, g3, g4, g5]
  have F5 : ∀ i, i < 6 → w5.frozen? ⟨w2.heap.size, i, none⟩ = false := fun i hi => by
    rw [← hw5]
    have : w4.frozen? ⟨w2.heap.size, i, none⟩ = false := by
      rcases (show i = 0 ∨ i = 1 ∨ i = 2 ∨ i = 3 ∨ i = 4 ∨ i = 5 from by omega) with rfl | rfl | rfl | rfl | rfl | rfl <;> assumption
    simpa using this
  have h05 := H34.out.trans hB5
  clear g0 g1 g2 g3 g4 g5 u0 u1 u2 u3 u4 u5 s0 s1 s2 s3 s4 s5 r0 r1 r2 r3 r4 r5 f0 f1 f2 f3 f4 f5 k0 k1 k2 k3 k4 k5 hw5 hB5 hlt2
  obtain ⟨s0, s1, s2, s3, s4, s5⟩ := XT.out _ h05
  obtain ⟨g0, g1, g2, g3, g4, g5⟩ := G5
  have f4 := F5 4 (by omega)
  have f5 := F5 5 (by omega)
  have H05 := Lib.hid h05
  clear h05
  refine (HA.out _).mono ?_
  rintro e w9 ⟨rfl, rfl⟩
  go_wp2_with (fail)
  refine (HN.out _).mono ?_
  rintro e w9 ⟨rfl, rfl⟩
  obtain ⟨w6, hw6⟩ : ∃ w6, w5.setCell ⟨w2.heap.size, 4, none⟩ (.int .i64 98) = w6 := ⟨_, rfl⟩
  rw [hw6]
  have hB6 : Below w0.heap.size w5 w6 := by rw [← hw6]; exact (Below.refl _ _).setCell (by simp only; omega) _
  have G6 : Boxed6 w6 w2.heap.size 0 0 21 0 98 (some ⟨bb, off, none⟩) 1 c := by
    rw [← hw6]
    refine ⟨?_, ?_, ?_, ?_, ?_, ?_⟩ <;> simp [go_sem, g0, g1, g2, g3, g4, g5]
  have f6 : w6.frozen? ⟨w2.heap.size, 5, none⟩ = false := by rw [← hw6]; simpa using f5
  have h06 := H05.out.trans hB6
  clear g0 g1 g2 g3 g4 g5 f4 f5 F5 hw6 hB6 s0 s1 s2 s3 s4 s5
  obtain ⟨r0, r1, r2, r3, r4, r5⟩ := XR.out _ h06
  obtain ⟨g0, g1, g2, g3, g4, g5⟩ := G6
  have k0 := HFZ.out _ h06 0 (by omega)
  have k1 := HFZ.out _ h06 1 (by omega)
  have k2 := HFZ.out _ h06 2 (by omega)
  have k3 := HFZ.out _ h06 3 (by omega)
  have k4 := HFZ.out _ h06 4 (by omega)
  have k5 := HFZ.out _ h06 5 (by omega)
  have H06 := Lib.hid h06
  clear h06
  go_wp2_with (fail)
  have hb9 := HB0.out.trans (H06.out.mono HB0.out.size)
  refine bodyPost_ret (v := .tuple #[trm 0 0 21 0 98 none 0 0, .bool true]) (by simp [results, Try.results19, go_sem, r0, r1, r2, r3, r4, r5]) rfl ⟨rfl, ?_⟩
  exact (((((((hb9.setCell (by simp only; omega) _).setCell (by simp only; omega) _).setCell (by simp only; omega) _).setCell (by simp only; omega) _).setCell (by simp only; omega) _).setCell (by simp only; omega) _).setCell (by simp only; omega) _)
end Go.Proofs.Ytmcgapejebceoaa.Te
