/- The walk of term.Put, of any two terms of at most 20 parts. -/
import Derived.Test.YtmcgapejebceoaaTeClone
namespace Go.Proofs.Ytmcgapejebceoaa.Te
set_option maxRecDepth 100000
open Go Go.RowKit Go.Proofs.Ytmcgapejebceoaa.Sp Go.Proofs.Ytmcgapejebceoaa.Pa
attribute [local go_sem] part_guard part_eqN

structure TB where
  b : Int
  d : Int
  t : Int
  u : Int
  s : Int
  l : List PT
  ok : Bool
def zTB : TB := ⟨0, 0, 0, 0, 0, [], false⟩
def putT (x y : TB) : TB :=
  if x.l = [] then ⟨x.b, x.d, x.t, x.u, x.s, [], true⟩
  else if x.l = [(0, 0, 21, 0)] then
    if plainT y.b y.d y.t y.u = true then (if (addT x.s y.s).2 = true then ⟨x.b, x.d, x.t, x.u, (addT x.s y.s).1, y.l, true⟩ else zTB)
    else if plainT x.b x.d x.t x.u = true then (if (addT y.b x.s).2 = true then ⟨(addT y.b x.s).1, y.d, y.t, y.u, y.s, y.l, true⟩ else zTB)
    else zTB
  else zTB
def PutOut (r : TB) (w : World) (e : Ending) (w' : World) : Prop := ∃ A c, e = .returned (.tuple #[trm r.b r.d r.t r.u r.s A r.l.length c, .bool r.ok]) ∧ RP w' w'.heap.size A r.l.length r.l ∧ Below w.heap.size w w'
theorem pEq_true {a d t u : Int} (h : pEq a d t u 0 0 21 0 = true) : (a, d, t, u) = (0, 0, 21, 0) := by
  unfold pEq at h
  simp at h
  simp [h]
theorem pEq_false {a d t u : Int} (h : pEq a d t u 0 0 21 0 = false) : ¬ (a, d, t, u) = (0, 0, 21, 0) := by
  intro e
  simp only [Prod.mk.injEq] at e
  obtain ⟨rfl, rfl, rfl, rfl⟩ := e
  revert h
  decide
set_option maxHeartbeats 4000000 in
theorem put_nil (ub ud ut uu us : Int) (A : Option Addr) (c : Nat) (b d t u s : Int) (B : Option Addr) (e : Nat) (l : List PT) (w : World) (h' : RP w w.heap.size B l.length l) :
    Calls Try.prog 19 #[trm ub ud ut uu us A 0 c, trm b d t u s B l.length e] w (PutOut ⟨ub, ud, ut, uu, us, [], true⟩ w) := by
  obtain ⟨w0, hw0⟩ : ∃ w0, ((w.alloc (.cells (tcells ub ud ut uu us A 0 c) 24)).alloc (.cells (tcells b d t u s B l.length e) 24)).alloc (.cells (tcells 0 0 0 0 0 none 0 0) 24) = w0 := ⟨_, rfl⟩
  have hs0 : w0.heap.size = w.heap.size + 1 + 1 + 1 := by rw [← hw0]; simp
  have hb0 : Below w.heap.size w w0 := by rw [← hw0]; exact (((Below.refl _ _).alloc (Nat.le_refl _) _).alloc (by simp) _).alloc (by simp only [World.size_alloc]; omega) _
  have hXU : BoxF w0 w.heap.size ub ud ut uu us A 0 c := by
    rw [← hw0]
    exact ((BoxF.new w ub ud ut uu us A 0 c _).keep ((Below.refl _ _).alloc (Nat.le_refl _) _) (by simp)).keep ((Below.refl _ _).alloc (Nat.le_refl _) _) (by simp only [World.size_alloc]; omega)
  have hXT : BoxF w0 (w.heap.size + 1) b d t u s B l.length e := by
    rw [← hw0]
    have q := (BoxF.new (w.alloc (.cells (tcells ub ud ut uu us A 0 c) 24)) b d t u s B l.length e 24).keep ((Below.refl _ _).alloc (Nat.le_refl _) (.cells (tcells 0 0 0 0 0 none 0 0) 24)) (by simp)
    simpa using q
  have hXR : BoxF w0 (w.heap.size + 1 + 1) 0 0 0 0 0 none 0 0 := by
    rw [← hw0]
    have q := BoxF.new ((w.alloc (.cells (tcells ub ud ut uu us A 0 c) 24)).alloc (.cells (tcells b d t u s B l.length e) 24)) 0 0 0 0 0 none 0 0 24
    simpa using q
  have XU := Lib.hid (fun W (hb : Below w0.heap.size w0 W) => show BoxF W w.heap.size ub ud ut uu us A 0 c from hXU.keep hb (by omega))
  have XT := Lib.hid (fun W (hb : Below w0.heap.size w0 W) => show BoxF W (w.heap.size + 1) b d t u s B l.length e from hXT.keep hb (by omega))
  have XR := Lib.hid (fun W (hb : Below w0.heap.size w0 W) => show BoxF W (w.heap.size + 1 + 1) 0 0 0 0 0 none 0 0 from hXR.keep hb (by omega))
  have H' := Lib.hid (h'.belowM hb0)
  have HB0 := Lib.hid hb0
  obtain ⟨w1, hw1, hF1, hL1, hN1⟩ := (XU.out w0 (Below.refl _ _)).store5 none 0 0
  have hR1 : BoxF w1 (w.heap.size + 1 + 1) 0 0 0 0 0 none 0 0 := (XR.out w0 (Below.refl _ _)).far hN1 (by omega)
  obtain ⟨w2, hw2, hF2, hL2, hN2⟩ := hR1.store6 ub ud ut uu us none 0 0
  obtain ⟨⟨f0, f1, f2, f3, f4, f5⟩, ff⟩ := hF1
  obtain ⟨⟨q0, q1, q2, q3, q4, q5⟩, qf⟩ := hR1
  obtain ⟨⟨p0, p1, p2, p3, p4, p5⟩, pf⟩ := hF2
  have qf0 := qf 0 (by omega)
  have qf1 := qf 1 (by omega)
  have qf2 := qf 2 (by omega)
  have qf3 := qf 3 (by omega)
  have qf4 := qf 4 (by omega)
  have qf5 := qf 5 (by omega)
  obtain ⟨⟨r0, r1, r2, r3, r4, r5⟩, rf⟩ := XU.out w0 (Below.refl _ _)
  have rf0 := rf 0 (by omega)
  have rf1 := rf 1 (by omega)
  have rf2 := rf 2 (by omega)
  have rf3 := rf 3 (by omega)
  have rf4 := rf 4 (by omega)
  have rf5 := rf 5 (by omega)
  clear hb0 hXU hXT hXR
  go_enter Try.func19, Try.ntmps19
  go_wp2_with (fail)
  exact bodyPost_ret (v := .tuple #[trm ub ud ut uu us none 0 0, .bool true]) (by simp [results, Try.results19, go_sem, p0, p1, p2, p3, p4, p5]) rfl ⟨none, 0, rfl, RP.nil_ _ _ _, (HB0.out.trans (hL1 _ (Nat.le_refl _))).trans (hL2 _ (by omega))⟩
set_option maxHeartbeats 4000000 in
theorem put_many (ub ud ut uu us : Int) (A : Option Addr) (n c : Nat) (b d t u s : Int) (B : Option Addr) (e : Nat) (l : List PT) (w : World) (h' : RP w w.heap.size B l.length l) (h2 : 2 ≤ n) :
    Calls Try.prog 19 #[trm ub ud ut uu us A n c, trm b d t u s B l.length e] w (PutOut zTB w) := by
  obtain ⟨w0, hw0⟩ : ∃ w0, ((w.alloc (.cells (tcells ub ud ut uu us A n c) 24)).alloc (.cells (tcells b d t u s B l.length e) 24)).alloc (.cells (tcells 0 0 0 0 0 none 0 0) 24) = w0 := ⟨_, rfl⟩
  have hs0 : w0.heap.size = w.heap.size + 1 + 1 + 1 := by rw [← hw0]; simp
  have hb0 : Below w.heap.size w w0 := by rw [← hw0]; exact (((Below.refl _ _).alloc (Nat.le_refl _) _).alloc (by simp) _).alloc (by simp only [World.size_alloc]; omega) _
  have hXU : BoxF w0 w.heap.size ub ud ut uu us A n c := by
    rw [← hw0]
    exact ((BoxF.new w ub ud ut uu us A n c _).keep ((Below.refl _ _).alloc (Nat.le_refl _) _) (by simp)).keep ((Below.refl _ _).alloc (Nat.le_refl _) _) (by simp only [World.size_alloc]; omega)
  have hXT : BoxF w0 (w.heap.size + 1) b d t u s B l.length e := by
    rw [← hw0]
    have q := (BoxF.new (w.alloc (.cells (tcells ub ud ut uu us A n c) 24)) b d t u s B l.length e 24).keep ((Below.refl _ _).alloc (Nat.le_refl _) (.cells (tcells 0 0 0 0 0 none 0 0) 24)) (by simp)
    simpa using q
  have hXR : BoxF w0 (w.heap.size + 1 + 1) 0 0 0 0 0 none 0 0 := by
    rw [← hw0]
    have q := BoxF.new ((w.alloc (.cells (tcells ub ud ut uu us A n c) 24)).alloc (.cells (tcells b d t u s B l.length e) 24)) 0 0 0 0 0 none 0 0 24
    simpa using q
  have XU := Lib.hid (fun W (hb : Below w0.heap.size w0 W) => show BoxF W w.heap.size ub ud ut uu us A n c from hXU.keep hb (by omega))
  have XT := Lib.hid (fun W (hb : Below w0.heap.size w0 W) => show BoxF W (w.heap.size + 1) b d t u s B l.length e from hXT.keep hb (by omega))
  have XR := Lib.hid (fun W (hb : Below w0.heap.size w0 W) => show BoxF W (w.heap.size + 1 + 1) 0 0 0 0 0 none 0 0 from hXR.keep hb (by omega))
  have H' := Lib.hid (h'.belowM hb0)
  have HB0 := Lib.hid hb0
  have hd0 : ((n : Int) == 0) = false := by simp; omega
  have hd1 : decide ((1 : Int) < (n : Int)) = true := by simp; omega
  have hd2 : decide (1 < n) = true := by simp; omega
  obtain ⟨⟨u0, u1, u2, u3, u4, u5⟩, uf⟩ := XU.out w0 (Below.refl _ _)
  clear hb0 hXU hXT hXR
  go_enter Try.func19, Try.ntmps19
  go_wp2_with (fail)
  go_quiet (fail)
  have hbq : Below w0.heap.size w0 (w0.drewN nq) := below_drewN (Below.refl _ w0) nq
  obtain ⟨wq, hwq⟩ : ∃ wq, w0.drewN nq = wq := ⟨_, rfl⟩
  rw [hwq] at hbq ⊢
  have HBQ := Lib.hid hbq
  clear u0 u1 u2 u3 u4 u5 hbq
  obtain ⟨w3, hw3, hFw3, hLw3, hNw3⟩ := (XR.out wq HBQ.out).store6 0 0 0 0 0 none 0 0
  obtain ⟨⟨p0, p1, p2, p3, p4, p5⟩, _⟩ := hFw3
  obtain ⟨⟨r0, r1, r2, r3, r4, r5⟩, rf⟩ := XR.out wq HBQ.out
  have rf0 := rf 0 (by omega)
  have rf1 := rf 1 (by omega)
  have rf2 := rf 2 (by omega)
  have rf3 := rf 3 (by omega)
  have rf4 := rf 4 (by omega)
  have rf5 := rf 5 (by omega)
  go_wp2_with (fail)
  exact bodyPost_ret (v := .tuple #[trm 0 0 0 0 0 none 0 0, .bool false]) (by simp [results, Try.results19, go_sem, p0, p1, p2, p3, p4, p5]) rfl ⟨none, 0, rfl, RP.nil_ _ _ _, (HB0.out.trans (HBQ.out.mono HB0.out.size)).trans (hLw3 _ (by omega))⟩
set_option maxHeartbeats 4000000 in
theorem put_o0 (ub ud ut uu us : Int) (bb off c : Nat) (pa pd pt pu : Int) (b d t u s : Int) (B : Option Addr) (e : Nat) (l : List PT) (w : World) (hbB : bb < w.heap.size) (c1 : w.cell? ⟨bb, off, none⟩ = some (.int .i64 pa)) (c2 : w.cell? ⟨bb, off + 1, none⟩ = some (.int .i64 pd)) (c3 : w.cell? ⟨bb, off + 2, none⟩ = some (.int .i64 pt)) (c4 : w.cell? ⟨bb, off + 3, none⟩ = some (.int .i64 pu)) (h' : RP w w.heap.size B l.length l) (hz : ¬ pa = 0) :
    Calls Try.prog 19 #[trm ub ud ut uu us (some ⟨bb, off, none⟩) 1 c, trm b d t u s B l.length e] w (PutOut zTB w) := by
  have hz' : (pa == 0) = false := by simpa using hz
  obtain ⟨w0, hw0⟩ : ∃ w0, ((w.alloc (.cells (tcells ub ud ut uu us (some ⟨bb, off, none⟩) 1 c) 24)).alloc (.cells (tcells b d t u s B l.length e) 24)).alloc (.cells (tcells 0 0 0 0 0 none 0 0) 24) = w0 := ⟨_, rfl⟩
  have hs0 : w0.heap.size = w.heap.size + 1 + 1 + 1 := by rw [← hw0]; simp
  have hb0 : Below w.heap.size w w0 := by rw [← hw0]; exact (((Below.refl _ _).alloc (Nat.le_refl _) _).alloc (by simp) _).alloc (by simp only [World.size_alloc]; omega) _
  have hXU : BoxF w0 w.heap.size ub ud ut uu us (some ⟨bb, off, none⟩) 1 c := by
    rw [← hw0]
    exact ((BoxF.new w ub ud ut uu us (some ⟨bb, off, none⟩) 1 c _).keep ((Below.refl _ _).alloc (Nat.le_refl _) _) (by simp)).keep ((Below.refl _ _).alloc (Nat.le_refl _) _) (by simp only [World.size_alloc]; omega)
  have hXT : BoxF w0 (w.heap.size + 1) b d t u s B l.length e := by
    rw [← hw0]
    have q := (BoxF.new (w.alloc (.cells (tcells ub ud ut uu us (some ⟨bb, off, none⟩) 1 c) 24)) b d t u s B l.length e 24).keep ((Below.refl _ _).alloc (Nat.le_refl _) (.cells (tcells 0 0 0 0 0 none 0 0) 24)) (by simp)
    simpa using q
  have hXR : BoxF w0 (w.heap.size + 1 + 1) 0 0 0 0 0 none 0 0 := by
    rw [← hw0]
    have q := BoxF.new ((w.alloc (.cells (tcells ub ud ut uu us (some ⟨bb, off, none⟩) 1 c) 24)).alloc (.cells (tcells b d t u s B l.length e) 24)) 0 0 0 0 0 none 0 0 24
    simpa using q
  have XU := Lib.hid (fun W (hb : Below w0.heap.size w0 W) => show BoxF W w.heap.size ub ud ut uu us (some ⟨bb, off, none⟩) 1 c from hXU.keep hb (by omega))
  have XT := Lib.hid (fun W (hb : Below w0.heap.size w0 W) => show BoxF W (w.heap.size + 1) b d t u s B l.length e from hXT.keep hb (by omega))
  have XR := Lib.hid (fun W (hb : Below w0.heap.size w0 W) => show BoxF W (w.heap.size + 1 + 1) 0 0 0 0 0 none 0 0 from hXR.keep hb (by omega))
  have H' := Lib.hid (h'.belowM hb0)
  have HB0 := Lib.hid hb0
  have HC := Lib.hid (show ∀ W, Below w0.heap.size w0 W → W.cell? ⟨w.heap.size, 5, none⟩ = some (.slice (some ⟨bb, off, none⟩) 1 c) ∧ W.cell? ⟨bb, off, none⟩ = some (.int .i64 pa) ∧ W.cell? ⟨bb, off + 1, none⟩ = some (.int .i64 pd) ∧ W.cell? ⟨bb, off + 2, none⟩ = some (.int .i64 pt) ∧ W.cell? ⟨bb, off + 3, none⟩ = some (.int .i64 pu) from fun W hW => by
    have hw := HB0.out.trans (hW.mono HB0.out.size)
    exact ⟨(XU.out W hW).1.2.2.2.2.2, (hw.cell hbB).trans c1, (hw.cell hbB).trans c2, (hw.cell hbB).trans c3, (hw.cell hbB).trans c4⟩)
  clear c1 c2 c3 c4
  obtain ⟨m0, m1, m2, m3, m4⟩ := HC.out w0 (Below.refl _ _)
  clear hb0 hXU hXT hXR h'
  go_enter Try.func19, Try.ntmps19
  go_wp2_with (fail)
  go_region_held3 (fun w' => w'.cell? ⟨w.heap.size, 5, none⟩ = some (.slice (some ⟨bb, off, none⟩) 1 c) ∧ w'.cell? ⟨bb, off, none⟩ = some (.int .i64 pa) ∧ w'.cell? ⟨bb, off + 1, none⟩ = some (.int .i64 pd) ∧ w'.cell? ⟨bb, off + 2, none⟩ = some (.int .i64 pt) ∧ w'.cell? ⟨bb, off + 3, none⟩ = some (.int .i64 pu))
    (first | go_keep | exact HC.out _ (Below.refl _ _).drew | exact HC.out _ hB2)
    (first
      | (go_at_call 31; (with_reducible refine (whole_any _ _).mono ?_); rintro q2 w2 ⟨rfl, hb2⟩; have hB2 : Below w0.heap.size w0 w2 := (Below.refl _ w0).drew.trans (hb2.mono (by simp))))
  have HB2 := Lib.hid hB2
  clear hB2 hb2 m0 m1 m2 m3 m4
  obtain ⟨w3, hw3, hFw3, hLw3, hNw3⟩ := (XR.out w2 HB2.out).store6 0 0 0 0 0 none 0 0
  obtain ⟨⟨p0, p1, p2, p3, p4, p5⟩, _⟩ := hFw3
  obtain ⟨⟨r0, r1, r2, r3, r4, r5⟩, rf⟩ := XR.out w2 HB2.out
  have rf0 := rf 0 (by omega)
  have rf1 := rf 1 (by omega)
  have rf2 := rf 2 (by omega)
  have rf3 := rf 3 (by omega)
  have rf4 := rf 4 (by omega)
  have rf5 := rf 5 (by omega)
  go_wp2_with (fail)
  exact bodyPost_ret (v := .tuple #[trm 0 0 0 0 0 none 0 0, .bool false]) (by simp [results, Try.results19, go_sem, p0, p1, p2, p3, p4, p5]) rfl ⟨none, 0, rfl, RP.nil_ _ _ _, (HB0.out.trans (HB2.out.mono HB0.out.size)).trans (hLw3 _ (by omega))⟩
set_option maxHeartbeats 4000000 in
theorem put_o1 (ub ud ut uu us : Int) (bb off c : Nat) (pd pt pu : Int) (b d t u s : Int) (B : Option Addr) (e : Nat) (l : List PT) (w : World) (hbB : bb < w.heap.size) (c1 : w.cell? ⟨bb, off, none⟩ = some (.int .i64 0)) (c2 : w.cell? ⟨bb, off + 1, none⟩ = some (.int .i64 pd)) (c3 : w.cell? ⟨bb, off + 2, none⟩ = some (.int .i64 pt)) (c4 : w.cell? ⟨bb, off + 3, none⟩ = some (.int .i64 pu)) (h' : RP w w.heap.size B l.length l) (hz : ¬ pd = 0) :
    Calls Try.prog 19 #[trm ub ud ut uu us (some ⟨bb, off, none⟩) 1 c, trm b d t u s B l.length e] w (PutOut zTB w) := by
  have hz' : (pd == 0) = false := by simpa using hz
  obtain ⟨w0, hw0⟩ : ∃ w0, ((w.alloc (.cells (tcells ub ud ut uu us (some ⟨bb, off, none⟩) 1 c) 24)).alloc (.cells (tcells b d t u s B l.length e) 24)).alloc (.cells (tcells 0 0 0 0 0 none 0 0) 24) = w0 := ⟨_, rfl⟩
  have hs0 : w0.heap.size = w.heap.size + 1 + 1 + 1 := by rw [← hw0]; simp
  have hb0 : Below w.heap.size w w0 := by rw [← hw0]; exact (((Below.refl _ _).alloc (Nat.le_refl _) _).alloc (by simp) _).alloc (by simp only [World.size_alloc]; omega) _
  have hXU : BoxF w0 w.heap.size ub ud ut uu us (some ⟨bb, off, none⟩) 1 c := by
    rw [← hw0]
    exact ((BoxF.new w ub ud ut uu us (some ⟨bb, off, none⟩) 1 c _).keep ((Below.refl _ _).alloc (Nat.le_refl _) _) (by simp)).keep ((Below.refl _ _).alloc (Nat.le_refl _) _) (by simp only [World.size_alloc]; omega)
  have hXT : BoxF w0 (w.heap.size + 1) b d t u s B l.length e := by
    rw [← hw0]
    have q := (BoxF.new (w.alloc (.cells (tcells ub ud ut uu us (some ⟨bb, off, none⟩) 1 c) 24)) b d t u s B l.length e 24).keep ((Below.refl _ _).alloc (Nat.le_refl _) (.cells (tcells 0 0 0 0 0 none 0 0) 24)) (by simp)
    simpa using q
  have hXR : BoxF w0 (w.heap.size + 1 + 1) 0 0 0 0 0 none 0 0 := by
    rw [← hw0]
    have q := BoxF.new ((w.alloc (.cells (tcells ub ud ut uu us (some ⟨bb, off, none⟩) 1 c) 24)).alloc (.cells (tcells b d t u s B l.length e) 24)) 0 0 0 0 0 none 0 0 24
    simpa using q
  have XU := Lib.hid (fun W (hb : Below w0.heap.size w0 W) => show BoxF W w.heap.size ub ud ut uu us (some ⟨bb, off, none⟩) 1 c from hXU.keep hb (by omega))
  have XT := Lib.hid (fun W (hb : Below w0.heap.size w0 W) => show BoxF W (w.heap.size + 1) b d t u s B l.length e from hXT.keep hb (by omega))
  have XR := Lib.hid (fun W (hb : Below w0.heap.size w0 W) => show BoxF W (w.heap.size + 1 + 1) 0 0 0 0 0 none 0 0 from hXR.keep hb (by omega))
  have H' := Lib.hid (h'.belowM hb0)
  have HB0 := Lib.hid hb0
  have HC := Lib.hid (show ∀ W, Below w0.heap.size w0 W → W.cell? ⟨w.heap.size, 5, none⟩ = some (.slice (some ⟨bb, off, none⟩) 1 c) ∧ W.cell? ⟨bb, off, none⟩ = some (.int .i64 0) ∧ W.cell? ⟨bb, off + 1, none⟩ = some (.int .i64 pd) ∧ W.cell? ⟨bb, off + 2, none⟩ = some (.int .i64 pt) ∧ W.cell? ⟨bb, off + 3, none⟩ = some (.int .i64 pu) from fun W hW => by
    have hw := HB0.out.trans (hW.mono HB0.out.size)
    exact ⟨(XU.out W hW).1.2.2.2.2.2, (hw.cell hbB).trans c1, (hw.cell hbB).trans c2, (hw.cell hbB).trans c3, (hw.cell hbB).trans c4⟩)
  clear c1 c2 c3 c4
  obtain ⟨m0, m1, m2, m3, m4⟩ := HC.out w0 (Below.refl _ _)
  clear hb0 hXU hXT hXR h'
  go_enter Try.func19, Try.ntmps19
  go_wp2_with (fail)
  go_region_held3 (fun w' => w'.cell? ⟨w.heap.size, 5, none⟩ = some (.slice (some ⟨bb, off, none⟩) 1 c) ∧ w'.cell? ⟨bb, off, none⟩ = some (.int .i64 0) ∧ w'.cell? ⟨bb, off + 1, none⟩ = some (.int .i64 pd) ∧ w'.cell? ⟨bb, off + 2, none⟩ = some (.int .i64 pt) ∧ w'.cell? ⟨bb, off + 3, none⟩ = some (.int .i64 pu))
    (first | go_keep | exact HC.out _ (Below.refl _ _).drew | exact HC.out _ hB2)
    (first
      | (go_at_call 31; (with_reducible refine (whole_any _ _).mono ?_); rintro q2 w2 ⟨rfl, hb2⟩; have hB2 : Below w0.heap.size w0 w2 := (Below.refl _ w0).drew.trans (hb2.mono (by simp))))
  have HB2 := Lib.hid hB2
  clear hB2 hb2 m0 m1 m2 m3 m4
  obtain ⟨w3, hw3, hFw3, hLw3, hNw3⟩ := (XR.out w2 HB2.out).store6 0 0 0 0 0 none 0 0
  obtain ⟨⟨p0, p1, p2, p3, p4, p5⟩, _⟩ := hFw3
  obtain ⟨⟨r0, r1, r2, r3, r4, r5⟩, rf⟩ := XR.out w2 HB2.out
  have rf0 := rf 0 (by omega)
  have rf1 := rf 1 (by omega)
  have rf2 := rf 2 (by omega)
  have rf3 := rf 3 (by omega)
  have rf4 := rf 4 (by omega)
  have rf5 := rf 5 (by omega)
  go_wp2_with (fail)
  exact bodyPost_ret (v := .tuple #[trm 0 0 0 0 0 none 0 0, .bool false]) (by simp [results, Try.results19, go_sem, p0, p1, p2, p3, p4, p5]) rfl ⟨none, 0, rfl, RP.nil_ _ _ _, (HB0.out.trans (HB2.out.mono HB0.out.size)).trans (hLw3 _ (by omega))⟩
set_option maxHeartbeats 4000000 in
theorem put_o2 (ub ud ut uu us : Int) (bb off c : Nat) (pt pu : Int) (b d t u s : Int) (B : Option Addr) (e : Nat) (l : List PT) (w : World) (hbB : bb < w.heap.size) (c1 : w.cell? ⟨bb, off, none⟩ = some (.int .i64 0)) (c2 : w.cell? ⟨bb, off + 1, none⟩ = some (.int .i64 0)) (c3 : w.cell? ⟨bb, off + 2, none⟩ = some (.int .i64 pt)) (c4 : w.cell? ⟨bb, off + 3, none⟩ = some (.int .i64 pu)) (h' : RP w w.heap.size B l.length l) (hz : ¬ pt = 21) :
    Calls Try.prog 19 #[trm ub ud ut uu us (some ⟨bb, off, none⟩) 1 c, trm b d t u s B l.length e] w (PutOut zTB w) := by
  have hz' : (pt == 21) = false := by simpa using hz
  obtain ⟨w0, hw0⟩ : ∃ w0, ((w.alloc (.cells (tcells ub ud ut uu us (some ⟨bb, off, none⟩) 1 c) 24)).alloc (.cells (tcells b d t u s B l.length e) 24)).alloc (.cells (tcells 0 0 0 0 0 none 0 0) 24) = w0 := ⟨_, rfl⟩
  have hs0 : w0.heap.size = w.heap.size + 1 + 1 + 1 := by rw [← hw0]; simp
  have hb0 : Below w.heap.size w w0 := by rw [← hw0]; exact (((Below.refl _ _).alloc (Nat.le_refl _) _).alloc (by simp) _).alloc (by simp only [World.size_alloc]; omega) _
  have hXU : BoxF w0 w.heap.size ub ud ut uu us (some ⟨bb, off, none⟩) 1 c := by
    rw [← hw0]
    exact ((BoxF.new w ub ud ut uu us (some ⟨bb, off, none⟩) 1 c _).keep ((Below.refl _ _).alloc (Nat.le_refl _) _) (by simp)).keep ((Below.refl _ _).alloc (Nat.le_refl _) _) (by simp only [World.size_alloc]; omega)
  have hXT : BoxF w0 (w.heap.size + 1) b d t u s B l.length e := by
    rw [← hw0]
    have q := (BoxF.new (w.alloc (.cells (tcells ub ud ut uu us (some ⟨bb, off, none⟩) 1 c) 24)) b d t u s B l.length e 24).keep ((Below.refl _ _).alloc (Nat.le_refl _) (.cells (tcells 0 0 0 0 0 none 0 0) 24)) (by simp)
    simpa using q
  have hXR : BoxF w0 (w.heap.size + 1 + 1) 0 0 0 0 0 none 0 0 := by
    rw [← hw0]
    have q := BoxF.new ((w.alloc (.cells (tcells ub ud ut uu us (some ⟨bb, off, none⟩) 1 c) 24)).alloc (.cells (tcells b d t u s B l.length e) 24)) 0 0 0 0 0 none 0 0 24
    simpa using q
  have XU := Lib.hid (fun W (hb : Below w0.heap.size w0 W) => show BoxF W w.heap.size ub ud ut uu us (some ⟨bb, off, none⟩) 1 c from hXU.keep hb (by omega))
  have XT := Lib.hid (fun W (hb : Below w0.heap.size w0 W) => show BoxF W (w.heap.size + 1) b d t u s B l.length e from hXT.keep hb (by omega))
  have XR := Lib.hid (fun W (hb : Below w0.heap.size w0 W) => show BoxF W (w.heap.size + 1 + 1) 0 0 0 0 0 none 0 0 from hXR.keep hb (by omega))
  have H' := Lib.hid (h'.belowM hb0)
  have HB0 := Lib.hid hb0
  have HC := Lib.hid (show ∀ W, Below w0.heap.size w0 W → W.cell? ⟨w.heap.size, 5, none⟩ = some (.slice (some ⟨bb, off, none⟩) 1 c) ∧ W.cell? ⟨bb, off, none⟩ = some (.int .i64 0) ∧ W.cell? ⟨bb, off + 1, none⟩ = some (.int .i64 0) ∧ W.cell? ⟨bb, off + 2, none⟩ = some (.int .i64 pt) ∧ W.cell? ⟨bb, off + 3, none⟩ = some (.int .i64 pu) from fun W hW => by
    have hw := HB0.out.trans (hW.mono HB0.out.size)
    exact ⟨(XU.out W hW).1.2.2.2.2.2, (hw.cell hbB).trans c1, (hw.cell hbB).trans c2, (hw.cell hbB).trans c3, (hw.cell hbB).trans c4⟩)
  clear c1 c2 c3 c4
  obtain ⟨m0, m1, m2, m3, m4⟩ := HC.out w0 (Below.refl _ _)
  clear hb0 hXU hXT hXR h'
  go_enter Try.func19, Try.ntmps19
  go_wp2_with (fail)
  go_region_held3 (fun w' => w'.cell? ⟨w.heap.size, 5, none⟩ = some (.slice (some ⟨bb, off, none⟩) 1 c) ∧ w'.cell? ⟨bb, off, none⟩ = some (.int .i64 0) ∧ w'.cell? ⟨bb, off + 1, none⟩ = some (.int .i64 0) ∧ w'.cell? ⟨bb, off + 2, none⟩ = some (.int .i64 pt) ∧ w'.cell? ⟨bb, off + 3, none⟩ = some (.int .i64 pu))
    (first | go_keep | exact HC.out _ (Below.refl _ _).drew | exact HC.out _ hB2)
    (first
      | (go_at_call 31; (with_reducible refine (whole_any _ _).mono ?_); rintro q2 w2 ⟨rfl, hb2⟩; have hB2 : Below w0.heap.size w0 w2 := (Below.refl _ w0).drew.trans (hb2.mono (by simp))))
  have HB2 := Lib.hid hB2
  clear hB2 hb2 m0 m1 m2 m3 m4
  obtain ⟨w3, hw3, hFw3, hLw3, hNw3⟩ := (XR.out w2 HB2.out).store6 0 0 0 0 0 none 0 0
  obtain ⟨⟨p0, p1, p2, p3, p4, p5⟩, _⟩ := hFw3
  obtain ⟨⟨r0, r1, r2, r3, r4, r5⟩, rf⟩ := XR.out w2 HB2.out
  have rf0 := rf 0 (by omega)
  have rf1 := rf 1 (by omega)
  have rf2 := rf 2 (by omega)
  have rf3 := rf 3 (by omega)
  have rf4 := rf 4 (by omega)
  have rf5 := rf 5 (by omega)
  go_wp2_with (fail)
  exact bodyPost_ret (v := .tuple #[trm 0 0 0 0 0 none 0 0, .bool false]) (by simp [results, Try.results19, go_sem, p0, p1, p2, p3, p4, p5]) rfl ⟨none, 0, rfl, RP.nil_ _ _ _, (HB0.out.trans (HB2.out.mono HB0.out.size)).trans (hLw3 _ (by omega))⟩
set_option maxHeartbeats 4000000 in
theorem put_o3 (ub ud ut uu us : Int) (bb off c : Nat) (pu : Int) (b d t u s : Int) (B : Option Addr) (e : Nat) (l : List PT) (w : World) (hbB : bb < w.heap.size) (c1 : w.cell? ⟨bb, off, none⟩ = some (.int .i64 0)) (c2 : w.cell? ⟨bb, off + 1, none⟩ = some (.int .i64 0)) (c3 : w.cell? ⟨bb, off + 2, none⟩ = some (.int .i64 21)) (c4 : w.cell? ⟨bb, off + 3, none⟩ = some (.int .i64 pu)) (h' : RP w w.heap.size B l.length l) (hz : ¬ pu = 0) :
    Calls Try.prog 19 #[trm ub ud ut uu us (some ⟨bb, off, none⟩) 1 c, trm b d t u s B l.length e] w (PutOut zTB w) := by
  have hz' : (pu == 0) = false := by simpa using hz
  obtain ⟨w0, hw0⟩ : ∃ w0, ((w.alloc (.cells (tcells ub ud ut uu us (some ⟨bb, off, none⟩) 1 c) 24)).alloc (.cells (tcells b d t u s B l.length e) 24)).alloc (.cells (tcells 0 0 0 0 0 none 0 0) 24) = w0 := ⟨_, rfl⟩
  have hs0 : w0.heap.size = w.heap.size + 1 + 1 + 1 := by rw [← hw0]; simp
  have hb0 : Below w.heap.size w w0 := by rw [← hw0]; exact (((Below.refl _ _).alloc (Nat.le_refl _) _).alloc (by simp) _).alloc (by simp only [World.size_alloc]; omega) _
  have hXU : BoxF w0 w.heap.size ub ud ut uu us (some ⟨bb, off, none⟩) 1 c := by
    rw [← hw0]
    exact ((BoxF.new w ub ud ut uu us (some ⟨bb, off, none⟩) 1 c _).keep ((Below.refl _ _).alloc (Nat.le_refl _) _) (by simp)).keep ((Below.refl _ _).alloc (Nat.le_refl _) _) (by simp only [World.size_alloc]; omega)
  have hXT : BoxF w0 (w.heap.size + 1) b d t u s B l.length e := by
    rw [← hw0]
    have q := (BoxF.new (w.alloc (.cells (tcells ub ud ut uu us (some ⟨bb, off, none⟩) 1 c) 24)) b d t u s B l.length e 24).keep ((Below.refl _ _).alloc (Nat.le_refl _) (.cells (tcells 0 0 0 0 0 none 0 0) 24)) (by simp)
    simpa using q
  have hXR : BoxF w0 (w.heap.size + 1 + 1) 0 0 0 0 0 none 0 0 := by
    rw [← hw0]
    have q := BoxF.new ((w.alloc (.cells (tcells ub ud ut uu us (some ⟨bb, off, none⟩) 1 c) 24)).alloc (.cells (tcells b d t u s B l.length e) 24)) 0 0 0 0 0 none 0 0 24
    simpa using q
  have XU := Lib.hid (fun W (hb : Below w0.heap.size w0 W) => show BoxF W w.heap.size ub ud ut uu us (some ⟨bb, off, none⟩) 1 c from hXU.keep hb (by omega))
  have XT := Lib.hid (fun W (hb : Below w0.heap.size w0 W) => show BoxF W (w.heap.size + 1) b d t u s B l.length e from hXT.keep hb (by omega))
  have XR := Lib.hid (fun W (hb : Below w0.heap.size w0 W) => show BoxF W (w.heap.size + 1 + 1) 0 0 0 0 0 none 0 0 from hXR.keep hb (by omega))
  have H' := Lib.hid (h'.belowM hb0)
  have HB0 := Lib.hid hb0
  have HC := Lib.hid (show ∀ W, Below w0.heap.size w0 W → W.cell? ⟨w.heap.size, 5, none⟩ = some (.slice (some ⟨bb, off, none⟩) 1 c) ∧ W.cell? ⟨bb, off, none⟩ = some (.int .i64 0) ∧ W.cell? ⟨bb, off + 1, none⟩ = some (.int .i64 0) ∧ W.cell? ⟨bb, off + 2, none⟩ = some (.int .i64 21) ∧ W.cell? ⟨bb, off + 3, none⟩ = some (.int .i64 pu) from fun W hW => by
    have hw := HB0.out.trans (hW.mono HB0.out.size)
    exact ⟨(XU.out W hW).1.2.2.2.2.2, (hw.cell hbB).trans c1, (hw.cell hbB).trans c2, (hw.cell hbB).trans c3, (hw.cell hbB).trans c4⟩)
  clear c1 c2 c3 c4
  obtain ⟨m0, m1, m2, m3, m4⟩ := HC.out w0 (Below.refl _ _)
  clear hb0 hXU hXT hXR h'
  go_enter Try.func19, Try.ntmps19
  go_wp2_with (fail)
  go_region_held3 (fun w' => w'.cell? ⟨w.heap.size, 5, none⟩ = some (.slice (some ⟨bb, off, none⟩) 1 c) ∧ w'.cell? ⟨bb, off, none⟩ = some (.int .i64 0) ∧ w'.cell? ⟨bb, off + 1, none⟩ = some (.int .i64 0) ∧ w'.cell? ⟨bb, off + 2, none⟩ = some (.int .i64 21) ∧ w'.cell? ⟨bb, off + 3, none⟩ = some (.int .i64 pu))
    (first | go_keep | exact HC.out _ (Below.refl _ _).drew | exact HC.out _ hB2)
    (first
      | (go_at_call 31; (with_reducible refine (whole_any _ _).mono ?_); rintro q2 w2 ⟨rfl, hb2⟩; have hB2 : Below w0.heap.size w0 w2 := (Below.refl _ w0).drew.trans (hb2.mono (by simp))))
  have HB2 := Lib.hid hB2
  clear hB2 hb2 m0 m1 m2 m3 m4
  obtain ⟨w3, hw3, hFw3, hLw3, hNw3⟩ := (XR.out w2 HB2.out).store6 0 0 0 0 0 none 0 0
  obtain ⟨⟨p0, p1, p2, p3, p4, p5⟩, _⟩ := hFw3
  obtain ⟨⟨r0, r1, r2, r3, r4, r5⟩, rf⟩ := XR.out w2 HB2.out
  have rf0 := rf 0 (by omega)
  have rf1 := rf 1 (by omega)
  have rf2 := rf 2 (by omega)
  have rf3 := rf 3 (by omega)
  have rf4 := rf 4 (by omega)
  have rf5 := rf 5 (by omega)
  go_wp2_with (fail)
  exact bodyPost_ret (v := .tuple #[trm 0 0 0 0 0 none 0 0, .bool false]) (by simp [results, Try.results19, go_sem, p0, p1, p2, p3, p4, p5]) rfl ⟨none, 0, rfl, RP.nil_ _ _ _, (HB0.out.trans (HB2.out.mono HB0.out.size)).trans (hLw3 _ (by omega))⟩
end Go.Proofs.Ytmcgapejebceoaa.Te
