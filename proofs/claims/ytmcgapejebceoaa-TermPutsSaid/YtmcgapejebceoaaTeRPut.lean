/- The walk of the document's Put. -/
import Derived.Test.YtmcgapejebceoaaTePuts2
import Derived.IntWalk
namespace Go.Proofs.Ytmcgapejebceoaa.Te
set_option maxRecDepth 100000
open Go Go.RowKit Go.Proofs.Ytmcgapejebceoaa.Sp Go.Proofs.Ytmcgapejebceoaa.Pa
attribute [local go_sem] part_guard part_eqN

theorem RP.far0 {W W' : World} {B n g : Nat} {A : Option Addr} {l : List PT} (h : RP W B A n l) (hf : FarB W W' g) (hA : ∀ b off, A = some ⟨b, off, none⟩ → n = 0 ∨ b ≠ g) : RP W' B A n l := by
  rcases Nat.eq_zero_or_pos n with h0 | h0
  · exact ⟨h.1, fun hn => by omega⟩
  · exact h.far hf (fun b off e => by rcases hA b off e with q | q <;> omega)
theorem sm_wrap {a b : Int} (ha : Sm a) (hb : Sm b) : IntKind.i64.wrap (a + b) = a + b := by
  unfold Sm at ha hb
  exact IntWalk.i64_in _ (by omega)
set_option maxHeartbeats 4000000 in
theorem rput_nil (ub ud ut uu us : Int) (A : Option Addr) (c : Nat) (b d t u s : Int) (B : Option Addr) (e : Nat) (l : List PT) (w : World) (h' : RP w w.heap.size B l.length l) :
    Calls Try.prog 20 #[trm ub ud ut uu us A 0 c, trm b d t u s B l.length e] w (PutOut ⟨ub, ud, ut, uu, us, [], true⟩ w) := by
  obtain ⟨w0, hw0⟩ : ∃ w0, ((w.alloc (.cells (tcells ub ud ut uu us A 0 c) 24)).alloc (.cells (tcells b d t u s B l.length e) 24)).alloc (.cells (tcells 0 0 0 0 0 none 0 0) 24) = w0 := ⟨_, rfl⟩
  have hs0 : w0.heap.size = w.heap.size + 1 + 1 + 1 := by rw [← hw0]; simp
  have hb0 : Below w.heap.size w w0 := by rw [← hw0]; exact (((Below.refl _ _).alloc (Nat.le_refl _) _).alloc (by simp) _).alloc (by simp only [World.size_alloc]; omega) _
  have hXU : BoxF w0 w.heap.size ub ud ut uu us A 0 c := by
    rw [← hw0]
    exact ((BoxF.new w ub ud ut uu us A 0 c _).keep ((Below.refl _ _).alloc (Nat.le_refl _) _) (by simp)).keep ((Below.refl _ _).alloc (Nat.le_refl _) _) (by simp only [World.size_alloc]; omega)
  have hXT : BoxF w0 (w.heap.size + 1) b d t u s B l.length e := by
    rw [← hw0]
    have q := (BoxF.new (w.alloc (.cells (tcells ub ud ut uu us A 0 c) 24)) b d t u s B l.length e 24).keep ((Below.refl _ _).alloc (Nat.le_refl _) (.cells (tcells 0 0 0 0 0 none 0 0) 24)) (by simp)
    simpa using q
  have hXR : BoxF w0 (w.heap.size + 1 + 1) 0 0 0 0 0 none 0 0 := by
    rw [← hw0]
    have q := BoxF.new ((w.alloc (.cells (tcells ub ud ut uu us A 0 c) 24)).alloc (.cells (tcells b d t u s B l.length e) 24)) 0 0 0 0 0 none 0 0 24
    simpa using q
  have XU := Lib.hid (fun W (hb : Below w0.heap.size w0 W) => show BoxF W w.heap.size ub ud ut uu us A 0 c from hXU.keep hb (by omega))
  have XT := Lib.hid (fun W (hb : Below w0.heap.size w0 W) => show BoxF W (w.heap.size + 1) b d t u s B l.length e from hXT.keep hb (by omega))
  have XR := Lib.hid (fun W (hb : Below w0.heap.size w0 W) => show BoxF W (w.heap.size + 1 + 1) 0 0 0 0 0 none 0 0 from hXR.keep hb (by omega))
  have H' := Lib.hid (h'.belowM hb0)
  have HB0 := Lib.hid hb0
  have hb00 := Below.refl w0.heap.size w0
  obtain ⟨⟨u0, u1, u2, u3, u4, u5⟩, uf⟩ := XU.out w0 hb00
  obtain ⟨⟨r0, r1, r2, r3, r4, r5⟩, rf⟩ := XR.out w0 hb00
  have rf0 := rf 0 (by omega)
  have rf1 := rf 1 (by omega)
  have rf2 := rf 2 (by omega)
  have rf3 := rf 3 (by omega)
  have rf4 := rf 4 (by omega)
  have rf5 := rf 5 (by omega)
  obtain ⟨wd, hwd, hFd, hLd, hNd⟩ := (XR.out w0 hb00).store6 ub ud ut uu us A 0 c
  obtain ⟨⟨p0, p1, p2, p3, p4, p5⟩, _⟩ := hFd
  clear hb0 hXU hXT hXR
  go_enter Try.func20, Try.ntmps20
  go_wp2_with (fail)
  exact bodyPost_ret (v := .tuple #[trm ub ud ut uu us A 0 c, .bool true]) (by simp [results, Try.results20, go_sem, p0, p1, p2, p3, p4, p5]) rfl ⟨A, c, rfl, RP.nil_ _ _ _, (HB0.out.trans (hb00.mono HB0.out.size)).trans (hLd _ (by omega))⟩
set_option maxHeartbeats 4000000 in
theorem rput_many (ub ud ut uu us : Int) (A : Option Addr) (n c : Nat) (b d t u s : Int) (B : Option Addr) (e : Nat) (l : List PT) (w : World) (h' : RP w w.heap.size B l.length l) (h2 : 2 ≤ n) :
    Calls Try.prog 20 #[trm ub ud ut uu us A n c, trm b d t u s B l.length e] w (PutOut zTB w) := by
  obtain ⟨w0, hw0⟩ : ∃ w0, ((w.alloc (.cells (tcells ub ud ut uu us A n c) 24)).alloc (.cells (tcells b d t u s B l.length e) 24)).alloc (.cells (tcells 0 0 0 0 0 none 0 0) 24) = w0 := ⟨_, rfl⟩
  have hs0 : w0.heap.size = w.heap.size + 1 + 1 + 1 := by rw [← hw0]; simp
  have hb0 : Below w.heap.size w w0 := by rw [← hw0]; exact (((Below.refl _ _).alloc (Nat.le_refl _) _).alloc (by simp) _).alloc (by simp only [World.size_alloc]; omega) _
  have hXU : BoxF w0 w.heap.size ub ud ut uu us A n c := by
    rw [← hw0]
    exact ((BoxF.new w ub ud ut uu us A n c _).keep ((Below.refl _ _).alloc (Nat.le_refl _) _) (by simp)).keep ((Below.refl _ _).alloc (Nat.le_refl _) _) (by simp only [World.size_alloc]; omega)
  have hXT : BoxF w0 (w.heap.size + 1) b d t u s B l.length e := by
    rw [← hw0]
    have q := (BoxF.new (w.alloc (.cells (tcells ub ud ut uu us A n c) 24)) b d t u s B l.length e 24).keep ((Below.refl _ _).alloc (Nat.le_refl _) (.cells (tcells 0 0 0 0 0 none 0 0) 24)) (by simp)
    simpa using q
  have hXR : BoxF w0 (w.heap.size + 1 + 1) 0 0 0 0 0 none 0 0 := by
    rw [← hw0]
    have q := BoxF.new ((w.alloc (.cells (tcells ub ud ut uu us A n c) 24)).alloc (.cells (tcells b d t u s B l.length e) 24)) 0 0 0 0 0 none 0 0 24
    simpa using q
  have XU := Lib.hid (fun W (hb : Below w0.heap.size w0 W) => show BoxF W w.heap.size ub ud ut uu us A n c from hXU.keep hb (by omega))
  have XT := Lib.hid (fun W (hb : Below w0.heap.size w0 W) => show BoxF W (w.heap.size + 1) b d t u s B l.length e from hXT.keep hb (by omega))
  have XR := Lib.hid (fun W (hb : Below w0.heap.size w0 W) => show BoxF W (w.heap.size + 1 + 1) 0 0 0 0 0 none 0 0 from hXR.keep hb (by omega))
  have H' := Lib.hid (h'.belowM hb0)
  have HB0 := Lib.hid hb0
  have hb00 := Below.refl w0.heap.size w0
  have hd0 : ((n : Int) == 0) = false := by simp; omega
  have hd1 : decide ((1 : Int) < (n : Int)) = true := by simp; omega
  have hd2 : decide (1 < n) = true := by simp; omega
  obtain ⟨⟨u0, u1, u2, u3, u4, u5⟩, uf⟩ := XU.out w0 hb00
  obtain ⟨⟨r0, r1, r2, r3, r4, r5⟩, rf⟩ := XR.out w0 hb00
  have rf0 := rf 0 (by omega)
  have rf1 := rf 1 (by omega)
  have rf2 := rf 2 (by omega)
  have rf3 := rf 3 (by omega)
  have rf4 := rf 4 (by omega)
  have rf5 := rf 5 (by omega)
  obtain ⟨wd, hwd, hFd, hLd, hNd⟩ := (XR.out w0 hb00).store6 0 0 0 0 0 none 0 0
  obtain ⟨⟨p0, p1, p2, p3, p4, p5⟩, _⟩ := hFd
  clear hb0 hXU hXT hXR
  go_enter Try.func20, Try.ntmps20
  go_wp2_with (fail)
  exact bodyPost_ret (v := .tuple #[trm 0 0 0 0 0 none 0 0, .bool false]) (by simp [results, Try.results20, go_sem, p0, p1, p2, p3, p4, p5]) rfl ⟨none, 0, rfl, RP.nil_ _ _ _, (HB0.out.trans (hb00.mono HB0.out.size)).trans (hLd _ (by omega))⟩
set_option maxHeartbeats 4000000 in
theorem rput_at (ub ud ut uu us : Int) (bb off c : Nat) (pa pd pt pu : Int) (b d t u s : Int) (B : Option Addr) (e : Nat) (l : List PT) (w : World) (h' : RP w w.heap.size B l.length l) (hbB : bb < w.heap.size) (c1 : w.cell? ⟨bb, off, none⟩ = some (.int .i64 pa)) (c2 : w.cell? ⟨bb, off + 1, none⟩ = some (.int .i64 pd)) (c3 : w.cell? ⟨bb, off + 2, none⟩ = some (.int .i64 pt)) (c4 : w.cell? ⟨bb, off + 3, none⟩ = some (.int .i64 pu)) (hz : ¬ pa = 0) :
    Calls Try.prog 20 #[trm ub ud ut uu us (some ⟨bb, off, none⟩) 1 c, trm b d t u s B l.length e] w (PutOut zTB w) := by
  obtain ⟨w0, hw0⟩ : ∃ w0, ((w.alloc (.cells (tcells ub ud ut uu us (some ⟨bb, off, none⟩) 1 c) 24)).alloc (.cells (tcells b d t u s B l.length e) 24)).alloc (.cells (tcells 0 0 0 0 0 none 0 0) 24) = w0 := ⟨_, rfl⟩
  have hs0 : w0.heap.size = w.heap.size + 1 + 1 + 1 := by rw [← hw0]; simp
  have hb0 : Below w.heap.size w w0 := by rw [← hw0]; exact (((Below.refl _ _).alloc (Nat.le_refl _) _).alloc (by simp) _).alloc (by simp only [World.size_alloc]; omega) _
  have hXU : BoxF w0 w.heap.size ub ud ut uu us (some ⟨bb, off, none⟩) 1 c := by
    rw [← hw0]
    exact ((BoxF.new w ub ud ut uu us (some ⟨bb, off, none⟩) 1 c _).keep ((Below.refl _ _).alloc (Nat.le_refl _) _) (by simp)).keep ((Below.refl _ _).alloc (Nat.le_refl _) _) (by simp only [World.size_alloc]; omega)
  have hXT : BoxF w0 (w.heap.size + 1) b d t u s B l.length e := by
    rw [← hw0]
    have q := (BoxF.new (w.alloc (.cells (tcells ub ud ut uu us (some ⟨bb, off, none⟩) 1 c) 24)) b d t u s B l.length e 24).keep ((Below.refl _ _).alloc (Nat.le_refl _) (.cells (tcells 0 0 0 0 0 none 0 0) 24)) (by simp)
    simpa using q
  have hXR : BoxF w0 (w.heap.size + 1 + 1) 0 0 0 0 0 none 0 0 := by
    rw [← hw0]
    have q := BoxF.new ((w.alloc (.cells (tcells ub ud ut uu us (some ⟨bb, off, none⟩) 1 c) 24)).alloc (.cells (tcells b d t u s B l.length e) 24)) 0 0 0 0 0 none 0 0 24
    simpa using q
  have XU := Lib.hid (fun W (hb : Below w0.heap.size w0 W) => show BoxF W w.heap.size ub ud ut uu us (some ⟨bb, off, none⟩) 1 c from hXU.keep hb (by omega))
  have XT := Lib.hid (fun W (hb : Below w0.heap.size w0 W) => show BoxF W (w.heap.size + 1) b d t u s B l.length e from hXT.keep hb (by omega))
  have XR := Lib.hid (fun W (hb : Below w0.heap.size w0 W) => show BoxF W (w.heap.size + 1 + 1) 0 0 0 0 0 none 0 0 from hXR.keep hb (by omega))
  have H' := Lib.hid (h'.belowM hb0)
  have HB0 := Lib.hid hb0
  have HC := Lib.hid (show ∀ W, Below w0.heap.size w0 W → W.cell? ⟨bb, off, none⟩ = some (.int .i64 pa) ∧ W.cell? ⟨bb, off + 1, none⟩ = some (.int .i64 pd) ∧ W.cell? ⟨bb, off + 2, none⟩ = some (.int .i64 pt) ∧ W.cell? ⟨bb, off + 3, none⟩ = some (.int .i64 pu) from fun W hW => by
    have hw := HB0.out.trans (hW.mono HB0.out.size)
    exact ⟨(hw.cell hbB).trans c1, (hw.cell hbB).trans c2, (hw.cell hbB).trans c3, (hw.cell hbB).trans c4⟩)
  clear c1 c2 c3 c4
  have hb00 := Below.refl w0.heap.size w0
  have hz' : (pa == 0) = false := by simpa using hz
  obtain ⟨⟨u0, u1, u2, u3, u4, u5⟩, uf⟩ := XU.out w0 hb00
  obtain ⟨⟨s0, s1, s2, s3, s4, s5⟩, sf⟩ := XT.out w0 hb00
  obtain ⟨m1, m2, m3, m4⟩ := HC.out w0 hb00
  obtain ⟨wd, hwd, hFd, hLd, hNd⟩ := (XR.out w0 hb00).store6 0 0 0 0 0 none 0 0
  obtain ⟨⟨p0, p1, p2, p3, p4, p5⟩, _⟩ := hFd
  obtain ⟨⟨r0, r1, r2, r3, r4, r5⟩, rf⟩ := XR.out w0 hb00
  have rf0 := rf 0 (by omega)
  have rf1 := rf 1 (by omega)
  have rf2 := rf 2 (by omega)
  have rf3 := rf 3 (by omega)
  have rf4 := rf 4 (by omega)
  have rf5 := rf 5 (by omega)
  clear hb0 hXU hXT hXR
  go_enter Try.func20, Try.ntmps20
  go_wp2_with (fail)
  exact bodyPost_ret (v := .tuple #[trm 0 0 0 0 0 none 0 0, .bool false]) (by simp [results, Try.results20, go_sem, p0, p1, p2, p3, p4, p5]) rfl ⟨none, 0, rfl, RP.nil_ _ _ _, (HB0.out.trans (hb00.mono HB0.out.size)).trans (hLd _ (by omega))⟩
set_option maxHeartbeats 4000000 in
theorem rput_all (ub ud ut uu us : Int) (bb off c : Nat) (pd pt pu : Int) (b d t u s : Int) (B : Option Addr) (e : Nat) (l : List PT) (w : World) (h' : RP w w.heap.size B l.length l) (hbB : bb < w.heap.size) (c1 : w.cell? ⟨bb, off, none⟩ = some (.int .i64 0)) (c2 : w.cell? ⟨bb, off + 1, none⟩ = some (.int .i64 pd)) (c3 : w.cell? ⟨bb, off + 2, none⟩ = some (.int .i64 pt)) (c4 : w.cell? ⟨bb, off + 3, none⟩ = some (.int .i64 pu)) (hz : takesAll (0, pd, pt, pu) = false) :
    Calls Try.prog 20 #[trm ub ud ut uu us (some ⟨bb, off, none⟩) 1 c, trm b d t u s B l.length e] w (PutOut zTB w) := by
  obtain ⟨w0, hw0⟩ : ∃ w0, ((w.alloc (.cells (tcells ub ud ut uu us (some ⟨bb, off, none⟩) 1 c) 24)).alloc (.cells (tcells b d t u s B l.length e) 24)).alloc (.cells (tcells 0 0 0 0 0 none 0 0) 24) = w0 := ⟨_, rfl⟩
  have hs0 : w0.heap.size = w.heap.size + 1 + 1 + 1 := by rw [← hw0]; simp
  have hb0 : Below w.heap.size w w0 := by rw [← hw0]; exact (((Below.refl _ _).alloc (Nat.le_refl _) _).alloc (by simp) _).alloc (by simp only [World.size_alloc]; omega) _
  have hXU : BoxF w0 w.heap.size ub ud ut uu us (some ⟨bb, off, none⟩) 1 c := by
    rw [← hw0]
    exact ((BoxF.new w ub ud ut uu us (some ⟨bb, off, none⟩) 1 c _).keep ((Below.refl _ _).alloc (Nat.le_refl _) _) (by simp)).keep ((Below.refl _ _).alloc (Nat.le_refl _) _) (by simp only [World.size_alloc]; omega)
  have hXT : BoxF w0 (w.heap.size + 1) b d t u s B l.length e := by
    rw [← hw0]
    have q := (BoxF.new (w.alloc (.cells (tcells ub ud ut uu us (some ⟨bb, off, none⟩) 1 c) 24)) b d t u s B l.length e 24).keep ((Below.refl _ _).alloc (Nat.le_refl _) (.cells (tcells 0 0 0 0 0 none 0 0) 24)) (by simp)
    simpa using q
  have hXR : BoxF w0 (w.heap.size + 1 + 1) 0 0 0 0 0 none 0 0 := by
    rw [← hw0]
    have q := BoxF.new ((w.alloc (.cells (tcells ub ud ut uu us (some ⟨bb, off, none⟩) 1 c) 24)).alloc (.cells (tcells b d t u s B l.length e) 24)) 0 0 0 0 0 none 0 0 24
    simpa using q
  have XU := Lib.hid (fun W (hb : Below w0.heap.size w0 W) => show BoxF W w.heap.size ub ud ut uu us (some ⟨bb, off, none⟩) 1 c from hXU.keep hb (by omega))
  have XT := Lib.hid (fun W (hb : Below w0.heap.size w0 W) => show BoxF W (w.heap.size + 1) b d t u s B l.length e from hXT.keep hb (by omega))
  have XR := Lib.hid (fun W (hb : Below w0.heap.size w0 W) => show BoxF W (w.heap.size + 1 + 1) 0 0 0 0 0 none 0 0 from hXR.keep hb (by omega))
  have H' := Lib.hid (h'.belowM hb0)
  have HB0 := Lib.hid hb0
  have HC := Lib.hid (show ∀ W, Below w0.heap.size w0 W → W.cell? ⟨bb, off, none⟩ = some (.int .i64 0) ∧ W.cell? ⟨bb, off + 1, none⟩ = some (.int .i64 pd) ∧ W.cell? ⟨bb, off + 2, none⟩ = some (.int .i64 pt) ∧ W.cell? ⟨bb, off + 3, none⟩ = some (.int .i64 pu) from fun W hW => by
    have hw := HB0.out.trans (hW.mono HB0.out.size)
    exact ⟨(hw.cell hbB).trans c1, (hw.cell hbB).trans c2, (hw.cell hbB).trans c3, (hw.cell hbB).trans c4⟩)
  clear c1 c2 c3 c4
  have hb00 := Below.refl w0.heap.size w0
  have HALL := Lib.hid (fun W => all_any 0 pd pt pu W)
  rw [hz] at HALL
  obtain ⟨⟨u0, u1, u2, u3, u4, u5⟩, uf⟩ := XU.out w0 hb00
  obtain ⟨⟨s0, s1, s2, s3, s4, s5⟩, sf⟩ := XT.out w0 hb00
  obtain ⟨m1, m2, m3, m4⟩ := HC.out w0 hb00
  clear hb0 hXU hXT hXR
  go_enter Try.func20, Try.ntmps20
  go_wp2_with (fail)
  refine (HALL.out _).mono ?_
  rintro q1 w1 ⟨rfl, hb1⟩
  have HB1 := Lib.hid hb1
  clear hb1 u0 u1 u2 u3 u4 u5 uf s0 s1 s2 s3 s4 s5 sf m1 m2 m3 m4
  obtain ⟨⟨u0, u1, u2, u3, u4, u5⟩, uf⟩ := XU.out w1 HB1.out
  obtain ⟨⟨s0, s1, s2, s3, s4, s5⟩, sf⟩ := XT.out w1 HB1.out
  obtain ⟨m1, m2, m3, m4⟩ := HC.out w1 HB1.out
  obtain ⟨wd, hwd, hFd, hLd, hNd⟩ := (XR.out w1 HB1.out).store6 0 0 0 0 0 none 0 0
  obtain ⟨⟨p0, p1, p2, p3, p4, p5⟩, _⟩ := hFd
  obtain ⟨⟨r0, r1, r2, r3, r4, r5⟩, rf⟩ := XR.out w1 HB1.out
  have rf0 := rf 0 (by omega)
  have rf1 := rf 1 (by omega)
  have rf2 := rf 2 (by omega)
  have rf3 := rf 3 (by omega)
  have rf4 := rf 4 (by omega)
  have rf5 := rf 5 (by omega)
  go_wp2_with (fail)
  exact bodyPost_ret (v := .tuple #[trm 0 0 0 0 0 none 0 0, .bool false]) (by simp [results, Try.results20, go_sem, p0, p1, p2, p3, p4, p5]) rfl ⟨none, 0, rfl, RP.nil_ _ _ _, (HB0.out.trans (HB1.out.mono HB0.out.size)).trans (hLd _ (by omega))⟩
set_option maxHeartbeats 4000000 in
theorem rput_sm (ub ud ut uu us : Int) (bb off c : Nat) (b d t u s : Int) (B : Option Addr) (e : Nat) (l : List PT) (w : World) (h' : RP w w.heap.size B l.length l) (hbB : bb < w.heap.size) (c1 : w.cell? ⟨bb, off, none⟩ = some (.int .i64 0)) (c2 : w.cell? ⟨bb, off + 1, none⟩ = some (.int .i64 0)) (c3 : w.cell? ⟨bb, off + 2, none⟩ = some (.int .i64 21)) (c4 : w.cell? ⟨bb, off + 3, none⟩ = some (.int .i64 0)) (h1 : ¬ Sm us) :
    Calls Try.prog 20 #[trm ub ud ut uu us (some ⟨bb, off, none⟩) 1 c, trm b d t u s B l.length e] w (PutOut zTB w) := by
  obtain ⟨w0, hw0⟩ : ∃ w0, ((w.alloc (.cells (tcells ub ud ut uu us (some ⟨bb, off, none⟩) 1 c) 24)).alloc (.cells (tcells b d t u s B l.length e) 24)).alloc (.cells (tcells 0 0 0 0 0 none 0 0) 24) = w0 := ⟨_, rfl⟩
  have hs0 : w0.heap.size = w.heap.size + 1 + 1 + 1 := by rw [← hw0]; simp
  have hb0 : Below w.heap.size w w0 := by rw [← hw0]; exact (((Below.refl _ _).alloc (Nat.le_refl _) _).alloc (by simp) _).alloc (by simp only [World.size_alloc]; omega) _
  have hXU : BoxF w0 w.heap.size ub ud ut uu us (some ⟨bb, off, none⟩) 1 c := by
    rw [← hw0]
    exact ((BoxF.new w ub ud ut uu us (some ⟨bb, off, none⟩) 1 c _).keep ((Below.refl _ _).alloc (Nat.le_refl _) _) (by simp)).keep ((Below.refl _ _).alloc (Nat.le_refl _) _) (by simp only [World.size_alloc]; omega)
  have hXT : BoxF w0 (w.heap.size + 1) b d t u s B l.length e := by
    rw [← hw0]
    have q := (BoxF.new (w.alloc (.cells (tcells ub ud ut uu us (some ⟨bb, off, none⟩) 1 c) 24)) b d t u s B l.length e 24).keep ((Below.refl _ _).alloc (Nat.le_refl _) (.cells (tcells 0 0 0 0 0 none 0 0) 24)) (by simp)
    simpa using q
  have hXR : BoxF w0 (w.heap.size + 1 + 1) 0 0 0 0 0 none 0 0 := by
    rw [← hw0]
    have q := BoxF.new ((w.alloc (.cells (tcells ub ud ut uu us (some ⟨bb, off, none⟩) 1 c) 24)).alloc (.cells (tcells b d t u s B l.length e) 24)) 0 0 0 0 0 none 0 0 24
    simpa using q
  have XU := Lib.hid (fun W (hb : Below w0.heap.size w0 W) => show BoxF W w.heap.size ub ud ut uu us (some ⟨bb, off, none⟩) 1 c from hXU.keep hb (by omega))
  have XT := Lib.hid (fun W (hb : Below w0.heap.size w0 W) => show BoxF W (w.heap.size + 1) b d t u s B l.length e from hXT.keep hb (by omega))
  have XR := Lib.hid (fun W (hb : Below w0.heap.size w0 W) => show BoxF W (w.heap.size + 1 + 1) 0 0 0 0 0 none 0 0 from hXR.keep hb (by omega))
  have H' := Lib.hid (h'.belowM hb0)
  have HB0 := Lib.hid hb0
  have HC := Lib.hid (show ∀ W, Below w0.heap.size w0 W → W.cell? ⟨bb, off, none⟩ = some (.int .i64 0) ∧ W.cell? ⟨bb, off + 1, none⟩ = some (.int .i64 0) ∧ W.cell? ⟨bb, off + 2, none⟩ = some (.int .i64 21) ∧ W.cell? ⟨bb, off + 3, none⟩ = some (.int .i64 0) from fun W hW => by
    have hw := HB0.out.trans (hW.mono HB0.out.size)
    exact ⟨(hw.cell hbB).trans c1, (hw.cell hbB).trans c2, (hw.cell hbB).trans c3, (hw.cell hbB).trans c4⟩)
  clear c1 c2 c3 c4
  have hb00 := Below.refl w0.heap.size w0
  have HALL := Lib.hid (fun W => all_any 0 0 21 0 W)
  rw [show takesAll (0, 0, 21, 0) = true from rfl] at HALL
  have HSus := Lib.hid (fun W => rsmall_any us W)
  rw [decide_eq_false h1] at HSus
  obtain ⟨⟨u0, u1, u2, u3, u4, u5⟩, uf⟩ := XU.out w0 hb00
  obtain ⟨⟨s0, s1, s2, s3, s4, s5⟩, sf⟩ := XT.out w0 hb00
  obtain ⟨m1, m2, m3, m4⟩ := HC.out w0 hb00
  clear hb0 hXU hXT hXR
  go_enter Try.func20, Try.ntmps20
  go_wp2_with (fail)
  refine (HALL.out _).mono ?_
  rintro q1 w1 ⟨rfl, hb1⟩
  have HB1 := Lib.hid hb1
  clear hb1 u0 u1 u2 u3 u4 u5 uf s0 s1 s2 s3 s4 s5 sf m1 m2 m3 m4
  obtain ⟨⟨u0, u1, u2, u3, u4, u5⟩, uf⟩ := XU.out w1 HB1.out
  obtain ⟨⟨s0, s1, s2, s3, s4, s5⟩, sf⟩ := XT.out w1 HB1.out
  obtain ⟨m1, m2, m3, m4⟩ := HC.out w1 HB1.out
  go_wp2_with (fail)
  refine (HSus.out _).mono ?_
  rintro q2 wx2 ⟨rfl, rfl⟩
  obtain ⟨wd, hwd, hFd, hLd, hNd⟩ := (XR.out w1 HB1.out).store6 0 0 0 0 0 none 0 0
  obtain ⟨⟨p0, p1, p2, p3, p4, p5⟩, _⟩ := hFd
  obtain ⟨⟨r0, r1, r2, r3, r4, r5⟩, rf⟩ := XR.out w1 HB1.out
  have rf0 := rf 0 (by omega)
  have rf1 := rf 1 (by omega)
  have rf2 := rf 2 (by omega)
  have rf3 := rf 3 (by omega)
  have rf4 := rf 4 (by omega)
  have rf5 := rf 5 (by omega)
  go_wp2_with (fail)
  exact bodyPost_ret (v := .tuple #[trm 0 0 0 0 0 none 0 0, .bool false]) (by simp [results, Try.results20, go_sem, p0, p1, p2, p3, p4, p5]) rfl ⟨none, 0, rfl, RP.nil_ _ _ _, (HB0.out.trans (HB1.out.mono HB0.out.size)).trans (hLd _ (by omega))⟩
set_option maxHeartbeats 4000000 in
theorem rput_t1 (ub ud ut uu us : Int) (bb off c : Nat) (b d t u s : Int) (B : Option Addr) (e : Nat) (l : List PT) (w : World) (h' : RP w w.heap.size B l.length l) (hbB : bb < w.heap.size) (c1 : w.cell? ⟨bb, off, none⟩ = some (.int .i64 0)) (c2 : w.cell? ⟨bb, off + 1, none⟩ = some (.int .i64 0)) (c3 : w.cell? ⟨bb, off + 2, none⟩ = some (.int .i64 21)) (c4 : w.cell? ⟨bb, off + 3, none⟩ = some (.int .i64 0)) (hpt : plainT b d t u = true) (h1 : Sm us) (h2 : ¬ Sm s) :
    Calls Try.prog 20 #[trm ub ud ut uu us (some ⟨bb, off, none⟩) 1 c, trm b d t u s B l.length e] w (PutOut zTB w) := by
  obtain ⟨w0, hw0⟩ : ∃ w0, ((w.alloc (.cells (tcells ub ud ut uu us (some ⟨bb, off, none⟩) 1 c) 24)).alloc (.cells (tcells b d t u s B l.length e) 24)).alloc (.cells (tcells 0 0 0 0 0 none 0 0) 24) = w0 := ⟨_, rfl⟩
  have hs0 : w0.heap.size = w.heap.size + 1 + 1 + 1 := by rw [← hw0]; simp
  have hb0 : Below w.heap.size w w0 := by rw [← hw0]; exact (((Below.refl _ _).alloc (Nat.le_refl _) _).alloc (by simp) _).alloc (by simp only [World.size_alloc]; omega) _
  have hXU : BoxF w0 w.heap.size ub ud ut uu us (some ⟨bb, off, none⟩) 1 c := by
    rw [← hw0]
    exact ((BoxF.new w ub ud ut uu us (some ⟨bb, off, none⟩) 1 c _).keep ((Below.refl _ _).alloc (Nat.le_refl _) _) (by simp)).keep ((Below.refl _ _).alloc (Nat.le_refl _) _) (by simp only [World.size_alloc]; omega)
  have hXT : BoxF w0 (w.heap.size + 1) b d t u s B l.length e := by
    rw [← hw0]
    have q := (BoxF.new (w.alloc (.cells (tcells ub ud ut uu us (some ⟨bb, off, none⟩) 1 c) 24)) b d t u s B l.length e 24).keep ((Below.refl _ _).alloc (Nat.le_refl _) (.cells (tcells 0 0 0 0 0 none 0 0) 24)) (by simp)
    simpa using q
  have hXR : BoxF w0 (w.heap.size + 1 + 1) 0 0 0 0 0 none 0 0 := by
    rw [← hw0]
    have q := BoxF.new ((w.alloc (.cells (tcells ub ud ut uu us (some ⟨bb, off, none⟩) 1 c) 24)).alloc (.cells (tcells b d t u s B l.length e) 24)) 0 0 0 0 0 none 0 0 24
    simpa using q
  have XU := Lib.hid (fun W (hb : Below w0.heap.size w0 W) => show BoxF W w.heap.size ub ud ut uu us (some ⟨bb, off, none⟩) 1 c from hXU.keep hb (by omega))
  have XT := Lib.hid (fun W (hb : Below w0.heap.size w0 W) => show BoxF W (w.heap.size + 1) b d t u s B l.length e from hXT.keep hb (by omega))
  have XR := Lib.hid (fun W (hb : Below w0.heap.size w0 W) => show BoxF W (w.heap.size + 1 + 1) 0 0 0 0 0 none 0 0 from hXR.keep hb (by omega))
  have H' := Lib.hid (h'.belowM hb0)
  have HB0 := Lib.hid hb0
  have HC := Lib.hid (show ∀ W, Below w0.heap.size w0 W → W.cell? ⟨bb, off, none⟩ = some (.int .i64 0) ∧ W.cell? ⟨bb, off + 1, none⟩ = some (.int .i64 0) ∧ W.cell? ⟨bb, off + 2, none⟩ = some (.int .i64 21) ∧ W.cell? ⟨bb, off + 3, none⟩ = some (.int .i64 0) from fun W hW => by
    have hw := HB0.out.trans (hW.mono HB0.out.size)
    exact ⟨(hw.cell hbB).trans c1, (hw.cell hbB).trans c2, (hw.cell hbB).trans c3, (hw.cell hbB).trans c4⟩)
  clear c1 c2 c3 c4
  have hb00 := Below.refl w0.heap.size w0
  have HALL := Lib.hid (fun W => all_any 0 0 21 0 W)
  rw [show takesAll (0, 0, 21, 0) = true from rfl] at HALL
  have HSus := Lib.hid (fun W => rsmall_any us W)
  rw [decide_eq_true h1] at HSus
  have HSs := Lib.hid (fun W => rsmall_any s W)
  rw [decide_eq_false h2] at HSs
  have HPT := Lib.hid (fun W => rplain_any b d t u s B l.length e W)
  rw [hpt] at HPT
  obtain ⟨⟨u0, u1, u2, u3, u4, u5⟩, uf⟩ := XU.out w0 hb00
  obtain ⟨⟨s0, s1, s2, s3, s4, s5⟩, sf⟩ := XT.out w0 hb00
  obtain ⟨m1, m2, m3, m4⟩ := HC.out w0 hb00
  clear hb0 hXU hXT hXR
  go_enter Try.func20, Try.ntmps20
  go_wp2_with (fail)
  refine (HALL.out _).mono ?_
  rintro q1 w1 ⟨rfl, hb1⟩
  have HB1 := Lib.hid hb1
  clear hb1 u0 u1 u2 u3 u4 u5 uf s0 s1 s2 s3 s4 s5 sf m1 m2 m3 m4
  obtain ⟨⟨u0, u1, u2, u3, u4, u5⟩, uf⟩ := XU.out w1 HB1.out
  obtain ⟨⟨s0, s1, s2, s3, s4, s5⟩, sf⟩ := XT.out w1 HB1.out
  obtain ⟨m1, m2, m3, m4⟩ := HC.out w1 HB1.out
  go_wp2_with (fail)
  refine (HSus.out _).mono ?_
  rintro q2 wx2 ⟨rfl, rfl⟩
  go_wp2_with (fail)
  refine (HPT.out _).mono ?_
  rintro q3 w3 ⟨rfl, hb3⟩
  have HB3 := Lib.hid (below_next HB1.out hb3)
  clear hb3 u0 u1 u2 u3 u4 u5 uf s0 s1 s2 s3 s4 s5 sf m1 m2 m3 m4
  obtain ⟨⟨u0, u1, u2, u3, u4, u5⟩, uf⟩ := XU.out w3 HB3.out
  obtain ⟨⟨s0, s1, s2, s3, s4, s5⟩, sf⟩ := XT.out w3 HB3.out
  obtain ⟨m1, m2, m3, m4⟩ := HC.out w3 HB3.out
  go_wp2_with (fail)
  refine (HSs.out _).mono ?_
  rintro q4 wx4 ⟨rfl, rfl⟩
  obtain ⟨wd, hwd, hFd, hLd, hNd⟩ := (XR.out w3 HB3.out).store6 0 0 0 0 0 none 0 0
  obtain ⟨⟨p0, p1, p2, p3, p4, p5⟩, _⟩ := hFd
  obtain ⟨⟨r0, r1, r2, r3, r4, r5⟩, rf⟩ := XR.out w3 HB3.out
  have rf0 := rf 0 (by omega)
  have rf1 := rf 1 (by omega)
  have rf2 := rf 2 (by omega)
  have rf3 := rf 3 (by omega)
  have rf4 := rf 4 (by omega)
  have rf5 := rf 5 (by omega)
  go_wp2_with (fail)
  exact bodyPost_ret (v := .tuple #[trm 0 0 0 0 0 none 0 0, .bool false]) (by simp [results, Try.results20, go_sem, p0, p1, p2, p3, p4, p5]) rfl ⟨none, 0, rfl, RP.nil_ _ _ _, (HB0.out.trans (HB3.out.mono HB0.out.size)).trans (hLd _ (by omega))⟩
set_option maxHeartbeats 4000000 in
theorem rput_t2 (ub ud ut uu us : Int) (bb off c : Nat) (b d t u s : Int) (B : Option Addr) (e : Nat) (l : List PT) (w : World) (h' : RP w w.heap.size B l.length l) (hbB : bb < w.heap.size) (c1 : w.cell? ⟨bb, off, none⟩ = some (.int .i64 0)) (c2 : w.cell? ⟨bb, off + 1, none⟩ = some (.int .i64 0)) (c3 : w.cell? ⟨bb, off + 2, none⟩ = some (.int .i64 21)) (c4 : w.cell? ⟨bb, off + 3, none⟩ = some (.int .i64 0)) (hpt : plainT b d t u = true) (h1 : Sm us) (h2 : Sm s) (h3 : ¬ Sm (us + s)) :
    Calls Try.prog 20 #[trm ub ud ut uu us (some ⟨bb, off, none⟩) 1 c, trm b d t u s B l.length e] w (PutOut zTB w) := by
  obtain ⟨w0, hw0⟩ : ∃ w0, ((w.alloc (.cells (tcells ub ud ut uu us (some ⟨bb, off, none⟩) 1 c) 24)).alloc (.cells (tcells b d t u s B l.length e) 24)).alloc (.cells (tcells 0 0 0 0 0 none 0 0) 24) = w0 := ⟨_, rfl⟩
  have hs0 : w0.heap.size = w.heap.size + 1 + 1 + 1 := by rw [← hw0]; simp
  have hb0 : Below w.heap.size w w0 := by rw [← hw0]; exact (((Below.refl _ _).alloc (Nat.le_refl _) _).alloc (by simp) _).alloc (by simp only [World.size_alloc]; omega) _
  have hXU : BoxF w0 w.heap.size ub ud ut uu us (some ⟨bb, off, none⟩) 1 c := by
    rw [← hw0]
    exact ((BoxF.new w ub ud ut uu us (some ⟨bb, off, none⟩) 1 c _).keep ((Below.refl _ _).alloc (Nat.le_refl _) _) (by simp)).keep ((Below.refl _ _).alloc (Nat.le_refl _) _) (by simp only [World.size_alloc]; omega)
  have hXT : BoxF w0 (w.heap.size + 1) b d t u s B l.length e := by
    rw [← hw0]
    have q := (BoxF.new (w.alloc (.cells (tcells ub ud ut uu us (some ⟨bb, off, none⟩) 1 c) 24)) b d t u s B l.length e 24).keep ((Below.refl _ _).alloc (Nat.le_refl _) (.cells (tcells 0 0 0 0 0 none 0 0) 24)) (by simp)
    simpa using q
  have hXR : BoxF w0 (w.heap.size + 1 + 1) 0 0 0 0 0 none 0 0 := by
    rw [← hw0]
    have q := BoxF.new ((w.alloc (.cells (tcells ub ud ut uu us (some ⟨bb, off, none⟩) 1 c) 24)).alloc (.cells (tcells b d t u s B l.length e) 24)) 0 0 0 0 0 none 0 0 24
    simpa using q
  have XU := Lib.hid (fun W (hb : Below w0.heap.size w0 W) => show BoxF W w.heap.size ub ud ut uu us (some ⟨bb, off, none⟩) 1 c from hXU.keep hb (by omega))
  have XT := Lib.hid (fun W (hb : Below w0.heap.size w0 W) => show BoxF W (w.heap.size + 1) b d t u s B l.length e from hXT.keep hb (by omega))
  have XR := Lib.hid (fun W (hb : Below w0.heap.size w0 W) => show BoxF W (w.heap.size + 1 + 1) 0 0 0 0 0 none 0 0 from hXR.keep hb (by omega))
  have H' := Lib.hid (h'.belowM hb0)
  have HB0 := Lib.hid hb0
  have HC := Lib.hid (show ∀ W, Below w0.heap.size w0 W → W.cell? ⟨bb, off, none⟩ = some (.int .i64 0) ∧ W.cell? ⟨bb, off + 1, none⟩ = some (.int .i64 0) ∧ W.cell? ⟨bb, off + 2, none⟩ = some (.int .i64 21) ∧ W.cell? ⟨bb, off + 3, none⟩ = some (.int .i64 0) from fun W hW => by
    have hw := HB0.out.trans (hW.mono HB0.out.size)
    exact ⟨(hw.cell hbB).trans c1, (hw.cell hbB).trans c2, (hw.cell hbB).trans c3, (hw.cell hbB).trans c4⟩)
  clear c1 c2 c3 c4
  have hb00 := Below.refl w0.heap.size w0
  have HALL := Lib.hid (fun W => all_any 0 0 21 0 W)
  rw [show takesAll (0, 0, 21, 0) = true from rfl] at HALL
  have HSus := Lib.hid (fun W => rsmall_any us W)
  rw [decide_eq_true h1] at HSus
  have HSs := Lib.hid (fun W => rsmall_any s W)
  rw [decide_eq_true h2] at HSs
  have HSsum := Lib.hid (fun W => rsmall_any (us + s) W)
  rw [decide_eq_false h3] at HSsum
  have hwr : IntKind.i64.wrap (us + s) = (us + s) := sm_wrap h1 h2
  have HPT := Lib.hid (fun W => rplain_any b d t u s B l.length e W)
  rw [hpt] at HPT
  obtain ⟨⟨u0, u1, u2, u3, u4, u5⟩, uf⟩ := XU.out w0 hb00
  obtain ⟨⟨s0, s1, s2, s3, s4, s5⟩, sf⟩ := XT.out w0 hb00
  obtain ⟨m1, m2, m3, m4⟩ := HC.out w0 hb00
  clear hb0 hXU hXT hXR
  go_enter Try.func20, Try.ntmps20
  go_wp2_with (fail)
  refine (HALL.out _).mono ?_
  rintro q1 w1 ⟨rfl, hb1⟩
  have HB1 := Lib.hid hb1
  clear hb1 u0 u1 u2 u3 u4 u5 uf s0 s1 s2 s3 s4 s5 sf m1 m2 m3 m4
  obtain ⟨⟨u0, u1, u2, u3, u4, u5⟩, uf⟩ := XU.out w1 HB1.out
  obtain ⟨⟨s0, s1, s2, s3, s4, s5⟩, sf⟩ := XT.out w1 HB1.out
  obtain ⟨m1, m2, m3, m4⟩ := HC.out w1 HB1.out
  go_wp2_with (fail)
  refine (HSus.out _).mono ?_
  rintro q2 wx2 ⟨rfl, rfl⟩
  go_wp2_with (fail)
  refine (HPT.out _).mono ?_
  rintro q3 w3 ⟨rfl, hb3⟩
  have HB3 := Lib.hid (below_next HB1.out hb3)
  clear hb3 u0 u1 u2 u3 u4 u5 uf s0 s1 s2 s3 s4 s5 sf m1 m2 m3 m4
  obtain ⟨⟨u0, u1, u2, u3, u4, u5⟩, uf⟩ := XU.out w3 HB3.out
  obtain ⟨⟨s0, s1, s2, s3, s4, s5⟩, sf⟩ := XT.out w3 HB3.out
  obtain ⟨m1, m2, m3, m4⟩ := HC.out w3 HB3.out
  go_wp2_with (fail)
  refine (HSs.out _).mono ?_
  rintro q4 wx4 ⟨rfl, rfl⟩
  go_wp2_with (fail)
  refine (HSsum.out _).mono ?_
  rintro q5 wx5 ⟨rfl, rfl⟩
  obtain ⟨wd, hwd, hFd, hLd, hNd⟩ := (XR.out w3 HB3.out).store6 0 0 0 0 0 none 0 0
  obtain ⟨⟨p0, p1, p2, p3, p4, p5⟩, _⟩ := hFd
  obtain ⟨⟨r0, r1, r2, r3, r4, r5⟩, rf⟩ := XR.out w3 HB3.out
  have rf0 := rf 0 (by omega)
  have rf1 := rf 1 (by omega)
  have rf2 := rf 2 (by omega)
  have rf3 := rf 3 (by omega)
  have rf4 := rf 4 (by omega)
  have rf5 := rf 5 (by omega)
  go_wp2_with (fail)
  exact bodyPost_ret (v := .tuple #[trm 0 0 0 0 0 none 0 0, .bool false]) (by simp [results, Try.results20, go_sem, p0, p1, p2, p3, p4, p5]) rfl ⟨none, 0, rfl, RP.nil_ _ _ _, (HB0.out.trans (HB3.out.mono HB0.out.size)).trans (hLd _ (by omega))⟩
set_option maxHeartbeats 4000000 in
theorem rput_t3 (ub ud ut uu us : Int) (bb off c : Nat) (b d t u s : Int) (B : Option Addr) (e : Nat) (l : List PT) (w : World) (h' : RP w w.heap.size B l.length l) (hbB : bb < w.heap.size) (c1 : w.cell? ⟨bb, off, none⟩ = some (.int .i64 0)) (c2 : w.cell? ⟨bb, off + 1, none⟩ = some (.int .i64 0)) (c3 : w.cell? ⟨bb, off + 2, none⟩ = some (.int .i64 21)) (c4 : w.cell? ⟨bb, off + 3, none⟩ = some (.int .i64 0)) (hpt : plainT b d t u = true) (h1 : Sm us) (h2 : Sm s) (h3 : Sm (us + s)) :
    Calls Try.prog 20 #[trm ub ud ut uu us (some ⟨bb, off, none⟩) 1 c, trm b d t u s B l.length e] w (PutOut ⟨ub, ud, ut, uu, us + s, l, true⟩ w) := by
  obtain ⟨w0, hw0⟩ : ∃ w0, ((w.alloc (.cells (tcells ub ud ut uu us (some ⟨bb, off, none⟩) 1 c) 24)).alloc (.cells (tcells b d t u s B l.length e) 24)).alloc (.cells (tcells 0 0 0 0 0 none 0 0) 24) = w0 := ⟨_, rfl⟩
  have hs0 : w0.heap.size = w.heap.size + 1 + 1 + 1 := by rw [← hw0]; simp
  have hb0 : Below w.heap.size w w0 := by rw [← hw0]; exact (((Below.refl _ _).alloc (Nat.le_refl _) _).alloc (by simp) _).alloc (by simp only [World.size_alloc]; omega) _
  have hXU : BoxF w0 w.heap.size ub ud ut uu us (some ⟨bb, off, none⟩) 1 c := by
    rw [← hw0]
    exact ((BoxF.new w ub ud ut uu us (some ⟨bb, off, none⟩) 1 c _).keep ((Below.refl _ _).alloc (Nat.le_refl _) _) (by simp)).keep ((Below.refl _ _).alloc (Nat.le_refl _) _) (by simp only [World.size_alloc]; omega)
  have hXT : BoxF w0 (w.heap.size + 1) b d t u s B l.length e := by
    rw [← hw0]
    have q := (BoxF.new (w.alloc (.cells (tcells ub ud ut uu us (some ⟨bb, off, none⟩) 1 c) 24)) b d t u s B l.length e 24).keep ((Below.refl _ _).alloc (Nat.le_refl _) (.cells (tcells 0 0 0 0 0 none 0 0) 24)) (by simp)
    simpa using q
  have hXR : BoxF w0 (w.heap.size + 1 + 1) 0 0 0 0 0 none 0 0 := by
    rw [← hw0]
    have q := BoxF.new ((w.alloc (.cells (tcells ub ud ut uu us (some ⟨bb, off, none⟩) 1 c) 24)).alloc (.cells (tcells b d t u s B l.length e) 24)) 0 0 0 0 0 none 0 0 24
    simpa using q
  have XU := Lib.hid (fun W (hb : Below w0.heap.size w0 W) => show BoxF W w.heap.size ub ud ut uu us (some ⟨bb, off, none⟩) 1 c from hXU.keep hb (by omega))
  have XT := Lib.hid (fun W (hb : Below w0.heap.size w0 W) => show BoxF W (w.heap.size + 1) b d t u s B l.length e from hXT.keep hb (by omega))
  have XR := Lib.hid (fun W (hb : Below w0.heap.size w0 W) => show BoxF W (w.heap.size + 1 + 1) 0 0 0 0 0 none 0 0 from hXR.keep hb (by omega))
  have H' := Lib.hid (h'.belowM hb0)
  have HB0 := Lib.hid hb0
  have HC := Lib.hid (show ∀ W, Below w0.heap.size w0 W → W.cell? ⟨bb, off, none⟩ = some (.int .i64 0) ∧ W.cell? ⟨bb, off + 1, none⟩ = some (.int .i64 0) ∧ W.cell? ⟨bb, off + 2, none⟩ = some (.int .i64 21) ∧ W.cell? ⟨bb, off + 3, none⟩ = some (.int .i64 0) from fun W hW => by
    have hw := HB0.out.trans (hW.mono HB0.out.size)
    exact ⟨(hw.cell hbB).trans c1, (hw.cell hbB).trans c2, (hw.cell hbB).trans c3, (hw.cell hbB).trans c4⟩)
  clear c1 c2 c3 c4
  have hb00 := Below.refl w0.heap.size w0
  have HALL := Lib.hid (fun W => all_any 0 0 21 0 W)
  rw [show takesAll (0, 0, 21, 0) = true from rfl] at HALL
  have HSus := Lib.hid (fun W => rsmall_any us W)
  rw [decide_eq_true h1] at HSus
  have HSs := Lib.hid (fun W => rsmall_any s W)
  rw [decide_eq_true h2] at HSs
  have HSsum := Lib.hid (fun W => rsmall_any (us + s) W)
  rw [decide_eq_true h3] at HSsum
  have hwr : IntKind.i64.wrap (us + s) = (us + s) := sm_wrap h1 h2
  have HPT := Lib.hid (fun W => rplain_any b d t u s B l.length e W)
  rw [hpt] at HPT
  obtain ⟨⟨u0, u1, u2, u3, u4, u5⟩, uf⟩ := XU.out w0 hb00
  obtain ⟨⟨s0, s1, s2, s3, s4, s5⟩, sf⟩ := XT.out w0 hb00
  obtain ⟨m1, m2, m3, m4⟩ := HC.out w0 hb00
  have HBK := Lib.hid (show ∀ b off, B = some ⟨b, off, none⟩ → l.length = 0 ∨ b < w.heap.size from fun b0 off hB => by
    rcases Nat.eq_zero_or_pos l.length with h0 | h0
    · exact .inl h0
    · obtain ⟨b1, o1, e1, h1, _⟩ := h'.2 h0
      rw [e1] at hB
      injection hB with hB
      injection hB with hB _ _
      exact .inr (by omega))
  clear hb0 hXU hXT hXR
  go_enter Try.func20, Try.ntmps20
  go_wp2_with (fail)
  refine (HALL.out _).mono ?_
  rintro q1 w1 ⟨rfl, hb1⟩
  have HB1 := Lib.hid hb1
  clear hb1 u0 u1 u2 u3 u4 u5 uf s0 s1 s2 s3 s4 s5 sf m1 m2 m3 m4
  obtain ⟨⟨u0, u1, u2, u3, u4, u5⟩, uf⟩ := XU.out w1 HB1.out
  obtain ⟨⟨s0, s1, s2, s3, s4, s5⟩, sf⟩ := XT.out w1 HB1.out
  obtain ⟨m1, m2, m3, m4⟩ := HC.out w1 HB1.out
  go_wp2_with (fail)
  refine (HSus.out _).mono ?_
  rintro q2 wx2 ⟨rfl, rfl⟩
  go_wp2_with (fail)
  refine (HPT.out _).mono ?_
  rintro q3 w3 ⟨rfl, hb3⟩
  have HB3 := Lib.hid (below_next HB1.out hb3)
  clear hb3 u0 u1 u2 u3 u4 u5 uf s0 s1 s2 s3 s4 s5 sf m1 m2 m3 m4
  obtain ⟨⟨u0, u1, u2, u3, u4, u5⟩, uf⟩ := XU.out w3 HB3.out
  obtain ⟨⟨s0, s1, s2, s3, s4, s5⟩, sf⟩ := XT.out w3 HB3.out
  obtain ⟨m1, m2, m3, m4⟩ := HC.out w3 HB3.out
  go_wp2_with (fail)
  refine (HSs.out _).mono ?_
  rintro q4 wx4 ⟨rfl, rfl⟩
  go_wp2_with (fail)
  refine (HSsum.out _).mono ?_
  rintro q5 wx5 ⟨rfl, rfl⟩
  obtain ⟨wd, hwd, hFd, hLd, hNd⟩ := (XR.out w3 HB3.out).store6 ub ud ut uu (us + s) B l.length e
  obtain ⟨⟨p0, p1, p2, p3, p4, p5⟩, _⟩ := hFd
  obtain ⟨⟨r0, r1, r2, r3, r4, r5⟩, rf⟩ := XR.out w3 HB3.out
  have rf0 := rf 0 (by omega)
  have rf1 := rf 1 (by omega)
  have rf2 := rf 2 (by omega)
  have rf3 := rf 3 (by omega)
  have rf4 := rf 4 (by omega)
  have rf5 := rf 5 (by omega)
  go_wp2_with (fail)
  exact bodyPost_ret (v := .tuple #[trm ub ud ut uu (us + s) B l.length e, .bool true]) (by simp [results, Try.results20, go_sem, p0, p1, p2, p3, p4, p5]) rfl ⟨B, e, rfl, ((H'.out.belowM HB3.out).far0 hNd (fun b off hA => by have hq := HBK.out b off hA; omega)).more (by have := hNd.2; omega), (HB0.out.trans (HB3.out.mono HB0.out.size)).trans (hLd _ (by omega))⟩
set_option maxHeartbeats 4000000 in
theorem rput_u0 (ub ud ut uu us : Int) (bb off c : Nat) (b d t u s : Int) (B : Option Addr) (e : Nat) (l : List PT) (w : World) (h' : RP w w.heap.size B l.length l) (hbB : bb < w.heap.size) (c1 : w.cell? ⟨bb, off, none⟩ = some (.int .i64 0)) (c2 : w.cell? ⟨bb, off + 1, none⟩ = some (.int .i64 0)) (c3 : w.cell? ⟨bb, off + 2, none⟩ = some (.int .i64 21)) (c4 : w.cell? ⟨bb, off + 3, none⟩ = some (.int .i64 0)) (hpt : plainT b d t u = false) (h1 : Sm us) (hpu : plainT ub ud ut uu = false) :
    Calls Try.prog 20 #[trm ub ud ut uu us (some ⟨bb, off, none⟩) 1 c, trm b d t u s B l.length e] w (PutOut zTB w) := by
  obtain ⟨w0, hw0⟩ : ∃ w0, ((w.alloc (.cells (tcells ub ud ut uu us (some ⟨bb, off, none⟩) 1 c) 24)).alloc (.cells (tcells b d t u s B l.length e) 24)).alloc (.cells (tcells 0 0 0 0 0 none 0 0) 24) = w0 := ⟨_, rfl⟩
  have hs0 : w0.heap.size = w.heap.size + 1 + 1 + 1 := by rw [← hw0]; simp
  have hb0 : Below w.heap.size w w0 := by rw [← hw0]; exact (((Below.refl _ _).alloc (Nat.le_refl _) _).alloc (by simp) _).alloc (by simp only [World.size_alloc]; omega) _
  have hXU : BoxF w0 w.heap.size ub ud ut uu us (some ⟨bb, off, none⟩) 1 c := by
    rw [← hw0]
    exact ((BoxF.new w ub ud ut uu us (some ⟨bb, off, none⟩) 1 c _).keep ((Below.refl _ _).alloc (Nat.le_refl _) _) (by simp)).keep ((Below.refl _ _).alloc (Nat.le_refl _) _) (by simp only [World.size_alloc]; omega)
  have hXT : BoxF w0 (w.heap.size + 1) b d t u s B l.length e := by
    rw [← hw0]
    have q := (BoxF.new (w.alloc (.cells (tcells ub ud ut uu us (some ⟨bb, off, none⟩) 1 c) 24)) b d t u s B l.length e 24).keep ((Below.refl _ _).alloc (Nat.le_refl _) (.cells (tcells 0 0 0 0 0 none 0 0) 24)) (by simp)
    simpa using q
  have hXR : BoxF w0 (w.heap.size + 1 + 1) 0 0 0 0 0 none 0 0 := by
    rw [← hw0]
    have q := BoxF.new ((w.alloc (.cells (tcells ub ud ut uu us (some ⟨bb, off, none⟩) 1 c) 24)).alloc (.cells (tcells b d t u s B l.length e) 24)) 0 0 0 0 0 none 0 0 24
    simpa using q
  have XU := Lib.hid (fun W (hb : Below w0.heap.size w0 W) => show BoxF W w.heap.size ub ud ut uu us (some ⟨bb, off, none⟩) 1 c from hXU.keep hb (by omega))
  have XT := Lib.hid (fun W (hb : Below w0.heap.size w0 W) => show BoxF W (w.heap.size + 1) b d t u s B l.length e from hXT.keep hb (by omega))
  have XR := Lib.hid (fun W (hb : Below w0.heap.size w0 W) => show BoxF W (w.heap.size + 1 + 1) 0 0 0 0 0 none 0 0 from hXR.keep hb (by omega))
  have H' := Lib.hid (h'.belowM hb0)
  have HB0 := Lib.hid hb0
  have HC := Lib.hid (show ∀ W, Below w0.heap.size w0 W → W.cell? ⟨bb, off, none⟩ = some (.int .i64 0) ∧ W.cell? ⟨bb, off + 1, none⟩ = some (.int .i64 0) ∧ W.cell? ⟨bb, off + 2, none⟩ = some (.int .i64 21) ∧ W.cell? ⟨bb, off + 3, none⟩ = some (.int .i64 0) from fun W hW => by
    have hw := HB0.out.trans (hW.mono HB0.out.size)
    exact ⟨(hw.cell hbB).trans c1, (hw.cell hbB).trans c2, (hw.cell hbB).trans c3, (hw.cell hbB).trans c4⟩)
  clear c1 c2 c3 c4
  have hb00 := Below.refl w0.heap.size w0
  have HALL := Lib.hid (fun W => all_any 0 0 21 0 W)
  rw [show takesAll (0, 0, 21, 0) = true from rfl] at HALL
  have HSus := Lib.hid (fun W => rsmall_any us W)
  rw [decide_eq_true h1] at HSus
  have HPT := Lib.hid (fun W => rplain_any b d t u s B l.length e W)
  rw [hpt] at HPT
  have HPU := Lib.hid (fun W => rplain_any ub ud ut uu us (some ⟨bb, off, none⟩) 1 c W)
  rw [hpu] at HPU
  obtain ⟨⟨u0, u1, u2, u3, u4, u5⟩, uf⟩ := XU.out w0 hb00
  obtain ⟨⟨s0, s1, s2, s3, s4, s5⟩, sf⟩ := XT.out w0 hb00
  obtain ⟨m1, m2, m3, m4⟩ := HC.out w0 hb00
  clear hb0 hXU hXT hXR
  go_enter Try.func20, Try.ntmps20
  go_wp2_with (fail)
  refine (HALL.out _).mono ?_
  rintro q1 w1 ⟨rfl, hb1⟩
  have HB1 := Lib.hid hb1
  clear hb1 u0 u1 u2 u3 u4 u5 uf s0 s1 s2 s3 s4 s5 sf m1 m2 m3 m4
  obtain ⟨⟨u0, u1, u2, u3, u4, u5⟩, uf⟩ := XU.out w1 HB1.out
  obtain ⟨⟨s0, s1, s2, s3, s4, s5⟩, sf⟩ := XT.out w1 HB1.out
  obtain ⟨m1, m2, m3, m4⟩ := HC.out w1 HB1.out
  go_wp2_with (fail)
  refine (HSus.out _).mono ?_
  rintro q2 wx2 ⟨rfl, rfl⟩
  go_wp2_with (fail)
  refine (HPT.out _).mono ?_
  rintro q3 w3 ⟨rfl, hb3⟩
  have HB3 := Lib.hid (below_next HB1.out hb3)
  clear hb3 u0 u1 u2 u3 u4 u5 uf s0 s1 s2 s3 s4 s5 sf m1 m2 m3 m4
  obtain ⟨⟨u0, u1, u2, u3, u4, u5⟩, uf⟩ := XU.out w3 HB3.out
  obtain ⟨⟨s0, s1, s2, s3, s4, s5⟩, sf⟩ := XT.out w3 HB3.out
  obtain ⟨m1, m2, m3, m4⟩ := HC.out w3 HB3.out
  go_wp2_with (fail)
  refine (HPU.out _).mono ?_
  rintro q4 w4 ⟨rfl, hb4⟩
  have HB4 := Lib.hid (below_next HB3.out hb4)
  clear hb4 u0 u1 u2 u3 u4 u5 uf s0 s1 s2 s3 s4 s5 sf m1 m2 m3 m4
  obtain ⟨⟨u0, u1, u2, u3, u4, u5⟩, uf⟩ := XU.out w4 HB4.out
  obtain ⟨⟨s0, s1, s2, s3, s4, s5⟩, sf⟩ := XT.out w4 HB4.out
  obtain ⟨m1, m2, m3, m4⟩ := HC.out w4 HB4.out
  obtain ⟨wd, hwd, hFd, hLd, hNd⟩ := (XR.out w4 HB4.out).store6 0 0 0 0 0 none 0 0
  obtain ⟨⟨p0, p1, p2, p3, p4, p5⟩, _⟩ := hFd
  obtain ⟨⟨r0, r1, r2, r3, r4, r5⟩, rf⟩ := XR.out w4 HB4.out
  have rf0 := rf 0 (by omega)
  have rf1 := rf 1 (by omega)
  have rf2 := rf 2 (by omega)
  have rf3 := rf 3 (by omega)
  have rf4 := rf 4 (by omega)
  have rf5 := rf 5 (by omega)
  go_wp2_with (fail)
  exact bodyPost_ret (v := .tuple #[trm 0 0 0 0 0 none 0 0, .bool false]) (by simp [results, Try.results20, go_sem, p0, p1, p2, p3, p4, p5]) rfl ⟨none, 0, rfl, RP.nil_ _ _ _, (HB0.out.trans (HB4.out.mono HB0.out.size)).trans (hLd _ (by omega))⟩
set_option maxHeartbeats 4000000 in
theorem rput_u1 (ub ud ut uu us : Int) (bb off c : Nat) (b d t u s : Int) (B : Option Addr) (e : Nat) (l : List PT) (w : World) (h' : RP w w.heap.size B l.length l) (hbB : bb < w.heap.size) (c1 : w.cell? ⟨bb, off, none⟩ = some (.int .i64 0)) (c2 : w.cell? ⟨bb, off + 1, none⟩ = some (.int .i64 0)) (c3 : w.cell? ⟨bb, off + 2, none⟩ = some (.int .i64 21)) (c4 : w.cell? ⟨bb, off + 3, none⟩ = some (.int .i64 0)) (hpt : plainT b d t u = false) (h1 : Sm us) (hpu : plainT ub ud ut uu = true) (h2 : ¬ Sm b) :
    Calls Try.prog 20 #[trm ub ud ut uu us (some ⟨bb, off, none⟩) 1 c, trm b d t u s B l.length e] w (PutOut zTB w) := by
  obtain ⟨w0, hw0⟩ : ∃ w0, ((w.alloc (.cells (tcells ub ud ut uu us (some ⟨bb, off, none⟩) 1 c) 24)).alloc (.cells (tcells b d t u s B l.length e) 24)).alloc (.cells (tcells 0 0 0 0 0 none 0 0) 24) = w0 := ⟨_, rfl⟩
  have hs0 : w0.heap.size = w.heap.size + 1 + 1 + 1 := by rw [← hw0]; simp
  have hb0 : Below w.heap.size w w0 := by rw [← hw0]; exact (((Below.refl _ _).alloc (Nat.le_refl _) _).alloc (by simp) _).alloc (by simp only [World.size_alloc]; omega) _
  have hXU : BoxF w0 w.heap.size ub ud ut uu us (some ⟨bb, off, none⟩) 1 c := by
    rw [← hw0]
    exact ((BoxF.new w ub ud ut uu us (some ⟨bb, off, none⟩) 1 c _).keep ((Below.refl _ _).alloc (Nat.le_refl _) _) (by simp)).keep ((Below.refl _ _).alloc (Nat.le_refl _) _) (by simp only [World.size_alloc]; omega)
  have hXT : BoxF w0 (w.heap.size + 1) b d t u s B l.length e := by
    rw [← hw0]
    have q := (BoxF.new (w.alloc (.cells (tcells ub ud ut uu us (some ⟨bb, off, none⟩) 1 c) 24)) b d t u s B l.length e 24).keep ((Below.refl _ _).alloc (Nat.le_refl _) (.cells (tcells 0 0 0 0 0 none 0 0) 24)) (by simp)
    simpa using q
  have hXR : BoxF w0 (w.heap.size + 1 + 1) 0 0 0 0 0 none 0 0 := by
    rw [← hw0]
    have q := BoxF.new ((w.alloc (.cells (tcells ub ud ut uu us (some ⟨bb, off, none⟩) 1 c) 24)).alloc (.cells (tcells b d t u s B l.length e) 24)) 0 0 0 0 0 none 0 0 24
    simpa using q
  have XU := Lib.hid (fun W (hb : Below w0.heap.size w0 W) => show BoxF W w.heap.size ub ud ut uu us (some ⟨bb, off, none⟩) 1 c from hXU.keep hb (by omega))
  have XT := Lib.hid (fun W (hb : Below w0.heap.size w0 W) => show BoxF W (w.heap.size + 1) b d t u s B l.length e from hXT.keep hb (by omega))
  have XR := Lib.hid (fun W (hb : Below w0.heap.size w0 W) => show BoxF W (w.heap.size + 1 + 1) 0 0 0 0 0 none 0 0 from hXR.keep hb (by omega))
  have H' := Lib.hid (h'.belowM hb0)
  have HB0 := Lib.hid hb0
  have HC := Lib.hid (show ∀ W, Below w0.heap.size w0 W → W.cell? ⟨bb, off, none⟩ = some (.int .i64 0) ∧ W.cell? ⟨bb, off + 1, none⟩ = some (.int .i64 0) ∧ W.cell? ⟨bb, off + 2, none⟩ = some (.int .i64 21) ∧ W.cell? ⟨bb, off + 3, none⟩ = some (.int .i64 0) from fun W hW => by
    have hw := HB0.out.trans (hW.mono HB0.out.size)
    exact ⟨(hw.cell hbB).trans c1, (hw.cell hbB).trans c2, (hw.cell hbB).trans c3, (hw.cell hbB).trans c4⟩)
  clear c1 c2 c3 c4
  have hb00 := Below.refl w0.heap.size w0
  have HALL := Lib.hid (fun W => all_any 0 0 21 0 W)
  rw [show takesAll (0, 0, 21, 0) = true from rfl] at HALL
  have HSus := Lib.hid (fun W => rsmall_any us W)
  rw [decide_eq_true h1] at HSus
  have HSb := Lib.hid (fun W => rsmall_any b W)
  rw [decide_eq_false h2] at HSb
  have HPT := Lib.hid (fun W => rplain_any b d t u s B l.length e W)
  rw [hpt] at HPT
  have HPU := Lib.hid (fun W => rplain_any ub ud ut uu us (some ⟨bb, off, none⟩) 1 c W)
  rw [hpu] at HPU
  obtain ⟨⟨u0, u1, u2, u3, u4, u5⟩, uf⟩ := XU.out w0 hb00
  obtain ⟨⟨s0, s1, s2, s3, s4, s5⟩, sf⟩ := XT.out w0 hb00
  obtain ⟨m1, m2, m3, m4⟩ := HC.out w0 hb00
  clear hb0 hXU hXT hXR
  go_enter Try.func20, Try.ntmps20
  go_wp2_with (fail)
  refine (HALL.out _).mono ?_
  rintro q1 w1 ⟨rfl, hb1⟩
  have HB1 := Lib.hid hb1
  clear hb1 u0 u1 u2 u3 u4 u5 uf s0 s1 s2 s3 s4 s5 sf m1 m2 m3 m4
  obtain ⟨⟨u0, u1, u2, u3, u4, u5⟩, uf⟩ := XU.out w1 HB1.out
  obtain ⟨⟨s0, s1, s2, s3, s4, s5⟩, sf⟩ := XT.out w1 HB1.out
  obtain ⟨m1, m2, m3, m4⟩ := HC.out w1 HB1.out
  go_wp2_with (fail)
  refine (HSus.out _).mono ?_
  rintro q2 wx2 ⟨rfl, rfl⟩
  go_wp2_with (fail)
  refine (HPT.out _).mono ?_
  rintro q3 w3 ⟨rfl, hb3⟩
  have HB3 := Lib.hid (below_next HB1.out hb3)
  clear hb3 u0 u1 u2 u3 u4 u5 uf s0 s1 s2 s3 s4 s5 sf m1 m2 m3 m4
  obtain ⟨⟨u0, u1, u2, u3, u4, u5⟩, uf⟩ := XU.out w3 HB3.out
  obtain ⟨⟨s0, s1, s2, s3, s4, s5⟩, sf⟩ := XT.out w3 HB3.out
  obtain ⟨m1, m2, m3, m4⟩ := HC.out w3 HB3.out
  go_wp2_with (fail)
  refine (HPU.out _).mono ?_
  rintro q4 w4 ⟨rfl, hb4⟩
  have HB4 := Lib.hid (below_next HB3.out hb4)
  clear hb4 u0 u1 u2 u3 u4 u5 uf s0 s1 s2 s3 s4 s5 sf m1 m2 m3 m4
  obtain ⟨⟨u0, u1, u2, u3, u4, u5⟩, uf⟩ := XU.out w4 HB4.out
  obtain ⟨⟨s0, s1, s2, s3, s4, s5⟩, sf⟩ := XT.out w4 HB4.out
  obtain ⟨m1, m2, m3, m4⟩ := HC.out w4 HB4.out
  go_wp2_with (fail)
  refine (HSb.out _).mono ?_
  rintro q5 wx5 ⟨rfl, rfl⟩
  obtain ⟨wd, hwd, hFd, hLd, hNd⟩ := (XR.out w4 HB4.out).store6 0 0 0 0 0 none 0 0
  obtain ⟨⟨p0, p1, p2, p3, p4, p5⟩, _⟩ := hFd
  obtain ⟨⟨r0, r1, r2, r3, r4, r5⟩, rf⟩ := XR.out w4 HB4.out
  have rf0 := rf 0 (by omega)
  have rf1 := rf 1 (by omega)
  have rf2 := rf 2 (by omega)
  have rf3 := rf 3 (by omega)
  have rf4 := rf 4 (by omega)
  have rf5 := rf 5 (by omega)
  go_wp2_with (fail)
  exact bodyPost_ret (v := .tuple #[trm 0 0 0 0 0 none 0 0, .bool false]) (by simp [results, Try.results20, go_sem, p0, p1, p2, p3, p4, p5]) rfl ⟨none, 0, rfl, RP.nil_ _ _ _, (HB0.out.trans (HB4.out.mono HB0.out.size)).trans (hLd _ (by omega))⟩
set_option maxHeartbeats 4000000 in
theorem rput_u2 (ub ud ut uu us : Int) (bb off c : Nat) (b d t u s : Int) (B : Option Addr) (e : Nat) (l : List PT) (w : World) (h' : RP w w.heap.size B l.length l) (hbB : bb < w.heap.size) (c1 : w.cell? ⟨bb, off, none⟩ = some (.int .i64 0)) (c2 : w.cell? ⟨bb, off + 1, none⟩ = some (.int .i64 0)) (c3 : w.cell? ⟨bb, off + 2, none⟩ = some (.int .i64 21)) (c4 : w.cell? ⟨bb, off + 3, none⟩ = some (.int .i64 0)) (hpt : plainT b d t u = false) (h1 : Sm us) (hpu : plainT ub ud ut uu = true) (h2 : Sm b) (h3 : ¬ Sm (us + b)) :
    Calls Try.prog 20 #[trm ub ud ut uu us (some ⟨bb, off, none⟩) 1 c, trm b d t u s B l.length e] w (PutOut zTB w) := by
  obtain ⟨w0, hw0⟩ : ∃ w0, ((w.alloc (.cells (tcells ub ud ut uu us (some ⟨bb, off, none⟩) 1 c) 24)).alloc (.cells (tcells b d t u s B l.length e) 24)).alloc (.cells (tcells 0 0 0 0 0 none 0 0) 24) = w0 := ⟨_, rfl⟩
  have hs0 : w0.heap.size = w.heap.size + 1 + 1 + 1 := by rw [← hw0]; simp
  have hb0 : Below w.heap.size w w0 := by rw [← hw0]; exact (((Below.refl _ _).alloc (Nat.le_refl _) _).alloc (by simp) _).alloc (by simp only [World.size_alloc]; omega) _
  have hXU : BoxF w0 w.heap.size ub ud ut uu us (some ⟨bb, off, none⟩) 1 c := by
    rw [← hw0]
    exact ((BoxF.new w ub ud ut uu us (some ⟨bb, off, none⟩) 1 c _).keep ((Below.refl _ _).alloc (Nat.le_refl _) _) (by simp)).keep ((Below.refl _ _).alloc (Nat.le_refl _) _) (by simp only [World.size_alloc]; omega)
  have hXT : BoxF w0 (w.heap.size + 1) b d t u s B l.length e := by
    rw [← hw0]
    have q := (BoxF.new (w.alloc (.cells (tcells ub ud ut uu us (some ⟨bb, off, none⟩) 1 c) 24)) b d t u s B l.length e 24).keep ((Below.refl _ _).alloc (Nat.le_refl _) (.cells (tcells 0 0 0 0 0 none 0 0) 24)) (by simp)
    simpa using q
  have hXR : BoxF w0 (w.heap.size + 1 + 1) 0 0 0 0 0 none 0 0 := by
    rw [← hw0]
    have q := BoxF.new ((w.alloc (.cells (tcells ub ud ut uu us (some ⟨bb, off, none⟩) 1 c) 24)).alloc (.cells (tcells b d t u s B l.length e) 24)) 0 0 0 0 0 none 0 0 24
    simpa using q
  have XU := Lib.hid (fun W (hb : Below w0.heap.size w0 W) => show BoxF W w.heap.size ub ud ut uu us (some ⟨bb, off, none⟩) 1 c from hXU.keep hb (by omega))
  have XT := Lib.hid (fun W (hb : Below w0.heap.size w0 W) => show BoxF W (w.heap.size + 1) b d t u s B l.length e from hXT.keep hb (by omega))
  have XR := Lib.hid (fun W (hb : Below w0.heap.size w0 W) => show BoxF W (w.heap.size + 1 + 1) 0 0 0 0 0 none 0 0 from hXR.keep hb (by omega))
  have H' := Lib.hid (h'.belowM hb0)
  have HB0 := Lib.hid hb0
  have HC := Lib.hid (show ∀ W, Below w0.heap.size w0 W → W.cell? ⟨bb, off, none⟩ = some (.int .i64 0) ∧ W.cell? ⟨bb, off + 1, none⟩ = some (.int .i64 0) ∧ W.cell? ⟨bb, off + 2, none⟩ = some (.int .i64 21) ∧ W.cell? ⟨bb, off + 3, none⟩ = some (.int .i64 0) from fun W hW => by
    have hw := HB0.out.trans (hW.mono HB0.out.size)
    exact ⟨(hw.cell hbB).trans c1, (hw.cell hbB).trans c2, (hw.cell hbB).trans c3, (hw.cell hbB).trans c4⟩)
  clear c1 c2 c3 c4
  have hb00 := Below.refl w0.heap.size w0
  have HALL := Lib.hid (fun W => all_any 0 0 21 0 W)
  rw [show takesAll (0, 0, 21, 0) = true from rfl] at HALL
  have HSus := Lib.hid (fun W => rsmall_any us W)
  rw [decide_eq_true h1] at HSus
  have HSb := Lib.hid (fun W => rsmall_any b W)
  rw [decide_eq_true h2] at HSb
  have HSsum := Lib.hid (fun W => rsmall_any (us + b) W)
  rw [decide_eq_false h3] at HSsum
  have hwr : IntKind.i64.wrap (us + b) = (us + b) := sm_wrap h1 h2
  have HPT := Lib.hid (fun W => rplain_any b d t u s B l.length e W)
  rw [hpt] at HPT
  have HPU := Lib.hid (fun W => rplain_any ub ud ut uu us (some ⟨bb, off, none⟩) 1 c W)
  rw [hpu] at HPU
  obtain ⟨⟨u0, u1, u2, u3, u4, u5⟩, uf⟩ := XU.out w0 hb00
  obtain ⟨⟨s0, s1, s2, s3, s4, s5⟩, sf⟩ := XT.out w0 hb00
  obtain ⟨m1, m2, m3, m4⟩ := HC.out w0 hb00
  clear hb0 hXU hXT hXR
  go_enter Try.func20, Try.ntmps20
  go_wp2_with (fail)
  refine (HALL.out _).mono ?_
  rintro q1 w1 ⟨rfl, hb1⟩
  have HB1 := Lib.hid hb1
  clear hb1 u0 u1 u2 u3 u4 u5 uf s0 s1 s2 s3 s4 s5 sf m1 m2 m3 m4
  obtain ⟨⟨u0, u1, u2, u3, u4, u5⟩, uf⟩ := XU.out w1 HB1.out
  obtain ⟨⟨s0, s1, s2, s3, s4, s5⟩, sf⟩ := XT.out w1 HB1.out
  obtain ⟨m1, m2, m3, m4⟩ := HC.out w1 HB1.out
  go_wp2_with (fail)
  refine (HSus.out _).mono ?_
  rintro q2 wx2 ⟨rfl, rfl⟩
  go_wp2_with (fail)
  refine (HPT.out _).mono ?_
  rintro q3 w3 ⟨rfl, hb3⟩
  have HB3 := Lib.hid (below_next HB1.out hb3)
  clear hb3 u0 u1 u2 u3 u4 u5 uf s0 s1 s2 s3 s4 s5 sf m1 m2 m3 m4
  obtain ⟨⟨u0, u1, u2, u3, u4, u5⟩, uf⟩ := XU.out w3 HB3.out
  obtain ⟨⟨s0, s1, s2, s3, s4, s5⟩, sf⟩ := XT.out w3 HB3.out
  obtain ⟨m1, m2, m3, m4⟩ := HC.out w3 HB3.out
  go_wp2_with (fail)
  refine (HPU.out _).mono ?_
  rintro q4 w4 ⟨rfl, hb4⟩
  have HB4 := Lib.hid (below_next HB3.out hb4)
  clear hb4 u0 u1 u2 u3 u4 u5 uf s0 s1 s2 s3 s4 s5 sf m1 m2 m3 m4
  obtain ⟨⟨u0, u1, u2, u3, u4, u5⟩, uf⟩ := XU.out w4 HB4.out
  obtain ⟨⟨s0, s1, s2, s3, s4, s5⟩, sf⟩ := XT.out w4 HB4.out
  obtain ⟨m1, m2, m3, m4⟩ := HC.out w4 HB4.out
  go_wp2_with (fail)
  refine (HSb.out _).mono ?_
  rintro q5 wx5 ⟨rfl, rfl⟩
  go_wp2_with (fail)
  refine (HSsum.out _).mono ?_
  rintro q6 wx6 ⟨rfl, rfl⟩
  obtain ⟨wd, hwd, hFd, hLd, hNd⟩ := (XR.out w4 HB4.out).store6 0 0 0 0 0 none 0 0
  obtain ⟨⟨p0, p1, p2, p3, p4, p5⟩, _⟩ := hFd
  obtain ⟨⟨r0, r1, r2, r3, r4, r5⟩, rf⟩ := XR.out w4 HB4.out
  have rf0 := rf 0 (by omega)
  have rf1 := rf 1 (by omega)
  have rf2 := rf 2 (by omega)
  have rf3 := rf 3 (by omega)
  have rf4 := rf 4 (by omega)
  have rf5 := rf 5 (by omega)
  go_wp2_with (fail)
  exact bodyPost_ret (v := .tuple #[trm 0 0 0 0 0 none 0 0, .bool false]) (by simp [results, Try.results20, go_sem, p0, p1, p2, p3, p4, p5]) rfl ⟨none, 0, rfl, RP.nil_ _ _ _, (HB0.out.trans (HB4.out.mono HB0.out.size)).trans (hLd _ (by omega))⟩
set_option maxHeartbeats 4000000 in
theorem rput_u3 (ub ud ut uu us : Int) (bb off c : Nat) (b d t u s : Int) (B : Option Addr) (e : Nat) (l : List PT) (w : World) (h' : RP w w.heap.size B l.length l) (hbB : bb < w.heap.size) (c1 : w.cell? ⟨bb, off, none⟩ = some (.int .i64 0)) (c2 : w.cell? ⟨bb, off + 1, none⟩ = some (.int .i64 0)) (c3 : w.cell? ⟨bb, off + 2, none⟩ = some (.int .i64 21)) (c4 : w.cell? ⟨bb, off + 3, none⟩ = some (.int .i64 0)) (hpt : plainT b d t u = false) (h1 : Sm us) (hpu : plainT ub ud ut uu = true) (h2 : Sm b) (h3 : Sm (us + b)) :
    Calls Try.prog 20 #[trm ub ud ut uu us (some ⟨bb, off, none⟩) 1 c, trm b d t u s B l.length e] w (PutOut ⟨us + b, d, t, u, s, l, true⟩ w) := by
  obtain ⟨w0, hw0⟩ : ∃ w0, ((w.alloc (.cells (tcells ub ud ut uu us (some ⟨bb, off, none⟩) 1 c) 24)).alloc (.cells (tcells b d t u s B l.length e) 24)).alloc (.cells (tcells 0 0 0 0 0 none 0 0) 24) = w0 := ⟨_, rfl⟩
  have hs0 : w0.heap.size = w.heap.size + 1 + 1 + 1 := by rw [← hw0]; simp
  have hb0 : Below w.heap.size w w0 := by rw [← hw0]; exact (((Below.refl _ _).alloc (Nat.le_refl _) _).alloc (by simp) _).alloc (by simp only [World.size_alloc]; omega) _
  have hXU : BoxF w0 w.heap.size ub ud ut uu us (some ⟨bb, off, none⟩) 1 c := by
    rw [← hw0]
    exact ((BoxF.new w ub ud ut uu us (some ⟨bb, off, none⟩) 1 c _).keep ((Below.refl _ _).alloc (Nat.le_refl _) _) (by simp)).keep ((Below.refl _ _).alloc (Nat.le_refl _) _) (by simp only [World.size_alloc]; omega)
  have hXT : BoxF w0 (w.heap.size + 1) b d t u s B l.length e := by
    rw [← hw0]
    have q := (BoxF.new (w.alloc (.cells (tcells ub ud ut uu us (some ⟨bb, off, none⟩) 1 c) 24)) b d t u s B l.length e 24).keep ((Below.refl _ _).alloc (Nat.le_refl _) (.cells (tcells 0 0 0 0 0 none 0 0) 24)) (by simp)
    simpa using q
  have hXR : BoxF w0 (w.heap.size + 1 + 1) 0 0 0 0 0 none 0 0 := by
    rw [← hw0]
    have q := BoxF.new ((w.alloc (.cells (tcells ub ud ut uu us (some ⟨bb, off, none⟩) 1 c) 24)).alloc (.cells (tcells b d t u s B l.length e) 24)) 0 0 0 0 0 none 0 0 24
    simpa using q
  have XU := Lib.hid (fun W (hb : Below w0.heap.size w0 W) => show BoxF W w.heap.size ub ud ut uu us (some ⟨bb, off, none⟩) 1 c from hXU.keep hb (by omega))
  have XT := Lib.hid (fun W (hb : Below w0.heap.size w0 W) => show BoxF W (w.heap.size + 1) b d t u s B l.length e from hXT.keep hb (by omega))
  have XR := Lib.hid (fun W (hb : Below w0.heap.size w0 W) => show BoxF W (w.heap.size + 1 + 1) 0 0 0 0 0 none 0 0 from hXR.keep hb (by omega))
  have H' := Lib.hid (h'.belowM hb0)
  have HB0 := Lib.hid hb0
  have HC := Lib.hid (show ∀ W, Below w0.heap.size w0 W → W.cell? ⟨bb, off, none⟩ = some (.int .i64 0) ∧ W.cell? ⟨bb, off + 1, none⟩ = some (.int .i64 0) ∧ W.cell? ⟨bb, off + 2, none⟩ = some (.int .i64 21) ∧ W.cell? ⟨bb, off + 3, none⟩ = some (.int .i64 0) from fun W hW => by
    have hw := HB0.out.trans (hW.mono HB0.out.size)
    exact ⟨(hw.cell hbB).trans c1, (hw.cell hbB).trans c2, (hw.cell hbB).trans c3, (hw.cell hbB).trans c4⟩)
  clear c1 c2 c3 c4
  have hb00 := Below.refl w0.heap.size w0
  have HALL := Lib.hid (fun W => all_any 0 0 21 0 W)
  rw [show takesAll (0, 0, 21, 0) = true from rfl] at HALL
  have HSus := Lib.hid (fun W => rsmall_any us W)
  rw [decide_eq_true h1] at HSus
  have HSb := Lib.hid (fun W => rsmall_any b W)
  rw [decide_eq_true h2] at HSb
  have HSsum := Lib.hid (fun W => rsmall_any (us + b) W)
  rw [decide_eq_true h3] at HSsum
  have hwr : IntKind.i64.wrap (us + b) = (us + b) := sm_wrap h1 h2
  have HPT := Lib.hid (fun W => rplain_any b d t u s B l.length e W)
  rw [hpt] at HPT
  have HPU := Lib.hid (fun W => rplain_any ub ud ut uu us (some ⟨bb, off, none⟩) 1 c W)
  rw [hpu] at HPU
  obtain ⟨⟨u0, u1, u2, u3, u4, u5⟩, uf⟩ := XU.out w0 hb00
  obtain ⟨⟨s0, s1, s2, s3, s4, s5⟩, sf⟩ := XT.out w0 hb00
  obtain ⟨m1, m2, m3, m4⟩ := HC.out w0 hb00
  have HBK := Lib.hid (show ∀ b off, B = some ⟨b, off, none⟩ → l.length = 0 ∨ b < w.heap.size from fun b0 off hB => by
    rcases Nat.eq_zero_or_pos l.length with h0 | h0
    · exact .inl h0
    · obtain ⟨b1, o1, e1, h1, _⟩ := h'.2 h0
      rw [e1] at hB
      injection hB with hB
      injection hB with hB _ _
      exact .inr (by omega))
  clear hb0 hXU hXT hXR
  go_enter Try.func20, Try.ntmps20
  go_wp2_with (fail)
  refine (HALL.out _).mono ?_
  rintro q1 w1 ⟨rfl, hb1⟩
  have HB1 := Lib.hid hb1
  clear hb1 u0 u1 u2 u3 u4 u5 uf s0 s1 s2 s3 s4 s5 sf m1 m2 m3 m4
  obtain ⟨⟨u0, u1, u2, u3, u4, u5⟩, uf⟩ := XU.out w1 HB1.out
  obtain ⟨⟨s0, s1, s2, s3, s4, s5⟩, sf⟩ := XT.out w1 HB1.out
  obtain ⟨m1, m2, m3, m4⟩ := HC.out w1 HB1.out
  go_wp2_with (fail)
  refine (HSus.out _).mono ?_
  rintro q2 wx2 ⟨rfl, rfl⟩
  go_wp2_with (fail)
  refine (HPT.out _).mono ?_
  rintro q3 w3 ⟨rfl, hb3⟩
  have HB3 := Lib.hid (below_next HB1.out hb3)
  clear hb3 u0 u1 u2 u3 u4 u5 uf s0 s1 s2 s3 s4 s5 sf m1 m2 m3 m4
  obtain ⟨⟨u0, u1, u2, u3, u4, u5⟩, uf⟩ := XU.out w3 HB3.out
  obtain ⟨⟨s0, s1, s2, s3, s4, s5⟩, sf⟩ := XT.out w3 HB3.out
  obtain ⟨m1, m2, m3, m4⟩ := HC.out w3 HB3.out
  go_wp2_with (fail)
  refine (HPU.out _).mono ?_
  rintro q4 w4 ⟨rfl, hb4⟩
  have HB4 := Lib.hid (below_next HB3.out hb4)
  clear hb4 u0 u1 u2 u3 u4 u5 uf s0 s1 s2 s3 s4 s5 sf m1 m2 m3 m4
  obtain ⟨⟨u0, u1, u2, u3, u4, u5⟩, uf⟩ := XU.out w4 HB4.out
  obtain ⟨⟨s0, s1, s2, s3, s4, s5⟩, sf⟩ := XT.out w4 HB4.out
  obtain ⟨m1, m2, m3, m4⟩ := HC.out w4 HB4.out
  go_wp2_with (fail)
  refine (HSb.out _).mono ?_
  rintro q5 wx5 ⟨rfl, rfl⟩
  go_wp2_with (fail)
  refine (HSsum.out _).mono ?_
  rintro q6 wx6 ⟨rfl, rfl⟩
  obtain ⟨wd, hwd, hFd, hLd, hNd⟩ := (XR.out w4 HB4.out).store6 (us + b) d t u s B l.length e
  obtain ⟨⟨p0, p1, p2, p3, p4, p5⟩, _⟩ := hFd
  obtain ⟨⟨r0, r1, r2, r3, r4, r5⟩, rf⟩ := XR.out w4 HB4.out
  have rf0 := rf 0 (by omega)
  have rf1 := rf 1 (by omega)
  have rf2 := rf 2 (by omega)
  have rf3 := rf 3 (by omega)
  have rf4 := rf 4 (by omega)
  have rf5 := rf 5 (by omega)
  go_wp2_with (fail)
  exact bodyPost_ret (v := .tuple #[trm (us + b) d t u s B l.length e, .bool true]) (by simp [results, Try.results20, go_sem, p0, p1, p2, p3, p4, p5]) rfl ⟨B, e, rfl, ((H'.out.belowM HB4.out).far0 hNd (fun b off hA => by have hq := HBK.out b off hA; omega)).more (by have := hNd.2; omega), (HB0.out.trans (HB4.out.mono HB0.out.size)).trans (hLd _ (by omega))⟩

theorem addT_comm_ok {a b : Int} : (addT a b).2 = decide (Sm a ∧ Sm b ∧ Sm (b + a)) := by
  unfold addT
  rw [show b + a = a + b from by omega]
  by_cases h : Sm a ∧ Sm b ∧ Sm (a + b)
  · rw [if_pos h, decide_eq_true h]
  · rw [if_neg h, decide_eq_false h]
theorem addT_at {a b : Int} (ha : Sm a) (hb : Sm b) (hc : Sm (a + b)) : addT a b = (a + b, true) := if_pos ⟨ha, hb, hc⟩
theorem addT_no {a b : Int} (h : ¬ (Sm a ∧ Sm b ∧ Sm (a + b))) : addT a b = (0, false) := if_neg h
theorem rput_any (ub ud ut uu us : Int) (A : Option Addr) (c : Nat) (k : List PT) (b d t u s : Int) (B : Option Addr) (e : Nat) (l : List PT) (w : World) (h : RP w w.heap.size A k.length k) (h' : RP w w.heap.size B l.length l) :
    Calls Try.prog 20 #[trm ub ud ut uu us A k.length c, trm b d t u s B l.length e] w (PutOut (putT ⟨ub, ud, ut, uu, us, k, true⟩ ⟨b, d, t, u, s, l, true⟩) w) := by
  match k, h with
  | [], h => exact rput_nil ub ud ut uu us A c b d t u s B e l w h'
  | p :: q :: k, h =>
    have e1 : putT ⟨ub, ud, ut, uu, us, p :: q :: k, true⟩ ⟨b, d, t, u, s, l, true⟩ = zTB := by
      unfold putT
      simp
    rw [e1]
    exact rput_many ub ud ut uu us A _ c b d t u s B e l w h' (by simp)
  | [p], h =>
    obtain ⟨bb, off, pa, pd, pt, pu, hA, hbB, ⟨_, hlk⟩, c1, c2, c3, c4⟩ := h.at_ (k := 0) (by simp)
    simp only [List.getElem_cons_zero] at hlk
    subst hlk
    subst hA
    simp only [Nat.zero_mul, Nat.add_zero] at c1 c2 c3 c4
    by_cases z0 : pa = 0
    · subst z0
      rcases hz : takesAll (0, pd, pt, pu) with _ | _
      · have e1 : putT ⟨ub, ud, ut, uu, us, [(0, pd, pt, pu)], true⟩ ⟨b, d, t, u, s, l, true⟩ = zTB := by
          unfold putT
          rw [if_neg (by simp), if_neg (by intro hq; simp only [List.cons.injEq, Prod.mk.injEq, and_true, true_and] at hq; obtain ⟨rfl, rfl, rfl⟩ := hq; exact absurd hz (by decide))]
        rw [e1]
        exact rput_all ub ud ut uu us bb off c pd pt pu b d t u s B e l w h' hbB c1 c2 c3 c4 hz
      · obtain ⟨rfl, rfl, rfl⟩ : pd = 0 ∧ pt = 21 ∧ pu = 0 := by simpa [takesAll] using hz
        unfold putT
        rw [if_neg (by simp), if_pos rfl]
        dsimp only
        by_cases h1 : Sm us
        · rcases hpt : plainT b d t u with _ | _
          · rw [if_neg (by simp)]
            rcases hpu : plainT ub ud ut uu with _ | _
            · rw [if_neg (by simp)]
              exact rput_u0 ub ud ut uu us bb off c b d t u s B e l w h' hbB c1 c2 c3 c4 hpt h1 hpu
            · rw [if_pos rfl]
              by_cases h2 : Sm b
              · by_cases h3 : Sm (us + b)
                · rw [addT_at h2 h1 (by rw [Int.add_comm]; exact h3), if_pos rfl, Int.add_comm b us]
                  exact rput_u3 ub ud ut uu us bb off c b d t u s B e l w h' hbB c1 c2 c3 c4 hpt h1 hpu h2 h3
                · rw [addT_no (fun hq => h3 (by rw [Int.add_comm]; exact hq.2.2)), if_neg (by simp)]
                  exact rput_u2 ub ud ut uu us bb off c b d t u s B e l w h' hbB c1 c2 c3 c4 hpt h1 hpu h2 h3
              · rw [addT_no (fun hq => h2 hq.1), if_neg (by simp)]
                exact rput_u1 ub ud ut uu us bb off c b d t u s B e l w h' hbB c1 c2 c3 c4 hpt h1 hpu h2
          · rw [if_pos rfl]
            by_cases h2 : Sm s
            · by_cases h3 : Sm (us + s)
              · rw [addT_at h1 h2 h3, if_pos rfl]
                exact rput_t3 ub ud ut uu us bb off c b d t u s B e l w h' hbB c1 c2 c3 c4 hpt h1 h2 h3
              · rw [addT_no (fun hq => h3 hq.2.2), if_neg (by simp)]
                exact rput_t2 ub ud ut uu us bb off c b d t u s B e l w h' hbB c1 c2 c3 c4 hpt h1 h2 h3
            · rw [addT_no (fun hq => h2 hq.2.1), if_neg (by simp)]
              exact rput_t1 ub ud ut uu us bb off c b d t u s B e l w h' hbB c1 c2 c3 c4 hpt h1 h2
        · rw [addT_no (fun hq => h1 hq.1), addT_no (fun hq => h1 hq.2.1)]
          simp only [Bool.false_eq_true, if_false, ite_self]
          exact rput_sm ub ud ut uu us bb off c b d t u s B e l w h' hbB c1 c2 c3 c4 h1
    · have e1 : putT ⟨ub, ud, ut, uu, us, [(pa, pd, pt, pu)], true⟩ ⟨b, d, t, u, s, l, true⟩ = zTB := by
        unfold putT
        rw [if_neg (by simp), if_neg (by intro hq; simp only [List.cons.injEq, Prod.mk.injEq, and_true] at hq; exact z0 hq.1)]
      rw [e1]
      exact rput_at ub ud ut uu us bb off c pa pd pt pu b d t u s B e l w h' hbB c1 c2 c3 c4 z0
end Go.Proofs.Ytmcgapejebceoaa.Te
