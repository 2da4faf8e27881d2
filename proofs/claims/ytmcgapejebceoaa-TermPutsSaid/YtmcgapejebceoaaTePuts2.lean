/- The walk of term.Put, the ways where the first term has one part that takes all; and all ways together. -/
import Derived.Test.YtmcgapejebceoaaTePuts
namespace Go.Proofs.Ytmcgapejebceoaa.Te
set_option maxRecDepth 100000
open Go Go.RowKit Go.Proofs.Ytmcgapejebceoaa.Sp Go.Proofs.Ytmcgapejebceoaa.Pa
attribute [local go_sem] part_guard part_eqN

set_option maxHeartbeats 4000000 in
theorem put_w1t (ub ud ut uu us v : Int) (bb off c : Nat) (b d t u s : Int) (B : Option Addr) (e : Nat) (l : List PT) (w : World) (hbB : bb < w.heap.size) (c1 : w.cell? ⟨bb, off, none⟩ = some (.int .i64 0)) (c2 : w.cell? ⟨bb, off + 1, none⟩ = some (.int .i64 0)) (c3 : w.cell? ⟨bb, off + 2, none⟩ = some (.int .i64 21)) (c4 : w.cell? ⟨bb, off + 3, none⟩ = some (.int .i64 0)) (h' : RP w w.heap.size B l.length l) (hl : l.length ≤ 20) (hpt : plainT b d t u = true) (hv : addT us s = (v, true)) :
    Calls Try.prog 19 #[trm ub ud ut uu us (some ⟨bb, off, none⟩) 1 c, trm b d t u s B l.length e] w (PutOut ⟨ub, ud, ut, uu, v, l, true⟩ w) := by
  obtain ⟨w0, hw0⟩ : ∃ w0, ((w.alloc (.cells (tcells ub ud ut uu us (some ⟨bb, off, none⟩) 1 c) 24)).alloc (.cells (tcells b d t u s B l.length e) 24)).alloc (.cells (tcells 0 0 0 0 0 none 0 0) 24) = w0 := ⟨_, rfl⟩
  have hs0 : w0.heap.size = w.heap.size + 1 + 1 + 1 := by rw [← hw0]; simp
  have hb0 : Below w.heap.size w w0 := by rw [← hw0]; exact (((Below.refl _ _).alloc (Nat.le_refl _) _).alloc (by simp) _).alloc (by simp only [World.size_alloc]; omega) _
  have hXU : BoxF w0 w.heap.size ub ud ut uu us (some ⟨bb, off, none⟩) 1 c := by
    rw [← hw0]
    exact ((BoxF.new w ub ud ut uu us (some ⟨bb, off, none⟩) 1 c _).keep ((Below.refl _ _).alloc (Nat.le_refl _) _) (by simp)).keep ((Below.refl _ _).alloc (Nat.le_refl _) _) (by simp only [World.size_alloc]; omega)
  have hXT : BoxF w0 (w.heap.size + 1) b d t u s B l.length e := by
    rw [← hw0]
    have q := (BoxF.new (w.alloc (.cells (tcells ub ud ut uu us (some ⟨bb, off, none⟩) 1 c) 24)) b d t u s B l.length e 24).keep ((Below.refl _ _).alloc (Nat.le_refl _) (.cells (tcells 0 0 0 0 0 none 0 0) 24)) (by simp)
    simpa using q
  have hXR : BoxF w0 (w.heap.size + 1 + 1) 0 0 0 0 0 none 0 0 := by
    rw [← hw0]
    have q := BoxF.new ((w.alloc (.cells (tcells ub ud ut uu us (some ⟨bb, off, none⟩) 1 c) 24)).alloc (.cells (tcells b d t u s B l.length e) 24)) 0 0 0 0 0 none 0 0 24
    simpa using q
  have XU := Lib.hid (fun W (hb : Below w0.heap.size w0 W) => show BoxF W w.heap.size ub ud ut uu us (some ⟨bb, off, none⟩) 1 c from hXU.keep hb (by omega))
  have XT := Lib.hid (fun W (hb : Below w0.heap.size w0 W) => show BoxF W (w.heap.size + 1) b d t u s B l.length e from hXT.keep hb (by omega))
  have XR := Lib.hid (fun W (hb : Below w0.heap.size w0 W) => show BoxF W (w.heap.size + 1 + 1) 0 0 0 0 0 none 0 0 from hXR.keep hb (by omega))
  have H' := Lib.hid (h'.belowM hb0)
  have HB0 := Lib.hid hb0
  have HC := Lib.hid (show ∀ W, Below w0.heap.size w0 W → W.cell? ⟨w.heap.size, 5, none⟩ = some (.slice (some ⟨bb, off, none⟩) 1 c) ∧ W.cell? ⟨bb, off, none⟩ = some (.int .i64 0) ∧ W.cell? ⟨bb, off + 1, none⟩ = some (.int .i64 0) ∧ W.cell? ⟨bb, off + 2, none⟩ = some (.int .i64 21) ∧ W.cell? ⟨bb, off + 3, none⟩ = some (.int .i64 0) from fun W hW => by
    have hw := HB0.out.trans (hW.mono HB0.out.size)
    exact ⟨(XU.out W hW).1.2.2.2.2.2, (hw.cell hbB).trans c1, (hw.cell hbB).trans c2, (hw.cell hbB).trans c3, (hw.cell hbB).trans c4⟩)
  clear c1 c2 c3 c4
  obtain ⟨m0, m1, m2, m3, m4⟩ := HC.out w0 (Below.refl _ _)
  have HPT := Lib.hid (fun W => tplain_any b d t u s B l.length e W)
  rw [hpt] at HPT
  have HA := Lib.hid (fun W => tadd_any us s W)
  rw [hv] at HA
  clear hb0 hXU hXT hXR h'
  go_enter Try.func19, Try.ntmps19
  go_wp2_with (fail)
  go_region_held3 (fun w' => w'.cell? ⟨w.heap.size, 5, none⟩ = some (.slice (some ⟨bb, off, none⟩) 1 c) ∧ w'.cell? ⟨bb, off, none⟩ = some (.int .i64 0) ∧ w'.cell? ⟨bb, off + 1, none⟩ = some (.int .i64 0) ∧ w'.cell? ⟨bb, off + 2, none⟩ = some (.int .i64 21) ∧ w'.cell? ⟨bb, off + 3, none⟩ = some (.int .i64 0))
    (first | go_keep | exact HC.out _ (Below.refl _ _).drew | exact HC.out _ hB2)
    (first
      | (go_at_call 31; (with_reducible refine (whole_any _ _).mono ?_); rintro q2 w2 ⟨rfl, hb2⟩; have hB2 : Below w0.heap.size w0 w2 := (Below.refl _ w0).drew.trans (hb2.mono (by simp))))
  have HB2 := Lib.hid hB2
  clear hB2 hb2 m0 m1 m2 m3 m4
  have hz2 := HB2.out.size
  have hGF := BoxF.new w2 0 0 0 0 0 none 0 0 24
  obtain ⟨w3, hw3⟩ : ∃ w3, w2.alloc (.cells (tcells 0 0 0 0 0 none 0 0) 24) = w3 := ⟨_, rfl⟩
  have h23 : Below w2.heap.size w2 w3 := by rw [← hw3]; exact (Below.refl _ _).alloc (Nat.le_refl _) _
  have hs3 : w3.heap.size = w2.heap.size + 1 := by rw [← hw3]; simp
  rw [hw3] at hGF
  have HB3 := Lib.hid (below_next HB2.out h23)
  have HGF := Lib.hid hGF
  clear h23 hGF
  obtain ⟨⟨s0, s1, s2, s3, s4, s5⟩, sf⟩ := XT.out w3 HB3.out
  go_wp2_with (fail)
  refine (HPT.out _).mono ?_
  rintro q4 w4 ⟨rfl, hb4⟩
  have HG4 := Lib.hid (HGF.out.keep hb4 (by omega))
  have hz4 := hb4.size
  have HB4 := Lib.hid (below_next HB3.out hb4)
  clear hb4 s0 s1 s2 s3 s4 s5 sf
  obtain ⟨⟨k0, k1, k2, k3, k4, k5⟩, kf⟩ := XU.out w4 HB4.out
  obtain ⟨wa, hwa, hFwa, hLwa, hNwa⟩ := HG4.out.store6 ub ud ut uu us (some ⟨bb, off, none⟩) 1 c
  have HBwa := Lib.hid (HB4.out.trans (hLwa _ (by omega)))
  have HGwa := Lib.hid hFwa
  have hzwa := (hLwa 0 (by omega)).size
  obtain ⟨⟨wag0, wag1, wag2, wag3, wag4, wag5⟩, wagf⟩ := HG4.out
  have wagf0 := wagf 0 (by omega)
  have wagf1 := wagf 1 (by omega)
  have wagf2 := wagf 2 (by omega)
  have wagf3 := wagf 3 (by omega)
  have wagf4 := wagf 4 (by omega)
  have wagf5 := wagf 5 (by omega)
  obtain ⟨⟨u0, u1, u2, u3, u4, u5⟩, uf⟩ := XU.out wa HBwa.out
  obtain ⟨⟨s0, s1, s2, s3, s4, s5⟩, sf⟩ := XT.out wa HBwa.out
  go_wp2_with (fail)
  refine (HA.out _).mono ?_
  rintro q6 w6 ⟨rfl, rfl⟩
  clear wag0 wagf0 wag1 wagf1 wag2 wagf2 wag3 wagf3 wag4 wagf4 wag5 wagf5 wagf hFwa hwa k0 k1 k2 k3 k4 k5 kf u0 u1 u2 u3 u4 u5 uf s0 s1 s2 s3 s4 s5 sf
  obtain ⟨wb, hwb, hFwb, hLwb, hNwb⟩ := HGwa.out.store4 v
  have HBwb := Lib.hid (HBwa.out.trans (hLwb _ (by omega)))
  have HGwb := Lib.hid hFwb
  have hzwb := (hLwb 0 (by omega)).size
  obtain ⟨⟨wbg0, wbg1, wbg2, wbg3, wbg4, wbg5⟩, wbgf⟩ := HGwa.out
  have wbgf0 := wbgf 0 (by omega)
  have wbgf1 := wbgf 1 (by omega)
  have wbgf2 := wbgf 2 (by omega)
  have wbgf3 := wbgf 3 (by omega)
  have wbgf4 := wbgf 4 (by omega)
  have wbgf5 := wbgf 5 (by omega)
  obtain ⟨⟨s0, s1, s2, s3, s4, s5⟩, sf⟩ := XT.out wb HBwb.out
  go_wp2_with (fail)
  refine (clone_any B e l _ (H'.out.belowM HBwb.out) hl).mono ?_
  rintro q7 w7 ⟨A7, c7, rfl, hr7, hb7, hfr7⟩
  have HG7 := Lib.hid (HGwb.out.keep hb7 (by omega))
  have hz7 := hb7.size
  have HB7 := Lib.hid (below_next HBwb.out hb7)
  clear hb7
  clear wbg0 wbgf0 wbg1 wbgf1 wbg2 wbgf2 wbg3 wbgf3 wbg4 wbgf4 wbg5 wbgf5 wbgf hFwb hwb s0 s1 s2 s3 s4 s5 sf
  obtain ⟨wc, hwc, hFwc, hLwc, hNwc⟩ := HG7.out.store5 A7 l.length c7
  have HBwc := Lib.hid (HB7.out.trans (hLwc _ (by omega)))
  have HGwc := Lib.hid hFwc
  have hzwc := (hLwc 0 (by omega)).size
  obtain ⟨⟨wcg0, wcg1, wcg2, wcg3, wcg4, wcg5⟩, wcgf⟩ := HG7.out
  have wcgf0 := wcgf 0 (by omega)
  have wcgf1 := wcgf 1 (by omega)
  have wcgf2 := wcgf 2 (by omega)
  have wcgf3 := wcgf 3 (by omega)
  have wcgf4 := wcgf 4 (by omega)
  have wcgf5 := wcgf 5 (by omega)
  obtain ⟨wd, hwd, hFd, hLd, hNd⟩ := (XR.out wc HBwc.out).store6 ub ud ut uu v A7 l.length c7
  have hr9 : RP wd wd.heap.size A7 l.length l := ((hr7.far hNwc (fun b off hA => by have := hfr7 b off hA; omega)).far hNd (fun b off hA => by have := hfr7 b off hA; omega)).more (by have := hNwc.2; have := hNd.2; omega)
  obtain ⟨⟨p0, p1, p2, p3, p4, p5⟩, _⟩ := hFd
  obtain ⟨⟨r0, r1, r2, r3, r4, r5⟩, rf⟩ := XR.out wc HBwc.out
  have rf0 := rf 0 (by omega)
  have rf1 := rf 1 (by omega)
  have rf2 := rf 2 (by omega)
  have rf3 := rf 3 (by omega)
  have rf4 := rf 4 (by omega)
  have rf5 := rf 5 (by omega)
  obtain ⟨⟨y0, y1, y2, y3, y4, y5⟩, yf⟩ := HGwc.out
  clear hr7 hfr7 hFwc hNwc hNd
  go_wp2_with (fail)
  exact bodyPost_ret (v := .tuple #[trm ub ud ut uu v A7 l.length c7, .bool true]) (by simp [results, Try.results19, go_sem, p0, p1, p2, p3, p4, p5]) rfl ⟨A7, c7, rfl, hr9, (HB0.out.trans (HBwc.out.mono HB0.out.size)).trans (hLd _ (by omega))⟩
set_option maxHeartbeats 4000000 in
theorem put_w1f (ub ud ut uu us v : Int) (bb off c : Nat) (b d t u s : Int) (B : Option Addr) (e : Nat) (l : List PT) (w : World) (hbB : bb < w.heap.size) (c1 : w.cell? ⟨bb, off, none⟩ = some (.int .i64 0)) (c2 : w.cell? ⟨bb, off + 1, none⟩ = some (.int .i64 0)) (c3 : w.cell? ⟨bb, off + 2, none⟩ = some (.int .i64 21)) (c4 : w.cell? ⟨bb, off + 3, none⟩ = some (.int .i64 0)) (h' : RP w w.heap.size B l.length l) (_hl : l.length ≤ 20) (hpt : plainT b d t u = true) (hv : addT us s = (v, false)) :
    Calls Try.prog 19 #[trm ub ud ut uu us (some ⟨bb, off, none⟩) 1 c, trm b d t u s B l.length e] w (PutOut zTB w) := by
  obtain ⟨w0, hw0⟩ : ∃ w0, ((w.alloc (.cells (tcells ub ud ut uu us (some ⟨bb, off, none⟩) 1 c) 24)).alloc (.cells (tcells b d t u s B l.length e) 24)).alloc (.cells (tcells 0 0 0 0 0 none 0 0) 24) = w0 := ⟨_, rfl⟩
  have hs0 : w0.heap.size = w.heap.size + 1 + 1 + 1 := by rw [← hw0]; simp
  have hb0 : Below w.heap.size w w0 := by rw [← hw0]; exact (((Below.refl _ _).alloc (Nat.le_refl _) _).alloc (by simp) _).alloc (by simp only [World.size_alloc]; omega) _
  have hXU : BoxF w0 w.heap.size ub ud ut uu us (some ⟨bb, off, none⟩) 1 c := by
    rw [← hw0]
    exact ((BoxF.new w ub ud ut uu us (some ⟨bb, off, none⟩) 1 c _).keep ((Below.refl _ _).alloc (Nat.le_refl _) _) (by simp)).keep ((Below.refl _ _).alloc (Nat.le_refl _) _) (by simp only [World.size_alloc]; omega)
  have hXT : BoxF w0 (w.heap.size + 1) b d t u s B l.length e := by
    rw [← hw0]
    have q := (BoxF.new (w.alloc (.cells (tcells ub ud ut uu us (some ⟨bb, off, none⟩) 1 c) 24)) b d t u s B l.length e 24).keep ((Below.refl _ _).alloc (Nat.le_refl _) (.cells (tcells 0 0 0 0 0 none 0 0) 24)) (by simp)
    simpa using q
  have hXR : BoxF w0 (w.heap.size + 1 + 1) 0 0 0 0 0 none 0 0 := by
    rw [← hw0]
    have q := BoxF.new ((w.alloc (.cells (tcells ub ud ut uu us (some ⟨bb, off, none⟩) 1 c) 24)).alloc (.cells (tcells b d t u s B l.length e) 24)) 0 0 0 0 0 none 0 0 24
    simpa using q
  have XU := Lib.hid (fun W (hb : Below w0.heap.size w0 W) => show BoxF W w.heap.size ub ud ut uu us (some ⟨bb, off, none⟩) 1 c from hXU.keep hb (by omega))
  have XT := Lib.hid (fun W (hb : Below w0.heap.size w0 W) => show BoxF W (w.heap.size + 1) b d t u s B l.length e from hXT.keep hb (by omega))
  have XR := Lib.hid (fun W (hb : Below w0.heap.size w0 W) => show BoxF W (w.heap.size + 1 + 1) 0 0 0 0 0 none 0 0 from hXR.keep hb (by omega))
  have H' := Lib.hid (h'.belowM hb0)
  have HB0 := Lib.hid hb0
  have HC := Lib.hid (show ∀ W, Below w0.heap.size w0 W → W.cell? ⟨w.heap.size, 5, none⟩ = some (.slice (some ⟨bb, off, none⟩) 1 c) ∧ W.cell? ⟨bb, off, none⟩ = some (.int .i64 0) ∧ W.cell? ⟨bb, off + 1, none⟩ = some (.int .i64 0) ∧ W.cell? ⟨bb, off + 2, none⟩ = some (.int .i64 21) ∧ W.cell? ⟨bb, off + 3, none⟩ = some (.int .i64 0) from fun W hW => by
    have hw := HB0.out.trans (hW.mono HB0.out.size)
    exact ⟨(XU.out W hW).1.2.2.2.2.2, (hw.cell hbB).trans c1, (hw.cell hbB).trans c2, (hw.cell hbB).trans c3, (hw.cell hbB).trans c4⟩)
  clear c1 c2 c3 c4
  obtain ⟨m0, m1, m2, m3, m4⟩ := HC.out w0 (Below.refl _ _)
  have HPT := Lib.hid (fun W => tplain_any b d t u s B l.length e W)
  rw [hpt] at HPT
  have HA := Lib.hid (fun W => tadd_any us s W)
  rw [hv] at HA
  clear hb0 hXU hXT hXR h'
  go_enter Try.func19, Try.ntmps19
  go_wp2_with (fail)
  go_region_held3 (fun w' => w'.cell? ⟨w.heap.size, 5, none⟩ = some (.slice (some ⟨bb, off, none⟩) 1 c) ∧ w'.cell? ⟨bb, off, none⟩ = some (.int .i64 0) ∧ w'.cell? ⟨bb, off + 1, none⟩ = some (.int .i64 0) ∧ w'.cell? ⟨bb, off + 2, none⟩ = some (.int .i64 21) ∧ w'.cell? ⟨bb, off + 3, none⟩ = some (.int .i64 0))
    (first | go_keep | exact HC.out _ (Below.refl _ _).drew | exact HC.out _ hB2)
    (first
      | (go_at_call 31; (with_reducible refine (whole_any _ _).mono ?_); rintro q2 w2 ⟨rfl, hb2⟩; have hB2 : Below w0.heap.size w0 w2 := (Below.refl _ w0).drew.trans (hb2.mono (by simp))))
  have HB2 := Lib.hid hB2
  clear hB2 hb2 m0 m1 m2 m3 m4
  have hz2 := HB2.out.size
  have hGF := BoxF.new w2 0 0 0 0 0 none 0 0 24
  obtain ⟨w3, hw3⟩ : ∃ w3, w2.alloc (.cells (tcells 0 0 0 0 0 none 0 0) 24) = w3 := ⟨_, rfl⟩
  have h23 : Below w2.heap.size w2 w3 := by rw [← hw3]; exact (Below.refl _ _).alloc (Nat.le_refl _) _
  have hs3 : w3.heap.size = w2.heap.size + 1 := by rw [← hw3]; simp
  rw [hw3] at hGF
  have HB3 := Lib.hid (below_next HB2.out h23)
  have HGF := Lib.hid hGF
  clear h23 hGF
  obtain ⟨⟨s0, s1, s2, s3, s4, s5⟩, sf⟩ := XT.out w3 HB3.out
  go_wp2_with (fail)
  refine (HPT.out _).mono ?_
  rintro q4 w4 ⟨rfl, hb4⟩
  have HG4 := Lib.hid (HGF.out.keep hb4 (by omega))
  have hz4 := hb4.size
  have HB4 := Lib.hid (below_next HB3.out hb4)
  clear hb4 s0 s1 s2 s3 s4 s5 sf
  obtain ⟨⟨k0, k1, k2, k3, k4, k5⟩, kf⟩ := XU.out w4 HB4.out
  obtain ⟨wa, hwa, hFwa, hLwa, hNwa⟩ := HG4.out.store6 ub ud ut uu us (some ⟨bb, off, none⟩) 1 c
  have HBwa := Lib.hid (HB4.out.trans (hLwa _ (by omega)))
  have HGwa := Lib.hid hFwa
  have hzwa := (hLwa 0 (by omega)).size
  obtain ⟨⟨wag0, wag1, wag2, wag3, wag4, wag5⟩, wagf⟩ := HG4.out
  have wagf0 := wagf 0 (by omega)
  have wagf1 := wagf 1 (by omega)
  have wagf2 := wagf 2 (by omega)
  have wagf3 := wagf 3 (by omega)
  have wagf4 := wagf 4 (by omega)
  have wagf5 := wagf 5 (by omega)
  obtain ⟨⟨u0, u1, u2, u3, u4, u5⟩, uf⟩ := XU.out wa HBwa.out
  obtain ⟨⟨s0, s1, s2, s3, s4, s5⟩, sf⟩ := XT.out wa HBwa.out
  go_wp2_with (fail)
  refine (HA.out _).mono ?_
  rintro q6 w6 ⟨rfl, rfl⟩
  clear wag0 wagf0 wag1 wagf1 wag2 wagf2 wag3 wagf3 wag4 wagf4 wag5 wagf5 wagf hFwa hwa k0 k1 k2 k3 k4 k5 kf u0 u1 u2 u3 u4 u5 uf s0 s1 s2 s3 s4 s5 sf
  obtain ⟨wb, hwb, hFwb, hLwb, hNwb⟩ := HGwa.out.store4 v
  have HBwb := Lib.hid (HBwa.out.trans (hLwb _ (by omega)))
  have HGwb := Lib.hid hFwb
  have hzwb := (hLwb 0 (by omega)).size
  obtain ⟨⟨wbg0, wbg1, wbg2, wbg3, wbg4, wbg5⟩, wbgf⟩ := HGwa.out
  have wbgf0 := wbgf 0 (by omega)
  have wbgf1 := wbgf 1 (by omega)
  have wbgf2 := wbgf 2 (by omega)
  have wbgf3 := wbgf 3 (by omega)
  have wbgf4 := wbgf 4 (by omega)
  have wbgf5 := wbgf 5 (by omega)
  obtain ⟨w9, hw9, hFw9, hLw9, hNw9⟩ := (XR.out wb HBwb.out).store6 0 0 0 0 0 none 0 0
  obtain ⟨⟨p0, p1, p2, p3, p4, p5⟩, _⟩ := hFw9
  obtain ⟨⟨r0, r1, r2, r3, r4, r5⟩, rf⟩ := XR.out wb HBwb.out
  have rf0 := rf 0 (by omega)
  have rf1 := rf 1 (by omega)
  have rf2 := rf 2 (by omega)
  have rf3 := rf 3 (by omega)
  have rf4 := rf 4 (by omega)
  have rf5 := rf 5 (by omega)
  go_wp2_with (fail)
  exact bodyPost_ret (v := .tuple #[trm 0 0 0 0 0 none 0 0, .bool false]) (by simp [results, Try.results19, go_sem, p0, p1, p2, p3, p4, p5]) rfl ⟨none, 0, rfl, RP.nil_ _ _ _, (HB0.out.trans (HBwb.out.mono HB0.out.size)).trans (hLw9 _ (by omega))⟩
set_option maxHeartbeats 4000000 in
theorem put_w2t (ub ud ut uu us v : Int) (bb off c : Nat) (b d t u s : Int) (B : Option Addr) (e : Nat) (l : List PT) (w : World) (hbB : bb < w.heap.size) (c1 : w.cell? ⟨bb, off, none⟩ = some (.int .i64 0)) (c2 : w.cell? ⟨bb, off + 1, none⟩ = some (.int .i64 0)) (c3 : w.cell? ⟨bb, off + 2, none⟩ = some (.int .i64 21)) (c4 : w.cell? ⟨bb, off + 3, none⟩ = some (.int .i64 0)) (h' : RP w w.heap.size B l.length l) (hl : l.length ≤ 20) (hpt : plainT b d t u = false) (hpu : plainT ub ud ut uu = true) (hv : addT b us = (v, true)) :
    Calls Try.prog 19 #[trm ub ud ut uu us (some ⟨bb, off, none⟩) 1 c, trm b d t u s B l.length e] w (PutOut ⟨v, d, t, u, s, l, true⟩ w) := by
  obtain ⟨w0, hw0⟩ : ∃ w0, ((w.alloc (.cells (tcells ub ud ut uu us (some ⟨bb, off, none⟩) 1 c) 24)).alloc (.cells (tcells b d t u s B l.length e) 24)).alloc (.cells (tcells 0 0 0 0 0 none 0 0) 24) = w0 := ⟨_, rfl⟩
  have hs0 : w0.heap.size = w.heap.size + 1 + 1 + 1 := by rw [← hw0]; simp
  have hb0 : Below w.heap.size w w0 := by rw [← hw0]; exact (((Below.refl _ _).alloc (Nat.le_refl _) _).alloc (by simp) _).alloc (by simp only [World.size_alloc]; omega) _
  have hXU : BoxF w0 w.heap.size ub ud ut uu us (some ⟨bb, off, none⟩) 1 c := by
    rw [← hw0]
    exact ((BoxF.new w ub ud ut uu us (some ⟨bb, off, none⟩) 1 c _).keep ((Below.refl _ _).alloc (Nat.le_refl _) _) (by simp)).keep ((Below.refl _ _).alloc (Nat.le_refl _) _) (by simp only [World.size_alloc]; omega)
  have hXT : BoxF w0 (w.heap.size + 1) b d t u s B l.length e := by
    rw [← hw0]
    have q := (BoxF.new (w.alloc (.cells (tcells ub ud ut uu us (some ⟨bb, off, none⟩) 1 c) 24)) b d t u s B l.length e 24).keep ((Below.refl _ _).alloc (Nat.le_refl _) (.cells (tcells 0 0 0 0 0 none 0 0) 24)) (by simp)
    simpa using q
  have hXR : BoxF w0 (w.heap.size + 1 + 1) 0 0 0 0 0 none 0 0 := by
    rw [← hw0]
    have q := BoxF.new ((w.alloc (.cells (tcells ub ud ut uu us (some ⟨bb, off, none⟩) 1 c) 24)).alloc (.cells (tcells b d t u s B l.length e) 24)) 0 0 0 0 0 none 0 0 24
    simpa using q
  have XU := Lib.hid (fun W (hb : Below w0.heap.size w0 W) => show BoxF W w.heap.size ub ud ut uu us (some ⟨bb, off, none⟩) 1 c from hXU.keep hb (by omega))
  have XT := Lib.hid (fun W (hb : Below w0.heap.size w0 W) => show BoxF W (w.heap.size + 1) b d t u s B l.length e from hXT.keep hb (by omega))
  have XR := Lib.hid (fun W (hb : Below w0.heap.size w0 W) => show BoxF W (w.heap.size + 1 + 1) 0 0 0 0 0 none 0 0 from hXR.keep hb (by omega))
  have H' := Lib.hid (h'.belowM hb0)
  have HB0 := Lib.hid hb0
  have HC := Lib.hid (show ∀ W, Below w0.heap.size w0 W → W.cell? ⟨w.heap.size, 5, none⟩ = some (.slice (some ⟨bb, off, none⟩) 1 c) ∧ W.cell? ⟨bb, off, none⟩ = some (.int .i64 0) ∧ W.cell? ⟨bb, off + 1, none⟩ = some (.int .i64 0) ∧ W.cell? ⟨bb, off + 2, none⟩ = some (.int .i64 21) ∧ W.cell? ⟨bb, off + 3, none⟩ = some (.int .i64 0) from fun W hW => by
    have hw := HB0.out.trans (hW.mono HB0.out.size)
    exact ⟨(XU.out W hW).1.2.2.2.2.2, (hw.cell hbB).trans c1, (hw.cell hbB).trans c2, (hw.cell hbB).trans c3, (hw.cell hbB).trans c4⟩)
  clear c1 c2 c3 c4
  obtain ⟨m0, m1, m2, m3, m4⟩ := HC.out w0 (Below.refl _ _)
  have HPT := Lib.hid (fun W => tplain_any b d t u s B l.length e W)
  rw [hpt] at HPT
  have HPU := Lib.hid (fun W => tplain_any ub ud ut uu us (some ⟨bb, off, none⟩) 1 c W)
  rw [hpu] at HPU
  have HA := Lib.hid (fun W => tadd_any b us W)
  rw [hv] at HA
  clear hb0 hXU hXT hXR h'
  go_enter Try.func19, Try.ntmps19
  go_wp2_with (fail)
  go_region_held3 (fun w' => w'.cell? ⟨w.heap.size, 5, none⟩ = some (.slice (some ⟨bb, off, none⟩) 1 c) ∧ w'.cell? ⟨bb, off, none⟩ = some (.int .i64 0) ∧ w'.cell? ⟨bb, off + 1, none⟩ = some (.int .i64 0) ∧ w'.cell? ⟨bb, off + 2, none⟩ = some (.int .i64 21) ∧ w'.cell? ⟨bb, off + 3, none⟩ = some (.int .i64 0))
    (first | go_keep | exact HC.out _ (Below.refl _ _).drew | exact HC.out _ hB2)
    (first
      | (go_at_call 31; (with_reducible refine (whole_any _ _).mono ?_); rintro q2 w2 ⟨rfl, hb2⟩; have hB2 : Below w0.heap.size w0 w2 := (Below.refl _ w0).drew.trans (hb2.mono (by simp))))
  have HB2 := Lib.hid hB2
  clear hB2 hb2 m0 m1 m2 m3 m4
  have hz2 := HB2.out.size
  have hGF := BoxF.new w2 0 0 0 0 0 none 0 0 24
  obtain ⟨w3, hw3⟩ : ∃ w3, w2.alloc (.cells (tcells 0 0 0 0 0 none 0 0) 24) = w3 := ⟨_, rfl⟩
  have h23 : Below w2.heap.size w2 w3 := by rw [← hw3]; exact (Below.refl _ _).alloc (Nat.le_refl _) _
  have hs3 : w3.heap.size = w2.heap.size + 1 := by rw [← hw3]; simp
  rw [hw3] at hGF
  have HB3 := Lib.hid (below_next HB2.out h23)
  have HGF := Lib.hid hGF
  clear h23 hGF
  obtain ⟨⟨s0, s1, s2, s3, s4, s5⟩, sf⟩ := XT.out w3 HB3.out
  go_wp2_with (fail)
  refine (HPT.out _).mono ?_
  rintro q4 w4 ⟨rfl, hb4⟩
  have HG4 := Lib.hid (HGF.out.keep hb4 (by omega))
  have hz4 := hb4.size
  have HB4 := Lib.hid (below_next HB3.out hb4)
  clear hb4 s0 s1 s2 s3 s4 s5 sf
  obtain ⟨⟨u0, u1, u2, u3, u4, u5⟩, uf⟩ := XU.out w4 HB4.out
  go_wp2_with (fail)
  refine (HPU.out _).mono ?_
  rintro q5 w5 ⟨rfl, hb5⟩
  have HG5 := Lib.hid (HG4.out.keep hb5 (by omega))
  have hz5 := hb5.size
  have HB5 := Lib.hid (below_next HB4.out hb5)
  clear hb5 u0 u1 u2 u3 u4 u5 uf
  obtain ⟨⟨k0, k1, k2, k3, k4, k5⟩, kf⟩ := XT.out w5 HB5.out
  obtain ⟨wa, hwa, hFwa, hLwa, hNwa⟩ := HG5.out.store6 b d t u s B l.length e
  have HBwa := Lib.hid (HB5.out.trans (hLwa _ (by omega)))
  have HGwa := Lib.hid hFwa
  have hzwa := (hLwa 0 (by omega)).size
  obtain ⟨⟨wag0, wag1, wag2, wag3, wag4, wag5⟩, wagf⟩ := HG5.out
  have wagf0 := wagf 0 (by omega)
  have wagf1 := wagf 1 (by omega)
  have wagf2 := wagf 2 (by omega)
  have wagf3 := wagf 3 (by omega)
  have wagf4 := wagf 4 (by omega)
  have wagf5 := wagf 5 (by omega)
  obtain ⟨⟨u0, u1, u2, u3, u4, u5⟩, uf⟩ := XU.out wa HBwa.out
  obtain ⟨⟨s0, s1, s2, s3, s4, s5⟩, sf⟩ := XT.out wa HBwa.out
  go_wp2_with (fail)
  refine (HA.out _).mono ?_
  rintro q6 w6 ⟨rfl, rfl⟩
  clear wag0 wagf0 wag1 wagf1 wag2 wagf2 wag3 wagf3 wag4 wagf4 wag5 wagf5 wagf hFwa hwa k0 k1 k2 k3 k4 k5 kf u0 u1 u2 u3 u4 u5 uf s0 s1 s2 s3 s4 s5 sf
  obtain ⟨wb, hwb, hFwb, hLwb, hNwb⟩ := HGwa.out.store0 v
  have HBwb := Lib.hid (HBwa.out.trans (hLwb _ (by omega)))
  have HGwb := Lib.hid hFwb
  have hzwb := (hLwb 0 (by omega)).size
  obtain ⟨⟨wbg0, wbg1, wbg2, wbg3, wbg4, wbg5⟩, wbgf⟩ := HGwa.out
  have wbgf0 := wbgf 0 (by omega)
  have wbgf1 := wbgf 1 (by omega)
  have wbgf2 := wbgf 2 (by omega)
  have wbgf3 := wbgf 3 (by omega)
  have wbgf4 := wbgf 4 (by omega)
  have wbgf5 := wbgf 5 (by omega)
  obtain ⟨⟨s0, s1, s2, s3, s4, s5⟩, sf⟩ := XT.out wb HBwb.out
  go_wp2_with (fail)
  refine (clone_any B e l _ (H'.out.belowM HBwb.out) hl).mono ?_
  rintro q7 w7 ⟨A7, c7, rfl, hr7, hb7, hfr7⟩
  have HG7 := Lib.hid (HGwb.out.keep hb7 (by omega))
  have hz7 := hb7.size
  have HB7 := Lib.hid (below_next HBwb.out hb7)
  clear hb7
  clear wbg0 wbgf0 wbg1 wbgf1 wbg2 wbgf2 wbg3 wbgf3 wbg4 wbgf4 wbg5 wbgf5 wbgf hFwb hwb s0 s1 s2 s3 s4 s5 sf
  obtain ⟨wc, hwc, hFwc, hLwc, hNwc⟩ := HG7.out.store5 A7 l.length c7
  have HBwc := Lib.hid (HB7.out.trans (hLwc _ (by omega)))
  have HGwc := Lib.hid hFwc
  have hzwc := (hLwc 0 (by omega)).size
  obtain ⟨⟨wcg0, wcg1, wcg2, wcg3, wcg4, wcg5⟩, wcgf⟩ := HG7.out
  have wcgf0 := wcgf 0 (by omega)
  have wcgf1 := wcgf 1 (by omega)
  have wcgf2 := wcgf 2 (by omega)
  have wcgf3 := wcgf 3 (by omega)
  have wcgf4 := wcgf 4 (by omega)
  have wcgf5 := wcgf 5 (by omega)
  obtain ⟨wd, hwd, hFd, hLd, hNd⟩ := (XR.out wc HBwc.out).store6 v d t u s A7 l.length c7
  have hr9 : RP wd wd.heap.size A7 l.length l := ((hr7.far hNwc (fun b off hA => by have := hfr7 b off hA; omega)).far hNd (fun b off hA => by have := hfr7 b off hA; omega)).more (by have := hNwc.2; have := hNd.2; omega)
  obtain ⟨⟨p0, p1, p2, p3, p4, p5⟩, _⟩ := hFd
  obtain ⟨⟨r0, r1, r2, r3, r4, r5⟩, rf⟩ := XR.out wc HBwc.out
  have rf0 := rf 0 (by omega)
  have rf1 := rf 1 (by omega)
  have rf2 := rf 2 (by omega)
  have rf3 := rf 3 (by omega)
  have rf4 := rf 4 (by omega)
  have rf5 := rf 5 (by omega)
  obtain ⟨⟨y0, y1, y2, y3, y4, y5⟩, yf⟩ := HGwc.out
  clear hr7 hfr7 hFwc hNwc hNd
  go_wp2_with (fail)
  exact bodyPost_ret (v := .tuple #[trm v d t u s A7 l.length c7, .bool true]) (by simp [results, Try.results19, go_sem, p0, p1, p2, p3, p4, p5]) rfl ⟨A7, c7, rfl, hr9, (HB0.out.trans (HBwc.out.mono HB0.out.size)).trans (hLd _ (by omega))⟩
set_option maxHeartbeats 4000000 in
theorem put_w2f (ub ud ut uu us v : Int) (bb off c : Nat) (b d t u s : Int) (B : Option Addr) (e : Nat) (l : List PT) (w : World) (hbB : bb < w.heap.size) (c1 : w.cell? ⟨bb, off, none⟩ = some (.int .i64 0)) (c2 : w.cell? ⟨bb, off + 1, none⟩ = some (.int .i64 0)) (c3 : w.cell? ⟨bb, off + 2, none⟩ = some (.int .i64 21)) (c4 : w.cell? ⟨bb, off + 3, none⟩ = some (.int .i64 0)) (h' : RP w w.heap.size B l.length l) (_hl : l.length ≤ 20) (hpt : plainT b d t u = false) (hpu : plainT ub ud ut uu = true) (hv : addT b us = (v, false)) :
    Calls Try.prog 19 #[trm ub ud ut uu us (some ⟨bb, off, none⟩) 1 c, trm b d t u s B l.length e] w (PutOut zTB w) := by
  obtain ⟨w0, hw0⟩ : ∃ w0, ((w.alloc (.cells (tcells ub ud ut uu us (some ⟨bb, off, none⟩) 1 c) 24)).alloc (.cells (tcells b d t u s B l.length e) 24)).alloc (.cells (tcells 0 0 0 0 0 none 0 0) 24) = w0 := ⟨_, rfl⟩
  have hs0 : w0.heap.size = w.heap.size + 1 + 1 + 1 := by rw [← hw0]; simp
  have hb0 : Below w.heap.size w w0 := by rw [← hw0]; exact (((Below.refl _ _).alloc (Nat.le_refl _) _).alloc (by simp) _).alloc (by simp only [World.size_alloc]; omega) _
  have hXU : BoxF w0 w.heap.size ub ud ut uu us (some ⟨bb, off, none⟩) 1 c := by
    rw [← hw0]
    exact ((BoxF.new w ub ud ut uu us (some ⟨bb, off, none⟩) 1 c _).keep ((Below.refl _ _).alloc (Nat.le_refl _) _) (by simp)).keep ((Below.refl _ _).alloc (Nat.le_refl _) _) (by simp only [World.size_alloc]; omega)
  have hXT : BoxF w0 (w.heap.size + 1) b d t u s B l.length e := by
    rw [← hw0]
    have q := (BoxF.new (w.alloc (.cells (tcells ub ud ut uu us (some ⟨bb, off, none⟩) 1 c) 24)) b d t u s B l.length e 24).keep ((Below.refl _ _).alloc (Nat.le_refl _) (.cells (tcells 0 0 0 0 0 none 0 0) 24)) (by simp)
    simpa using q
  have hXR : BoxF w0 (w.heap.size + 1 + 1) 0 0 0 0 0 none 0 0 := by
    rw [← hw0]
    have q := BoxF.new ((w.alloc (.cells (tcells ub ud ut uu us (some ⟨bb, off, none⟩) 1 c) 24)).alloc (.cells (tcells b d t u s B l.length e) 24)) 0 0 0 0 0 none 0 0 24
    simpa using q
  have XU := Lib.hid (fun W (hb : Below w0.heap.size w0 W) => show BoxF W w.heap.size ub ud ut uu us (some ⟨bb, off, none⟩) 1 c from hXU.keep hb (by omega))
  have XT := Lib.hid (fun W (hb : Below w0.heap.size w0 W) => show BoxF W (w.heap.size + 1) b d t u s B l.length e from hXT.keep hb (by omega))
  have XR := Lib.hid (fun W (hb : Below w0.heap.size w0 W) => show BoxF W (w.heap.size + 1 + 1) 0 0 0 0 0 none 0 0 from hXR.keep hb (by omega))
  have H' := Lib.hid (h'.belowM hb0)
  have HB0 := Lib.hid hb0
  have HC := Lib.hid (show ∀ W, Below w0.heap.size w0 W → W.cell? ⟨w.heap.size, 5, none⟩ = some (.slice (some ⟨bb, off, none⟩) 1 c) ∧ W.cell? ⟨bb, off, none⟩ = some (.int .i64 0) ∧ W.cell? ⟨bb, off + 1, none⟩ = some (.int .i64 0) ∧ W.cell? ⟨bb, off + 2, none⟩ = some (.int .i64 21) ∧ W.cell? ⟨bb, off + 3, none⟩ = some (.int .i64 0) from fun W hW => by
    have hw := HB0.out.trans (hW.mono HB0.out.size)
    exact ⟨(XU.out W hW).1.2.2.2.2.2, (hw.cell hbB).trans c1, (hw.cell hbB).trans c2, (hw.cell hbB).trans c3, (hw.cell hbB).trans c4⟩)
  clear c1 c2 c3 c4
  obtain ⟨m0, m1, m2, m3, m4⟩ := HC.out w0 (Below.refl _ _)
  have HPT := Lib.hid (fun W => tplain_any b d t u s B l.length e W)
  rw [hpt] at HPT
  have HPU := Lib.hid (fun W => tplain_any ub ud ut uu us (some ⟨bb, off, none⟩) 1 c W)
  rw [hpu] at HPU
  have HA := Lib.hid (fun W => tadd_any b us W)
  rw [hv] at HA
  clear hb0 hXU hXT hXR h'
  go_enter Try.func19, Try.ntmps19
  go_wp2_with (fail)
  go_region_held3 (fun w' => w'.cell? ⟨w.heap.size, 5, none⟩ = some (.slice (some ⟨bb, off, none⟩) 1 c) ∧ w'.cell? ⟨bb, off, none⟩ = some (.int .i64 0) ∧ w'.cell? ⟨bb, off + 1, none⟩ = some (.int .i64 0) ∧ w'.cell? ⟨bb, off + 2, none⟩ = some (.int .i64 21) ∧ w'.cell? ⟨bb, off + 3, none⟩ = some (.int .i64 0))
    (first | go_keep | exact HC.out _ (Below.refl _ _).drew | exact HC.out _ hB2)
    (first
      | (go_at_call 31; (with_reducible refine (whole_any _ _).mono ?_); rintro q2 w2 ⟨rfl, hb2⟩; have hB2 : Below w0.heap.size w0 w2 := (Below.refl _ w0).drew.trans (hb2.mono (by simp))))
  have HB2 := Lib.hid hB2
  clear hB2 hb2 m0 m1 m2 m3 m4
  have hz2 := HB2.out.size
  have hGF := BoxF.new w2 0 0 0 0 0 none 0 0 24
  obtain ⟨w3, hw3⟩ : ∃ w3, w2.alloc (.cells (tcells 0 0 0 0 0 none 0 0) 24) = w3 := ⟨_, rfl⟩
  have h23 : Below w2.heap.size w2 w3 := by rw [← hw3]; exact (Below.refl _ _).alloc (Nat.le_refl _) _
  have hs3 : w3.heap.size = w2.heap.size + 1 := by rw [← hw3]; simp
  rw [hw3] at hGF
  have HB3 := Lib.hid (below_next HB2.out h23)
  have HGF := Lib.hid hGF
  clear h23 hGF
  obtain ⟨⟨s0, s1, s2, s3, s4, s5⟩, sf⟩ := XT.out w3 HB3.out
  go_wp2_with (fail)
  refine (HPT.out _).mono ?_
  rintro q4 w4 ⟨rfl, hb4⟩
  have HG4 := Lib.hid (HGF.out.keep hb4 (by omega))
  have hz4 := hb4.size
  have HB4 := Lib.hid (below_next HB3.out hb4)
  clear hb4 s0 s1 s2 s3 s4 s5 sf
  obtain ⟨⟨u0, u1, u2, u3, u4, u5⟩, uf⟩ := XU.out w4 HB4.out
  go_wp2_with (fail)
  refine (HPU.out _).mono ?_
  rintro q5 w5 ⟨rfl, hb5⟩
  have HG5 := Lib.hid (HG4.out.keep hb5 (by omega))
  have hz5 := hb5.size
  have HB5 := Lib.hid (below_next HB4.out hb5)
  clear hb5 u0 u1 u2 u3 u4 u5 uf
  obtain ⟨⟨k0, k1, k2, k3, k4, k5⟩, kf⟩ := XT.out w5 HB5.out
  obtain ⟨wa, hwa, hFwa, hLwa, hNwa⟩ := HG5.out.store6 b d t u s B l.length e
  have HBwa := Lib.hid (HB5.out.trans (hLwa _ (by omega)))
  have HGwa := Lib.hid hFwa
  have hzwa := (hLwa 0 (by omega)).size
  obtain ⟨⟨wag0, wag1, wag2, wag3, wag4, wag5⟩, wagf⟩ := HG5.out
  have wagf0 := wagf 0 (by omega)
  have wagf1 := wagf 1 (by omega)
  have wagf2 := wagf 2 (by omega)
  have wagf3 := wagf 3 (by omega)
  have wagf4 := wagf 4 (by omega)
  have wagf5 := wagf 5 (by omega)
  obtain ⟨⟨u0, u1, u2, u3, u4, u5⟩, uf⟩ := XU.out wa HBwa.out
  obtain ⟨⟨s0, s1, s2, s3, s4, s5⟩, sf⟩ := XT.out wa HBwa.out
  go_wp2_with (fail)
  refine (HA.out _).mono ?_
  rintro q6 w6 ⟨rfl, rfl⟩
  clear wag0 wagf0 wag1 wagf1 wag2 wagf2 wag3 wagf3 wag4 wagf4 wag5 wagf5 wagf hFwa hwa k0 k1 k2 k3 k4 k5 kf u0 u1 u2 u3 u4 u5 uf s0 s1 s2 s3 s4 s5 sf
  obtain ⟨wb, hwb, hFwb, hLwb, hNwb⟩ := HGwa.out.store0 v
  have HBwb := Lib.hid (HBwa.out.trans (hLwb _ (by omega)))
  have HGwb := Lib.hid hFwb
  have hzwb := (hLwb 0 (by omega)).size
  obtain ⟨⟨wbg0, wbg1, wbg2, wbg3, wbg4, wbg5⟩, wbgf⟩ := HGwa.out
  have wbgf0 := wbgf 0 (by omega)
  have wbgf1 := wbgf 1 (by omega)
  have wbgf2 := wbgf 2 (by omega)
  have wbgf3 := wbgf 3 (by omega)
  have wbgf4 := wbgf 4 (by omega)
  have wbgf5 := wbgf 5 (by omega)
  obtain ⟨w9, hw9, hFw9, hLw9, hNw9⟩ := (XR.out wb HBwb.out).store6 0 0 0 0 0 none 0 0
  obtain ⟨⟨p0, p1, p2, p3, p4, p5⟩, _⟩ := hFw9
  obtain ⟨⟨r0, r1, r2, r3, r4, r5⟩, rf⟩ := XR.out wb HBwb.out
  have rf0 := rf 0 (by omega)
  have rf1 := rf 1 (by omega)
  have rf2 := rf 2 (by omega)
  have rf3 := rf 3 (by omega)
  have rf4 := rf 4 (by omega)
  have rf5 := rf 5 (by omega)
  go_wp2_with (fail)
  exact bodyPost_ret (v := .tuple #[trm 0 0 0 0 0 none 0 0, .bool false]) (by simp [results, Try.results19, go_sem, p0, p1, p2, p3, p4, p5]) rfl ⟨none, 0, rfl, RP.nil_ _ _ _, (HB0.out.trans (HBwb.out.mono HB0.out.size)).trans (hLw9 _ (by omega))⟩
set_option maxHeartbeats 4000000 in
theorem put_w3 (ub ud ut uu us : Int) (bb off c : Nat) (b d t u s : Int) (B : Option Addr) (e : Nat) (l : List PT) (w : World) (hbB : bb < w.heap.size) (c1 : w.cell? ⟨bb, off, none⟩ = some (.int .i64 0)) (c2 : w.cell? ⟨bb, off + 1, none⟩ = some (.int .i64 0)) (c3 : w.cell? ⟨bb, off + 2, none⟩ = some (.int .i64 21)) (c4 : w.cell? ⟨bb, off + 3, none⟩ = some (.int .i64 0)) (h' : RP w w.heap.size B l.length l) (_hl : l.length ≤ 20) (hpt : plainT b d t u = false) (hpu : plainT ub ud ut uu = false) :
    Calls Try.prog 19 #[trm ub ud ut uu us (some ⟨bb, off, none⟩) 1 c, trm b d t u s B l.length e] w (PutOut zTB w) := by
  obtain ⟨w0, hw0⟩ : ∃ w0, ((w.alloc (.cells (tcells ub ud ut uu us (some ⟨bb, off, none⟩) 1 c) 24)).alloc (.cells (tcells b d t u s B l.length e) 24)).alloc (.cells (tcells 0 0 0 0 0 none 0 0) 24) = w0 := ⟨_, rfl⟩
  have hs0 : w0.heap.size = w.heap.size + 1 + 1 + 1 := by rw [← hw0]; simp
  have hb0 : Below w.heap.size w w0 := by rw [← hw0]; exact (((Below.refl _ _).alloc (Nat.le_refl _) _).alloc (by simp) _).alloc (by simp only [World.size_alloc]; omega) _
  have hXU : BoxF w0 w.heap.size ub ud ut uu us (some ⟨bb, off, none⟩) 1 c := by
    rw [← hw0]
    exact ((BoxF.new w ub ud ut uu us (some ⟨bb, off, none⟩) 1 c _).keep ((Below.refl _ _).alloc (Nat.le_refl _) _) (by simp)).keep ((Below.refl _ _).alloc (Nat.le_refl _) _) (by simp only [World.size_alloc]; omega)
  have hXT : BoxF w0 (w.heap.size + 1) b d t u s B l.length e := by
    rw [← hw0]
    have q := (BoxF.new (w.alloc (.cells (tcells ub ud ut uu us (some ⟨bb, off, none⟩) 1 c) 24)) b d t u s B l.length e 24).keep ((Below.refl _ _).alloc (Nat.le_refl _) (.cells (tcells 0 0 0 0 0 none 0 0) 24)) (by simp)
    simpa using q
  have hXR : BoxF w0 (w.heap.size + 1 + 1) 0 0 0 0 0 none 0 0 := by
    rw [← hw0]
    have q := BoxF.new ((w.alloc (.cells (tcells ub ud ut uu us (some ⟨bb, off, none⟩) 1 c) 24)).alloc (.cells (tcells b d t u s B l.length e) 24)) 0 0 0 0 0 none 0 0 24
    simpa using q
  have XU := Lib.hid (fun W (hb : Below w0.heap.size w0 W) => show BoxF W w.heap.size ub ud ut uu us (some ⟨bb, off, none⟩) 1 c from hXU.keep hb (by omega))
  have XT := Lib.hid (fun W (hb : Below w0.heap.size w0 W) => show BoxF W (w.heap.size + 1) b d t u s B l.length e from hXT.keep hb (by omega))
  have XR := Lib.hid (fun W (hb : Below w0.heap.size w0 W) => show BoxF W (w.heap.size + 1 + 1) 0 0 0 0 0 none 0 0 from hXR.keep hb (by omega))
  have H' := Lib.hid (h'.belowM hb0)
  have HB0 := Lib.hid hb0
  have HC := Lib.hid (show ∀ W, Below w0.heap.size w0 W → W.cell? ⟨w.heap.size, 5, none⟩ = some (.slice (some ⟨bb, off, none⟩) 1 c) ∧ W.cell? ⟨bb, off, none⟩ = some (.int .i64 0) ∧ W.cell? ⟨bb, off + 1, none⟩ = some (.int .i64 0) ∧ W.cell? ⟨bb, off + 2, none⟩ = some (.int .i64 21) ∧ W.cell? ⟨bb, off + 3, none⟩ = some (.int .i64 0) from fun W hW => by
    have hw := HB0.out.trans (hW.mono HB0.out.size)
    exact ⟨(XU.out W hW).1.2.2.2.2.2, (hw.cell hbB).trans c1, (hw.cell hbB).trans c2, (hw.cell hbB).trans c3, (hw.cell hbB).trans c4⟩)
  clear c1 c2 c3 c4
  obtain ⟨m0, m1, m2, m3, m4⟩ := HC.out w0 (Below.refl _ _)
  have HPT := Lib.hid (fun W => tplain_any b d t u s B l.length e W)
  rw [hpt] at HPT
  have HPU := Lib.hid (fun W => tplain_any ub ud ut uu us (some ⟨bb, off, none⟩) 1 c W)
  rw [hpu] at HPU
  clear hb0 hXU hXT hXR h'
  go_enter Try.func19, Try.ntmps19
  go_wp2_with (fail)
  go_region_held3 (fun w' => w'.cell? ⟨w.heap.size, 5, none⟩ = some (.slice (some ⟨bb, off, none⟩) 1 c) ∧ w'.cell? ⟨bb, off, none⟩ = some (.int .i64 0) ∧ w'.cell? ⟨bb, off + 1, none⟩ = some (.int .i64 0) ∧ w'.cell? ⟨bb, off + 2, none⟩ = some (.int .i64 21) ∧ w'.cell? ⟨bb, off + 3, none⟩ = some (.int .i64 0))
    (first | go_keep | exact HC.out _ (Below.refl _ _).drew | exact HC.out _ hB2)
    (first
      | (go_at_call 31; (with_reducible refine (whole_any _ _).mono ?_); rintro q2 w2 ⟨rfl, hb2⟩; have hB2 : Below w0.heap.size w0 w2 := (Below.refl _ w0).drew.trans (hb2.mono (by simp))))
  have HB2 := Lib.hid hB2
  clear hB2 hb2 m0 m1 m2 m3 m4
  have hz2 := HB2.out.size
  have hGF := BoxF.new w2 0 0 0 0 0 none 0 0 24
  obtain ⟨w3, hw3⟩ : ∃ w3, w2.alloc (.cells (tcells 0 0 0 0 0 none 0 0) 24) = w3 := ⟨_, rfl⟩
  have h23 : Below w2.heap.size w2 w3 := by rw [← hw3]; exact (Below.refl _ _).alloc (Nat.le_refl _) _
  have hs3 : w3.heap.size = w2.heap.size + 1 := by rw [← hw3]; simp
  rw [hw3] at hGF
  have HB3 := Lib.hid (below_next HB2.out h23)
  have HGF := Lib.hid hGF
  clear h23 hGF
  obtain ⟨⟨s0, s1, s2, s3, s4, s5⟩, sf⟩ := XT.out w3 HB3.out
  go_wp2_with (fail)
  refine (HPT.out _).mono ?_
  rintro q4 w4 ⟨rfl, hb4⟩
  have HG4 := Lib.hid (HGF.out.keep hb4 (by omega))
  have hz4 := hb4.size
  have HB4 := Lib.hid (below_next HB3.out hb4)
  clear hb4 s0 s1 s2 s3 s4 s5 sf
  obtain ⟨⟨u0, u1, u2, u3, u4, u5⟩, uf⟩ := XU.out w4 HB4.out
  go_wp2_with (fail)
  refine (HPU.out _).mono ?_
  rintro q5 w5 ⟨rfl, hb5⟩
  have HG5 := Lib.hid (HG4.out.keep hb5 (by omega))
  have hz5 := hb5.size
  have HB5 := Lib.hid (below_next HB4.out hb5)
  clear hb5 u0 u1 u2 u3 u4 u5 uf
  obtain ⟨w9, hw9, hFw9, hLw9, hNw9⟩ := (XR.out w5 HB5.out).store6 0 0 0 0 0 none 0 0
  obtain ⟨⟨p0, p1, p2, p3, p4, p5⟩, _⟩ := hFw9
  obtain ⟨⟨r0, r1, r2, r3, r4, r5⟩, rf⟩ := XR.out w5 HB5.out
  have rf0 := rf 0 (by omega)
  have rf1 := rf 1 (by omega)
  have rf2 := rf 2 (by omega)
  have rf3 := rf 3 (by omega)
  have rf4 := rf 4 (by omega)
  have rf5 := rf 5 (by omega)
  go_wp2_with (fail)
  exact bodyPost_ret (v := .tuple #[trm 0 0 0 0 0 none 0 0, .bool false]) (by simp [results, Try.results19, go_sem, p0, p1, p2, p3, p4, p5]) rfl ⟨none, 0, rfl, RP.nil_ _ _ _, (HB0.out.trans (HB5.out.mono HB0.out.size)).trans (hLw9 _ (by omega))⟩

theorem tput_any (ub ud ut uu us : Int) (A : Option Addr) (c : Nat) (k : List PT) (b d t u s : Int) (B : Option Addr) (e : Nat) (l : List PT) (w : World) (h : RP w w.heap.size A k.length k) (h' : RP w w.heap.size B l.length l) (hl : l.length ≤ 20) :
    Calls Try.prog 19 #[trm ub ud ut uu us A k.length c, trm b d t u s B l.length e] w (PutOut (putT ⟨ub, ud, ut, uu, us, k, true⟩ ⟨b, d, t, u, s, l, true⟩) w) := by
  match k, h with
  | [], h => exact put_nil ub ud ut uu us A c b d t u s B e l w h'
  | p :: q :: k, h =>
    have e1 : putT ⟨ub, ud, ut, uu, us, p :: q :: k, true⟩ ⟨b, d, t, u, s, l, true⟩ = zTB := by
      unfold putT
      simp
    rw [e1]
    exact put_many ub ud ut uu us A _ c b d t u s B e l w h' (by simp)
  | [p], h =>
    obtain ⟨bb, off, pa, pd, pt, pu, hA, hbB, ⟨_, hlk⟩, c1, c2, c3, c4⟩ := h.at_ (k := 0) (by simp)
    simp only [List.getElem_cons_zero] at hlk
    subst hlk
    subst hA
    simp only [Nat.zero_mul, Nat.add_zero] at c1 c2 c3 c4
    by_cases hz : ((pa, pd, pt, pu) : PT) = (0, 0, 21, 0)
    · simp only [Prod.mk.injEq] at hz
      obtain ⟨rfl, rfl, rfl, rfl⟩ := hz
      unfold putT
      rw [if_neg (by simp), if_pos rfl]
      rcases hpt : plainT b d t u with _ | _
      · rw [if_neg (by simp)]
        rcases hpu : plainT ub ud ut uu with _ | _
        · rw [if_neg (by simp)]
          exact put_w3 ub ud ut uu us bb off c b d t u s B e l w hbB c1 c2 c3 c4 h' hl hpt hpu
        · rw [if_pos rfl]
          obtain ⟨⟨v, ok⟩, hv⟩ : ∃ q, addT b us = q := ⟨_, rfl⟩
          rw [hv]
          cases ok
          · exact put_w2f ub ud ut uu us v bb off c b d t u s B e l w hbB c1 c2 c3 c4 h' hl hpt hpu hv
          · exact put_w2t ub ud ut uu us v bb off c b d t u s B e l w hbB c1 c2 c3 c4 h' hl hpt hpu hv
      · rw [if_pos rfl]
        obtain ⟨⟨v, ok⟩, hv⟩ : ∃ q, addT us s = q := ⟨_, rfl⟩
        rw [hv]
        cases ok
        · exact put_w1f ub ud ut uu us v bb off c b d t u s B e l w hbB c1 c2 c3 c4 h' hl hpt hv
        · exact put_w1t ub ud ut uu us v bb off c b d t u s B e l w hbB c1 c2 c3 c4 h' hl hpt hv
    · have e1 : putT ⟨ub, ud, ut, uu, us, [(pa, pd, pt, pu)], true⟩ ⟨b, d, t, u, s, l, true⟩ = zTB := by
        unfold putT
        rw [if_neg (by simp), if_neg (by simpa using hz)]
      rw [e1]
      by_cases z0 : pa = 0
      · by_cases z1 : pd = 0
        · by_cases z2 : pt = 21
          · subst z0 z1 z2
            exact put_o3 ub ud ut uu us bb off c pu b d t u s B e l w hbB c1 c2 c3 c4 h' (fun z3 => hz (by rw [z3]))
          · subst z0 z1
            exact put_o2 ub ud ut uu us bb off c pt pu b d t u s B e l w hbB c1 c2 c3 c4 h' z2
        · subst z0
          exact put_o1 ub ud ut uu us bb off c pd pt pu b d t u s B e l w hbB c1 c2 c3 c4 h' z1
      · exact put_o0 ub ud ut uu us bb off c pa pd pt pu b d t u s B e l w hbB c1 c2 c3 c4 h' z0
end Go.Proofs.Ytmcgapejebceoaa.Te
