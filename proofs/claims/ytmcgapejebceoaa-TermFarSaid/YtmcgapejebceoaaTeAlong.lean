/- The walk of term.along. -/
import Derived.Test.YtmcgapejebceoaaTeAlike
import Derived.Test.YtmcgapejebceoaaTeSeen
import Derived.Deep.RegionHeld3
namespace Go.Proofs.Ytmcgapejebceoaa.Te
set_option maxRecDepth 100000
open Go Go.RowKit Go.Proofs.Ytmcgapejebceoaa.Sp Go.Proofs.Ytmcgapejebceoaa.Pa

/-- A box of a stretch, that may be written. -/
def BoxS (W : World) (g : Nat) (a : Int) (h : Bool) (v r : Int) : Prop := (W.cell? ⟨g, 0, none⟩ = some (.int .i64 a) ∧ W.cell? ⟨g, 1, none⟩ = some (.bool h) ∧ W.cell? ⟨g, 2, none⟩ = some (.int .i64 v) ∧ W.cell? ⟨g, 3, none⟩ = some (.int .i64 r)) ∧ ∀ i, i < 4 → W.frozen? ⟨g, i, none⟩ = false
abbrev scells (a : Int) (h : Bool) (v r : Int) : Array Value := #[.int .i64 a, .bool h, .int .i64 v, .int .i64 r]
section
variable {W W' w : World} {g B : Nat} {a v r : Int} {h : Bool} {ty : TypeId}
theorem BoxS.new (w : World) (a : Int) (h : Bool) (v r : Int) (ty : TypeId) : BoxS (w.alloc (.cells (scells a h v r) ty)) w.heap.size a h v r := ⟨boxed4 (Below.refl _ _), fun i hi => by simp⟩
theorem BoxS.keep (q : BoxS W g a h v r) (hb : Below B W W') (hg : g < B) : BoxS W' g a h v r := by
  obtain ⟨⟨h0, h1, h2, h3⟩, hf⟩ := q
  exact ⟨⟨(hb.cell hg).trans h0, (hb.cell hg).trans h1, (hb.cell hg).trans h2, (hb.cell hg).trans h3⟩, fun i hi => (hb.frozen (p := ⟨g, i, none⟩) hg).trans (hf i hi)⟩
theorem BoxS.store (q : BoxS W g a h v r) (a' : Int) (h' : Bool) (v' r' : Int) :
    ∃ w5, ((((W.setCell ⟨g, 0, none⟩ (.int .i64 a')).setCell ⟨g, 1, none⟩ (.bool h')).setCell ⟨g, 2, none⟩ (.int .i64 v')).setCell ⟨g, 3, none⟩ (.int .i64 r')) = w5 ∧ BoxS w5 g a' h' v' r' ∧ (∀ B, B ≤ g → Below B W w5) ∧ FarB W w5 g := by
  obtain ⟨⟨g0, g1, g2, g3⟩, hf⟩ := q
  refine ⟨_, rfl, ⟨⟨?_, ?_, ?_, ?_⟩, fun i hi => ?_⟩, fun B hB => (((((Below.refl _ _).setCell (by simpa using hB) _).setCell (by simpa using hB) _).setCell (by simpa using hB) _).setCell (by simpa using hB) _), ((((FarB.refl _ _).set _).set _).set _).set _⟩
  case refine_5 => simp only [set_frozen]; exact hf i hi
  all_goals simp [go_sem, g0, g1, g2, g3]
theorem BoxS.store3 (q : BoxS W g a h v r) (a' v' r' : Int) :
    ∃ w5, (((W.setCell ⟨g, 0, none⟩ (.int .i64 a')).setCell ⟨g, 2, none⟩ (.int .i64 v')).setCell ⟨g, 3, none⟩ (.int .i64 r')) = w5 ∧ BoxS w5 g a' h v' r' ∧ (∀ B, B ≤ g → Below B W w5) ∧ FarB W w5 g := by
  obtain ⟨⟨g0, g1, g2, g3⟩, hf⟩ := q
  refine ⟨_, rfl, ⟨⟨?_, ?_, ?_, ?_⟩, fun i hi => ?_⟩, fun B hB => ((((Below.refl _ _).setCell (by simpa using hB) _).setCell (by simpa using hB) _).setCell (by simpa using hB) _), (((FarB.refl _ _).set _).set _).set _⟩
  case refine_5 => simp only [set_frozen]; exact hf i hi
  all_goals simp [go_sem, g0, g1, g2, g3]
theorem BoxS.far (q : BoxS W g a h v r) {g' : Nat} (hw : FarB W W' g') (hne : g ≠ g') : BoxS W' g a h v r := by
  obtain ⟨⟨h0, h1, h2, h3⟩, hf⟩ := q
  have k := fun i => hw.1 ⟨g, i, none⟩ hne
  exact ⟨⟨(k 0).1.trans h0, (k 1).1.trans h1, (k 2).1.trans h2, (k 3).1.trans h3⟩, fun i hi => (k i).2.trans (hf i hi)⟩
end
theorem growS_append (l r : List PT) : growS (l ++ r) = growS l + growS r := by
  induction l with
  | nil => simp [growS]
  | cons q l ih => simp only [List.cons_append, growS, ih]; omega
theorem grow_next {l : List PT} {k : Nat} {a d t u : Int} (hk : ∃ hl : k < l.length, l[k] = (a, d, t, u)) : growS (l.take (k + 1)) = growS (l.take k) + growP d u := by
  obtain ⟨hl, e⟩ := hk
  rw [List.take_succ_eq_append_getElem hl, growS_append, e]
  simp [growS]
theorem last_next {x L : Int} {l : List PT} {k : Nat} {a d t u : Int} (hk : ∃ hl : k < l.length, l[k] = (a, d, t, u)) : lastF x L (l.take (k + 1)) = min (lastF x L (l.take k)) (lastP d t x) := by
  obtain ⟨hl, e⟩ := hk
  unfold lastF
  rw [List.take_succ_eq_append_getElem hl, List.foldl_append, e]
  rfl
theorem rightP_take {l : List PT} (h : RightP l) (k : Nat) : RightP (l.take k) := fun q hq => h q (List.mem_of_mem_take hq)
def StOut (f : St) (w : World) (e : Ending) (w' : World) : Prop := e = .returned (.agg (scells f.last f.has f.value f.grow)) ∧ Below w.heap.size w w'
def ARel (s x : Int) (l : List PT) (w1 : World) (gf : Nat) (iv : Value) (wr : World) : Prop :=
  ∃ k : Nat, k ≤ l.length ∧ iv = .int .i64 k ∧ BoxS wr gf (lastF x 1114111 (l.take k)) false (innerT [x] s (l.take k)) (growS (l.take k)) ∧ Below gf w1 wr ∧ gf < wr.heap.size
set_option maxHeartbeats 8000000 in
theorem along_any (b d t u s : Int) (A : Option Addr) (c : Nat) (l : List PT) (x : Int) (w : World) (h : RP w w.heap.size A l.length l) (hl : l.length ≤ 20) (hs : R64 s) (hp : partsB 1 l = true) (hBo : Bits d t u) (hx : Sy x) :
    Calls Try.prog 54 #[trm b d t u s A l.length c, .int .i64 x] w (StOut (alongT b d t u s l x) w) := by
  have hR := right_P hp
  obtain ⟨w0, hw0⟩ : ∃ w0, (w.alloc (.cells (tcells b d t u s A l.length c) 24)).alloc (.cells (scells 0 false 0 0) 73) = w0 := ⟨_, rfl⟩
  have hs0 : w0.heap.size = w.heap.size + 1 + 1 := by rw [← hw0]; simp
  have hb0 : Below w.heap.size w w0 := by rw [← hw0]; exact ((Below.refl _ _).alloc (Nat.le_refl _) _).alloc (by simp) _
  have hXT : BoxF w0 w.heap.size b d t u s A l.length c := by
    rw [← hw0]
    exact (BoxF.new w b d t u s A l.length c _).keep ((Below.refl _ _).alloc (Nat.le_refl _) _) (by simp)
  have hXR : BoxS w0 (w.heap.size + 1) 0 false 0 0 := by
    rw [← hw0]
    have q := BoxS.new (w.alloc (.cells (tcells b d t u s A l.length c) 24)) 0 false 0 0 73
    simpa using q
  obtain ⟨w1, hw1⟩ : ∃ w1, w0.alloc (.cells (scells 0 false 0 0) 73) = w1 := ⟨_, rfl⟩
  have h01 : Below w0.heap.size w0 w1 := by rw [← hw1]; exact (Below.refl _ _).alloc (Nat.le_refl _) _
  have hs1 : w1.heap.size = w0.heap.size + 1 := by rw [← hw1]; simp
  have hF1 : BoxS w1 w0.heap.size 0 false 0 0 := by rw [← hw1]; exact BoxS.new _ _ _ _ _ _
  rw [hs0] at hF1
  obtain ⟨w2, hw2, hF2, hL2, hN2⟩ := hF1.store 1114111 false s 0
  have hb2 := h01.trans (hL2 w0.heap.size (by omega))
  have hs2 : w2.heap.size = w1.heap.size := hN2.2
  have HB2 := Lib.hid hb2
  have XT := Lib.hid (fun W (hb : Below w0.heap.size w0 W) => show Boxed6 W w.heap.size b d t u s A l.length c from (hXT.keep hb (by omega)).1)
  have XR := Lib.hid (fun W (hb : Below w0.heap.size w0 W) => show BoxS W (w.heap.size + 1) 0 false 0 0 from hXR.keep hb (by omega))
  have H := Lib.hid (h.belowM hb0)
  have HB0 := Lib.hid hb0
  have HF2 := Lib.hid hF2
  obtain ⟨⟨f0, f1, f2, f3⟩, ff⟩ := hF1
  have ff0 := ff 0 (by omega)
  have ff1 := ff 1 (by omega)
  have ff2 := ff 2 (by omega)
  have ff3 := ff 3 (by omega)
  obtain ⟨q0, q1, q2, q3, q4, q5⟩ := XT.out w0 (Below.refl _ _)
  obtain ⟨p0, p1, p2, p3, p4, p5⟩ := XT.out w2 hb2
  clear h hb0 hXT hXR hF2 hL2 hN2 h01 hb2
  go_enter Try.func54, Try.ntmps54
  go_wp2_with (fail)
  go_loopw [23] (fun i wr => ARel s x l w2 (w.heap.size + 1 + 1) i wr) (fun i _ => l.length - (intOf i).toNat)
  case atStart => exact ⟨0, Nat.zero_le _, rfl, HF2.out, Below.refl _ _, by omega⟩
  case round =>
    obtain ⟨k, hk, rfl, hf, hb, hz⟩ := hrel
    clear f0 f1 f2 f3 ff ff0 ff1 ff2 ff3 q0 q1 q2 q3 q4 q5 p0 p1 p2 p3 p4 p5
    have hbw := HB2.out.trans (hb.mono (show w0.heap.size ≤ w.heap.size + 1 + 1 by omega))
    have HBW := Lib.hid hbw
    obtain ⟨L, hL⟩ : ∃ L, lastF x 1114111 (l.take k) = L := ⟨_, rfl⟩
    obtain ⟨I, hI⟩ : ∃ I, innerT [x] s (l.take k) = I := ⟨_, rfl⟩
    obtain ⟨G, hG⟩ : ∃ G, growS (l.take k) = G := ⟨_, rfl⟩
    have hGb := growS_bound (rightP_take hR k)
    have hGl : (l.take k).length ≤ 20 := by rw [List.length_take]; omega
    have hLb := (lastF_le x (l.take k) 1114111).1
    have hLg := lastF_ge (x := x) (l.take k) 1114111 hx.2
    have hIR : R64 I := by rw [← hI, inner_sum _ _ _ hs]; exact wrap_R _
    rw [hL, hI, hG] at hf
    rw [hG] at hGb
    rw [hL] at hLb hLg
    have HF := Lib.hid hf
    by_cases hlt : k < l.length
    · obtain ⟨bb, off, a', d', t', u', hA', hbB, hlk, c1, c2, c3, c4⟩ := (H.out.below hbw).at_ hlt
      subst hA'
      have hr := hR _ (List.getElem_mem hlt)
      have hlk3 := hlk
      obtain ⟨_, hlk2⟩ := hlk3
      rw [hlk2] at hr
      obtain ⟨ha0, hBp⟩ := hr
      dsimp only at ha0 hBp
      subst ha0
      have HN1 := Lib.hid (show lastF x 1114111 (l.take (k + 1)) = min L (lastP d' t' x) by rw [last_next hlk, hL])
      have HN2 := Lib.hid (show innerT [x] s (l.take (k + 1)) = wrap64 (I + valI d' t' u' x) by rw [inner_next hlk, hI]; rfl)
      have HN3 := Lib.hid (show growS (l.take (k + 1)) = G + growP d' u' by rw [grow_next hlk, hG])
      have hgp := growP_bound hBp
      have hvp : valP d' t' u' x = (valI d' t' u' x, true) := if_pos ⟨hBp, hx.1, by have := hx.2; omega⟩
      have HV := Lib.hid (fun W => value_any 0 d' t' u' x W (by have := hx.2; omega))
      rw [hvp] at HV
      have HA := Lib.hid (fun W => alike_any 0 d' t' u' x hBp hx.1 (by have := hx.2; omega) W)
      generalize valI d' t' u' x = v at *
      generalize lastP d' t' x = lp at *
      generalize growP d' u' = gp at *
      obtain ⟨M, hM⟩ : ∃ M, (if lp < L then lp else L) = M := ⟨_, rfl⟩
      have hM2 : min L lp = M := by rw [← hM]; split <;> omega
      obtain ⟨I2, hI2⟩ : ∃ I2, wrap64 (I + v) = I2 := ⟨_, rfl⟩
      have hwI : IntKind.i64.wrap (I + v) = I2 := by rw [← hI2]; unfold wrap64; exact IntKind.wrap_i64 _
      have hwG : IntKind.i64.wrap (G + gp) = G + gp := IntWalk.i64_in _ (by omega)
      rw [hM2] at HN1
      rw [hI2] at HN2
      obtain ⟨w5, hw5⟩ : ∃ w5, wr.alloc (.cells #[.int .i64 0, .int .i64 d', .int .i64 t', .int .i64 u'] 33) = w5 := ⟨_, rfl⟩
      have h5 : Below wr.heap.size wr w5 := by rw [← hw5]; exact (Below.refl _ _).alloc (Nat.le_refl _) _
      have hs5 : w5.heap.size = wr.heap.size + 1 := by rw [← hw5]; simp
      have Z5 := Lib.hid (show ∀ W, Below w5.heap.size w5 W → W.cell? ⟨wr.heap.size, 0, none⟩ = some (.int .i64 0) ∧ W.cell? ⟨wr.heap.size, 1, none⟩ = some (.int .i64 d') ∧ W.cell? ⟨wr.heap.size, 2, none⟩ = some (.int .i64 t') ∧ W.cell? ⟨wr.heap.size, 3, none⟩ = some (.int .i64 u') from fun W hW => by
        rw [← hw5] at hW
        exact boxed4 hW)
      obtain ⟨z0, z1, z2, z3⟩ := Z5.out w5 (Below.refl _ _)
      have H5 := Lib.hid h5
      have HB := Lib.hid hb
      clear hlk2 hlk hbw hb hf hL hI hG h5 hvp
      go_wp2_with (fail)
      refine (HV.out _).mono ?_
      rintro qq6 w6 ⟨rfl, hb6⟩
      have HB6 := Lib.hid (below_next H5.out hb6)
      clear c1 c2 c3 c4 z0 z1 z2 z3
      obtain ⟨z0, z1, z2, z3⟩ := Z5.out w6 hb6
      have H56 := Lib.hid hb6
      clear hb6
      go_wp2_with (fail)
      refine (HA.out _).mono ?_
      rintro qq7 w7 ⟨rfl, hb7⟩
      have hb77 := below_next HB6.out hb7
      have hs7 := hb77.size
      have hf7 := HF.out.keep hb77 hz
      obtain ⟨w8, hw8, hF8, hL8, hN8⟩ := hf7.store3 M I2 (G + gp)
      obtain ⟨⟨x0, x1, x2, x3⟩, xf⟩ := hf7
      have xf0 := xf 0 (by omega)
      have xf2 := xf 2 (by omega)
      have xf3 := xf 3 (by omega)
      have HF8 := Lib.hid hF8
      have HB8 := Lib.hid (HB.out.trans ((hb77.mono (by omega)).trans (hL8 _ (Nat.le_refl _))))
      have hs8 := hN8.2
      clear hb7 hb77 z0 z1 z2 z3 xf hF8 hN8
      go_wp2_with (fail)
      go_roundw
      case rel => exact ⟨k + 1, by omega, by go_num, by rw [HN1.out, HN2.out, HN3.out]; exact HF8.out, HB8.out, by omega⟩
      case measure => simp [intOf]; omega
    · have hkl : k = l.length := by omega
      subst hkl
      rw [List.take_length] at hL hI hG
      have HT := Lib.hid (fun W => twhole_any b d t u s A l.length c I W)
      have HO := Lib.hid (fun W => outer_any b d t u s A l.length c W)
      have hnx : 0 ≤ L - x ∧ L - x ≤ 1114111 := by have := hx.1; omega
      have hwL : IntKind.i64.wrap (L - x) = L - x := IntWalk.i64_in _ (by omega)
      have hGb2 : 0 ≤ G ∧ G ≤ 20971520 := by omega
      obtain ⟨x0, x1, x2, x3⟩ := hf.1
      obtain ⟨q0, q1, q2, q3, q4, q5⟩ := XT.out wr hbw
      by_cases hS : Sy I
      · have hw : wholeT b d t u I = (wrap64 (b + valI d t u I), true) := if_pos ⟨hS, hBo⟩
        rw [hw] at HT
        have hbd : I ≤ min (lastP d t I) 1114111 := by have := lastP_ge d t I; have := hS.2; omega
        have hlb := lastP_lt (t := t) hBo hS.1 (by have := hS.2; omega)
        obtain ⟨bd, hbdE⟩ : ∃ q, min (lastP d t I) 1114111 = q := ⟨_, rfl⟩
        have HE := Lib.hid (show alongT b d t u s l x = ⟨x + lastsV (L - x) G I bd, true, wrap64 (b + valI d t u I), G * growP d u⟩ from by
          unfold alongT
          rw [hI, hw, if_pos rfl, hL, hG, hbdE])
        have HA := Lib.hid (fun W => alike_any 0 d t u I hBo hS.1 (by have := hS.2; omega) W)
        have hgp := growP_bound hBo
        have hgg := mul_bound hGb2.1 hGb2.2 hgp.1 hgp.2
        have HLS := Lib.hid (fun W => lasts_any (L - x) G I bd hGb2.1 (by omega) (by have := hS.1; omega) W)
        generalize wrap64 (b + valI d t u I) = V at *
        generalize lastP d t I = lp at *
        generalize growP d u = gp at *
        have hM1 : (if 1114111 < lp then (1114111 : Int) else lp) = bd := by rw [← hbdE]; split <;> omega
        have hwg : IntKind.i64.wrap (G * gp) = G * gp := IntWalk.i64_in _ (by omega)
        have hbl := lasts_bound (f := I) (bd := bd) hGb2.1 hnx.1 (by rw [← hbdE]; exact hbd)
        obtain ⟨N, hN⟩ : ∃ N, lastsV (L - x) G I bd = N := ⟨_, rfl⟩
        rw [hN] at HLS HE hbl
        have hwx : IntKind.i64.wrap (x + N) = x + N := IntWalk.i64_in _ (by have := hx.1; have := hx.2; omega)
        clear hbd hL hI hG hw hb hN
        go_wp2_with (fail)
        refine (HT.out _).mono ?_
        rintro qq6 w6 ⟨rfl, hb6⟩
        have HB6 := Lib.hid (HBW.out.trans (hb6.mono (by omega)))
        clear q0 q1 q2 q3 q4 q5 x0 x1 x2 x3
        obtain ⟨q0, q1, q2, q3, q4, q5⟩ := XT.out w6 HB6.out
        have HF6 := Lib.hid (HF.out.keep hb6 hz)
        have hs6 := hb6.size
        clear hb6
        go_wp2_with (fail)
        refine (HO.out _).mono ?_
        rintro qq7 w7 ⟨rfl, hb7⟩
        have HB7 := Lib.hid (HB6.out.trans (hb7.mono (by omega)))
        have HF7 := Lib.hid (HF6.out.keep hb7 (by omega))
        have hs7 := hb7.size
        clear hb7 q0 q1 q2 q3 q4 q5
        go_wp2_with (fail)
        refine (HA.out _).mono ?_
        rintro qq8 w8 ⟨rfl, hb8⟩
        have HB8 := Lib.hid (HB7.out.trans (hb8.mono (by omega)))
        have hF8 := HF7.out.keep hb8 (by omega)
        have hs8 := hb8.size
        obtain ⟨⟨x0, x1, x2, x3⟩, _⟩ := hF8
        have hr8 := XR.out w8 HB8.out
        obtain ⟨w9, hw9, hF9, hL9, hN9⟩ := hr8.store (x + N) true V (G * gp)
        obtain ⟨⟨r0, r1, r2, r3⟩, rf⟩ := XR.out w8 HB8.out
        have rf0 := rf 0 (by omega)
        have rf1 := rf 1 (by omega)
        have rf2 := rf 2 (by omega)
        have rf3 := rf 3 (by omega)
        obtain ⟨⟨p0, p1, p2, p3⟩, _⟩ := hF9
        have hne1 : ¬ (w.heap.size + 1 = w.heap.size + 1 + 1) := by omega
        have HB9 := Lib.hid ((HB0.out.trans (HB8.out.mono HB0.out.size)).trans (hL9 _ (by omega))).drew
        obtain ⟨⟨s0, s1, s2, s3⟩, _⟩ := (HF7.out.keep hb8 (by omega)).far hN9 (by omega)
        clear hb8 hr8 hL9 hN9 rf
        go_wp2_with (fail)
        go_region_held3 (fun W => W.cell? ⟨w.heap.size + 1 + 1, 0, none⟩ = some (.int .i64 L) ∧ W.cell? ⟨w.heap.size + 1 + 1, 3, none⟩ = some (.int .i64 G))
          (first | go_keep | (go_split_ands; constructor <;> assumption))
          (first
            | (go_at_call 75; (with_reducible refine (HLS.out _).mono ?_); rintro q4 w14 ⟨rfl, rfl⟩))
        go_wp2_with (fail)
        refine bodyPost_ret (v := .agg (scells (x + N) true V (G * gp))) (by simp [results, Try.results54, go_sem, p0, p1, p2, p3]) rfl ?_
        rw [HE.out]
        exact ⟨rfl, HB9.out⟩
      · have hw : wholeT b d t u I = (0, false) := if_neg (fun q => hS q.1)
        rw [hw] at HT
        have HE := Lib.hid (show alongT b d t u s l x = ⟨x + lastsV (L - x) G I (-1), false, 0, 0⟩ from by
          unfold alongT
          rw [hI, hw, if_neg (by simp), hL, hG])
        have HLS := Lib.hid (fun W => lasts_any (L - x) G I (-1) hGb2.1 (by omega) (by unfold R64 at hIR; omega) W)
        have hbl := lasts_bound0 (f := I) (bd := -1) (n := L - x) hGb2.1 hnx.1
        obtain ⟨N, hN⟩ : ∃ N, lastsV (L - x) G I (-1) = N := ⟨_, rfl⟩
        rw [hN] at HLS HE hbl
        have hwx : IntKind.i64.wrap (x + N) = x + N := IntWalk.i64_in _ (by have := hx.1; have := hx.2; omega)
        clear hL hI hG hw hb hN
        go_wp2_with (fail)
        refine (HT.out _).mono ?_
        rintro qq6 w6 ⟨rfl, hb6⟩
        have HB6 := Lib.hid (HBW.out.trans (hb6.mono (by omega)))
        clear q0 q1 q2 q3 q4 q5 x0 x1 x2 x3
        have hF6 := HF.out.keep hb6 hz
        have hs6 := hb6.size
        obtain ⟨⟨x0, x1, x2, x3⟩, _⟩ := hF6
        have hr6 := XR.out w6 HB6.out
        obtain ⟨w9, hw9, hF9, hL9, hN9⟩ := hr6.store (x + N) false 0 0
        obtain ⟨⟨r0, r1, r2, r3⟩, rf⟩ := hr6
        have rf0 := rf 0 (by omega)
        have rf1 := rf 1 (by omega)
        have rf2 := rf 2 (by omega)
        have rf3 := rf 3 (by omega)
        obtain ⟨⟨p0, p1, p2, p3⟩, _⟩ := hF9
        have HB9 := Lib.hid ((HB0.out.trans (HB6.out.mono HB0.out.size)).trans (hL9 _ (by omega)))
        clear hb6 hL9 hN9 rf
        go_wp2_with (fail)
        refine (HLS.out _).mono ?_
        rintro qq7 wq7 ⟨rfl, rfl⟩
        go_wp2_with (fail)
        refine bodyPost_ret (v := .agg (scells (x + N) false 0 0)) (by simp [results, Try.results54, go_sem, p0, p1, p2, p3]) rfl ?_
        rw [HE.out]
        exact ⟨rfl, HB9.out⟩
end Go.Proofs.Ytmcgapejebceoaa.Te
