/- Texts of this proof, joined: TeAlong, TeRVal, TeRights, TeAwake. -/
import Derived.Test.YtplpafoflibnlaaM4
import Derived.Deep.RegionHeld3
/- The walk of term.along. -/
namespace Go.Proofs.Ytplpafoflibnlaa.Te
set_option maxRecDepth 100000
open Go Go.RowKit Go.Proofs.Ytplpafoflibnlaa.Sp Go.Proofs.Ytplpafoflibnlaa.Pa

/-- A box of a stretch, that may be written. -/
def BoxS (W : World) (g : Nat) (a : Int) (h : Bool) (v r : Int) : Prop := (W.cell? ⟨g, 0, none⟩ = some (.int .i64 a) ∧ W.cell? ⟨g, 1, none⟩ = some (.bool h) ∧ W.cell? ⟨g, 2, none⟩ = some (.int .i64 v) ∧ W.cell? ⟨g, 3, none⟩ = some (.int .i64 r)) ∧ ∀ i, i < 4 → W.frozen? ⟨g, i, none⟩ = false
abbrev scells (a : Int) (h : Bool) (v r : Int) : Array Value := #[.int .i64 a, .bool h, .int .i64 v, .int .i64 r]
section
variable {W W' w : World} {g B : Nat} {a v r : Int} {h : Bool} {ty : TypeId}
theorem BoxS.new (w : World) (a : Int) (h : Bool) (v r : Int) (ty : TypeId) : BoxS (w.alloc (.cells (scells a h v r) ty)) w.heap.size a h v r := ⟨boxed4 (Below.refl _ _), fun i hi => by simp⟩
theorem BoxS.keep (q : BoxS W g a h v r) (hb : Below B W W') (hg : g < B) : BoxS W' g a h v r := by
  obtain ⟨⟨h0, h1, h2, h3⟩, hf⟩ := q
  exact ⟨⟨(hb.cell hg).trans h0, (hb.cell hg).trans h1, (hb.cell hg).trans h2, (hb.cell hg).trans h3⟩, fun i hi => (hb.frozen (p := ⟨g, i, none⟩) hg).trans (hf i hi)⟩
theorem BoxS.store (q : BoxS W g a h v r) (a' : Int) (h' : Bool) (v' r' : Int) :
    ∃ w5, ((((W.setCell ⟨g, 0, none⟩ (.int .i64 a')).setCell ⟨g, 1, none⟩ (.bool h')).setCell ⟨g, 2, none⟩ (.int .i64 v')).setCell ⟨g, 3, none⟩ (.int .i64 r')) = w5 ∧ BoxS w5 g a' h' v' r' ∧ (∀ B, B ≤ g → Below B W w5) ∧ FarB W w5 g := by
  obtain ⟨⟨g0, g1, g2, g3⟩, hf⟩ := q
  refine ⟨_, rfl, ⟨⟨?_, ?_, ?_, ?_⟩, fun i hi => ?_⟩, fun B hB => (((((Below.refl _ _).setCell (by simpa using hB) _).setCell (by simpa using hB) _).setCell (by simpa using hB) _).setCell (by simpa using hB) _), ((((FarB.refl _ _).set _).set _).set _).set _⟩
  case refine_5 => simp only [set_frozen]; exact hf i hi
  all_goals simp [go_sem, g0, g1, g2, g3]
theorem BoxS.store3 (q : BoxS W g a h v r) (a' v' r' : Int) :
    ∃ w5, (((W.setCell ⟨g, 0, none⟩ (.int .i64 a')).setCell ⟨g, 2, none⟩ (.int .i64 v')).setCell ⟨g, 3, none⟩ (.int .i64 r')) = w5 ∧ BoxS w5 g a' h v' r' ∧ (∀ B, B ≤ g → Below B W w5) ∧ FarB W w5 g := by
  obtain ⟨⟨g0, g1, g2, g3⟩, hf⟩ := q
  refine ⟨_, rfl, ⟨⟨?_, ?_, ?_, ?_⟩, fun i hi => ?_⟩, fun B hB => ((((Below.refl _ _).setCell (by simpa using hB) _).setCell (by simpa using hB) _).setCell (by simpa using hB) _), (((FarB.refl _ _).set _).set _).set _⟩
  case refine_5 => simp only [set_frozen]; exact hf i hi
  all_goals simp [go_sem, g0, g1, g2, g3]
theorem BoxS.far (q : BoxS W g a h v r) {g' : Nat} (hw : FarB W W' g') (hne : g ≠ g') : BoxS W' g a h v r := by
  obtain ⟨⟨h0, h1, h2, h3⟩, hf⟩ := q
  have k := fun i => hw.1 ⟨g, i, none⟩ hne
  exact ⟨⟨(k 0).1.trans h0, (k 1).1.trans h1, (k 2).1.trans h2, (k 3).1.trans h3⟩, fun i hi => (k i).2.trans (hf i hi)⟩
end
theorem growS_append (l r : List PT) : growS (l ++ r) = growS l + growS r := by
  induction l with
  | nil => simp [growS]
  | cons q l ih => simp only [List.cons_append, growS, ih]; omega
theorem grow_next {l : List PT} {k : Nat} {a d t u : Int} (hk : ∃ hl : k < l.length, l[k] = (a, d, t, u)) : growS (l.take (k + 1)) = growS (l.take k) + growP d u := by
  obtain ⟨hl, e⟩ := hk
  rw [List.take_succ_eq_append_getElem hl, growS_append, e]
  simp [growS]
theorem last_next {x L : Int} {l : List PT} {k : Nat} {a d t u : Int} (hk : ∃ hl : k < l.length, l[k] = (a, d, t, u)) : lastF x L (l.take (k + 1)) = min (lastF x L (l.take k)) (lastP d t x) := by
  obtain ⟨hl, e⟩ := hk
  unfold lastF
  rw [List.take_succ_eq_append_getElem hl, List.foldl_append, e]
  rfl
theorem rightP_take {l : List PT} (h : RightP l) (k : Nat) : RightP (l.take k) := fun q hq => h q (List.mem_of_mem_take hq)
def StOut (f : St) (w : World) (e : Ending) (w' : World) : Prop := e = .returned (.agg (scells f.last f.has f.value f.grow)) ∧ Below w.heap.size w w'
def ARel (s x : Int) (l : List PT) (w1 : World) (gf : Nat) (iv : Value) (wr : World) : Prop :=
  ∃ k : Nat, k ≤ l.length ∧ iv = .int .i64 k ∧ BoxS wr gf (lastF x 1114111 (l.take k)) false (innerT [x] s (l.take k)) (growS (l.take k)) ∧ Below gf w1 wr ∧ gf < wr.heap.size
set_option maxHeartbeats 8000000 in
theorem along_any (b d t u s : Int) (A : Option Addr) (c : Nat) (l : List PT) (x : Int) (w : World) (h : RP w w.heap.size A l.length l) (hl : l.length ≤ 20) (hs : R64 s) (hp : partsB 1 l = true) (hBo : Bits d t u) (hx : Sy x) :
    Calls Try.prog 44 #[trm b d t u s A l.length c, .int .i64 x] w (StOut (alongT b d t u s l x) w) := by
  have hR := right_P hp
  obtain ⟨w0, hw0⟩ : ∃ w0, (w.alloc (.cells (tcells b d t u s A l.length c) 24)).alloc (.cells (scells 0 false 0 0) 73) = w0 := ⟨_, rfl⟩
  have hs0 : w0.heap.size = w.heap.size + 1 + 1 := by rw [← hw0]; simp
  have hb0 : Below w.heap.size w w0 := by rw [← hw0]; exact ((Below.refl _ _).alloc (Nat.le_refl _) _).alloc (by simp) _
  have hXT : BoxF w0 w.heap.size b d t u s A l.length c := by
    rw [← hw0]
    exact (BoxF.new w b d t u s A l.length c _).keep ((Below.refl _ _).alloc (Nat.le_refl _) _) (by simp)
  have hXR : BoxS w0 (w.heap.size + 1) 0 false 0 0 := by
    rw [← hw0]
    have q := BoxS.new (w.alloc (.cells (tcells b d t u s A l.length c) 24)) 0 false 0 0 73
    simpa using q
  obtain ⟨w1, hw1⟩ : ∃ w1, w0.alloc (.cells (scells 0 false 0 0) 73) = w1 := ⟨_, rfl⟩
  have h01 : Below w0.heap.size w0 w1 := by rw [← hw1]; exact (Below.refl _ _).alloc (Nat.le_refl _) _
  have hs1 : w1.heap.size = w0.heap.size + 1 := by rw [← hw1]; simp
  have hF1 : BoxS w1 w0.heap.size 0 false 0 0 := by rw [← hw1]; exact BoxS.new _ _ _ _ _ _
  rw [hs0] at hF1
  obtain ⟨w2, hw2, hF2, hL2, hN2⟩ := hF1.store 1114111 false s 0
  have hb2 := h01.trans (hL2 w0.heap.size (by omega))
  have hs2 : w2.heap.size = w1.heap.size := hN2.2
  have HB2 := Lib.hid hb2
  have XT := Lib.hid (fun W (hb : Below w0.heap.size w0 W) => show Boxed6 W w.heap.size b d t u s A l.length c from (hXT.keep hb (by omega)).1)
  have XR := Lib.hid (fun W (hb : Below w0.heap.size w0 W) => show BoxS W (w.heap.size + 1) 0 false 0 0 from hXR.keep hb (by omega))
  have H := Lib.hid (h.belowM hb0)
  have HB0 := Lib.hid hb0
  have HF2 := Lib.hid hF2
  obtain ⟨⟨f0, f1, f2, f3⟩, ff⟩ := hF1
  have ff0 := ff 0 (by omega)
  have ff1 := ff 1 (by omega)
  have ff2 := ff 2 (by omega)
  have ff3 := ff 3 (by omega)
  obtain ⟨q0, q1, q2, q3, q4, q5⟩ := XT.out w0 (Below.refl _ _)
  obtain ⟨p0, p1, p2, p3, p4, p5⟩ := XT.out w2 hb2
  clear h hb0 hXT hXR hF2 hL2 hN2 h01 hb2
  go_enter Try.func44, Try.ntmps44
  go_wp2_with (fail)
  go_loopw [23] (fun i wr => ARel s x l w2 (w.heap.size + 1 + 1) i wr) (fun i _ => l.length - (intOf i).toNat)
  case atStart => exact ⟨0, Nat.zero_le _, rfl, HF2.out, Below.refl _ _, by omega⟩
  case round =>
    obtain ⟨k, hk, rfl, hf, hb, hz⟩ := hrel
    clear f0 f1 f2 f3 ff ff0 ff1 ff2 ff3 q0 q1 q2 q3 q4 q5 p0 p1 p2 p3 p4 p5
    have hbw := HB2.out.trans (hb.mono (show w0.heap.size ≤ w.heap.size + 1 + 1 by omega))
    have HBW := Lib.hid hbw
    obtain ⟨L, hL⟩ : ∃ L, lastF x 1114111 (l.take k) = L := ⟨_, rfl⟩
    obtain ⟨I, hI⟩ : ∃ I, innerT [x] s (l.take k) = I := ⟨_, rfl⟩
    obtain ⟨G, hG⟩ : ∃ G, growS (l.take k) = G := ⟨_, rfl⟩
    have hGb := growS_bound (rightP_take hR k)
    have hGl : (l.take k).length ≤ 20 := by rw [List.length_take]; omega
    have hLb := (lastF_le x (l.take k) 1114111).1
    have hLg := lastF_ge (x := x) (l.take k) 1114111 hx.2
    have hIR : R64 I := by rw [← hI, inner_sum _ _ _ hs]; exact wrap_R _
    rw [hL, hI, hG] at hf
    rw [hG] at hGb
    rw [hL] at hLb hLg
    have HF := Lib.hid hf
    by_cases hlt : k < l.length
    · obtain ⟨bb, off, a', d', t', u', hA', hbB, hlk, c1, c2, c3, c4⟩ := (H.out.below hbw).at_ hlt
      subst hA'
      have hr := hR _ (List.getElem_mem hlt)
      have hlk3 := hlk
      obtain ⟨_, hlk2⟩ := hlk3
      rw [hlk2] at hr
      obtain ⟨ha0, hBp⟩ := hr
      dsimp only at ha0 hBp
      subst ha0
      have HN1 := Lib.hid (show lastF x 1114111 (l.take (k + 1)) = min L (lastP d' t' x) by rw [last_next hlk, hL])
      have HN2 := Lib.hid (show innerT [x] s (l.take (k + 1)) = wrap64 (I + valI d' t' u' x) by rw [inner_next hlk, hI]; rfl)
      have HN3 := Lib.hid (show growS (l.take (k + 1)) = G + growP d' u' by rw [grow_next hlk, hG])
      have hgp := growP_bound hBp
      have hvp : valP d' t' u' x = (valI d' t' u' x, true) := if_pos ⟨hBp, hx.1, by have := hx.2; omega⟩
      have HV := Lib.hid (fun W => value_any 0 d' t' u' x W (by have := hx.2; omega))
      rw [hvp] at HV
      have HA := Lib.hid (fun W => alike_any 0 d' t' u' x hBp hx.1 (by have := hx.2; omega) W)
      generalize valI d' t' u' x = v at *
      generalize lastP d' t' x = lp at *
      generalize growP d' u' = gp at *
      obtain ⟨M, hM⟩ : ∃ M, (if lp < L then lp else L) = M := ⟨_, rfl⟩
      have hM2 : min L lp = M := by rw [← hM]; split <;> omega
      obtain ⟨I2, hI2⟩ : ∃ I2, wrap64 (I + v) = I2 := ⟨_, rfl⟩
      have hwI : IntKind.i64.wrap (I + v) = I2 := by rw [← hI2]; unfold wrap64; exact IntKind.wrap_i64 _
      have hwG : IntKind.i64.wrap (G + gp) = G + gp := IntWalk.i64_in _ (by omega)
      rw [hM2] at HN1
      rw [hI2] at HN2
      obtain ⟨w5, hw5⟩ : ∃ w5, wr.alloc (.cells #[.int .i64 0, .int .i64 d', .int .i64 t', .int .i64 u'] 64) = w5 := ⟨_, rfl⟩
      have h5 : Below wr.heap.size wr w5 := by rw [← hw5]; exact (Below.refl _ _).alloc (Nat.le_refl _) _
      have hs5 : w5.heap.size = wr.heap.size + 1 := by rw [← hw5]; simp
      have Z5 := Lib.hid (show ∀ W, Below w5.heap.size w5 W → W.cell? ⟨wr.heap.size, 0, none⟩ = some (.int .i64 0) ∧ W.cell? ⟨wr.heap.size, 1, none⟩ = some (.int .i64 d') ∧ W.cell? ⟨wr.heap.size, 2, none⟩ = some (.int .i64 t') ∧ W.cell? ⟨wr.heap.size, 3, none⟩ = some (.int .i64 u') from fun W hW => by
        rw [← hw5] at hW
        exact boxed4 hW)
      obtain ⟨z0, z1, z2, z3⟩ := Z5.out w5 (Below.refl _ _)
      have H5 := Lib.hid h5
      have HB := Lib.hid hb
      clear hlk2 hlk hbw hb hf hL hI hG h5 hvp
      go_wp2_with (fail)
      refine (HV.out _).mono ?_
      rintro qq6 w6 ⟨rfl, hb6⟩
      have HB6 := Lib.hid (below_next H5.out hb6)
      clear c1 c2 c3 c4 z0 z1 z2 z3
      obtain ⟨z0, z1, z2, z3⟩ := Z5.out w6 hb6
      have H56 := Lib.hid hb6
      clear hb6
      go_wp2_with (fail)
      refine (HA.out _).mono ?_
      rintro qq7 w7 ⟨rfl, hb7⟩
      have hb77 := below_next HB6.out hb7
      have hs7 := hb77.size
      have hf7 := HF.out.keep hb77 hz
      obtain ⟨w8, hw8, hF8, hL8, hN8⟩ := hf7.store3 M I2 (G + gp)
      obtain ⟨⟨x0, x1, x2, x3⟩, xf⟩ := hf7
      have xf0 := xf 0 (by omega)
      have xf2 := xf 2 (by omega)
      have xf3 := xf 3 (by omega)
      have HF8 := Lib.hid hF8
      have HB8 := Lib.hid (HB.out.trans ((hb77.mono (by omega)).trans (hL8 _ (Nat.le_refl _))))
      have hs8 := hN8.2
      clear hb7 hb77 z0 z1 z2 z3 xf hF8 hN8
      go_wp2_with (fail)
      go_roundw
      case rel => exact ⟨k + 1, by omega, by go_num, by rw [HN1.out, HN2.out, HN3.out]; exact HF8.out, HB8.out, by omega⟩
      case measure => simp [intOf]; omega
    · have hkl : k = l.length := by omega
      subst hkl
      rw [List.take_length] at hL hI hG
      have HT := Lib.hid (fun W => twhole_any b d t u s A l.length c I W)
      have HO := Lib.hid (fun W => outer_any b d t u s A l.length c W)
      have hnx : 0 ≤ L - x ∧ L - x ≤ 1114111 := by have := hx.1; omega
      have hwL : IntKind.i64.wrap (L - x) = L - x := IntWalk.i64_in _ (by omega)
      have hGb2 : 0 ≤ G ∧ G ≤ 20971520 := by omega
      obtain ⟨x0, x1, x2, x3⟩ := hf.1
      obtain ⟨q0, q1, q2, q3, q4, q5⟩ := XT.out wr hbw
      by_cases hS : Sy I
      · have hw : wholeT b d t u I = (wrap64 (b + valI d t u I), true) := if_pos ⟨hS, hBo⟩
        rw [hw] at HT
        have hbd : I ≤ min (lastP d t I) 1114111 := by have := lastP_ge d t I; have := hS.2; omega
        have hlb := lastP_lt (t := t) hBo hS.1 (by have := hS.2; omega)
        obtain ⟨bd, hbdE⟩ : ∃ q, min (lastP d t I) 1114111 = q := ⟨_, rfl⟩
        have HE := Lib.hid (show alongT b d t u s l x = ⟨x + lastsV (L - x) G I bd, true, wrap64 (b + valI d t u I), G * growP d u⟩ from by
          unfold alongT
          rw [hI, hw, if_pos rfl, hL, hG, hbdE])
        have HA := Lib.hid (fun W => alike_any 0 d t u I hBo hS.1 (by have := hS.2; omega) W)
        have hgp := growP_bound hBo
        have hgg := mul_bound hGb2.1 hGb2.2 hgp.1 hgp.2
        have HLS := Lib.hid (fun W => lasts_any (L - x) G I bd hGb2.1 (by omega) (by have := hS.1; omega) W)
        generalize wrap64 (b + valI d t u I) = V at *
        generalize lastP d t I = lp at *
        generalize growP d u = gp at *
        have hM1 : (if 1114111 < lp then (1114111 : Int) else lp) = bd := by rw [← hbdE]; split <;> omega
        have hwg : IntKind.i64.wrap (G * gp) = G * gp := IntWalk.i64_in _ (by omega)
        have hbl := lasts_bound (f := I) (bd := bd) hGb2.1 hnx.1 (by rw [← hbdE]; exact hbd)
        obtain ⟨N, hN⟩ : ∃ N, lastsV (L - x) G I bd = N := ⟨_, rfl⟩
        rw [hN] at HLS HE hbl
        have hwx : IntKind.i64.wrap (x + N) = x + N := IntWalk.i64_in _ (by have := hx.1; have := hx.2; omega)
        clear hbd hL hI hG hw hb hN
        go_wp2_with (fail)
        refine (HT.out _).mono ?_
        rintro qq6 w6 ⟨rfl, hb6⟩
        have HB6 := Lib.hid (HBW.out.trans (hb6.mono (by omega)))
        clear q0 q1 q2 q3 q4 q5 x0 x1 x2 x3
        obtain ⟨q0, q1, q2, q3, q4, q5⟩ := XT.out w6 HB6.out
        have HF6 := Lib.hid (HF.out.keep hb6 hz)
        have hs6 := hb6.size
        clear hb6
        go_wp2_with (fail)
        refine (HO.out _).mono ?_
        rintro qq7 w7 ⟨rfl, hb7⟩
        have HB7 := Lib.hid (HB6.out.trans (hb7.mono (by omega)))
        have HF7 := Lib.hid (HF6.out.keep hb7 (by omega))
        have hs7 := hb7.size
        clear hb7 q0 q1 q2 q3 q4 q5
        go_wp2_with (fail)
        refine (HA.out _).mono ?_
        rintro qq8 w8 ⟨rfl, hb8⟩
        have HB8 := Lib.hid (HB7.out.trans (hb8.mono (by omega)))
        have hF8 := HF7.out.keep hb8 (by omega)
        have hs8 := hb8.size
        obtain ⟨⟨x0, x1, x2, x3⟩, _⟩ := hF8
        have hr8 := XR.out w8 HB8.out
        obtain ⟨w9, hw9, hF9, hL9, hN9⟩ := hr8.store (x + N) true V (G * gp)
        obtain ⟨⟨r0, r1, r2, r3⟩, rf⟩ := XR.out w8 HB8.out
        have rf0 := rf 0 (by omega)
        have rf1 := rf 1 (by omega)
        have rf2 := rf 2 (by omega)
        have rf3 := rf 3 (by omega)
        obtain ⟨⟨p0, p1, p2, p3⟩, _⟩ := hF9
        have hne1 : ¬ (w.heap.size + 1 = w.heap.size + 1 + 1) := by omega
        have HB9 := Lib.hid ((HB0.out.trans (HB8.out.mono HB0.out.size)).trans (hL9 _ (by omega))).drew
        obtain ⟨⟨s0, s1, s2, s3⟩, _⟩ := (HF7.out.keep hb8 (by omega)).far hN9 (by omega)
        clear hb8 hr8 hL9 hN9 rf
        go_wp2_with (fail)
        go_region_held3 (fun W => W.cell? ⟨w.heap.size + 1 + 1, 0, none⟩ = some (.int .i64 L) ∧ W.cell? ⟨w.heap.size + 1 + 1, 3, none⟩ = some (.int .i64 G))
          (first | go_keep | (go_split_ands; constructor <;> assumption))
          (first
            | (go_at_call 82; (with_reducible refine (HLS.out _).mono ?_); rintro q4 w14 ⟨rfl, rfl⟩))
        go_wp2_with (fail)
        refine bodyPost_ret (v := .agg (scells (x + N) true V (G * gp))) (by simp [results, Try.results44, go_sem, p0, p1, p2, p3]) rfl ?_
        rw [HE.out]
        exact ⟨rfl, HB9.out⟩
      · have hw : wholeT b d t u I = (0, false) := if_neg (fun q => hS q.1)
        rw [hw] at HT
        have HE := Lib.hid (show alongT b d t u s l x = ⟨x + lastsV (L - x) G I (-1), false, 0, 0⟩ from by
          unfold alongT
          rw [hI, hw, if_neg (by simp), hL, hG])
        have HLS := Lib.hid (fun W => lasts_any (L - x) G I (-1) hGb2.1 (by omega) (by unfold R64 at hIR; omega) W)
        have hbl := lasts_bound0 (f := I) (bd := -1) (n := L - x) hGb2.1 hnx.1
        obtain ⟨N, hN⟩ : ∃ N, lastsV (L - x) G I (-1) = N := ⟨_, rfl⟩
        rw [hN] at HLS HE hbl
        have hwx : IntKind.i64.wrap (x + N) = x + N := IntWalk.i64_in _ (by have := hx.1; have := hx.2; omega)
        clear hL hI hG hw hb hN
        go_wp2_with (fail)
        refine (HT.out _).mono ?_
        rintro qq6 w6 ⟨rfl, hb6⟩
        have HB6 := Lib.hid (HBW.out.trans (hb6.mono (by omega)))
        clear q0 q1 q2 q3 q4 q5 x0 x1 x2 x3
        have hF6 := HF.out.keep hb6 hz
        have hs6 := hb6.size
        obtain ⟨⟨x0, x1, x2, x3⟩, _⟩ := hF6
        have hr6 := XR.out w6 HB6.out
        obtain ⟨w9, hw9, hF9, hL9, hN9⟩ := hr6.store (x + N) false 0 0
        obtain ⟨⟨r0, r1, r2, r3⟩, rf⟩ := hr6
        have rf0 := rf 0 (by omega)
        have rf1 := rf 1 (by omega)
        have rf2 := rf 2 (by omega)
        have rf3 := rf 3 (by omega)
        obtain ⟨⟨p0, p1, p2, p3⟩, _⟩ := hF9
        have HB9 := Lib.hid ((HB0.out.trans (HB6.out.mono HB0.out.size)).trans (hL9 _ (by omega)))
        clear hb6 hL9 hN9 rf
        go_wp2_with (fail)
        refine (HLS.out _).mono ?_
        rintro qq7 wq7 ⟨rfl, rfl⟩
        go_wp2_with (fail)
        refine bodyPost_ret (v := .agg (scells (x + N) false 0 0)) (by simp [results, Try.results44, go_sem, p0, p1, p2, p3]) rfl ?_
        rw [HE.out]
        exact ⟨rfl, HB9.out⟩
end Go.Proofs.Ytplpafoflibnlaa.Te
/- The walk of the document's Value of a term. -/
namespace Go.Proofs.Ytplpafoflibnlaa.Te
set_option maxRecDepth 100000
open Go Go.RowKit Go.Proofs.Ytplpafoflibnlaa.Sp Go.Proofs.Ytplpafoflibnlaa.Pa

def VRel3 (xs : List Int) (s : Int) (l : List PT) (B : Nat) (w2 : World) (sv iv : Value) (wr : World) : Prop := ∃ k : Nat, k ≤ l.length ∧ iv = .int .i64 k ∧ sv = .int .i64 (innerT xs s (l.take k)) ∧ AllR xs.length l k ∧ Below B w2 wr
set_option maxHeartbeats 8000000 in
theorem rtvalue_any (b d t u s : Int) (A B : Option Addr) (n c m e : Nat) (l : List PT) (xs : List Int) (w : World) (h : RP w w.heap.size A n l) (hn : n ≤ maxLen) (h' : RR w w.heap.size B m xs) (hm : m ≤ maxLen) :
    Calls Try.prog 46 #[trm b d t u s A n c, .slice B m e] w (RetV (valueT b d t u s l xs) w) := by
  unfold maxLen at hn hm
  have hlen := h.1
  have hlen' := h'.1
  subst hlen hlen'
  have hbw : Below w.heap.size w (w.alloc (.cells (tcells b d t u s A l.length c) 24)) := (Below.refl _ w).alloc (Nat.le_refl _) _
  obtain ⟨w0, hw0⟩ : ∃ w0, w.alloc (.cells (tcells b d t u s A l.length c) 24) = w0 := ⟨_, rfl⟩
  have X6 := Lib.hid (fun W (hb : Below w0.heap.size w0 W) => show Boxed6 W w.heap.size b d t u s A l.length c from by rw [← hw0] at hb; exact boxed6 hb)
  rw [hw0] at hbw
  have HW := Lib.hid hbw
  have H := Lib.hid (h.belowM hbw)
  have H' := Lib.hid (h'.belowM hbw)
  clear h h' hbw
  go_enter Try.func46, Try.ntmps46
  go_wp2_with (fail)
  go_loopw [6] (fun i wr => VRel1 xs w0.heap.size w0 i wr) (fun i _ => xs.length - (intOf i).toNat)
  case atStart => exact ⟨0, Nat.zero_le _, rfl, fun q hq => by simp at hq, Below.refl _ _⟩
  case round =>
    obtain ⟨k, hk, rfl, hA, hb⟩ := hrel
    have HA := Lib.hid hA
    have HB := Lib.hid hb
    have hz := hb.size
    by_cases hlt : k < xs.length
    · obtain ⟨bb, off, x, hA', hbB, hlk, c1, x1, x2⟩ := (H'.out.below hb).at_ hlt
      have HLK := Lib.hid hlk
      subst hA'
      clear hA hb hlk
      by_cases hx0 : x < 0
      · have HV := Lib.hid (show valueT b d t u s l xs = (0, false) from if_neg (fun h => by rw [symB_false HLK.out (fun q => by have := q.1; omega)] at h; exact absurd h.1 (by decide)))
        go_wp2_with (fail)
        go_ret2
        exact ⟨ret_v HV.out, HW.out.trans (HB.out.mono HW.out.size)⟩
      · by_cases hx1 : 1114111 < x
        · have HV := Lib.hid (show valueT b d t u s l xs = (0, false) from if_neg (fun h => by rw [symB_false HLK.out (fun q => by have := q.2; omega)] at h; exact absurd h.1 (by decide)))
          go_wp2_with (fail)
          go_ret2
          exact ⟨ret_v HV.out, HW.out.trans (HB.out.mono HW.out.size)⟩
        · go_wp2_with (fail)
          go_roundw
          case rel => exact ⟨k + 1, by omega, by go_num, allS_next HA.out HLK.out ⟨by omega, by omega⟩, HB.out⟩
          case measure => simp [intOf]; omega
    · have hkl : k = xs.length := by omega
      subst hkl
      have HS := Lib.hid (symB_true hA)
      obtain ⟨r0, r1, r2, r3, r4, r5⟩ := X6.out wr hb
      clear hA hb
      go_wp2_with (fail)
      obtain ⟨w3, hw3⟩ : ∃ w3, w3 = wr := ⟨_, rfl⟩
      subst hw3
      go_loopw [7, 8] (fun sv iv wr => VRel3 xs s l w3.heap.size w3 sv iv wr) (fun _ i _ => l.length - (intOf i).toNat)
      case atStart => exact ⟨0, Nat.zero_le _, rfl, rfl, fun q hq => by simp at hq, Below.refl _ _⟩
      case round =>
        obtain ⟨k, hk, rfl, rfl, hR, hb⟩ := hrel
        have HR := Lib.hid hR
        have hbx := HB.out.trans (hb.mono hz)
        obtain ⟨r0, r1, r2, r3, r4, r5⟩ := X6.out wr hbx
        have HB2 := Lib.hid hbx
        have hz4 := hbx.size
        obtain ⟨acc, hacc⟩ : ∃ acc, innerT xs s (l.take k) = acc := ⟨_, rfl⟩
        rw [hacc]
        by_cases hlt : k < l.length
        · obtain ⟨bb, off, a', d', t', u', hA', hbB, hlk, c1, c2, c3, c4⟩ := (H.out.below hbx).at_ hlt
          have HLK := Lib.hid hlk
          have HRT := Lib.hid (rright_any a' d' t' u' xs.length)
          have HBR := Lib.hid hb
          obtain ⟨w5, hw5⟩ : ∃ w5, wr.alloc (.cells #[.int .i64 a', .int .i64 d', .int .i64 t', .int .i64 u'] 64) = w5 := ⟨_, rfl⟩
          have h45 : Below wr.heap.size wr w5 := by rw [← hw5]; exact (Below.refl _ _).alloc (Nat.le_refl _) _
          have H45 := Lib.hid h45
          have Z5 := Lib.hid (show ∀ W, Below w5.heap.size w5 W → W.cell? ⟨wr.heap.size, 0, none⟩ = some (.int .i64 a') ∧ W.cell? ⟨wr.heap.size, 1, none⟩ = some (.int .i64 d') ∧ W.cell? ⟨wr.heap.size, 2, none⟩ = some (.int .i64 t') ∧ W.cell? ⟨wr.heap.size, 3, none⟩ = some (.int .i64 u') from fun W hW => by
            rw [← hw5] at hW
            exact boxed4 hW)
          obtain ⟨z0, z1, z2, z3⟩ := Z5.out w5 (Below.refl _ _)
          subst hA'
          rcases hrt : rightB a' d' t' u' xs.length with _ | _
          · rw [hrt] at HRT
            have HV := Lib.hid (show valueT b d t u s l xs = (0, false) from if_neg (fun h => by rw [partsB_false HLK.out hrt] at h; exact absurd h.2 (by decide)))
            clear hrt hlk hacc hb hbx hR h45
            go_wp2_with (fail)
            refine (HRT.out _).mono ?_
            rintro e w6 ⟨rfl, hb6⟩
            go_wp2_with (fail)
            go_ret2
            exact ⟨ret_v HV.out, HW.out.trans ((HB2.out.trans ((H45.out.trans (hb6.mono H45.out.size)).mono hz4)).mono HW.out.size)⟩
          · rw [hrt] at HRT
            have HRR := Lib.hid (allR_next HR.out HLK.out hrt)
            unfold rightB at hrt
            obtain ⟨ra, rb, rc⟩ := of_decide_eq_true hrt
            obtain ⟨j, hj⟩ := Int.eq_ofNat_of_zero_le ra
            subst hj
            have hjl : j < xs.length := by omega
            obtain ⟨b2, off2, x, hB', hbB2, hxk, y1, x1, x2⟩ := (H'.out.below hbx).at_ hjl
            subst hB'
            have hsy : Sy x := by
              obtain ⟨_, e1⟩ := hxk
              rw [← e1]
              have := HA.out
              rw [AllS, List.take_length] at this
              exact this _ (List.getElem_mem _)
            have HI := Lib.hid (show innerT xs s (l.take (k + 1)) = wrap64 (acc + valI d' t' u' x) from by rw [inner_next HLK.out, hacc, atI_get rfl hxk])
            have hx9 : x ≤ 9223372036854775807 := by omega
            have HX := Lib.hid (show ∀ W, Calls Try.prog 84 #[prt j d' t' u', .int .i64 (IntKind.i64.wrap x)] W (RetV (valP d' t' u' x) W) from fun W => by rw [IntWalk.i64_in x (by omega)]; exact rvalue_any j d' t' u' x W hx9)
            have hp : valP d' t' u' x = (valI d' t' u' x, true) := if_pos ⟨rc, hsy.1, by have := hsy.2; omega⟩
            rw [hp] at HX
            have hvb := valI_bound rc x
            generalize valI d' t' u' x = v at *
            have HC := Lib.hid (show ∀ W, Below wr.heap.size wr W → W.cell? ⟨b2, off2 + j, none⟩ = some (.int .i32 x) from fun W hW => (hW.cell (by simp only; omega)).trans y1)
            have Q5 := Lib.hid (show ∀ W, Below w5.heap.size w5 W → W.cell? ⟨wr.heap.size, 0, none⟩ = some (.int .i64 j) ∧ W.cell? ⟨wr.heap.size, 1, none⟩ = some (.int .i64 d') ∧ W.cell? ⟨wr.heap.size, 2, none⟩ = some (.int .i64 t') ∧ W.cell? ⟨wr.heap.size, 3, none⟩ = some (.int .i64 u') ∧ W.cell? ⟨b2, off2 + j, none⟩ = some (.int .i32 x) from fun W hW => by
              obtain ⟨z0, z1, z2, z3⟩ := Z5.out W hW
              exact ⟨z0, z1, z2, z3, HC.out W (h45.trans (hW.mono h45.size))⟩)
            clear hrt hp rc hxk hlk hacc hb hbx hsy h45 HC hR
            go_wp2_with (fail)
            refine (HRT.out _).mono ?_
            rintro e w6 ⟨rfl, hb6⟩
            obtain ⟨y0, y1, y2, y3, y4⟩ := Q5.out _ hb6
            have H6 := Lib.hid hb6
            clear hb6 z0 z1 z2 z3
            go_wp2_with (fail)
            go_region_held3 (fun w' => w'.cell? ⟨wr.heap.size, 0, none⟩ = some (.int .i64 j) ∧ w'.cell? ⟨wr.heap.size, 1, none⟩ = some (.int .i64 d') ∧ w'.cell? ⟨wr.heap.size, 2, none⟩ = some (.int .i64 t') ∧ w'.cell? ⟨wr.heap.size, 3, none⟩ = some (.int .i64 u') ∧ w'.cell? ⟨b2, off2 + j, none⟩ = some (.int .i32 x))
              (first | go_keep | exact Q5.out _ H6.out.drew | exact Q5.out _ hB4)
              (first
                | (go_at_call 84; (with_reducible refine (HX.out _).mono ?_); rintro q4 w4 ⟨rfl, hb4⟩; have hB4 : Below w5.heap.size w5 w4 := H6.out.drew.trans (hb4.mono H6.out.drew.size)))
            have HB4 := Lib.hid (HBR.out.trans ((H45.out.trans (hB4.mono H45.out.size)).mono HBR.out.size))
            clear hb4 hB4
            go_wp2_with (fail)
            go_roundw
            case rel => exact ⟨k + 1, by omega, by go_num, by rw [HI.out], HRR.out, HB4.out⟩
            case measure => simp [intOf]; omega
        · have hkl : k = l.length := by omega
          subst hkl
          have HV := Lib.hid (show valueT b d t u s l xs = wholeT b d t u acc from by
            rw [← hacc, List.take_length]
            exact if_pos ⟨HS.out, partsB_true hR⟩)
          clear hacc hb hbx hR
          have HO := Lib.hid (router_any b d t u s A l.length c)
          by_cases g1 : acc < 0
          · have HE := Lib.hid (show wholeT b d t u acc = (0, false) from if_neg (fun h => by have := h.1.1; omega))
            go_wp2_with (fail)
            go_ret2
            exact ⟨ret_v (by rw [HV.out, HE.out]), HW.out.trans (HB2.out.mono HW.out.size)⟩
          · by_cases g2 : 1114111 < acc
            · have HE := Lib.hid (show wholeT b d t u acc = (0, false) from if_neg (fun h => by have := h.1.2; omega))
              go_wp2_with (fail)
              go_ret2
              exact ⟨ret_v (by rw [HV.out, HE.out]), HW.out.trans (HB2.out.mono HW.out.size)⟩
            · have hx9 : acc ≤ 9223372036854775807 := by omega
              have HX := Lib.hid (fun W => rvalue_any 0 d t u acc W hx9)
              by_cases h2 : Bits d t u
              · have hp : valP d t u acc = (valI d t u acc, true) := if_pos ⟨h2, by omega, by omega⟩
                rw [hp] at HX
                have HE := Lib.hid (show wholeT b d t u acc = (wrap64 (b + valI d t u acc), true) from if_pos ⟨⟨by omega, by omega⟩, h2⟩)
                generalize valI d t u acc = v at *
                clear hp h2
                go_wp2_with (fail)
                refine (HO.out _).mono ?_
                rintro e w4 ⟨rfl, hb4⟩
                go_wp2_with (fail)
                refine (HX.out _).mono ?_
                rintro e w5 ⟨rfl, hb5⟩
                have hb9 := HB2.out.trans ((hb4.trans (hb5.mono hb4.size)).mono hz4)
                obtain ⟨q0, q1, q2, q3, q4, q5⟩ := X6.out w5 hb9
                have H9 := Lib.hid hb9
                clear hb9 hb4 hb5 r0 r1 r2 r3 r4 r5
                go_wp2_with (fail)
                go_ret2
                exact ⟨ret_v (by rw [HV.out, HE.out]), HW.out.trans (H9.out.mono HW.out.size)⟩
              · have hp : valP d t u acc = (0, false) := if_neg (fun h => h2 h.1)
                rw [hp] at HX
                have HE := Lib.hid (show wholeT b d t u acc = (0, false) from if_neg (fun h => h2 h.2))
                clear hp h2
                go_wp2_with (fail)
                refine (HO.out _).mono ?_
                rintro e w4 ⟨rfl, hb4⟩
                go_wp2_with (fail)
                refine (HX.out _).mono ?_
                rintro e w5 ⟨rfl, hb5⟩
                go_wp2_with (fail)
                go_ret2
                exact ⟨ret_v (by rw [HV.out, HE.out]), HW.out.trans ((HB2.out.trans ((hb4.trans (hb5.mono hb4.size)).mono hz4)).mono HW.out.size)⟩
end Go.Proofs.Ytplpafoflibnlaa.Te
/- The walks of term.Right and of the document's Right. -/
namespace Go.Proofs.Ytplpafoflibnlaa.Te
set_option maxRecDepth 100000
open Go Go.RowKit Go.Proofs.Ytplpafoflibnlaa.Sp Go.Proofs.Ytplpafoflibnlaa.Pa

noncomputable def rightT (i o m b d t u s : Int) (l : List PT) : Bool := decide (i = 1 ∨ i = 2) && (decide (o = 1 ∨ o = 2) && (numB b d t u s l && (partsB m l && ((!(i == 2) || copyB l) && (!(o == 2) || plainT b d t u)))))
set_option maxHeartbeats 4000000 in
theorem tright_any (i o m b d t u s : Int) (A : Option Addr) (n c : Nat) (l : List PT) (w : World) (h : RP w w.heap.size A n l) (hn : n ≤ maxLen) :
    Calls Try.prog 41 #[trm b d t u s A n c, .int .i64 i, .int .i64 o, .int .i64 m] w (RetB (rightT i o m b d t u s l) w) := by
  unfold maxLen at hn
  have hlen := h.1
  subst hlen
  have hbw : Below w.heap.size w (w.alloc (.cells (tcells b d t u s A l.length c) 24)) := (Below.refl _ w).alloc (Nat.le_refl _) _
  obtain ⟨w0, hw0⟩ : ∃ w0, w.alloc (.cells (tcells b d t u s A l.length c) 24) = w0 := ⟨_, rfl⟩
  have X6 := Lib.hid (fun W (hb : Below w0.heap.size w0 W) => show Boxed6 W w.heap.size b d t u s A l.length c from by rw [← hw0] at hb; exact boxed6 hb)
  rw [hw0] at hbw
  have HW := Lib.hid hbw
  have H := Lib.hid (h.belowM hbw)
  have HB0 := Lib.hid (Below.refl w0.heap.size w0)
  obtain ⟨r0, r1, r2, r3, r4, r5⟩ := X6.out w0 (Below.refl _ _)
  clear h hbw
  have HI := Lib.hid (known_any i)
  have HO := Lib.hid (known_any o)
  have HN := Lib.hid (fun W (hW : RP W W.heap.size A l.length l) => tnum_any b d t u s A l.length c l W hW hn)
  have HP := Lib.hid (fun W (hW : RP W W.heap.size A l.length l) => tparts_any b d t u s A l.length c l m W hW hn)
  have HC := Lib.hid (fun W (hW : RP W W.heap.size A l.length l) => copies_any b d t u s A l.length c l W hW hn)
  have HL := Lib.hid (tplain_any b d t u s A l.length c)
  by_cases k1 : i = 1 ∨ i = 2
  case neg =>
    rw [decide_eq_false k1] at HI
    go_enter Try.func41, Try.ntmps41
    go_wp2_with (fail)
    refine (HI.out _).mono ?_
    rintro e w9 ⟨rfl, rfl⟩
    go_wp2_with (fail)
    go_ret
    exact ⟨ret_bool (by simp [rightT, k1]), HW.out.trans (HB0.out.mono HW.out.size)⟩
  rw [decide_eq_true k1] at HI
  by_cases k2 : o = 1 ∨ o = 2
  case neg =>
    rw [decide_eq_false k2] at HO
    go_enter Try.func41, Try.ntmps41
    go_wp2_with (fail)
    refine (HI.out _).mono ?_
    rintro e w9 ⟨rfl, rfl⟩
    go_wp2_with (fail)
    refine (HO.out _).mono ?_
    rintro e w9 ⟨rfl, rfl⟩
    go_wp2_with (fail)
    go_ret
    exact ⟨ret_bool (by simp [rightT, k2]), HW.out.trans (HB0.out.mono HW.out.size)⟩
  rw [decide_eq_true k2] at HO
  rcases k3 : numB b d t u s l with _ | _
  case false =>
    rw [k3] at HN
    go_enter Try.func41, Try.ntmps41
    go_wp2_with (fail)
    refine (HI.out _).mono ?_
    rintro e w9 ⟨rfl, rfl⟩
    go_wp2_with (fail)
    refine (HO.out _).mono ?_
    rintro e w9 ⟨rfl, rfl⟩
    go_wp2_with (fail)
    refine (HN.out _ (H.out.belowM HB0.out)).mono ?_
    rintro e w1 ⟨rfl, hb1⟩
    have HB1 := Lib.hid (HB0.out.trans (hb1.mono HB0.out.size))
    clear r0 r1 r2 r3 r4 r5
    obtain ⟨r0, r1, r2, r3, r4, r5⟩ := X6.out w1 HB1.out
    clear hb1
    go_wp2_with (fail)
    go_ret
    exact ⟨ret_bool (by simp [rightT, k3]), HW.out.trans (HB1.out.mono HW.out.size)⟩
  case true =>
  rw [k3] at HN
  rcases k4 : partsB m l with _ | _
  case false =>
    rw [k4] at HP
    go_enter Try.func41, Try.ntmps41
    go_wp2_with (fail)
    refine (HI.out _).mono ?_
    rintro e w9 ⟨rfl, rfl⟩
    go_wp2_with (fail)
    refine (HO.out _).mono ?_
    rintro e w9 ⟨rfl, rfl⟩
    go_wp2_with (fail)
    refine (HN.out _ (H.out.belowM HB0.out)).mono ?_
    rintro e w1 ⟨rfl, hb1⟩
    have HB1 := Lib.hid (HB0.out.trans (hb1.mono HB0.out.size))
    clear r0 r1 r2 r3 r4 r5
    obtain ⟨r0, r1, r2, r3, r4, r5⟩ := X6.out w1 HB1.out
    clear hb1
    go_wp2_with (fail)
    refine (HP.out _ (H.out.belowM HB1.out)).mono ?_
    rintro e w2 ⟨rfl, hb2⟩
    have HB2 := Lib.hid (HB1.out.trans (hb2.mono HB1.out.size))
    clear r0 r1 r2 r3 r4 r5
    obtain ⟨r0, r1, r2, r3, r4, r5⟩ := X6.out w2 HB2.out
    clear hb2
    go_wp2_with (fail)
    go_ret
    exact ⟨ret_bool (by simp [rightT, k4]), HW.out.trans (HB2.out.mono HW.out.size)⟩
  case true =>
  rw [k4] at HP
  rcases k1 with rfl | rfl
  · rcases k2 with rfl | rfl
    · go_enter Try.func41, Try.ntmps41
      go_wp2_with (fail)
      refine (HI.out _).mono ?_
      rintro e w9 ⟨rfl, rfl⟩
      go_wp2_with (fail)
      refine (HO.out _).mono ?_
      rintro e w9 ⟨rfl, rfl⟩
      go_wp2_with (fail)
      refine (HN.out _ (H.out.belowM HB0.out)).mono ?_
      rintro e w1 ⟨rfl, hb1⟩
      have HB1 := Lib.hid (HB0.out.trans (hb1.mono HB0.out.size))
      clear r0 r1 r2 r3 r4 r5
      obtain ⟨r0, r1, r2, r3, r4, r5⟩ := X6.out w1 HB1.out
      clear hb1
      go_wp2_with (fail)
      refine (HP.out _ (H.out.belowM HB1.out)).mono ?_
      rintro e w2 ⟨rfl, hb2⟩
      have HB2 := Lib.hid (HB1.out.trans (hb2.mono HB1.out.size))
      clear r0 r1 r2 r3 r4 r5
      obtain ⟨r0, r1, r2, r3, r4, r5⟩ := X6.out w2 HB2.out
      clear hb2
      go_wp2_with (fail)
      go_ret
      exact ⟨ret_bool (by simp [rightT, k3, k4]), HW.out.trans (HB2.out.mono HW.out.size)⟩
    · go_enter Try.func41, Try.ntmps41
      go_wp2_with (fail)
      refine (HI.out _).mono ?_
      rintro e w9 ⟨rfl, rfl⟩
      go_wp2_with (fail)
      refine (HO.out _).mono ?_
      rintro e w9 ⟨rfl, rfl⟩
      go_wp2_with (fail)
      refine (HN.out _ (H.out.belowM HB0.out)).mono ?_
      rintro e w1 ⟨rfl, hb1⟩
      have HB1 := Lib.hid (HB0.out.trans (hb1.mono HB0.out.size))
      clear r0 r1 r2 r3 r4 r5
      obtain ⟨r0, r1, r2, r3, r4, r5⟩ := X6.out w1 HB1.out
      clear hb1
      go_wp2_with (fail)
      refine (HP.out _ (H.out.belowM HB1.out)).mono ?_
      rintro e w2 ⟨rfl, hb2⟩
      have HB2 := Lib.hid (HB1.out.trans (hb2.mono HB1.out.size))
      clear r0 r1 r2 r3 r4 r5
      obtain ⟨r0, r1, r2, r3, r4, r5⟩ := X6.out w2 HB2.out
      clear hb2
      go_wp2_with (fail)
      refine (HL.out _).mono ?_
      rintro e w3 ⟨rfl, hb3⟩
      have HB3 := Lib.hid (HB2.out.trans (hb3.mono HB2.out.size))
      clear r0 r1 r2 r3 r4 r5
      obtain ⟨r0, r1, r2, r3, r4, r5⟩ := X6.out w3 HB3.out
      clear hb3
      go_wp2_with (fail)
      go_ret
      exact ⟨ret_bool (by simp [rightT, k3, k4]), HW.out.trans (HB3.out.mono HW.out.size)⟩
  · rcases k5 : copyB l with _ | _
    · rw [k5] at HC
      go_enter Try.func41, Try.ntmps41
      go_wp2_with (fail)
      refine (HI.out _).mono ?_
      rintro e w9 ⟨rfl, rfl⟩
      go_wp2_with (fail)
      refine (HO.out _).mono ?_
      rintro e w9 ⟨rfl, rfl⟩
      go_wp2_with (fail)
      refine (HN.out _ (H.out.belowM HB0.out)).mono ?_
      rintro e w1 ⟨rfl, hb1⟩
      have HB1 := Lib.hid (HB0.out.trans (hb1.mono HB0.out.size))
      clear r0 r1 r2 r3 r4 r5
      obtain ⟨r0, r1, r2, r3, r4, r5⟩ := X6.out w1 HB1.out
      clear hb1
      go_wp2_with (fail)
      refine (HP.out _ (H.out.belowM HB1.out)).mono ?_
      rintro e w2 ⟨rfl, hb2⟩
      have HB2 := Lib.hid (HB1.out.trans (hb2.mono HB1.out.size))
      clear r0 r1 r2 r3 r4 r5
      obtain ⟨r0, r1, r2, r3, r4, r5⟩ := X6.out w2 HB2.out
      clear hb2
      go_wp2_with (fail)
      refine (HC.out _ (H.out.belowM HB2.out)).mono ?_
      rintro e w3 ⟨rfl, hb3⟩
      have HB3 := Lib.hid (HB2.out.trans (hb3.mono HB2.out.size))
      clear r0 r1 r2 r3 r4 r5
      obtain ⟨r0, r1, r2, r3, r4, r5⟩ := X6.out w3 HB3.out
      clear hb3
      go_wp2_with (fail)
      go_ret
      exact ⟨ret_bool (by simp [rightT, k5]), HW.out.trans (HB3.out.mono HW.out.size)⟩
    · rw [k5] at HC
      rcases k2 with rfl | rfl
      · go_enter Try.func41, Try.ntmps41
        go_wp2_with (fail)
        refine (HI.out _).mono ?_
        rintro e w9 ⟨rfl, rfl⟩
        go_wp2_with (fail)
        refine (HO.out _).mono ?_
        rintro e w9 ⟨rfl, rfl⟩
        go_wp2_with (fail)
        refine (HN.out _ (H.out.belowM HB0.out)).mono ?_
        rintro e w1 ⟨rfl, hb1⟩
        have HB1 := Lib.hid (HB0.out.trans (hb1.mono HB0.out.size))
        clear r0 r1 r2 r3 r4 r5
        obtain ⟨r0, r1, r2, r3, r4, r5⟩ := X6.out w1 HB1.out
        clear hb1
        go_wp2_with (fail)
        refine (HP.out _ (H.out.belowM HB1.out)).mono ?_
        rintro e w2 ⟨rfl, hb2⟩
        have HB2 := Lib.hid (HB1.out.trans (hb2.mono HB1.out.size))
        clear r0 r1 r2 r3 r4 r5
        obtain ⟨r0, r1, r2, r3, r4, r5⟩ := X6.out w2 HB2.out
        clear hb2
        go_wp2_with (fail)
        refine (HC.out _ (H.out.belowM HB2.out)).mono ?_
        rintro e w3 ⟨rfl, hb3⟩
        have HB3 := Lib.hid (HB2.out.trans (hb3.mono HB2.out.size))
        clear r0 r1 r2 r3 r4 r5
        obtain ⟨r0, r1, r2, r3, r4, r5⟩ := X6.out w3 HB3.out
        clear hb3
        go_wp2_with (fail)
        go_ret
        exact ⟨ret_bool (by simp [rightT, k3, k4, k5]), HW.out.trans (HB3.out.mono HW.out.size)⟩
      · go_enter Try.func41, Try.ntmps41
        go_wp2_with (fail)
        refine (HI.out _).mono ?_
        rintro e w9 ⟨rfl, rfl⟩
        go_wp2_with (fail)
        refine (HO.out _).mono ?_
        rintro e w9 ⟨rfl, rfl⟩
        go_wp2_with (fail)
        refine (HN.out _ (H.out.belowM HB0.out)).mono ?_
        rintro e w1 ⟨rfl, hb1⟩
        have HB1 := Lib.hid (HB0.out.trans (hb1.mono HB0.out.size))
        clear r0 r1 r2 r3 r4 r5
        obtain ⟨r0, r1, r2, r3, r4, r5⟩ := X6.out w1 HB1.out
        clear hb1
        go_wp2_with (fail)
        refine (HP.out _ (H.out.belowM HB1.out)).mono ?_
        rintro e w2 ⟨rfl, hb2⟩
        have HB2 := Lib.hid (HB1.out.trans (hb2.mono HB1.out.size))
        clear r0 r1 r2 r3 r4 r5
        obtain ⟨r0, r1, r2, r3, r4, r5⟩ := X6.out w2 HB2.out
        clear hb2
        go_wp2_with (fail)
        refine (HC.out _ (H.out.belowM HB2.out)).mono ?_
        rintro e w3 ⟨rfl, hb3⟩
        have HB3 := Lib.hid (HB2.out.trans (hb3.mono HB2.out.size))
        clear r0 r1 r2 r3 r4 r5
        obtain ⟨r0, r1, r2, r3, r4, r5⟩ := X6.out w3 HB3.out
        clear hb3
        go_wp2_with (fail)
        refine (HL.out _).mono ?_
        rintro e w4 ⟨rfl, hb4⟩
        have HB4 := Lib.hid (HB3.out.trans (hb4.mono HB3.out.size))
        clear r0 r1 r2 r3 r4 r5
        obtain ⟨r0, r1, r2, r3, r4, r5⟩ := X6.out w4 HB4.out
        clear hb4
        go_wp2_with (fail)
        go_ret
        exact ⟨ret_bool (by simp [rightT, k3, k4, k5]), HW.out.trans (HB4.out.mono HW.out.size)⟩
end Go.Proofs.Ytplpafoflibnlaa.Te
/- The walk of the law's examples (awake). -/
namespace Go.Proofs.Ytplpafoflibnlaa.Te
set_option maxRecDepth 100000
open Go Go.RowKit Go.Proofs.Ytplpafoflibnlaa.Sp Go.Proofs.Ytplpafoflibnlaa.Pa

abbrev exP : List PT := [(1, 0, 6, 0), (0, 0, 5, 6)]
theorem ex_value : valueT 0 0 21 0 0 exP [195, 188] = (252, true) := by
  have h1 : symB [195, 188] = true := symB_true (fun x hx => by simp at hx; rcases hx with rfl | rfl <;> (unfold Sy; omega))
  have h2 : partsB ([195, 188] : List Int).length exP = true := by decide
  have v1 : valI 0 6 0 188 = 60 := by decide
  have v2 : valI 0 5 6 195 = 192 := by decide
  have v3 : valI 0 21 0 252 = 252 := by decide
  have hi : innerT [195, 188] 0 exP = 252 := by
    show wrap64 (wrap64 (0 + valI 0 6 0 188) + valI 0 5 6 195) = 252
    rw [v1, v2]
    kernel_rfl
  have hw : wholeT 0 0 21 0 252 = (252, true) := by
    unfold wholeT
    rw [if_pos ⟨by unfold Sy; omega, by decide⟩, v3]
    kernel_rfl
  unfold valueT
  rw [if_pos ⟨h1, h2⟩, hi, hw]
theorem ex_right : rightT 1 2 2 0 0 21 0 0 exP = true := by
  have h : riseB exP = true := riseB_true (k := 2) (fun i h1 h2 => by
    obtain rfl : i = 0 := by omega
    show (0 : Int) < 6
    decide) (by decide)
  have hn : numB 0 0 21 0 0 exP = true := by unfold numB; rw [h]; decide
  unfold rightT
  rw [hn]
  decide
theorem RP_two {w : World} {g B : Nat} (h1 : ∀ i (hi : i < 8), w.cell? ⟨g, i, none⟩ = some (#[Value.int .i64 1, .int .i64 0, .int .i64 6, .int .i64 0, .int .i64 0, .int .i64 0, .int .i64 5, .int .i64 6][i])) (hB : g < B) : RP w B (some ⟨g, 0, none⟩) 2 exP :=
  ⟨rfl, fun _ => ⟨g, 0, rfl, hB, fun j hj => by
    rcases (show j = 0 ∨ j = 1 from by simp at hj; omega) with rfl | rfl
    · exact ⟨h1 0 (by decide), h1 1 (by decide), h1 2 (by decide), h1 3 (by decide)⟩
    · exact ⟨h1 4 (by decide), h1 5 (by decide), h1 6 (by decide), h1 7 (by decide)⟩⟩⟩
set_option maxHeartbeats 4000000 in
theorem tawake_any (w : World) : Calls Try.prog 15 #[] w (RetB true w) := by
  go_enter Try.func15, Try.ntmps15
  go_wp2_with (fail)
  have HV := Lib.hid (fun W h h' => tvalue_any 0 0 21 0 0 (some ⟨w.heap.size, 0, none⟩) (some ⟨w.heap.size + 1 + 1, 0, none⟩) 2 2 2 2 exP [195, 188] W h (by unfold maxLen; omega) h' (by unfold maxLen; omega))
  rw [ex_value] at HV
  have hrp : RP (((w.alloc (.cells #[.int .i64 1, .int .i64 0, .int .i64 6, .int .i64 0, .int .i64 0, .int .i64 0, .int .i64 5, .int .i64 6] 64)).alloc (.cells (tcells 0 0 21 0 0 (some ⟨w.heap.size, 0, none⟩) 2 2) 24)).alloc (.cells #[.int .i32 195, .int .i32 188] 21)) (w.heap.size + 1 + 1 + 1) (some ⟨w.heap.size, 0, none⟩) 2 exP := RP_two (fun i hi => by
    rcases (show i = 0 ∨ i = 1 ∨ i = 2 ∨ i = 3 ∨ i = 4 ∨ i = 5 ∨ i = 6 ∨ i = 7 from by omega) with rfl | rfl | rfl | rfl | rfl | rfl | rfl | rfl <;> simp [go_sem]) (by omega)
  have hrr : RR (((w.alloc (.cells #[.int .i64 1, .int .i64 0, .int .i64 6, .int .i64 0, .int .i64 0, .int .i64 0, .int .i64 5, .int .i64 6] 64)).alloc (.cells (tcells 0 0 21 0 0 (some ⟨w.heap.size, 0, none⟩) 2 2) 24)).alloc (.cells #[.int .i32 195, .int .i32 188] 21)) (w.heap.size + 1 + 1 + 1) (some ⟨w.heap.size + 1 + 1, 0, none⟩) 2 [195, 188] := ⟨rfl, fun x hx => by simp at hx; omega, fun _ => ⟨w.heap.size + 1 + 1, 0, rfl, by omega, fun j hj => by
    rcases (show j = 0 ∨ j = 1 from by simp at hj; omega) with rfl | rfl <;> simp [go_sem]⟩⟩
  have hrt : Boxed6 (((w.alloc (.cells #[.int .i64 1, .int .i64 0, .int .i64 6, .int .i64 0, .int .i64 0, .int .i64 0, .int .i64 5, .int .i64 6] 64)).alloc (.cells (tcells 0 0 21 0 0 (some ⟨w.heap.size, 0, none⟩) 2 2) 24)).alloc (.cells #[.int .i32 195, .int .i32 188] 21)) (w.heap.size + 1) 0 0 21 0 0 (some ⟨w.heap.size, 0, none⟩) 2 2 := by
    refine ⟨?_, ?_, ?_, ?_, ?_, ?_⟩ <;> simp [go_sem]
  have hbw : Below w.heap.size w (((w.alloc (.cells #[.int .i64 1, .int .i64 0, .int .i64 6, .int .i64 0, .int .i64 0, .int .i64 0, .int .i64 5, .int .i64 6] 64)).alloc (.cells (tcells 0 0 21 0 0 (some ⟨w.heap.size, 0, none⟩) 2 2) 24)).alloc (.cells #[.int .i32 195, .int .i32 188] 21)) := (((Below.refl _ _).alloc (Nat.le_refl _) _).alloc (by simp) _).alloc (by simp only [World.size_alloc]; omega) _
  obtain ⟨w0, hw0⟩ : ∃ w0, (((w.alloc (.cells #[.int .i64 1, .int .i64 0, .int .i64 6, .int .i64 0, .int .i64 0, .int .i64 0, .int .i64 5, .int .i64 6] 64)).alloc (.cells (tcells 0 0 21 0 0 (some ⟨w.heap.size, 0, none⟩) 2 2) 24)).alloc (.cells #[.int .i32 195, .int .i32 188] 21)) = w0 := ⟨_, rfl⟩
  have hs0 : w0.heap.size = w.heap.size + 1 + 1 + 1 := by rw [← hw0]; simp
  rw [hw0] at hrp hrr hrt hbw ⊢
  rw [← hs0] at hrp hrr
  have HRP := Lib.hid hrp
  have HBW := Lib.hid hbw
  have HRT := Lib.hid (show ∀ W, Below w0.heap.size w0 W → Boxed6 W (w.heap.size + 1) 0 0 21 0 0 (some ⟨w.heap.size, 0, none⟩) 2 2 from fun W hW => by
    obtain ⟨a0, a1, a2, a3, a4, a5⟩ := hrt
    exact ⟨(hW.cell (by simp only; omega)).trans a0, (hW.cell (by simp only; omega)).trans a1, (hW.cell (by simp only; omega)).trans a2, (hW.cell (by simp only; omega)).trans a3, (hW.cell (by simp only; omega)).trans a4, (hW.cell (by simp only; omega)).trans a5⟩)
  refine (HV.out _ hrp hrr).mono ?_
  rintro e w1 ⟨rfl, hb1⟩
  have HB1 := Lib.hid hb1
  clear hw0 hrp hrr hrt hbw hb1
  go_wp2_with (fail)
  refine (copy_any 0 1 _).mono ?_
  rintro e w2 ⟨A2, c2, rfl, hr2, hc2, hb2⟩
  have HB2 := Lib.hid (HB1.out.trans (hb2.mono HB1.out.size))
  have HR2 := Lib.hid hr2
  clear hb2 hr2
  simp only [List.length_singleton]
  go_wp2_with (fail)
  refine (const_nil 97 (by omega) (by omega) _).mono ?_
  rintro e w3 ⟨rfl, hb3⟩
  have HR3 := Lib.hid (HR2.out.belowM hb3)
  have HB3 := Lib.hid (HB2.out.trans (hb3.mono HB2.out.size))
  clear hb3
  go_wp2_with (fail)
  refine (put_ex A2 c2 _ HR3.out).mono ?_
  rintro e w4 ⟨rfl, hb4⟩
  have hb44 := HB3.out.trans (hb4.mono HB3.out.size)
  obtain ⟨w5, hw5⟩ : ∃ w5, w4.alloc (.cells (tcells 0 0 21 0 98 none 0 0) 24) = w5 := ⟨_, rfl⟩
  have h45 : Below w4.heap.size w4 w5 := by rw [← hw5]; exact (Below.refl _ _).alloc (Nat.le_refl _) _
  have B5 : Boxed6 w5 w4.heap.size 0 0 21 0 98 none 0 0 := by rw [← hw5]; exact boxed6 (Below.refl _ _)
  obtain ⟨q0, q1, q2, q3, q4, q5⟩ := B5
  have hb5 := hb44.trans (h45.mono hb44.size)
  obtain ⟨r0, r1, r2, r3, r4, r5⟩ := HRT.out _ hb5
  have HB5 := Lib.hid hb5
  have HX := Lib.hid (fun W (hW : Below w0.heap.size w0 W) => tright_any 1 2 2 0 0 21 0 0 (some ⟨w.heap.size, 0, none⟩) 2 2 exP W (HRP.out.belowM hW) (by unfold maxLen; omega))
  rw [ex_right] at HX
  have hz4 : w0.heap.size ≤ w4.heap.size := hb44.size
  have ne1 : ¬ (w.heap.size + 1 = w4.heap.size) := by omega
  have ne2 : ¬ (w4.heap.size = w.heap.size + 1) := by omega
  have H6 := Lib.hid (hb5.setCell (p := ⟨w4.heap.size, 5, none⟩) hz4 (.slice none 0 0))
  have fz : ∀ i, i < 6 → w5.frozen? ⟨w4.heap.size, i, none⟩ = false := fun i hi => by rw [← hw5]; simp
  have f0 := fz 0 (by omega)
  have f1 := fz 1 (by omega)
  have f2 := fz 2 (by omega)
  have f3 := fz 3 (by omega)
  have f4 := fz 4 (by omega)
  have f5 := fz 5 (by omega)
  clear hb44 hb4 h45 hb5 fz
  go_wp2_with (fail)
  refine (HX.out _ H6.out).mono ?_
  rintro e w6 ⟨rfl, hb6⟩
  have HB6 := Lib.hid (H6.out.trans (hb6.mono H6.out.size))
  clear hb6
  go_wp2_with (fail)
  go_ret
  exact ⟨rfl, HBW.out.trans (HB6.out.mono HBW.out.size)⟩
end Go.Proofs.Ytplpafoflibnlaa.Te
