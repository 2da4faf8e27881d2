/- Texts of this proof, joined: TeEqB, TeEq, TeWalkFar. -/
import Derived.Test.YtplpafoflibnlaaM18
import Derived.Test.YtplpafoflibnlaaM19
import Derived.Deep.DeepCutAuto
import Derived.Tactics2
/- The walk of term.Equal. -/
namespace Go.Proofs.Ytplpafoflibnlaa.Te
set_option maxRecDepth 100000
open Go Go.RowKit Go.Proofs.Ytplpafoflibnlaa.Sp Go.Proofs.Ytplpafoflibnlaa.Pa

def ZB (W : World) (g : Nat) : Prop := W.cell? ⟨g, 0, none⟩ = some (.int .i64 0) ∧ W.cell? ⟨g, 1, none⟩ = some (.bool false) ∧ W.cell? ⟨g, 2, none⟩ = some (.int .i64 0) ∧ W.cell? ⟨g, 3, none⟩ = some (.int .i64 0) ∧ W.frozen? ⟨g, 0, none⟩ = false ∧ W.frozen? ⟨g, 1, none⟩ = false ∧ W.frozen? ⟨g, 2, none⟩ = false ∧ W.frozen? ⟨g, 3, none⟩ = false
theorem ZB.of {W : World} {g : Nat} (h : BoxS W g 0 false 0 0) : ZB W g := ⟨h.1.1, h.1.2.1, h.1.2.2.1, h.1.2.2.2, h.2 0 (by omega), h.2 1 (by omega), h.2 2 (by omega), h.2 3 (by omega)⟩
theorem ZB.carry {W W' : World} {g : Nat} (h : ZB W g) (hg : g < W.heap.size) (hb : Below W.heap.size W W') : ZB W' g := by
  obtain ⟨c0, c1, c2, c3, f0, f1, f2, f3⟩ := h
  exact ⟨(hb.cell hg).trans c0, (hb.cell hg).trans c1, (hb.cell hg).trans c2, (hb.cell hg).trans c3, (hb.frozen (p := ⟨g, 0, none⟩) hg).trans f0, (hb.frozen (p := ⟨g, 1, none⟩) hg).trans f1, (hb.frozen (p := ⟨g, 2, none⟩) hg).trans f2, (hb.frozen (p := ⟨g, 3, none⟩) hg).trans f3⟩
theorem zb_new (W : World) : ZB (W.alloc (.cells (scells 0 false 0 0) 73)) W.heap.size := ZB.of (BoxS.new W 0 false 0 0 _)
theorem step_alloc71 {ops : Array Oper} {o : Oper} {a : Act} {K : Act → World → Prop} {Q : Exit → Act → World → Prop} {E : Prop} {w : World} (hgd : o.guard = none) (ho : o.op = .alloc 73)
    (h : ∀ w', ZB w' w.heap.size → Below w.heap.size w w' → w.heap.size < w'.heap.size → K (a.put o.dst (.pointer (some ⟨w.heap.size, 0, none⟩))) w') : if Region.wanted o (yielded ops a.tmps) = true then Oper.wp Try.prog o a w K Q else E := by
  have hw : Region.wanted o (yielded ops a.tmps) = true := by simp [Region.wanted, hgd]
  rw [if_pos hw]
  have hz := h (w.alloc (.cells (scells 0 false 0 0) 73)) (zb_new w) ((Below.refl _ _).alloc (Nat.le_refl _) _) (by simp)
  unfold Oper.wp execOp
  simp only [ho]
  go_simp
  exact hz
def Stored (w w' : World) (g : Nat) (f : St) : Prop := BoxS w' g f.last f.has f.value f.grow ∧ FarB w w' g ∧ ∀ B, B ≤ g → Below B w w'
theorem step_store71 {ops : Array Oper} {o : Oper} {a : Act} {K : Act → World → Prop} {Q : Exit → Act → World → Prop} {E : Prop} {w : World} (hgd : o.guard = none) (p v : Operand) (ho : o.op = .store 73 p v) (g : Nat) (f : St) (hp : a.eval p = .pointer (some ⟨g, 0, none⟩)) (hv : a.eval v = .agg (scells f.last f.has f.value f.grow)) (hz : ZB w g)
    (h : ∀ w', Stored w w' g f → K (a.put o.dst undef) w') : if Region.wanted o (yielded ops a.tmps) = true then Oper.wp Try.prog o a w K Q else E := by
  have hw : Region.wanted o (yielded ops a.tmps) = true := by simp [Region.wanted, hgd]
  rw [if_pos hw]
  obtain ⟨c0, c1, c2, c3, f0, f1, f2, f3⟩ := hz
  have hb : BoxS w g 0 false 0 0 := ⟨⟨c0, c1, c2, c3⟩, fun i hi => by rcases (show i = 0 ∨ i = 1 ∨ i = 2 ∨ i = 3 from by omega) with rfl | rfl | rfl | rfl <;> assumption⟩
  obtain ⟨w5, h5, hF, hL, hN⟩ := hb.store f.last f.has f.value f.grow
  have hz := h w5 ⟨hF, hN, hL⟩
  unfold Oper.wp execOp
  simp only [ho, hp, hv]
  go_simp
  exact hz
def BoxC (W : World) (g : Nat) (f : St) : Prop := W.cell? ⟨g, 0, none⟩ = some (.int .i64 f.last) ∧ W.cell? ⟨g, 1, none⟩ = some (.bool f.has) ∧ W.cell? ⟨g, 2, none⟩ = some (.int .i64 f.value) ∧ W.cell? ⟨g, 3, none⟩ = some (.int .i64 f.grow)
theorem ZB.far {W W' : World} {g g' : Nat} (h : ZB W g) (hw : FarB W W' g') (hne : g ≠ g') : ZB W' g := by
  obtain ⟨c0, c1, c2, c3, f0, f1, f2, f3⟩ := h
  have k := fun i => hw.1 ⟨g, i, none⟩ hne
  exact ⟨(k 0).1.trans c0, (k 1).1.trans c1, (k 2).1.trans c2, (k 3).1.trans c3, (k 0).2.trans f0, (k 1).2.trans f1, (k 2).2.trans f2, (k 3).2.trans f3⟩
theorem BoxC.of {W : World} {g : Nat} {f : St} (h : BoxS W g f.last f.has f.value f.grow) : BoxC W g f := h.1
/-- Both values are told, and are one. -/
def QE (a b : TM) (y : Int) : Prop := ∃ v, valueT a.b a.d a.t a.u a.s a.l [y] = (v, true) ∧ valueT b.b b.d b.t b.u b.s b.l [y] = (v, true)
end Go.Proofs.Ytplpafoflibnlaa.Te
/- The walk of term.Equal. -/
namespace Go.Proofs.Ytplpafoflibnlaa.Te
set_option maxRecDepth 100000
open Go Go.RowKit Go.Proofs.Ytplpafoflibnlaa.Sp Go.Proofs.Ytplpafoflibnlaa.Pa

theorem eq_step {P R : TM} {new xs xs0 : List Span} {x : Nat} {lo M : Int} {f q : St} (hM1 : M ≤ f.last) (hM2 : M ≤ q.last) (hxM : (x : Int) ≤ M) (hlo : lo ≤ x) (_hfv : R64 f.value) (_hqv : R64 q.value) (hf0 : 0 ≤ f.grow) (hq0 : 0 ≤ q.grow)
    (hv : ∀ y, (x : Int) ≤ y → y ≤ f.last → f.grow * (y - x) ≤ 66060288 ∧ valueT P.b P.d P.t P.u P.s P.l [y] = if f.has = true then (wrap64 (f.value + f.grow * (y - x)), true) else (0, false))
    (hw : ∀ y, (x : Int) ≤ y → y ≤ q.last → q.grow * (y - x) ≤ 66060288 ∧ valueT R.b R.d R.t R.u R.s R.l [y] = if q.has = true then (wrap64 (q.value + q.grow * (y - x)), true) else (0, false))
    (hn : ∀ y, inL new y ↔ (x ≤ y ∧ y ≤ M ∧ f.has = true ∧ q.has = true ∧ (f.grow - q.grow) * (y - x) = wrap64 (q.value - f.value))) (hin : ∀ y, inL xs y ↔ inL xs0 y ∨ (lo ≤ y ∧ y < x ∧ QE P R y)) (y : Int) : inL (xs ++ new) y ↔ inL xs0 y ∨ (lo ≤ y ∧ y < M + 1 ∧ QE P R y) := by
  have key : (x : Int) ≤ y → y ≤ M → (QE P R y ↔ f.has = true ∧ q.has = true ∧ (f.grow - q.grow) * (y - x) = wrap64 (q.value - f.value)) := fun h1 h2 => by
    obtain ⟨a1, a2⟩ := hv y h1 (by omega)
    obtain ⟨b1, b2⟩ := hw y h1 (by omega)
    have c1 : 0 ≤ f.grow * (y - x) := Int.mul_nonneg hf0 (by omega)
    have c2 : 0 ≤ q.grow * (y - x) := Int.mul_nonneg hq0 (by omega)
    unfold QE
    rw [a2, b2, Int.sub_mul]
    generalize f.grow * (y - x) = K at *
    generalize q.grow * (y - x) = L at *
    unfold R64 at _hfv _hqv
    cases f.has
    · simp
    · cases q.has
      · simp
      · simp only [if_true, true_and]
        constructor
        · rintro ⟨v, e1, e2⟩
          injection e1 with e1 _
          injection e2 with e2 _
          unfold wrap64 at e1 e2 ⊢
          omega
        · intro e
          refine ⟨wrap64 (f.value + K), rfl, ?_⟩
          congr 1
          unfold wrap64 at e ⊢
          omega
  rw [inL_append, hin, hn]
  constructor
  · rintro ((h | ⟨h1, h2, h3⟩) | ⟨h1, h2, h3⟩)
    · exact .inl h
    · exact .inr ⟨h1, by omega, h3⟩
    · exact .inr ⟨by omega, by omega, (key h1 h2).2 h3⟩
  · rintro (h | ⟨h1, h2, h3⟩)
    · exact .inl (.inl h)
    · by_cases hx : y < x
      · exact .inl (.inr ⟨h1, hx, h3⟩)
      · have := (key (by omega) (by omega)).1 h3
        exact .inr ⟨by omega, by omega, this⟩
set_option maxHeartbeats 16000000 in
theorem eq_any (P R : TM) (As : Option Addr) (cs : Nat) (sl : List Span) (w : World)
    (h : RP w w.heap.size P.A P.l.length P.l) (hl : P.l.length ≤ 20) (hs : R64 P.s) (h' : RP w w.heap.size R.A R.l.length R.l) (hl' : R.l.length ≤ 20) (hs' : R64 R.s) (hS : RS w w.heap.size As sl.length sl) (hcs : sl.length ≤ cs) (hsl : sl.length ≤ 50) :
    Calls Try.prog 19 #[trm P.b P.d P.t P.u P.s P.A P.l.length P.c, trm R.b R.d R.t R.u R.s R.A R.l.length R.c, .slice As sl.length cs] w (SetOut (fun y => mem sl y ∧ Sy y ∧ QE P R y) w) := by
  obtain ⟨w0, hw0⟩ : ∃ w0, (w.alloc (.cells (tcells P.b P.d P.t P.u P.s P.A P.l.length P.c) 24)).alloc (.cells (tcells R.b R.d R.t R.u R.s R.A R.l.length R.c) 24) = w0 := ⟨_, rfl⟩
  have hs0 : w0.heap.size = w.heap.size + 1 + 1 := by rw [← hw0]; simp
  have hb0 : Below w.heap.size w w0 := by rw [← hw0]; exact ((Below.refl _ _).alloc (Nat.le_refl _) _).alloc (by simp) _
  have hXP : BoxF w0 w.heap.size P.b P.d P.t P.u P.s P.A P.l.length P.c := by
    rw [← hw0]
    exact (BoxF.new w _ _ _ _ _ _ _ _ _).keep ((Below.refl _ _).alloc (Nat.le_refl _) _) (by simp)
  have hXR : BoxF w0 (w.heap.size + 1) R.b R.d R.t R.u R.s R.A R.l.length R.c := by
    rw [← hw0]
    have q := BoxF.new (w.alloc (.cells (tcells P.b P.d P.t P.u P.s P.A P.l.length P.c) 24)) R.b R.d R.t R.u R.s R.A R.l.length R.c 24
    simpa using q
  have XP := Lib.hid (fun W (hb : Below w0.heap.size w0 W) => show Boxed6 W w.heap.size P.b P.d P.t P.u P.s P.A P.l.length P.c from (hXP.keep hb (by omega)).1)
  have XR := Lib.hid (fun W (hb : Below w0.heap.size w0 W) => show Boxed6 W (w.heap.size + 1) R.b R.d R.t R.u R.s R.A R.l.length R.c from (hXR.keep hb (by omega)).1)
  obtain ⟨w1, hw1⟩ : ∃ w1, w0.alloc (.cells #[.int .i64 P.b, .int .i64 P.d, .int .i64 P.t, .int .i64 P.u, .int .i64 P.s, .slice P.A P.l.length P.c, .int .i64 R.b, .int .i64 R.d, .int .i64 R.t, .int .i64 R.u, .int .i64 R.s, .slice R.A R.l.length R.c] 24) = w1 := ⟨_, rfl⟩
  have hs1 : w1.heap.size = w0.heap.size + 1 := by rw [← hw1]; simp
  have h01 : Below w0.heap.size w0 w1 := by rw [← hw1]; exact (Below.refl _ _).alloc (Nat.le_refl _) _
  have hb1 := below_next hb0 h01
  have hrt : RTs w1 w0.heap.size 0 [P, R] := fun j hj => by
    rw [← hw1]
    rcases (show j = 0 ∨ j = 1 from by simp at hj; omega) with rfl | rfl
    · refine ⟨?_, ?_, ?_, ?_, ?_, ?_⟩ <;> simp
    · refine ⟨?_, ?_, ?_, ?_, ?_, ?_⟩ <;> simp
  have HK := Lib.hid (asked_any As cs sl w0.heap.size 0 2 [P, R] w1 (hS.belowM hb1) hcs (by omega) hrt (by omega) (by simp) (fun x hx => by
    rcases List.mem_cons.1 hx with rfl | hx
    · exact ⟨h.belowM hb1, by unfold maxLen; omega⟩
    · rw [List.mem_singleton] at hx
      subst hx
      exact ⟨h'.belowM hb1, by unfold maxLen; omega⟩))
  simp only [List.length_cons, List.length_nil, Nat.zero_add, Nat.reduceAdd] at HK
  rw [hs0] at HK
  have H1 := Lib.hid (h.belowM hb1)
  have H1' := Lib.hid (h'.belowM hb1)
  have H01 := Lib.hid h01
  have HB1 := Lib.hid hb1
  obtain ⟨q0, q1, q2, q3, q4, q5⟩ := XP.out w0 (Below.refl _ _)
  obtain ⟨p0, p1, p2, p3, p4, p5⟩ := XR.out w0 (Below.refl _ _)
  clear h h' hS hb0 h01 hb1 hrt hXP hXR
  go_enter Try.func19, Try.ntmps19
  go_wp2_with (fail)
  refine HK.out.mono ?_
  rintro qq2 w3 ⟨A2, n2, c2, own, rfl, hio, hr2, hn2, hc2, hb2⟩
  have HIO := Lib.hid hio
  have HR3 := Lib.hid hr2
  have H03 := Lib.hid (below_next H01.out hb2)
  have hz3 := hb2.size
  have HB3 := Lib.hid (below_next HB1.out hb2)
  have H3 := Lib.hid (H1.out.belowM hb2)
  have H3' := Lib.hid (H1'.out.belowM hb2)
  have hn2' : own.length = n2 := HR3.out.1
  subst hn2'
  clear hio hr2 hb2 q0 q1 q2 q3 q4 q5 p0 p1 p2 p3 p4 p5
  go_wp2_with (fail)
  go_loopw [7, 20] (fun v i wr => OutR (QE P R) own w3 v i wr) (fun _ i _ => own.length - (intOf i).toNat)
  case atStart => exact ⟨0, 0, [], Nat.zero_le _, rfl, World.ownsRow_nil _ _ _ _, Below.refl _ _, by simp, by omega, fun p hp => by
    have hok := HIO.out.1.2 p (by simpa using hp)
    have := (HIO.out.2 p.1).1 ⟨by have := hok.2.1; have := hok.2.2; have := hok.1; unfold Rng; omega, p, by simpa using hp, Int.le_refl _, hok.1⟩
    obtain ⟨_, q, hq, a, bq⟩ := this.2.2
    rw [List.mem_singleton] at hq
    subst hq
    exact a, fun y => ⟨fun q => absurd q inL_nil, fun q => absurd q.1 (by simp [inL])⟩⟩
  case round =>
    obtain ⟨wo, rfl⟩ : ∃ wo : World, wo = wr := ⟨_, rfl⟩
    obtain ⟨k, X, xs0, hk, rfl, ho, hb, hlen, hX, hdrop, hin⟩ := hrel
    have hz := hb.size
    have HO := Lib.hid ho
    have HB := Lib.hid hb
    have HIN := Lib.hid hin
    by_cases hlt : k < own.length
    · obtain ⟨b1, off, lo, hi, hA2, hbB, hlk, c1, c2'⟩ := (HR3.out.below hb).at_ hlt
      subst hA2
      have hlk2 := hlk
      obtain ⟨_, hlk2⟩ := hlk2
      have hok := HIO.out.1.2 _ (List.getElem_mem hlt)
      rw [hlk2] at hok
      have hmem : ∀ y, lo ≤ y → y ≤ hi → (okT P ∧ okT R) ∧ mem sl y ∧ Sy y := fun y h1 h2 => by
        have := (HIO.out.2 y).1 ⟨by have := hok.2.1; have := hok.2.2; unfold Rng; omega, (lo, hi), by rw [← hlk2]; exact List.getElem_mem hlt, h1, h2⟩
        obtain ⟨_, q, hq, a, bq⟩ := this.2.2
        rw [List.mem_singleton] at hq
        subst hq
        exact ⟨⟨this.1 _ (by simp), this.1 _ (by simp)⟩, this.2.1, a, bq⟩
      have hlohi : lo ≤ hi := hok.1
      have hloS := (hmem lo (Int.le_refl _) hlohi).2.2
      have hhiS := (hmem hi hlohi (Int.le_refl _)).2.2
      have hokT := (hmem lo (Int.le_refl _) hlohi).1
      have hXlo : (X : Int) ≤ lo := by
        have := hdrop own[k] (by rw [List.drop_eq_getElem_cons hlt]; exact List.mem_cons_self ..)
        rw [hlk2] at this
        exact this
      have HDR := Lib.hid (show ∀ p ∈ own.drop (k + 1), hi + 1 ≤ p.1 from fun p hp => by
        have := (HIO.out.1.at_ hlt).2 p hp
        rw [hlk2] at this
        dsimp only at this
        omega)
      have HTK := Lib.hid (take_in hlk)
      obtain ⟨lo', hlo'⟩ := Int.eq_ofNat_of_zero_le hloS.1
      subst hlo'
      have hok2 := hokT
      obtain ⟨⟨hpB, hBo⟩, hpB', hBo'⟩ := hok2
      obtain ⟨w5, hw5⟩ : ∃ w5, wo.alloc (.cells #[.int .i64 lo', .int .i64 hi] 60) = w5 := ⟨_, rfl⟩
      have hs5 : w5.heap.size = wo.heap.size + 1 := by rw [← hw5]; simp
      have h5 : Below wo.heap.size wo w5 := by rw [← hw5]; exact (Below.refl _ _).alloc (Nat.le_refl _) _
      have y0 : w5.cell? ⟨wo.heap.size, 0, none⟩ = some (.int .i64 lo') := by rw [← hw5]; simp
      have y1 : w5.cell? ⟨wo.heap.size, 1, none⟩ = some (.int .i64 hi) := by rw [← hw5]; simp
      have H5 := Lib.hid h5
      have hvne : ∀ k', u7.ownBlock = some k' → k' < wo.heap.size := box_row ho
      have HATS := Lib.hid (show InR (QE P R) xs0 lo' hi wo.heap.size w3 u7 (.int .i64 lo') w5 from
        ⟨lo', xs0, Int.le_refl _, by omega, rfl, ownS_below HO.out h5, HB.out.trans (h5.mono hz), by omega, fun y => ⟨fun q => .inl q, fun q => by
          rcases q with q | q
          · exact q
          · omega⟩, y1, fun e => by have := hvne _ e; omega, by omega⟩)
      clear ho hb hin hdrop hlk hmem hok h5 hvne
      go_wp2_with (fail)
      go_loopw [7, 10] (fun v xv wr' => InR (QE P R) xs0 lo' hi wo.heap.size w3 v xv wr') (fun _ xv _ => (hi + 1 - intOf xv).toNat)
      case atStart => exact HATS.out
      case round =>
        obtain ⟨x, xs, hx0, hx1, rfl, ho, hb, hlx, hin, hc1, hne, hgr⟩ := hrel
        have hz6 := hb.size
        have HO2 := Lib.hid ho
        have HB2' := Lib.hid hb
        have HIN2 := Lib.hid hin
        have hvlt : ∀ k', u7.ownBlock = some k' → k' < wr.heap.size := box_row ho
        by_cases hle : (x : Int) ≤ hi
        · have hxS : Sy x := ⟨by omega, by have := hhiS.2; omega⟩
          have hak := along_ok (b := P.b) hs hl hpB hBo hxS
          have hbk := along_ok (b := R.b) hs' hl' hpB' hBo' hxS
          have HALP := Lib.hid (fun W (hW : Below wr.heap.size wr W) => along_any P.b P.d P.t P.u P.s P.A P.c P.l x W (H3.out.belowM (hb.trans (hW.mono hz6))) hl hs hpB hBo hxS)
          have HALR := Lib.hid (fun W (hW : Below wr.heap.size wr W) => along_any R.b R.d R.t R.u R.s R.A R.c R.l x W (H3'.out.belowM (hb.trans (hW.mono hz6))) hl' hs' hpB' hBo' hxS)
          obtain ⟨f, hf⟩ : ∃ f, alongT P.b P.d P.t P.u P.s P.l x = f := ⟨_, rfl⟩
          obtain ⟨q, hq⟩ : ∃ q, alongT R.b R.d R.t R.u R.s R.l x = q := ⟨_, rfl⟩
          rw [hf] at hak HALP
          rw [hq] at hbk HALR
          have HSS := Lib.hid (fun W (hW : Below wr.heap.size wr W) => show Below wr.heap.size wr W ∧ (W.cell? ⟨w.heap.size, 0, none⟩ = some (.int .i64 P.b) ∧ W.cell? ⟨w.heap.size, 1, none⟩ = some (.int .i64 P.d) ∧ W.cell? ⟨w.heap.size, 2, none⟩ = some (.int .i64 P.t) ∧ W.cell? ⟨w.heap.size, 3, none⟩ = some (.int .i64 P.u) ∧ W.cell? ⟨w.heap.size, 4, none⟩ = some (.int .i64 P.s) ∧ W.cell? ⟨w.heap.size, 5, none⟩ = some (.slice P.A P.l.length P.c)) ∧ (W.cell? ⟨w.heap.size + 1, 0, none⟩ = some (.int .i64 R.b) ∧ W.cell? ⟨w.heap.size + 1, 1, none⟩ = some (.int .i64 R.d) ∧ W.cell? ⟨w.heap.size + 1, 2, none⟩ = some (.int .i64 R.t) ∧ W.cell? ⟨w.heap.size + 1, 3, none⟩ = some (.int .i64 R.u) ∧ W.cell? ⟨w.heap.size + 1, 4, none⟩ = some (.int .i64 R.s) ∧ W.cell? ⟨w.heap.size + 1, 5, none⟩ = some (.slice R.A R.l.length R.c)) from ⟨hW, XP.out W (below_next H03.out (hb.trans (hW.mono hz6))), XR.out W (below_next H03.out (hb.trans (hW.mono hz6)))⟩)
          have hwsz : w.heap.size + 1 < wr.heap.size := by omega
          have HAK := Lib.hid hak
          have HBK := Lib.hid hbk
          have HVL := Lib.hid hvlt
          clear ho hb hin hf hq hak hbk hvlt
          go_upto_region 7 with (fail)
          go_cut [11, 12] (fun p1 p2 wx => ∃ g1 g2 : Nat, p1 = .pointer (some ⟨g1, 0, none⟩) ∧ p2 = .pointer (some ⟨g2, 0, none⟩) ∧ BoxC wx g1 f ∧ BoxC wx g2 q ∧ Below wr.heap.size wr wx)
          case first =>
            have hBn : Below wr.heap.size wr wr.drew := (Below.refl _ _).drew
            refine wp_region_held_drew (S := fun W => Below wr.heap.size wr W ∧ (W.cell? ⟨w.heap.size, 0, none⟩ = some (.int .i64 P.b) ∧ W.cell? ⟨w.heap.size, 1, none⟩ = some (.int .i64 P.d) ∧ W.cell? ⟨w.heap.size, 2, none⟩ = some (.int .i64 P.t) ∧ W.cell? ⟨w.heap.size, 3, none⟩ = some (.int .i64 P.u) ∧ W.cell? ⟨w.heap.size, 4, none⟩ = some (.int .i64 P.s) ∧ W.cell? ⟨w.heap.size, 5, none⟩ = some (.slice P.A P.l.length P.c)) ∧ (W.cell? ⟨w.heap.size + 1, 0, none⟩ = some (.int .i64 R.b) ∧ W.cell? ⟨w.heap.size + 1, 1, none⟩ = some (.int .i64 R.d) ∧ W.cell? ⟨w.heap.size + 1, 2, none⟩ = some (.int .i64 R.t) ∧ W.cell? ⟨w.heap.size + 1, 3, none⟩ = some (.int .i64 R.u) ∧ W.cell? ⟨w.heap.size + 1, 4, none⟩ = some (.int .i64 R.s) ∧ W.cell? ⟨w.heap.size + 1, 5, none⟩ = some (.slice R.A R.l.length R.c))) (by kernel_rfl) (HSS.out _ hBn) (fun hHeld => ?_)
            refine wpAnyH_take (i := 0) (oi := { dst := some 30, op := Go.Op.load 24 (Go.Operand.tmp 3), type := 24, pos := "stretch.go:37", after := #[], guard := none }) (v := ?_) rfl (by kernel_rfl) (by kernel_rfl) (by kernel_rfl) (fun _ _ _ h => h) (Or.inl ⟨by rfl, ?_⟩) (by assumption) ?_
            rotate_left
            · intro w' hSw
              (try dsimp only at hSw)
              go_simp
              all_goals with_reducible rfl
            try simp only [Act.put, List.setIfInBounds_toArray, List.set_cons_zero, List.set_cons_succ]
            refine wpAnyH_take (i := 1) (oi := { dst := some 31, op := Go.Op.move (Go.Operand.tmp 10), type := 3, pos := "stretch.go:37", after := #[], guard := none }) (v := ?_) rfl (by kernel_rfl) (by kernel_rfl) (by kernel_rfl) (fun _ _ _ h => h) (Or.inl ⟨by rfl, ?_⟩) (by assumption) ?_
            rotate_left
            · intro w' hSw
              (try dsimp only at hSw)
              go_simp
              all_goals with_reducible rfl
            try simp only [Act.put, List.setIfInBounds_toArray, List.set_cons_zero, List.set_cons_succ]
            refine wpAnyH_take (i := 3) (oi := { dst := some 33, op := Go.Op.load 24 (Go.Operand.tmp 4), type := 24, pos := "stretch.go:37", after := #[], guard := none }) (v := ?_) rfl (by kernel_rfl) (by kernel_rfl) (by kernel_rfl) (fun _ _ _ h => h) (Or.inl ⟨by rfl, ?_⟩) (by assumption) ?_
            rotate_left
            · intro w' hSw
              (try dsimp only at hSw)
              go_simp
              all_goals with_reducible rfl
            try simp only [Act.put, List.setIfInBounds_toArray, List.set_cons_zero, List.set_cons_succ]
            refine wpAnyH_take (i := 4) (oi := { dst := some 34, op := Go.Op.move (Go.Operand.tmp 10), type := 3, pos := "stretch.go:37", after := #[], guard := none }) (v := ?_) rfl (by kernel_rfl) (by kernel_rfl) (by kernel_rfl) (fun _ _ _ h => h) (Or.inl ⟨by rfl, ?_⟩) (by assumption) ?_
            rotate_left
            · intro w' hSw
              (try dsimp only at hSw)
              go_simp
              all_goals with_reducible rfl
            try simp only [Act.put, List.setIfInBounds_toArray, List.set_cons_zero, List.set_cons_succ]
            refine wpAnyH_ready (rs := [2, 6, 7]) (by kernel_rfl) (by simp) ?_
            refine (AllReadyH.cons (o := { dst := some 32, op := Go.Op.call { callee := Go.Callee.value (Go.Operand.func 44), args := #[Go.Operand.tmp 30, Go.Operand.tmp 31], argTypes := #[24, 3] }, type := 73, pos := "stretch.go:37", after := #[{ on := 0, ground := Go.Ground.data }, { on := 1, ground := Go.Ground.data }], guard := none }) rfl (fun K hK => ?_) (AllReadyH.cons (o := { dst := some 11, op := Go.Op.alloc 73, type := 0, pos := "stretch.go:37", after := #[], guard := none }) rfl (fun K hK => ?_) (AllReadyH.cons (o := { dst := some 12, op := Go.Op.alloc 73, type := 0, pos := "stretch.go:37", after := #[], guard := none }) rfl (fun K hK => ?_) AllReadyH.nil)))
            · go_simp
              go_wp2_with (go_at_call 44; (with_reducible refine (HALP.out _ hBn).mono ?_); rintro eec2 wc2 ⟨rfl, hbc2⟩)
              have hBn := below_next hBn hbc2
              refine hK.out _ _ ?_ (fun hHeld => ?_)
              · exact HSS.out _ hBn
              clear hK K
              try simp only [Act.put, List.setIfInBounds_toArray, List.set_cons_zero, List.set_cons_succ]
              refine wpAnyH_ready (rs := [5, 6, 7]) (by kernel_rfl) (by simp) ?_
              refine (AllReadyH.cons (o := { dst := some 35, op := Go.Op.call { callee := Go.Callee.value (Go.Operand.func 44), args := #[Go.Operand.tmp 33, Go.Operand.tmp 34], argTypes := #[24, 3] }, type := 73, pos := "stretch.go:37", after := #[{ on := 3, ground := Go.Ground.data }, { on := 4, ground := Go.Ground.data }, { on := 2, ground := Go.Ground.chain }], guard := none }) rfl (fun K hK => ?_) (AllReadyH.cons (o := { dst := some 11, op := Go.Op.alloc 73, type := 0, pos := "stretch.go:37", after := #[], guard := none }) rfl (fun K hK => ?_) (AllReadyH.cons (o := { dst := some 12, op := Go.Op.alloc 73, type := 0, pos := "stretch.go:37", after := #[], guard := none }) rfl (fun K hK => ?_) AllReadyH.nil)))
              · go_simp
                go_wp2_with (go_at_call 44; (with_reducible refine (HALR.out _ hBn).mono ?_); rintro eec5 wc5 ⟨rfl, hbc5⟩)
                have hBn := below_next hBn hbc5
                refine hK.out _ _ ?_ (fun hHeld => ?_)
                · exact HSS.out _ hBn
                clear hK K
                try simp only [Act.put, List.setIfInBounds_toArray, List.set_cons_zero, List.set_cons_succ]
                refine wpAnyH_ready (rs := [6, 7]) (by kernel_rfl) (by simp) ?_
                refine (AllReadyH.cons (o := { dst := some 11, op := Go.Op.alloc 73, type := 0, pos := "stretch.go:37", after := #[], guard := none }) rfl (fun K hK => ?_) (AllReadyH.cons (o := { dst := some 12, op := Go.Op.alloc 73, type := 0, pos := "stretch.go:37", after := #[], guard := none }) rfl (fun K hK => ?_) AllReadyH.nil))
                · refine step_alloc71 rfl rfl ?_
                  intro wa6 z6 hb6 l6
                  have k6 := hBn.size
                  have hBn := below_next hBn hb6
                  refine hK.out _ _ ?_ (fun hHeld => ?_)
                  · exact HSS.out _ hBn
                  clear hK K
                  try simp only [Act.put, List.setIfInBounds_toArray, List.set_cons_zero, List.set_cons_succ]
                  refine wpAnyH_ready (rs := [7]) (by kernel_rfl) (by simp) ?_
                  refine (AllReadyH.cons (o := { dst := some 12, op := Go.Op.alloc 73, type := 0, pos := "stretch.go:37", after := #[], guard := none }) rfl (fun K hK => ?_) AllReadyH.nil)
                  · refine step_alloc71 rfl rfl ?_
                    intro wa7 z7 hb7 l7
                    have k7 := hBn.size
                    have hBn := below_next hBn hb7
                    have nab : _ ≠ _ := Nat.ne_of_lt l6
                    have z6 := z6.carry l6 hb7
                    have l6 := Nat.lt_trans l6 l7
                    refine hK.out _ _ ?_ (fun hHeld => ?_)
                    · exact HSS.out _ hBn
                    clear hK K
                    try simp only [Act.put, List.setIfInBounds_toArray, List.set_cons_zero, List.set_cons_succ]
                    refine wpAnyH_ready (rs := [8]) (by kernel_rfl) (by simp) ?_
                    refine AllReadyH.cons (o := { dst := none, op := Go.Op.store 73 (Go.Operand.tmp 11) (Go.Operand.tmp 32), type := 0, pos := "stretch.go:37", after := #[{ on := 6, ground := Go.Ground.data }, { on := 2, ground := Go.Ground.data }, { on := 5, ground := Go.Ground.chain }, { on := 0, ground := Go.Ground.phase }, { on := 1, ground := Go.Ground.phase }, { on := 2, ground := Go.Ground.phase }, { on := 3, ground := Go.Ground.textOnly Go.Departure.lateStores }, { on := 4, ground := Go.Ground.textOnly Go.Departure.lateStores }, { on := 5, ground := Go.Ground.textOnly Go.Departure.lateStoresUnsure }, { on := 6, ground := Go.Ground.phase }, { on := 7, ground := Go.Ground.phase }], guard := none }) rfl (fun K hK => ?_) AllReadyH.nil
                    refine step_store71 rfl _ _ rfl _ f rfl rfl z6 ?_
                    intro ws8 hSf
                    have z7 := z7.far hSf.2.1 (Ne.symm nab)
                    have hBn := hBn.trans (hSf.2.2 _ k6)
                    refine hK.out _ _ ?_ (fun hHeld => ?_)
                    · exact HSS.out _ hBn
                    clear hK K
                    try simp only [Act.put]
                    refine wpAnyH_ready (rs := [9]) (by kernel_rfl) (by simp) ?_
                    refine AllReadyH.cons (o := { dst := none, op := Go.Op.store 73 (Go.Operand.tmp 12) (Go.Operand.tmp 35), type := 0, pos := "stretch.go:37", after := #[{ on := 7, ground := Go.Ground.data }, { on := 5, ground := Go.Ground.data }, { on := 8, ground := Go.Ground.chain }, { on := 0, ground := Go.Ground.phase }, { on := 1, ground := Go.Ground.phase }, { on := 2, ground := Go.Ground.phase }, { on := 3, ground := Go.Ground.phase }, { on := 4, ground := Go.Ground.phase }, { on := 5, ground := Go.Ground.phase }, { on := 6, ground := Go.Ground.phase }, { on := 7, ground := Go.Ground.phase }, { on := 8, ground := Go.Ground.phase }], guard := none }) rfl (fun K hK => ?_) AllReadyH.nil
                    refine step_store71 rfl _ _ rfl _ q rfl rfl z7 ?_
                    intro ws9 hSq
                    have hBf := hSf.1.far hSq.2.1 nab
                    have hBn := hBn.trans (hSq.2.2 _ k7)
                    refine hK.out _ _ ?_ (fun hHeld => ?_)
                    · exact HSS.out _ hBn
                    clear hK K
                    try simp only [Act.put]
                    refine wpAnyH_done (by kernel_rfl) ?_ _
                    go_wp2_with (fail)
                    go_meet
                    exact ⟨_, _, rfl, rfl, BoxC.of hBf, BoxC.of hSq.1, hBn⟩
                · refine step_alloc71 rfl rfl ?_
                  intro wa7 z7 hb7 l7
                  have k7 := hBn.size
                  have hBn := below_next hBn hb7
                  refine hK.out _ _ ?_ (fun hHeld => ?_)
                  · exact HSS.out _ hBn
                  clear hK K
                  try simp only [Act.put, List.setIfInBounds_toArray, List.set_cons_zero, List.set_cons_succ]
                  refine wpAnyH_ready (rs := [6]) (by kernel_rfl) (by simp) ?_
                  refine (AllReadyH.cons (o := { dst := some 11, op := Go.Op.alloc 73, type := 0, pos := "stretch.go:37", after := #[], guard := none }) rfl (fun K hK => ?_) AllReadyH.nil)
                  · refine step_alloc71 rfl rfl ?_
                    intro wa6 z6 hb6 l6
                    have k6 := hBn.size
                    have hBn := below_next hBn hb6
                    have nab : _ ≠ _ := Nat.ne_of_lt l7
                    have z7 := z7.carry l7 hb6
                    have l7 := Nat.lt_trans l7 l6
                    refine hK.out _ _ ?_ (fun hHeld => ?_)
                    · exact HSS.out _ hBn
                    clear hK K
                    try simp only [Act.put, List.setIfInBounds_toArray, List.set_cons_zero, List.set_cons_succ]
                    refine wpAnyH_ready (rs := [8]) (by kernel_rfl) (by simp) ?_
                    refine AllReadyH.cons (o := { dst := none, op := Go.Op.store 73 (Go.Operand.tmp 11) (Go.Operand.tmp 32), type := 0, pos := "stretch.go:37", after := #[{ on := 6, ground := Go.Ground.data }, { on := 2, ground := Go.Ground.data }, { on := 5, ground := Go.Ground.chain }, { on := 0, ground := Go.Ground.phase }, { on := 1, ground := Go.Ground.phase }, { on := 2, ground := Go.Ground.phase }, { on := 3, ground := Go.Ground.textOnly Go.Departure.lateStores }, { on := 4, ground := Go.Ground.textOnly Go.Departure.lateStores }, { on := 5, ground := Go.Ground.textOnly Go.Departure.lateStoresUnsure }, { on := 6, ground := Go.Ground.phase }, { on := 7, ground := Go.Ground.phase }], guard := none }) rfl (fun K hK => ?_) AllReadyH.nil
                    refine step_store71 rfl _ _ rfl _ f rfl rfl z6 ?_
                    intro ws8 hSf
                    have z7 := z7.far hSf.2.1 nab
                    have hBn := hBn.trans (hSf.2.2 _ k6)
                    refine hK.out _ _ ?_ (fun hHeld => ?_)
                    · exact HSS.out _ hBn
                    clear hK K
                    try simp only [Act.put]
                    refine wpAnyH_ready (rs := [9]) (by kernel_rfl) (by simp) ?_
                    refine AllReadyH.cons (o := { dst := none, op := Go.Op.store 73 (Go.Operand.tmp 12) (Go.Operand.tmp 35), type := 0, pos := "stretch.go:37", after := #[{ on := 7, ground := Go.Ground.data }, { on := 5, ground := Go.Ground.data }, { on := 8, ground := Go.Ground.chain }, { on := 0, ground := Go.Ground.phase }, { on := 1, ground := Go.Ground.phase }, { on := 2, ground := Go.Ground.phase }, { on := 3, ground := Go.Ground.phase }, { on := 4, ground := Go.Ground.phase }, { on := 5, ground := Go.Ground.phase }, { on := 6, ground := Go.Ground.phase }, { on := 7, ground := Go.Ground.phase }, { on := 8, ground := Go.Ground.phase }], guard := none }) rfl (fun K hK => ?_) AllReadyH.nil
                    refine step_store71 rfl _ _ rfl _ q rfl rfl z7 ?_
                    intro ws9 hSq
                    have hBf := hSf.1.far hSq.2.1 (Ne.symm nab)
                    have hBn := hBn.trans (hSq.2.2 _ k7)
                    refine hK.out _ _ ?_ (fun hHeld => ?_)
                    · exact HSS.out _ hBn
                    clear hK K
                    try simp only [Act.put]
                    refine wpAnyH_done (by kernel_rfl) ?_ _
                    go_wp2_with (fail)
                    go_meet
                    exact ⟨_, _, rfl, rfl, BoxC.of hBf, BoxC.of hSq.1, hBn⟩
              · refine step_alloc71 rfl rfl ?_
                intro wa6 z6 hb6 l6
                have k6 := hBn.size
                have hBn := below_next hBn hb6
                refine hK.out _ _ ?_ (fun hHeld => ?_)
                · exact HSS.out _ hBn
                clear hK K
                try simp only [Act.put, List.setIfInBounds_toArray, List.set_cons_zero, List.set_cons_succ]
                refine wpAnyH_ready (rs := [5, 7]) (by kernel_rfl) (by simp) ?_
                refine (AllReadyH.cons (o := { dst := some 35, op := Go.Op.call { callee := Go.Callee.value (Go.Operand.func 44), args := #[Go.Operand.tmp 33, Go.Operand.tmp 34], argTypes := #[24, 3] }, type := 73, pos := "stretch.go:37", after := #[{ on := 3, ground := Go.Ground.data }, { on := 4, ground := Go.Ground.data }, { on := 2, ground := Go.Ground.chain }], guard := none }) rfl (fun K hK => ?_) (AllReadyH.cons (o := { dst := some 12, op := Go.Op.alloc 73, type := 0, pos := "stretch.go:37", after := #[], guard := none }) rfl (fun K hK => ?_) AllReadyH.nil))
                · go_simp
                  go_wp2_with (go_at_call 44; (with_reducible refine (HALR.out _ hBn).mono ?_); rintro eec5 wc5 ⟨rfl, hbc5⟩)
                  have hBn := below_next hBn hbc5
                  have z6 := z6.carry l6 hbc5
                  have l6 := Nat.lt_of_lt_of_le l6 hbc5.size
                  refine hK.out _ _ ?_ (fun hHeld => ?_)
                  · exact HSS.out _ hBn
                  clear hK K
                  try simp only [Act.put, List.setIfInBounds_toArray, List.set_cons_zero, List.set_cons_succ]
                  refine wpAnyH_ready (rs := [7]) (by kernel_rfl) (by simp) ?_
                  refine (AllReadyH.cons (o := { dst := some 12, op := Go.Op.alloc 73, type := 0, pos := "stretch.go:37", after := #[], guard := none }) rfl (fun K hK => ?_) AllReadyH.nil)
                  · refine step_alloc71 rfl rfl ?_
                    intro wa7 z7 hb7 l7
                    have k7 := hBn.size
                    have hBn := below_next hBn hb7
                    have nab : _ ≠ _ := Nat.ne_of_lt l6
                    have z6 := z6.carry l6 hb7
                    have l6 := Nat.lt_trans l6 l7
                    refine hK.out _ _ ?_ (fun hHeld => ?_)
                    · exact HSS.out _ hBn
                    clear hK K
                    try simp only [Act.put, List.setIfInBounds_toArray, List.set_cons_zero, List.set_cons_succ]
                    refine wpAnyH_ready (rs := [8]) (by kernel_rfl) (by simp) ?_
                    refine AllReadyH.cons (o := { dst := none, op := Go.Op.store 73 (Go.Operand.tmp 11) (Go.Operand.tmp 32), type := 0, pos := "stretch.go:37", after := #[{ on := 6, ground := Go.Ground.data }, { on := 2, ground := Go.Ground.data }, { on := 5, ground := Go.Ground.chain }, { on := 0, ground := Go.Ground.phase }, { on := 1, ground := Go.Ground.phase }, { on := 2, ground := Go.Ground.phase }, { on := 3, ground := Go.Ground.textOnly Go.Departure.lateStores }, { on := 4, ground := Go.Ground.textOnly Go.Departure.lateStores }, { on := 5, ground := Go.Ground.textOnly Go.Departure.lateStoresUnsure }, { on := 6, ground := Go.Ground.phase }, { on := 7, ground := Go.Ground.phase }], guard := none }) rfl (fun K hK => ?_) AllReadyH.nil
                    refine step_store71 rfl _ _ rfl _ f rfl rfl z6 ?_
                    intro ws8 hSf
                    have z7 := z7.far hSf.2.1 (Ne.symm nab)
                    have hBn := hBn.trans (hSf.2.2 _ k6)
                    refine hK.out _ _ ?_ (fun hHeld => ?_)
                    · exact HSS.out _ hBn
                    clear hK K
                    try simp only [Act.put]
                    refine wpAnyH_ready (rs := [9]) (by kernel_rfl) (by simp) ?_
                    refine AllReadyH.cons (o := { dst := none, op := Go.Op.store 73 (Go.Operand.tmp 12) (Go.Operand.tmp 35), type := 0, pos := "stretch.go:37", after := #[{ on := 7, ground := Go.Ground.data }, { on := 5, ground := Go.Ground.data }, { on := 8, ground := Go.Ground.chain }, { on := 0, ground := Go.Ground.phase }, { on := 1, ground := Go.Ground.phase }, { on := 2, ground := Go.Ground.phase }, { on := 3, ground := Go.Ground.phase }, { on := 4, ground := Go.Ground.phase }, { on := 5, ground := Go.Ground.phase }, { on := 6, ground := Go.Ground.phase }, { on := 7, ground := Go.Ground.phase }, { on := 8, ground := Go.Ground.phase }], guard := none }) rfl (fun K hK => ?_) AllReadyH.nil
                    refine step_store71 rfl _ _ rfl _ q rfl rfl z7 ?_
                    intro ws9 hSq
                    have hBf := hSf.1.far hSq.2.1 nab
                    have hBn := hBn.trans (hSq.2.2 _ k7)
                    refine hK.out _ _ ?_ (fun hHeld => ?_)
                    · exact HSS.out _ hBn
                    clear hK K
                    try simp only [Act.put]
                    refine wpAnyH_done (by kernel_rfl) ?_ _
                    go_wp2_with (fail)
                    go_meet
                    exact ⟨_, _, rfl, rfl, BoxC.of hBf, BoxC.of hSq.1, hBn⟩
                · refine step_alloc71 rfl rfl ?_
                  intro wa7 z7 hb7 l7
                  have k7 := hBn.size
                  have hBn := below_next hBn hb7
                  have nab : _ ≠ _ := Nat.ne_of_lt l6
                  have z6 := z6.carry l6 hb7
                  have l6 := Nat.lt_trans l6 l7
                  refine hK.out _ _ ?_ (fun hHeld => ?_)
                  · exact HSS.out _ hBn
                  clear hK K
                  try simp only [Act.put, List.setIfInBounds_toArray, List.set_cons_zero, List.set_cons_succ]
                  refine wpAnyH_ready (rs := [5]) (by kernel_rfl) (by simp) ?_
                  refine (AllReadyH.cons (o := { dst := some 35, op := Go.Op.call { callee := Go.Callee.value (Go.Operand.func 44), args := #[Go.Operand.tmp 33, Go.Operand.tmp 34], argTypes := #[24, 3] }, type := 73, pos := "stretch.go:37", after := #[{ on := 3, ground := Go.Ground.data }, { on := 4, ground := Go.Ground.data }, { on := 2, ground := Go.Ground.chain }], guard := none }) rfl (fun K hK => ?_) AllReadyH.nil)
                  · go_simp
                    go_wp2_with (go_at_call 44; (with_reducible refine (HALR.out _ hBn).mono ?_); rintro eec5 wc5 ⟨rfl, hbc5⟩)
                    have hBn := below_next hBn hbc5
                    have z6 := z6.carry l6 hbc5
                    have l6 := Nat.lt_of_lt_of_le l6 hbc5.size
                    have z7 := z7.carry l7 hbc5
                    have l7 := Nat.lt_of_lt_of_le l7 hbc5.size
                    refine hK.out _ _ ?_ (fun hHeld => ?_)
                    · exact HSS.out _ hBn
                    clear hK K
                    try simp only [Act.put, List.setIfInBounds_toArray, List.set_cons_zero, List.set_cons_succ]
                    refine wpAnyH_ready (rs := [8]) (by kernel_rfl) (by simp) ?_
                    refine AllReadyH.cons (o := { dst := none, op := Go.Op.store 73 (Go.Operand.tmp 11) (Go.Operand.tmp 32), type := 0, pos := "stretch.go:37", after := #[{ on := 6, ground := Go.Ground.data }, { on := 2, ground := Go.Ground.data }, { on := 5, ground := Go.Ground.chain }, { on := 0, ground := Go.Ground.phase }, { on := 1, ground := Go.Ground.phase }, { on := 2, ground := Go.Ground.phase }, { on := 3, ground := Go.Ground.textOnly Go.Departure.lateStores }, { on := 4, ground := Go.Ground.textOnly Go.Departure.lateStores }, { on := 5, ground := Go.Ground.textOnly Go.Departure.lateStoresUnsure }, { on := 6, ground := Go.Ground.phase }, { on := 7, ground := Go.Ground.phase }], guard := none }) rfl (fun K hK => ?_) AllReadyH.nil
                    refine step_store71 rfl _ _ rfl _ f rfl rfl z6 ?_
                    intro ws8 hSf
                    have z7 := z7.far hSf.2.1 (Ne.symm nab)
                    have hBn := hBn.trans (hSf.2.2 _ k6)
                    refine hK.out _ _ ?_ (fun hHeld => ?_)
                    · exact HSS.out _ hBn
                    clear hK K
                    try simp only [Act.put]
                    refine wpAnyH_ready (rs := [9]) (by kernel_rfl) (by simp) ?_
                    refine AllReadyH.cons (o := { dst := none, op := Go.Op.store 73 (Go.Operand.tmp 12) (Go.Operand.tmp 35), type := 0, pos := "stretch.go:37", after := #[{ on := 7, ground := Go.Ground.data }, { on := 5, ground := Go.Ground.data }, { on := 8, ground := Go.Ground.chain }, { on := 0, ground := Go.Ground.phase }, { on := 1, ground := Go.Ground.phase }, { on := 2, ground := Go.Ground.phase }, { on := 3, ground := Go.Ground.phase }, { on := 4, ground := Go.Ground.phase }, { on := 5, ground := Go.Ground.phase }, { on := 6, ground := Go.Ground.phase }, { on := 7, ground := Go.Ground.phase }, { on := 8, ground := Go.Ground.phase }], guard := none }) rfl (fun K hK => ?_) AllReadyH.nil
                    refine step_store71 rfl _ _ rfl _ q rfl rfl z7 ?_
                    intro ws9 hSq
                    have hBf := hSf.1.far hSq.2.1 nab
                    have hBn := hBn.trans (hSq.2.2 _ k7)
                    refine hK.out _ _ ?_ (fun hHeld => ?_)
                    · exact HSS.out _ hBn
                    clear hK K
                    try simp only [Act.put]
                    refine wpAnyH_done (by kernel_rfl) ?_ _
                    go_wp2_with (fail)
                    go_meet
                    exact ⟨_, _, rfl, rfl, BoxC.of hBf, BoxC.of hSq.1, hBn⟩
              · refine step_alloc71 rfl rfl ?_
                intro wa7 z7 hb7 l7
                have k7 := hBn.size
                have hBn := below_next hBn hb7
                refine hK.out _ _ ?_ (fun hHeld => ?_)
                · exact HSS.out _ hBn
                clear hK K
                try simp only [Act.put, List.setIfInBounds_toArray, List.set_cons_zero, List.set_cons_succ]
                refine wpAnyH_ready (rs := [5, 6]) (by kernel_rfl) (by simp) ?_
                refine (AllReadyH.cons (o := { dst := some 35, op := Go.Op.call { callee := Go.Callee.value (Go.Operand.func 44), args := #[Go.Operand.tmp 33, Go.Operand.tmp 34], argTypes := #[24, 3] }, type := 73, pos := "stretch.go:37", after := #[{ on := 3, ground := Go.Ground.data }, { on := 4, ground := Go.Ground.data }, { on := 2, ground := Go.Ground.chain }], guard := none }) rfl (fun K hK => ?_) (AllReadyH.cons (o := { dst := some 11, op := Go.Op.alloc 73, type := 0, pos := "stretch.go:37", after := #[], guard := none }) rfl (fun K hK => ?_) AllReadyH.nil))
                · go_simp
                  go_wp2_with (go_at_call 44; (with_reducible refine (HALR.out _ hBn).mono ?_); rintro eec5 wc5 ⟨rfl, hbc5⟩)
                  have hBn := below_next hBn hbc5
                  have z7 := z7.carry l7 hbc5
                  have l7 := Nat.lt_of_lt_of_le l7 hbc5.size
                  refine hK.out _ _ ?_ (fun hHeld => ?_)
                  · exact HSS.out _ hBn
                  clear hK K
                  try simp only [Act.put, List.setIfInBounds_toArray, List.set_cons_zero, List.set_cons_succ]
                  refine wpAnyH_ready (rs := [6]) (by kernel_rfl) (by simp) ?_
                  refine (AllReadyH.cons (o := { dst := some 11, op := Go.Op.alloc 73, type := 0, pos := "stretch.go:37", after := #[], guard := none }) rfl (fun K hK => ?_) AllReadyH.nil)
                  · refine step_alloc71 rfl rfl ?_
                    intro wa6 z6 hb6 l6
                    have k6 := hBn.size
                    have hBn := below_next hBn hb6
                    have nab : _ ≠ _ := Nat.ne_of_lt l7
                    have z7 := z7.carry l7 hb6
                    have l7 := Nat.lt_trans l7 l6
                    refine hK.out _ _ ?_ (fun hHeld => ?_)
                    · exact HSS.out _ hBn
                    clear hK K
                    try simp only [Act.put, List.setIfInBounds_toArray, List.set_cons_zero, List.set_cons_succ]
                    refine wpAnyH_ready (rs := [8]) (by kernel_rfl) (by simp) ?_
                    refine AllReadyH.cons (o := { dst := none, op := Go.Op.store 73 (Go.Operand.tmp 11) (Go.Operand.tmp 32), type := 0, pos := "stretch.go:37", after := #[{ on := 6, ground := Go.Ground.data }, { on := 2, ground := Go.Ground.data }, { on := 5, ground := Go.Ground.chain }, { on := 0, ground := Go.Ground.phase }, { on := 1, ground := Go.Ground.phase }, { on := 2, ground := Go.Ground.phase }, { on := 3, ground := Go.Ground.textOnly Go.Departure.lateStores }, { on := 4, ground := Go.Ground.textOnly Go.Departure.lateStores }, { on := 5, ground := Go.Ground.textOnly Go.Departure.lateStoresUnsure }, { on := 6, ground := Go.Ground.phase }, { on := 7, ground := Go.Ground.phase }], guard := none }) rfl (fun K hK => ?_) AllReadyH.nil
                    refine step_store71 rfl _ _ rfl _ f rfl rfl z6 ?_
                    intro ws8 hSf
                    have z7 := z7.far hSf.2.1 nab
                    have hBn := hBn.trans (hSf.2.2 _ k6)
                    refine hK.out _ _ ?_ (fun hHeld => ?_)
                    · exact HSS.out _ hBn
                    clear hK K
                    try simp only [Act.put]
                    refine wpAnyH_ready (rs := [9]) (by kernel_rfl) (by simp) ?_
                    refine AllReadyH.cons (o := { dst := none, op := Go.Op.store 73 (Go.Operand.tmp 12) (Go.Operand.tmp 35), type := 0, pos := "stretch.go:37", after := #[{ on := 7, ground := Go.Ground.data }, { on := 5, ground := Go.Ground.data }, { on := 8, ground := Go.Ground.chain }, { on := 0, ground := Go.Ground.phase }, { on := 1, ground := Go.Ground.phase }, { on := 2, ground := Go.Ground.phase }, { on := 3, ground := Go.Ground.phase }, { on := 4, ground := Go.Ground.phase }, { on := 5, ground := Go.Ground.phase }, { on := 6, ground := Go.Ground.phase }, { on := 7, ground := Go.Ground.phase }, { on := 8, ground := Go.Ground.phase }], guard := none }) rfl (fun K hK => ?_) AllReadyH.nil
                    refine step_store71 rfl _ _ rfl _ q rfl rfl z7 ?_
                    intro ws9 hSq
                    have hBf := hSf.1.far hSq.2.1 (Ne.symm nab)
                    have hBn := hBn.trans (hSq.2.2 _ k7)
                    refine hK.out _ _ ?_ (fun hHeld => ?_)
                    · exact HSS.out _ hBn
                    clear hK K
                    try simp only [Act.put]
                    refine wpAnyH_done (by kernel_rfl) ?_ _
                    go_wp2_with (fail)
                    go_meet
                    exact ⟨_, _, rfl, rfl, BoxC.of hBf, BoxC.of hSq.1, hBn⟩
                · refine step_alloc71 rfl rfl ?_
                  intro wa6 z6 hb6 l6
                  have k6 := hBn.size
                  have hBn := below_next hBn hb6
                  have nab : _ ≠ _ := Nat.ne_of_lt l7
                  have z7 := z7.carry l7 hb6
                  have l7 := Nat.lt_trans l7 l6
                  refine hK.out _ _ ?_ (fun hHeld => ?_)
                  · exact HSS.out _ hBn
                  clear hK K
                  try simp only [Act.put, List.setIfInBounds_toArray, List.set_cons_zero, List.set_cons_succ]
                  refine wpAnyH_ready (rs := [5]) (by kernel_rfl) (by simp) ?_
                  refine (AllReadyH.cons (o := { dst := some 35, op := Go.Op.call { callee := Go.Callee.value (Go.Operand.func 44), args := #[Go.Operand.tmp 33, Go.Operand.tmp 34], argTypes := #[24, 3] }, type := 73, pos := "stretch.go:37", after := #[{ on := 3, ground := Go.Ground.data }, { on := 4, ground := Go.Ground.data }, { on := 2, ground := Go.Ground.chain }], guard := none }) rfl (fun K hK => ?_) AllReadyH.nil)
                  · go_simp
                    go_wp2_with (go_at_call 44; (with_reducible refine (HALR.out _ hBn).mono ?_); rintro eec5 wc5 ⟨rfl, hbc5⟩)
                    have hBn := below_next hBn hbc5
                    have z7 := z7.carry l7 hbc5
                    have l7 := Nat.lt_of_lt_of_le l7 hbc5.size
                    have z6 := z6.carry l6 hbc5
                    have l6 := Nat.lt_of_lt_of_le l6 hbc5.size
                    refine hK.out _ _ ?_ (fun hHeld => ?_)
                    · exact HSS.out _ hBn
                    clear hK K
                    try simp only [Act.put, List.setIfInBounds_toArray, List.set_cons_zero, List.set_cons_succ]
                    refine wpAnyH_ready (rs := [8]) (by kernel_rfl) (by simp) ?_
                    refine AllReadyH.cons (o := { dst := none, op := Go.Op.store 73 (Go.Operand.tmp 11) (Go.Operand.tmp 32), type := 0, pos := "stretch.go:37", after := #[{ on := 6, ground := Go.Ground.data }, { on := 2, ground := Go.Ground.data }, { on := 5, ground := Go.Ground.chain }, { on := 0, ground := Go.Ground.phase }, { on := 1, ground := Go.Ground.phase }, { on := 2, ground := Go.Ground.phase }, { on := 3, ground := Go.Ground.textOnly Go.Departure.lateStores }, { on := 4, ground := Go.Ground.textOnly Go.Departure.lateStores }, { on := 5, ground := Go.Ground.textOnly Go.Departure.lateStoresUnsure }, { on := 6, ground := Go.Ground.phase }, { on := 7, ground := Go.Ground.phase }], guard := none }) rfl (fun K hK => ?_) AllReadyH.nil
                    refine step_store71 rfl _ _ rfl _ f rfl rfl z6 ?_
                    intro ws8 hSf
                    have z7 := z7.far hSf.2.1 nab
                    have hBn := hBn.trans (hSf.2.2 _ k6)
                    refine hK.out _ _ ?_ (fun hHeld => ?_)
                    · exact HSS.out _ hBn
                    clear hK K
                    try simp only [Act.put]
                    refine wpAnyH_ready (rs := [9]) (by kernel_rfl) (by simp) ?_
                    refine AllReadyH.cons (o := { dst := none, op := Go.Op.store 73 (Go.Operand.tmp 12) (Go.Operand.tmp 35), type := 0, pos := "stretch.go:37", after := #[{ on := 7, ground := Go.Ground.data }, { on := 5, ground := Go.Ground.data }, { on := 8, ground := Go.Ground.chain }, { on := 0, ground := Go.Ground.phase }, { on := 1, ground := Go.Ground.phase }, { on := 2, ground := Go.Ground.phase }, { on := 3, ground := Go.Ground.phase }, { on := 4, ground := Go.Ground.phase }, { on := 5, ground := Go.Ground.phase }, { on := 6, ground := Go.Ground.phase }, { on := 7, ground := Go.Ground.phase }, { on := 8, ground := Go.Ground.phase }], guard := none }) rfl (fun K hK => ?_) AllReadyH.nil
                    refine step_store71 rfl _ _ rfl _ q rfl rfl z7 ?_
                    intro ws9 hSq
                    have hBf := hSf.1.far hSq.2.1 (Ne.symm nab)
                    have hBn := hBn.trans (hSq.2.2 _ k7)
                    refine hK.out _ _ ?_ (fun hHeld => ?_)
                    · exact HSS.out _ hBn
                    clear hK K
                    try simp only [Act.put]
                    refine wpAnyH_done (by kernel_rfl) ?_ _
                    go_wp2_with (fail)
                    go_meet
                    exact ⟨_, _, rfl, rfl, BoxC.of hBf, BoxC.of hSq.1, hBn⟩
            · refine step_alloc71 rfl rfl ?_
              intro wa6 z6 hb6 l6
              have k6 := hBn.size
              have hBn := below_next hBn hb6
              refine hK.out _ _ ?_ (fun hHeld => ?_)
              · exact HSS.out _ hBn
              clear hK K
              try simp only [Act.put, List.setIfInBounds_toArray, List.set_cons_zero, List.set_cons_succ]
              refine wpAnyH_ready (rs := [2, 7]) (by kernel_rfl) (by simp) ?_
              refine (AllReadyH.cons (o := { dst := some 32, op := Go.Op.call { callee := Go.Callee.value (Go.Operand.func 44), args := #[Go.Operand.tmp 30, Go.Operand.tmp 31], argTypes := #[24, 3] }, type := 73, pos := "stretch.go:37", after := #[{ on := 0, ground := Go.Ground.data }, { on := 1, ground := Go.Ground.data }], guard := none }) rfl (fun K hK => ?_) (AllReadyH.cons (o := { dst := some 12, op := Go.Op.alloc 73, type := 0, pos := "stretch.go:37", after := #[], guard := none }) rfl (fun K hK => ?_) AllReadyH.nil))
              · go_simp
                go_wp2_with (go_at_call 44; (with_reducible refine (HALP.out _ hBn).mono ?_); rintro eec2 wc2 ⟨rfl, hbc2⟩)
                have hBn := below_next hBn hbc2
                have z6 := z6.carry l6 hbc2
                have l6 := Nat.lt_of_lt_of_le l6 hbc2.size
                refine hK.out _ _ ?_ (fun hHeld => ?_)
                · exact HSS.out _ hBn
                clear hK K
                try simp only [Act.put, List.setIfInBounds_toArray, List.set_cons_zero, List.set_cons_succ]
                refine wpAnyH_ready (rs := [5, 7]) (by kernel_rfl) (by simp) ?_
                refine (AllReadyH.cons (o := { dst := some 35, op := Go.Op.call { callee := Go.Callee.value (Go.Operand.func 44), args := #[Go.Operand.tmp 33, Go.Operand.tmp 34], argTypes := #[24, 3] }, type := 73, pos := "stretch.go:37", after := #[{ on := 3, ground := Go.Ground.data }, { on := 4, ground := Go.Ground.data }, { on := 2, ground := Go.Ground.chain }], guard := none }) rfl (fun K hK => ?_) (AllReadyH.cons (o := { dst := some 12, op := Go.Op.alloc 73, type := 0, pos := "stretch.go:37", after := #[], guard := none }) rfl (fun K hK => ?_) AllReadyH.nil))
                · go_simp
                  go_wp2_with (go_at_call 44; (with_reducible refine (HALR.out _ hBn).mono ?_); rintro eec5 wc5 ⟨rfl, hbc5⟩)
                  have hBn := below_next hBn hbc5
                  have z6 := z6.carry l6 hbc5
                  have l6 := Nat.lt_of_lt_of_le l6 hbc5.size
                  refine hK.out _ _ ?_ (fun hHeld => ?_)
                  · exact HSS.out _ hBn
                  clear hK K
                  try simp only [Act.put, List.setIfInBounds_toArray, List.set_cons_zero, List.set_cons_succ]
                  refine wpAnyH_ready (rs := [7]) (by kernel_rfl) (by simp) ?_
                  refine (AllReadyH.cons (o := { dst := some 12, op := Go.Op.alloc 73, type := 0, pos := "stretch.go:37", after := #[], guard := none }) rfl (fun K hK => ?_) AllReadyH.nil)
                  · refine step_alloc71 rfl rfl ?_
                    intro wa7 z7 hb7 l7
                    have k7 := hBn.size
                    have hBn := below_next hBn hb7
                    have nab : _ ≠ _ := Nat.ne_of_lt l6
                    have z6 := z6.carry l6 hb7
                    have l6 := Nat.lt_trans l6 l7
                    refine hK.out _ _ ?_ (fun hHeld => ?_)
                    · exact HSS.out _ hBn
                    clear hK K
                    try simp only [Act.put, List.setIfInBounds_toArray, List.set_cons_zero, List.set_cons_succ]
                    refine wpAnyH_ready (rs := [8]) (by kernel_rfl) (by simp) ?_
                    refine AllReadyH.cons (o := { dst := none, op := Go.Op.store 73 (Go.Operand.tmp 11) (Go.Operand.tmp 32), type := 0, pos := "stretch.go:37", after := #[{ on := 6, ground := Go.Ground.data }, { on := 2, ground := Go.Ground.data }, { on := 5, ground := Go.Ground.chain }, { on := 0, ground := Go.Ground.phase }, { on := 1, ground := Go.Ground.phase }, { on := 2, ground := Go.Ground.phase }, { on := 3, ground := Go.Ground.textOnly Go.Departure.lateStores }, { on := 4, ground := Go.Ground.textOnly Go.Departure.lateStores }, { on := 5, ground := Go.Ground.textOnly Go.Departure.lateStoresUnsure }, { on := 6, ground := Go.Ground.phase }, { on := 7, ground := Go.Ground.phase }], guard := none }) rfl (fun K hK => ?_) AllReadyH.nil
                    refine step_store71 rfl _ _ rfl _ f rfl rfl z6 ?_
                    intro ws8 hSf
                    have z7 := z7.far hSf.2.1 (Ne.symm nab)
                    have hBn := hBn.trans (hSf.2.2 _ k6)
                    refine hK.out _ _ ?_ (fun hHeld => ?_)
                    · exact HSS.out _ hBn
                    clear hK K
                    try simp only [Act.put]
                    refine wpAnyH_ready (rs := [9]) (by kernel_rfl) (by simp) ?_
                    refine AllReadyH.cons (o := { dst := none, op := Go.Op.store 73 (Go.Operand.tmp 12) (Go.Operand.tmp 35), type := 0, pos := "stretch.go:37", after := #[{ on := 7, ground := Go.Ground.data }, { on := 5, ground := Go.Ground.data }, { on := 8, ground := Go.Ground.chain }, { on := 0, ground := Go.Ground.phase }, { on := 1, ground := Go.Ground.phase }, { on := 2, ground := Go.Ground.phase }, { on := 3, ground := Go.Ground.phase }, { on := 4, ground := Go.Ground.phase }, { on := 5, ground := Go.Ground.phase }, { on := 6, ground := Go.Ground.phase }, { on := 7, ground := Go.Ground.phase }, { on := 8, ground := Go.Ground.phase }], guard := none }) rfl (fun K hK => ?_) AllReadyH.nil
                    refine step_store71 rfl _ _ rfl _ q rfl rfl z7 ?_
                    intro ws9 hSq
                    have hBf := hSf.1.far hSq.2.1 nab
                    have hBn := hBn.trans (hSq.2.2 _ k7)
                    refine hK.out _ _ ?_ (fun hHeld => ?_)
                    · exact HSS.out _ hBn
                    clear hK K
                    try simp only [Act.put]
                    refine wpAnyH_done (by kernel_rfl) ?_ _
                    go_wp2_with (fail)
                    go_meet
                    exact ⟨_, _, rfl, rfl, BoxC.of hBf, BoxC.of hSq.1, hBn⟩
                · refine step_alloc71 rfl rfl ?_
                  intro wa7 z7 hb7 l7
                  have k7 := hBn.size
                  have hBn := below_next hBn hb7
                  have nab : _ ≠ _ := Nat.ne_of_lt l6
                  have z6 := z6.carry l6 hb7
                  have l6 := Nat.lt_trans l6 l7
                  refine hK.out _ _ ?_ (fun hHeld => ?_)
                  · exact HSS.out _ hBn
                  clear hK K
                  try simp only [Act.put, List.setIfInBounds_toArray, List.set_cons_zero, List.set_cons_succ]
                  refine wpAnyH_ready (rs := [5]) (by kernel_rfl) (by simp) ?_
                  refine (AllReadyH.cons (o := { dst := some 35, op := Go.Op.call { callee := Go.Callee.value (Go.Operand.func 44), args := #[Go.Operand.tmp 33, Go.Operand.tmp 34], argTypes := #[24, 3] }, type := 73, pos := "stretch.go:37", after := #[{ on := 3, ground := Go.Ground.data }, { on := 4, ground := Go.Ground.data }, { on := 2, ground := Go.Ground.chain }], guard := none }) rfl (fun K hK => ?_) AllReadyH.nil)
                  · go_simp
                    go_wp2_with (go_at_call 44; (with_reducible refine (HALR.out _ hBn).mono ?_); rintro eec5 wc5 ⟨rfl, hbc5⟩)
                    have hBn := below_next hBn hbc5
                    have z6 := z6.carry l6 hbc5
                    have l6 := Nat.lt_of_lt_of_le l6 hbc5.size
                    have z7 := z7.carry l7 hbc5
                    have l7 := Nat.lt_of_lt_of_le l7 hbc5.size
                    refine hK.out _ _ ?_ (fun hHeld => ?_)
                    · exact HSS.out _ hBn
                    clear hK K
                    try simp only [Act.put, List.setIfInBounds_toArray, List.set_cons_zero, List.set_cons_succ]
                    refine wpAnyH_ready (rs := [8]) (by kernel_rfl) (by simp) ?_
                    refine AllReadyH.cons (o := { dst := none, op := Go.Op.store 73 (Go.Operand.tmp 11) (Go.Operand.tmp 32), type := 0, pos := "stretch.go:37", after := #[{ on := 6, ground := Go.Ground.data }, { on := 2, ground := Go.Ground.data }, { on := 5, ground := Go.Ground.chain }, { on := 0, ground := Go.Ground.phase }, { on := 1, ground := Go.Ground.phase }, { on := 2, ground := Go.Ground.phase }, { on := 3, ground := Go.Ground.textOnly Go.Departure.lateStores }, { on := 4, ground := Go.Ground.textOnly Go.Departure.lateStores }, { on := 5, ground := Go.Ground.textOnly Go.Departure.lateStoresUnsure }, { on := 6, ground := Go.Ground.phase }, { on := 7, ground := Go.Ground.phase }], guard := none }) rfl (fun K hK => ?_) AllReadyH.nil
                    refine step_store71 rfl _ _ rfl _ f rfl rfl z6 ?_
                    intro ws8 hSf
                    have z7 := z7.far hSf.2.1 (Ne.symm nab)
                    have hBn := hBn.trans (hSf.2.2 _ k6)
                    refine hK.out _ _ ?_ (fun hHeld => ?_)
                    · exact HSS.out _ hBn
                    clear hK K
                    try simp only [Act.put]
                    refine wpAnyH_ready (rs := [9]) (by kernel_rfl) (by simp) ?_
                    refine AllReadyH.cons (o := { dst := none, op := Go.Op.store 73 (Go.Operand.tmp 12) (Go.Operand.tmp 35), type := 0, pos := "stretch.go:37", after := #[{ on := 7, ground := Go.Ground.data }, { on := 5, ground := Go.Ground.data }, { on := 8, ground := Go.Ground.chain }, { on := 0, ground := Go.Ground.phase }, { on := 1, ground := Go.Ground.phase }, { on := 2, ground := Go.Ground.phase }, { on := 3, ground := Go.Ground.phase }, { on := 4, ground := Go.Ground.phase }, { on := 5, ground := Go.Ground.phase }, { on := 6, ground := Go.Ground.phase }, { on := 7, ground := Go.Ground.phase }, { on := 8, ground := Go.Ground.phase }], guard := none }) rfl (fun K hK => ?_) AllReadyH.nil
                    refine step_store71 rfl _ _ rfl _ q rfl rfl z7 ?_
                    intro ws9 hSq
                    have hBf := hSf.1.far hSq.2.1 nab
                    have hBn := hBn.trans (hSq.2.2 _ k7)
                    refine hK.out _ _ ?_ (fun hHeld => ?_)
                    · exact HSS.out _ hBn
                    clear hK K
                    try simp only [Act.put]
                    refine wpAnyH_done (by kernel_rfl) ?_ _
                    go_wp2_with (fail)
                    go_meet
                    exact ⟨_, _, rfl, rfl, BoxC.of hBf, BoxC.of hSq.1, hBn⟩
              · refine step_alloc71 rfl rfl ?_
                intro wa7 z7 hb7 l7
                have k7 := hBn.size
                have hBn := below_next hBn hb7
                have nab : _ ≠ _ := Nat.ne_of_lt l6
                have z6 := z6.carry l6 hb7
                have l6 := Nat.lt_trans l6 l7
                refine hK.out _ _ ?_ (fun hHeld => ?_)
                · exact HSS.out _ hBn
                clear hK K
                try simp only [Act.put, List.setIfInBounds_toArray, List.set_cons_zero, List.set_cons_succ]
                refine wpAnyH_ready (rs := [2]) (by kernel_rfl) (by simp) ?_
                refine (AllReadyH.cons (o := { dst := some 32, op := Go.Op.call { callee := Go.Callee.value (Go.Operand.func 44), args := #[Go.Operand.tmp 30, Go.Operand.tmp 31], argTypes := #[24, 3] }, type := 73, pos := "stretch.go:37", after := #[{ on := 0, ground := Go.Ground.data }, { on := 1, ground := Go.Ground.data }], guard := none }) rfl (fun K hK => ?_) AllReadyH.nil)
                · go_simp
                  go_wp2_with (go_at_call 44; (with_reducible refine (HALP.out _ hBn).mono ?_); rintro eec2 wc2 ⟨rfl, hbc2⟩)
                  have hBn := below_next hBn hbc2
                  have z6 := z6.carry l6 hbc2
                  have l6 := Nat.lt_of_lt_of_le l6 hbc2.size
                  have z7 := z7.carry l7 hbc2
                  have l7 := Nat.lt_of_lt_of_le l7 hbc2.size
                  refine hK.out _ _ ?_ (fun hHeld => ?_)
                  · exact HSS.out _ hBn
                  clear hK K
                  try simp only [Act.put, List.setIfInBounds_toArray, List.set_cons_zero, List.set_cons_succ]
                  refine wpAnyH_ready (rs := [5]) (by kernel_rfl) (by simp) ?_
                  refine (AllReadyH.cons (o := { dst := some 35, op := Go.Op.call { callee := Go.Callee.value (Go.Operand.func 44), args := #[Go.Operand.tmp 33, Go.Operand.tmp 34], argTypes := #[24, 3] }, type := 73, pos := "stretch.go:37", after := #[{ on := 3, ground := Go.Ground.data }, { on := 4, ground := Go.Ground.data }, { on := 2, ground := Go.Ground.chain }], guard := none }) rfl (fun K hK => ?_) AllReadyH.nil)
                  · go_simp
                    go_wp2_with (go_at_call 44; (with_reducible refine (HALR.out _ hBn).mono ?_); rintro eec5 wc5 ⟨rfl, hbc5⟩)
                    have hBn := below_next hBn hbc5
                    have z6 := z6.carry l6 hbc5
                    have l6 := Nat.lt_of_lt_of_le l6 hbc5.size
                    have z7 := z7.carry l7 hbc5
                    have l7 := Nat.lt_of_lt_of_le l7 hbc5.size
                    refine hK.out _ _ ?_ (fun hHeld => ?_)
                    · exact HSS.out _ hBn
                    clear hK K
                    try simp only [Act.put, List.setIfInBounds_toArray, List.set_cons_zero, List.set_cons_succ]
                    refine wpAnyH_ready (rs := [8]) (by kernel_rfl) (by simp) ?_
                    refine AllReadyH.cons (o := { dst := none, op := Go.Op.store 73 (Go.Operand.tmp 11) (Go.Operand.tmp 32), type := 0, pos := "stretch.go:37", after := #[{ on := 6, ground := Go.Ground.data }, { on := 2, ground := Go.Ground.data }, { on := 5, ground := Go.Ground.chain }, { on := 0, ground := Go.Ground.phase }, { on := 1, ground := Go.Ground.phase }, { on := 2, ground := Go.Ground.phase }, { on := 3, ground := Go.Ground.textOnly Go.Departure.lateStores }, { on := 4, ground := Go.Ground.textOnly Go.Departure.lateStores }, { on := 5, ground := Go.Ground.textOnly Go.Departure.lateStoresUnsure }, { on := 6, ground := Go.Ground.phase }, { on := 7, ground := Go.Ground.phase }], guard := none }) rfl (fun K hK => ?_) AllReadyH.nil
                    refine step_store71 rfl _ _ rfl _ f rfl rfl z6 ?_
                    intro ws8 hSf
                    have z7 := z7.far hSf.2.1 (Ne.symm nab)
                    have hBn := hBn.trans (hSf.2.2 _ k6)
                    refine hK.out _ _ ?_ (fun hHeld => ?_)
                    · exact HSS.out _ hBn
                    clear hK K
                    try simp only [Act.put]
                    refine wpAnyH_ready (rs := [9]) (by kernel_rfl) (by simp) ?_
                    refine AllReadyH.cons (o := { dst := none, op := Go.Op.store 73 (Go.Operand.tmp 12) (Go.Operand.tmp 35), type := 0, pos := "stretch.go:37", after := #[{ on := 7, ground := Go.Ground.data }, { on := 5, ground := Go.Ground.data }, { on := 8, ground := Go.Ground.chain }, { on := 0, ground := Go.Ground.phase }, { on := 1, ground := Go.Ground.phase }, { on := 2, ground := Go.Ground.phase }, { on := 3, ground := Go.Ground.phase }, { on := 4, ground := Go.Ground.phase }, { on := 5, ground := Go.Ground.phase }, { on := 6, ground := Go.Ground.phase }, { on := 7, ground := Go.Ground.phase }, { on := 8, ground := Go.Ground.phase }], guard := none }) rfl (fun K hK => ?_) AllReadyH.nil
                    refine step_store71 rfl _ _ rfl _ q rfl rfl z7 ?_
                    intro ws9 hSq
                    have hBf := hSf.1.far hSq.2.1 nab
                    have hBn := hBn.trans (hSq.2.2 _ k7)
                    refine hK.out _ _ ?_ (fun hHeld => ?_)
                    · exact HSS.out _ hBn
                    clear hK K
                    try simp only [Act.put]
                    refine wpAnyH_done (by kernel_rfl) ?_ _
                    go_wp2_with (fail)
                    go_meet
                    exact ⟨_, _, rfl, rfl, BoxC.of hBf, BoxC.of hSq.1, hBn⟩
            · refine step_alloc71 rfl rfl ?_
              intro wa7 z7 hb7 l7
              have k7 := hBn.size
              have hBn := below_next hBn hb7
              refine hK.out _ _ ?_ (fun hHeld => ?_)
              · exact HSS.out _ hBn
              clear hK K
              try simp only [Act.put, List.setIfInBounds_toArray, List.set_cons_zero, List.set_cons_succ]
              refine wpAnyH_ready (rs := [2, 6]) (by kernel_rfl) (by simp) ?_
              refine (AllReadyH.cons (o := { dst := some 32, op := Go.Op.call { callee := Go.Callee.value (Go.Operand.func 44), args := #[Go.Operand.tmp 30, Go.Operand.tmp 31], argTypes := #[24, 3] }, type := 73, pos := "stretch.go:37", after := #[{ on := 0, ground := Go.Ground.data }, { on := 1, ground := Go.Ground.data }], guard := none }) rfl (fun K hK => ?_) (AllReadyH.cons (o := { dst := some 11, op := Go.Op.alloc 73, type := 0, pos := "stretch.go:37", after := #[], guard := none }) rfl (fun K hK => ?_) AllReadyH.nil))
              · go_simp
                go_wp2_with (go_at_call 44; (with_reducible refine (HALP.out _ hBn).mono ?_); rintro eec2 wc2 ⟨rfl, hbc2⟩)
                have hBn := below_next hBn hbc2
                have z7 := z7.carry l7 hbc2
                have l7 := Nat.lt_of_lt_of_le l7 hbc2.size
                refine hK.out _ _ ?_ (fun hHeld => ?_)
                · exact HSS.out _ hBn
                clear hK K
                try simp only [Act.put, List.setIfInBounds_toArray, List.set_cons_zero, List.set_cons_succ]
                refine wpAnyH_ready (rs := [5, 6]) (by kernel_rfl) (by simp) ?_
                refine (AllReadyH.cons (o := { dst := some 35, op := Go.Op.call { callee := Go.Callee.value (Go.Operand.func 44), args := #[Go.Operand.tmp 33, Go.Operand.tmp 34], argTypes := #[24, 3] }, type := 73, pos := "stretch.go:37", after := #[{ on := 3, ground := Go.Ground.data }, { on := 4, ground := Go.Ground.data }, { on := 2, ground := Go.Ground.chain }], guard := none }) rfl (fun K hK => ?_) (AllReadyH.cons (o := { dst := some 11, op := Go.Op.alloc 73, type := 0, pos := "stretch.go:37", after := #[], guard := none }) rfl (fun K hK => ?_) AllReadyH.nil))
                · go_simp
                  go_wp2_with (go_at_call 44; (with_reducible refine (HALR.out _ hBn).mono ?_); rintro eec5 wc5 ⟨rfl, hbc5⟩)
                  have hBn := below_next hBn hbc5
                  have z7 := z7.carry l7 hbc5
                  have l7 := Nat.lt_of_lt_of_le l7 hbc5.size
                  refine hK.out _ _ ?_ (fun hHeld => ?_)
                  · exact HSS.out _ hBn
                  clear hK K
                  try simp only [Act.put, List.setIfInBounds_toArray, List.set_cons_zero, List.set_cons_succ]
                  refine wpAnyH_ready (rs := [6]) (by kernel_rfl) (by simp) ?_
                  refine (AllReadyH.cons (o := { dst := some 11, op := Go.Op.alloc 73, type := 0, pos := "stretch.go:37", after := #[], guard := none }) rfl (fun K hK => ?_) AllReadyH.nil)
                  · refine step_alloc71 rfl rfl ?_
                    intro wa6 z6 hb6 l6
                    have k6 := hBn.size
                    have hBn := below_next hBn hb6
                    have nab : _ ≠ _ := Nat.ne_of_lt l7
                    have z7 := z7.carry l7 hb6
                    have l7 := Nat.lt_trans l7 l6
                    refine hK.out _ _ ?_ (fun hHeld => ?_)
                    · exact HSS.out _ hBn
                    clear hK K
                    try simp only [Act.put, List.setIfInBounds_toArray, List.set_cons_zero, List.set_cons_succ]
                    refine wpAnyH_ready (rs := [8]) (by kernel_rfl) (by simp) ?_
                    refine AllReadyH.cons (o := { dst := none, op := Go.Op.store 73 (Go.Operand.tmp 11) (Go.Operand.tmp 32), type := 0, pos := "stretch.go:37", after := #[{ on := 6, ground := Go.Ground.data }, { on := 2, ground := Go.Ground.data }, { on := 5, ground := Go.Ground.chain }, { on := 0, ground := Go.Ground.phase }, { on := 1, ground := Go.Ground.phase }, { on := 2, ground := Go.Ground.phase }, { on := 3, ground := Go.Ground.textOnly Go.Departure.lateStores }, { on := 4, ground := Go.Ground.textOnly Go.Departure.lateStores }, { on := 5, ground := Go.Ground.textOnly Go.Departure.lateStoresUnsure }, { on := 6, ground := Go.Ground.phase }, { on := 7, ground := Go.Ground.phase }], guard := none }) rfl (fun K hK => ?_) AllReadyH.nil
                    refine step_store71 rfl _ _ rfl _ f rfl rfl z6 ?_
                    intro ws8 hSf
                    have z7 := z7.far hSf.2.1 nab
                    have hBn := hBn.trans (hSf.2.2 _ k6)
                    refine hK.out _ _ ?_ (fun hHeld => ?_)
                    · exact HSS.out _ hBn
                    clear hK K
                    try simp only [Act.put]
                    refine wpAnyH_ready (rs := [9]) (by kernel_rfl) (by simp) ?_
                    refine AllReadyH.cons (o := { dst := none, op := Go.Op.store 73 (Go.Operand.tmp 12) (Go.Operand.tmp 35), type := 0, pos := "stretch.go:37", after := #[{ on := 7, ground := Go.Ground.data }, { on := 5, ground := Go.Ground.data }, { on := 8, ground := Go.Ground.chain }, { on := 0, ground := Go.Ground.phase }, { on := 1, ground := Go.Ground.phase }, { on := 2, ground := Go.Ground.phase }, { on := 3, ground := Go.Ground.phase }, { on := 4, ground := Go.Ground.phase }, { on := 5, ground := Go.Ground.phase }, { on := 6, ground := Go.Ground.phase }, { on := 7, ground := Go.Ground.phase }, { on := 8, ground := Go.Ground.phase }], guard := none }) rfl (fun K hK => ?_) AllReadyH.nil
                    refine step_store71 rfl _ _ rfl _ q rfl rfl z7 ?_
                    intro ws9 hSq
                    have hBf := hSf.1.far hSq.2.1 (Ne.symm nab)
                    have hBn := hBn.trans (hSq.2.2 _ k7)
                    refine hK.out _ _ ?_ (fun hHeld => ?_)
                    · exact HSS.out _ hBn
                    clear hK K
                    try simp only [Act.put]
                    refine wpAnyH_done (by kernel_rfl) ?_ _
                    go_wp2_with (fail)
                    go_meet
                    exact ⟨_, _, rfl, rfl, BoxC.of hBf, BoxC.of hSq.1, hBn⟩
                · refine step_alloc71 rfl rfl ?_
                  intro wa6 z6 hb6 l6
                  have k6 := hBn.size
                  have hBn := below_next hBn hb6
                  have nab : _ ≠ _ := Nat.ne_of_lt l7
                  have z7 := z7.carry l7 hb6
                  have l7 := Nat.lt_trans l7 l6
                  refine hK.out _ _ ?_ (fun hHeld => ?_)
                  · exact HSS.out _ hBn
                  clear hK K
                  try simp only [Act.put, List.setIfInBounds_toArray, List.set_cons_zero, List.set_cons_succ]
                  refine wpAnyH_ready (rs := [5]) (by kernel_rfl) (by simp) ?_
                  refine (AllReadyH.cons (o := { dst := some 35, op := Go.Op.call { callee := Go.Callee.value (Go.Operand.func 44), args := #[Go.Operand.tmp 33, Go.Operand.tmp 34], argTypes := #[24, 3] }, type := 73, pos := "stretch.go:37", after := #[{ on := 3, ground := Go.Ground.data }, { on := 4, ground := Go.Ground.data }, { on := 2, ground := Go.Ground.chain }], guard := none }) rfl (fun K hK => ?_) AllReadyH.nil)
                  · go_simp
                    go_wp2_with (go_at_call 44; (with_reducible refine (HALR.out _ hBn).mono ?_); rintro eec5 wc5 ⟨rfl, hbc5⟩)
                    have hBn := below_next hBn hbc5
                    have z7 := z7.carry l7 hbc5
                    have l7 := Nat.lt_of_lt_of_le l7 hbc5.size
                    have z6 := z6.carry l6 hbc5
                    have l6 := Nat.lt_of_lt_of_le l6 hbc5.size
                    refine hK.out _ _ ?_ (fun hHeld => ?_)
                    · exact HSS.out _ hBn
                    clear hK K
                    try simp only [Act.put, List.setIfInBounds_toArray, List.set_cons_zero, List.set_cons_succ]
                    refine wpAnyH_ready (rs := [8]) (by kernel_rfl) (by simp) ?_
                    refine AllReadyH.cons (o := { dst := none, op := Go.Op.store 73 (Go.Operand.tmp 11) (Go.Operand.tmp 32), type := 0, pos := "stretch.go:37", after := #[{ on := 6, ground := Go.Ground.data }, { on := 2, ground := Go.Ground.data }, { on := 5, ground := Go.Ground.chain }, { on := 0, ground := Go.Ground.phase }, { on := 1, ground := Go.Ground.phase }, { on := 2, ground := Go.Ground.phase }, { on := 3, ground := Go.Ground.textOnly Go.Departure.lateStores }, { on := 4, ground := Go.Ground.textOnly Go.Departure.lateStores }, { on := 5, ground := Go.Ground.textOnly Go.Departure.lateStoresUnsure }, { on := 6, ground := Go.Ground.phase }, { on := 7, ground := Go.Ground.phase }], guard := none }) rfl (fun K hK => ?_) AllReadyH.nil
                    refine step_store71 rfl _ _ rfl _ f rfl rfl z6 ?_
                    intro ws8 hSf
                    have z7 := z7.far hSf.2.1 nab
                    have hBn := hBn.trans (hSf.2.2 _ k6)
                    refine hK.out _ _ ?_ (fun hHeld => ?_)
                    · exact HSS.out _ hBn
                    clear hK K
                    try simp only [Act.put]
                    refine wpAnyH_ready (rs := [9]) (by kernel_rfl) (by simp) ?_
                    refine AllReadyH.cons (o := { dst := none, op := Go.Op.store 73 (Go.Operand.tmp 12) (Go.Operand.tmp 35), type := 0, pos := "stretch.go:37", after := #[{ on := 7, ground := Go.Ground.data }, { on := 5, ground := Go.Ground.data }, { on := 8, ground := Go.Ground.chain }, { on := 0, ground := Go.Ground.phase }, { on := 1, ground := Go.Ground.phase }, { on := 2, ground := Go.Ground.phase }, { on := 3, ground := Go.Ground.phase }, { on := 4, ground := Go.Ground.phase }, { on := 5, ground := Go.Ground.phase }, { on := 6, ground := Go.Ground.phase }, { on := 7, ground := Go.Ground.phase }, { on := 8, ground := Go.Ground.phase }], guard := none }) rfl (fun K hK => ?_) AllReadyH.nil
                    refine step_store71 rfl _ _ rfl _ q rfl rfl z7 ?_
                    intro ws9 hSq
                    have hBf := hSf.1.far hSq.2.1 (Ne.symm nab)
                    have hBn := hBn.trans (hSq.2.2 _ k7)
                    refine hK.out _ _ ?_ (fun hHeld => ?_)
                    · exact HSS.out _ hBn
                    clear hK K
                    try simp only [Act.put]
                    refine wpAnyH_done (by kernel_rfl) ?_ _
                    go_wp2_with (fail)
                    go_meet
                    exact ⟨_, _, rfl, rfl, BoxC.of hBf, BoxC.of hSq.1, hBn⟩
              · refine step_alloc71 rfl rfl ?_
                intro wa6 z6 hb6 l6
                have k6 := hBn.size
                have hBn := below_next hBn hb6
                have nab : _ ≠ _ := Nat.ne_of_lt l7
                have z7 := z7.carry l7 hb6
                have l7 := Nat.lt_trans l7 l6
                refine hK.out _ _ ?_ (fun hHeld => ?_)
                · exact HSS.out _ hBn
                clear hK K
                try simp only [Act.put, List.setIfInBounds_toArray, List.set_cons_zero, List.set_cons_succ]
                refine wpAnyH_ready (rs := [2]) (by kernel_rfl) (by simp) ?_
                refine (AllReadyH.cons (o := { dst := some 32, op := Go.Op.call { callee := Go.Callee.value (Go.Operand.func 44), args := #[Go.Operand.tmp 30, Go.Operand.tmp 31], argTypes := #[24, 3] }, type := 73, pos := "stretch.go:37", after := #[{ on := 0, ground := Go.Ground.data }, { on := 1, ground := Go.Ground.data }], guard := none }) rfl (fun K hK => ?_) AllReadyH.nil)
                · go_simp
                  go_wp2_with (go_at_call 44; (with_reducible refine (HALP.out _ hBn).mono ?_); rintro eec2 wc2 ⟨rfl, hbc2⟩)
                  have hBn := below_next hBn hbc2
                  have z7 := z7.carry l7 hbc2
                  have l7 := Nat.lt_of_lt_of_le l7 hbc2.size
                  have z6 := z6.carry l6 hbc2
                  have l6 := Nat.lt_of_lt_of_le l6 hbc2.size
                  refine hK.out _ _ ?_ (fun hHeld => ?_)
                  · exact HSS.out _ hBn
                  clear hK K
                  try simp only [Act.put, List.setIfInBounds_toArray, List.set_cons_zero, List.set_cons_succ]
                  refine wpAnyH_ready (rs := [5]) (by kernel_rfl) (by simp) ?_
                  refine (AllReadyH.cons (o := { dst := some 35, op := Go.Op.call { callee := Go.Callee.value (Go.Operand.func 44), args := #[Go.Operand.tmp 33, Go.Operand.tmp 34], argTypes := #[24, 3] }, type := 73, pos := "stretch.go:37", after := #[{ on := 3, ground := Go.Ground.data }, { on := 4, ground := Go.Ground.data }, { on := 2, ground := Go.Ground.chain }], guard := none }) rfl (fun K hK => ?_) AllReadyH.nil)
                  · go_simp
                    go_wp2_with (go_at_call 44; (with_reducible refine (HALR.out _ hBn).mono ?_); rintro eec5 wc5 ⟨rfl, hbc5⟩)
                    have hBn := below_next hBn hbc5
                    have z7 := z7.carry l7 hbc5
                    have l7 := Nat.lt_of_lt_of_le l7 hbc5.size
                    have z6 := z6.carry l6 hbc5
                    have l6 := Nat.lt_of_lt_of_le l6 hbc5.size
                    refine hK.out _ _ ?_ (fun hHeld => ?_)
                    · exact HSS.out _ hBn
                    clear hK K
                    try simp only [Act.put, List.setIfInBounds_toArray, List.set_cons_zero, List.set_cons_succ]
                    refine wpAnyH_ready (rs := [8]) (by kernel_rfl) (by simp) ?_
                    refine AllReadyH.cons (o := { dst := none, op := Go.Op.store 73 (Go.Operand.tmp 11) (Go.Operand.tmp 32), type := 0, pos := "stretch.go:37", after := #[{ on := 6, ground := Go.Ground.data }, { on := 2, ground := Go.Ground.data }, { on := 5, ground := Go.Ground.chain }, { on := 0, ground := Go.Ground.phase }, { on := 1, ground := Go.Ground.phase }, { on := 2, ground := Go.Ground.phase }, { on := 3, ground := Go.Ground.textOnly Go.Departure.lateStores }, { on := 4, ground := Go.Ground.textOnly Go.Departure.lateStores }, { on := 5, ground := Go.Ground.textOnly Go.Departure.lateStoresUnsure }, { on := 6, ground := Go.Ground.phase }, { on := 7, ground := Go.Ground.phase }], guard := none }) rfl (fun K hK => ?_) AllReadyH.nil
                    refine step_store71 rfl _ _ rfl _ f rfl rfl z6 ?_
                    intro ws8 hSf
                    have z7 := z7.far hSf.2.1 nab
                    have hBn := hBn.trans (hSf.2.2 _ k6)
                    refine hK.out _ _ ?_ (fun hHeld => ?_)
                    · exact HSS.out _ hBn
                    clear hK K
                    try simp only [Act.put]
                    refine wpAnyH_ready (rs := [9]) (by kernel_rfl) (by simp) ?_
                    refine AllReadyH.cons (o := { dst := none, op := Go.Op.store 73 (Go.Operand.tmp 12) (Go.Operand.tmp 35), type := 0, pos := "stretch.go:37", after := #[{ on := 7, ground := Go.Ground.data }, { on := 5, ground := Go.Ground.data }, { on := 8, ground := Go.Ground.chain }, { on := 0, ground := Go.Ground.phase }, { on := 1, ground := Go.Ground.phase }, { on := 2, ground := Go.Ground.phase }, { on := 3, ground := Go.Ground.phase }, { on := 4, ground := Go.Ground.phase }, { on := 5, ground := Go.Ground.phase }, { on := 6, ground := Go.Ground.phase }, { on := 7, ground := Go.Ground.phase }, { on := 8, ground := Go.Ground.phase }], guard := none }) rfl (fun K hK => ?_) AllReadyH.nil
                    refine step_store71 rfl _ _ rfl _ q rfl rfl z7 ?_
                    intro ws9 hSq
                    have hBf := hSf.1.far hSq.2.1 (Ne.symm nab)
                    have hBn := hBn.trans (hSq.2.2 _ k7)
                    refine hK.out _ _ ?_ (fun hHeld => ?_)
                    · exact HSS.out _ hBn
                    clear hK K
                    try simp only [Act.put]
                    refine wpAnyH_done (by kernel_rfl) ?_ _
                    go_wp2_with (fail)
                    go_meet
                    exact ⟨_, _, rfl, rfl, BoxC.of hBf, BoxC.of hSq.1, hBn⟩
          case rest =>
            obtain ⟨wx, rfl⟩ : ∃ wx : World, wx = wc := ⟨_, rfl⟩
            obtain ⟨g1, g2, rfl, rfl, ⟨a0, a1, a2, a3⟩, ⟨b0, b1, b2, b3⟩, hbx⟩ := hcut
            obtain ⟨ha1, ha2, ha3, ha4, ha5, ha6⟩ := HAK.out
            obtain ⟨hb1, hb2, hb3, hb4, hb5, hb6⟩ := HBK.out
            have HA6 := Lib.hid ha6
            have HB6 := Lib.hid hb6
            have c1x : wx.cell? ⟨wo.heap.size, 1, none⟩ = some (.int .i64 hi) := (hbx.cell hgr).trans hc1
            have hsx := hbx.size
            obtain ⟨M1, hM1⟩ : ∃ M1, (if q.last < f.last then q.last else f.last) = M1 := ⟨_, rfl⟩
            obtain ⟨M, hM⟩ : ∃ M, (if hi < M1 then hi else M1) = M := ⟨_, rfl⟩
            have hM1b : M1 ≤ q.last ∧ M1 ≤ f.last ∧ (x : Int) ≤ M1 := by rw [← hM1]; split <;> omega
            have hMb : M ≤ hi ∧ M ≤ M1 ∧ (x : Int) ≤ M := by rw [← hM]; split <;> omega
            obtain ⟨hMh, hMm, hMx⟩ := hMb
            have hMf : M ≤ f.last := by omega
            have hMq : M ≤ q.last := by omega
            have hwM : IntKind.i64.wrap (M + 1) = M + 1 := IntWalk.i64_in _ (by omega)
            obtain ⟨X2, hX2⟩ : ∃ X2 : Nat, M + 1 = (X2 : Int) := ⟨(M + 1).toNat, by omega⟩
            have HSTEP := Lib.hid (fun new hn => eq_step (P := P) (R := R) (new := new) hMf hMq hMx hx0 ha5 hb5 ha3 hb3 HA6.out HB6.out hn HIN2.out)
            have HBx := Lib.hid (HB2'.out.trans (hbx.mono hz6))
            have HOx := Lib.hid (ownS_below HO2.out hbx)
            have hxb : (x : Int) ≤ 1114111 := hxS.2
            by_cases hboth : f.has = true ∧ q.has = true
            · obtain ⟨e1, e2⟩ := hboth
              rw [e1] at a1
              rw [e2] at b1
              obtain ⟨AP, hAP⟩ : ∃ AP, wrap64 (q.value - f.value) = AP := ⟨_, rfl⟩
              have hwa : IntKind.i64.wrap (q.value - f.value) = AP := by rw [← hAP]; unfold wrap64; exact IntKind.wrap_i64 _
              have hwc : IntKind.i64.wrap (f.grow - q.grow) = f.grow - q.grow := IntWalk.i64_in _ (by omega)
              have HCR := Lib.hid (cross_any w3.heap.size u7 xs x M AP (f.grow - q.grow) wx HOx.out (by omega) (by omega) (by omega) hMx (by omega) (by rw [← hAP]; exact wrap_R _) (by omega))
              have HAP := Lib.hid hAP
              have HE := Lib.hid (And.intro e1 e2)
              clear ha6 hb6 hbx hAP e1 e2
              go_wp2_with (fail)
              refine HCR.out.mono ?_
              rintro qq9 w9 ⟨v9, new, rfl, ho9, hb9, ⟨hnew, hspec⟩, hg9, hgrew⟩
              have c19 : w9.cell? ⟨wo.heap.size, 1, none⟩ = some (.int .i64 hi) := cell_grown hg9 hne c1x
              have hne9 : v9.ownBlock ≠ some wo.heap.size := by
                rcases hgrew with e | ⟨g9, e, hge⟩
                · rw [e]; exact hne
                · rw [e]
                  intro qq
                  injection qq with qq
                  omega
              have hs9 := hg9.size
              have HIN9 := Lib.hid (HSTEP.out new (fun y => by
                rw [hspec y, HAP.out]
                exact ⟨fun hh => ⟨hh.1, hh.2.1, HE.out.1, HE.out.2, hh.2.2⟩, fun hh => ⟨hh.1, hh.2.1, hh.2.2.2.2⟩⟩))
              have HO9 := Lib.hid ho9
              have HB9 := Lib.hid (HBx.out.trans hb9)
              have HLN := Lib.hid (show (xs ++ new).length ≤ 50 * X2 by rw [List.length_append]; omega)
              clear ho9 hb9 hspec hg9 hgrew a0 a1 a2 a3 b0 b1 b2 b3 hnew c1x
              go_wp2_with (fail)
              go_roundw
              case rel => exact ⟨X2, xs ++ new, by omega, by omega, by first | rw [hX2] | go_num, HO9.out, HB9.out, HLN.out, fun y => by rw [HIN9.out y, hX2], c19, hne9, by omega⟩
              case measure => simp [intOf]; omega
            · have HIN9 := Lib.hid (HSTEP.out [] (fun y => ⟨fun hh => absurd hh inL_nil, fun hh => absurd (And.intro hh.2.2.1 hh.2.2.2.1) hboth⟩))
              have HLN := Lib.hid (show xs.length ≤ 50 * X2 by omega)
              have HINy := Lib.hid (show ∀ y, inL xs y ↔ inL xs0 y ∨ ((lo' : Int) ≤ y ∧ y < (X2 : Int) ∧ QE P R y) from fun y => by
                have := HIN9.out y
                rw [List.append_nil, hX2] at this
                exact this)
              rcases hfh : f.has with _ | _
              · rw [hfh] at a1
                clear ha6 hb6 hbx hboth hfh
                go_wp2_with (fail)
                go_roundw
                case rel => exact ⟨X2, xs, by omega, by omega, by first | rw [hX2] | go_num, HOx.out, HBx.out, HLN.out, HINy.out, c1x, hne, by omega⟩
                case measure => simp [intOf]; omega
              · have hqh : q.has = false := by
                  cases e : q.has
                  · rfl
                  · exact absurd ⟨hfh, e⟩ hboth
                rw [hfh] at a1
                rw [hqh] at b1
                clear ha6 hb6 hbx hboth hfh hqh
                go_wp2_with (fail)
                go_roundw
                case rel => exact ⟨X2, xs, by omega, by omega, by first | rw [hX2] | go_num, HOx.out, HBx.out, HLN.out, HINy.out, c1x, hne, by omega⟩
                case measure => simp [intOf]; omega
        · have hxe : (x : Int) = hi + 1 := by omega
          have HFIN := Lib.hid (show ∀ y, inL xs y ↔ inL (own.take (k + 1)) y ∧ QE P R y from fun y => by
            rw [HIN2.out y, HTK.out y, HIN.out y]
            constructor
            · rintro (h | ⟨h1, h2, h3⟩)
              · exact ⟨.inl h.1, h.2⟩
              · exact ⟨.inr ⟨h1, by omega⟩, h3⟩
            · rintro ⟨h1 | ⟨h1, h2⟩, h3⟩
              · exact .inl ⟨h1, h3⟩
              · exact .inr ⟨h1, by omega, h3⟩)
          clear ho hb hin
          go_wp2_with (fail)
          go_roundw
          case rel => exact ⟨k + 1, x, xs, by omega, by go_num, HO2.out, HB2'.out, hlx, by have := hhiS.2; omega, fun p hp => by have := HDR.out p hp; omega, HFIN.out⟩
          case measure => simp [intOf]; omega
    · have hkl : k = own.length := by omega
      subst hkl
      rw [List.take_length] at hin
      obtain ⟨A9, c9, hv9, hc9, hr9⟩ := own_RS ho
      subst hv9
      have HN9 := Lib.hid (norm_any A9 xs0.length c9 xs0 _ hr9 (by omega))
      have HFIN := Lib.hid (show ∀ y, mem xs0 y ↔ mem sl y ∧ Sy y ∧ QE P R y from fun y => by
        have e1 : mem xs0 y ↔ Rng y ∧ inL xs0 y := Iff.rfl
        have e2 : mem own y ↔ Rng y ∧ inL own y := Iff.rfl
        have e3 := HIO.out.2 y
        have e4 : mem [(0, 1114111)] y ↔ Rng y ∧ Sy y := by unfold mem Sy; simp
        rw [e1, hin]
        dsimp only at e3
        rw [e2, e4] at e3
        constructor
        · rintro ⟨h1, h2, h3⟩
          have := e3.1 ⟨h1, h2⟩
          exact ⟨this.2.1, this.2.2.2, h3⟩
        · rintro ⟨h1, h2, v, h3, h4⟩
          have hk2 := not_ok h3
          have hk3 := not_ok h4
          have := e3.2 ⟨fun x hx => by
            rcases List.mem_cons.1 hx with rfl | hx
            · exact hk2
            · rw [List.mem_singleton] at hx
              subst hx
              exact hk3, h1, h1.1, h2⟩
          exact ⟨this.1, this.2, v, h3, h4⟩)
      have HBf := Lib.hid (HB3.out.trans (hb.mono HB3.out.size))
      have hzf := HB3.out.size
      clear ho hb hin hdrop hr9
      go_wp2_with (fail)
      refine HN9.out.mono ?_
      rintro qq10 w10 ⟨v10, o10, rfl, hi10, ho10, hb10⟩
      have HI10 := Lib.hid hi10
      clear hi10
      go_wp2_with (fail)
      go_ret
      exact ⟨v10, o10, rfl, HI10.out.congr HFIN.out, own_mono ho10 (by omega), HBf.out.trans (hb10.mono (by omega))⟩
end Go.Proofs.Ytplpafoflibnlaa.Te
/- The walk of the law TermFar. -/
namespace Go.Proofs.Ytplpafoflibnlaa.Te
set_option maxRecDepth 100000
open Go Go.RowKit Go.Proofs.Ytplpafoflibnlaa.Sp Go.Proofs.Ytplpafoflibnlaa.Pa

theorem lens_pair {w w1 : World} {A B : Option Addr} {n m c e : Nat} {ty : TypeId} (h : w.alloc (.cells #[.slice A n c, .slice B m e] ty) = w1) : Lens w1 w.heap.size [n, m] := fun j hj => by
  rw [← h]
  rcases (show j = 0 ∨ j = 1 from by simp at hj; omega) with rfl | rfl
  · exact ⟨A, c, by simp⟩
  · exact ⟨B, e, by simp⟩
theorem rr_lit {W : World} {g : Nat} {x : Int} (h0 : W.cell? ⟨g, 0, none⟩ = some (.int .i32 x)) (hg : g < W.heap.size) (h1 : -2147483648 ≤ x) (h2 : x ≤ 2147483647) : RR W W.heap.size (some ⟨g, 0, none⟩) 1 [x] :=
  ⟨rfl, fun y hy => by simp at hy; omega, fun _ => ⟨g, 0, rfl, hg, fun j hj => by
    obtain rfl : j = 0 := by simp at hj; omega
    exact h0⟩⟩
theorem memB_eq {l : List Span} {x : Int} {b : Bool} (h : mem l x ↔ b = true) : memB l x = b := by
  cases b
  · exact memB_false (fun q => by have := h.1 q; cases this)
  · exact memB_true (h.2 rfl)
theorem value_sy {b d t u s v : Int} {l : List PT} {x : Int} (h : valueT b d t u s l [x] = (v, true)) : Sy x := symB_iff.1 (value_true h).1 x (List.mem_singleton.2 rfl)
set_option maxHeartbeats 16000000 in
theorem walk_TermFar (P R : TM) (As : Option Addr) (cs : Nat) (sl : List Span) (Ag : Option Addr) (cg : Nat) (gl : List Span) (x : Int) (w : World)
    (h : RP w w.heap.size P.A P.l.length P.l) (hml : P.l.length ≤ maxLen) (hs : R64 P.s) (h' : RP w w.heap.size R.A R.l.length R.l) (hml' : R.l.length ≤ maxLen) (hs' : R64 R.s) (hS : RS w w.heap.size As sl.length sl) (hcs : sl.length ≤ cs) (hmS : sl.length ≤ maxLen) (hG : RS w w.heap.size Ag gl.length gl) (hmG : gl.length ≤ maxLen) (hx1 : -2147483648 ≤ x) (hx2 : x ≤ 2147483647) :
    Calls Try.prog 5 #[trm P.b P.d P.t P.u P.s P.A P.l.length P.c, trm R.b R.d R.t R.u R.s R.A R.l.length R.c, .slice As sl.length cs, .slice Ag gl.length cg, .int .i32 x] w (RetB true w) := by
  obtain ⟨w0, hw0⟩ : ∃ w0, (w.alloc (.cells (tcells P.b P.d P.t P.u P.s P.A P.l.length P.c) 24)).alloc (.cells (tcells R.b R.d R.t R.u R.s R.A R.l.length R.c) 24) = w0 := ⟨_, rfl⟩
  have hs0 : w0.heap.size = w.heap.size + 1 + 1 := by rw [← hw0]; simp
  have hb0 : Below w.heap.size w w0 := by rw [← hw0]; exact ((Below.refl _ _).alloc (Nat.le_refl _) _).alloc (by simp) _
  have hXP : BoxF w0 w.heap.size P.b P.d P.t P.u P.s P.A P.l.length P.c := by
    rw [← hw0]
    exact (BoxF.new w _ _ _ _ _ _ _ _ _).keep ((Below.refl _ _).alloc (Nat.le_refl _) _) (by simp)
  have hXR : BoxF w0 (w.heap.size + 1) R.b R.d R.t R.u R.s R.A R.l.length R.c := by
    rw [← hw0]
    have q := BoxF.new (w.alloc (.cells (tcells P.b P.d P.t P.u P.s P.A P.l.length P.c) 24)) R.b R.d R.t R.u R.s R.A R.l.length R.c 24
    simpa using q
  have XP := Lib.hid (fun W (hb : Below w0.heap.size w0 W) => show Boxed6 W w.heap.size P.b P.d P.t P.u P.s P.A P.l.length P.c from (hXP.keep hb (by omega)).1)
  have XR := Lib.hid (fun W (hb : Below w0.heap.size w0 W) => show Boxed6 W (w.heap.size + 1) R.b R.d R.t R.u R.s R.A R.l.length R.c from (hXR.keep hb (by omega)).1)
  obtain ⟨w1, hw1⟩ : ∃ w1, w0.alloc (.cells #[.slice As sl.length cs, .slice Ag gl.length cg] 25) = w1 := ⟨_, rfl⟩
  have hs1 : w1.heap.size = w0.heap.size + 1 := by rw [← hw1]; simp
  have h01 : Below w0.heap.size w0 w1 := by rw [← hw1]; exact (Below.refl _ _).alloc (Nat.le_refl _) _
  have hlen := lens_pair hw1
  rw [hs0] at hlen
  obtain ⟨bb, hbb⟩ : ∃ bb : Bool, bb = true ↔ 20 < P.l.length ∨ ∃ m ∈ [sl.length, gl.length], 50 < m := by
    by_cases q : 20 < P.l.length ∨ ∃ m ∈ [sl.length, gl.length], 50 < m
    · exact ⟨true, ⟨fun _ => q, fun _ => rfl⟩⟩
    · exact ⟨false, ⟨fun e => (by cases e), fun e => absurd e q⟩⟩
  have HGR := Lib.hid (tgl_any P.b P.d P.t P.u P.s P.A P.l.length P.c (w.heap.size + 1 + 1) 2 [sl.length, gl.length] bb w1 hml (by omega) hlen (by simp) (fun m hm => by simp at hm; omega) hbb)
  simp only [List.length_cons, List.length_nil, Nat.zero_add, Nat.reduceAdd] at HGR
  have H01 := Lib.hid h01
  have HB0 := Lib.hid hb0
  have H0 := Lib.hid (h.belowM hb0)
  have H0' := Lib.hid (h'.belowM hb0)
  have HS0 := Lib.hid (hS.belowM hb0)
  have HG0 := Lib.hid (hG.belowM hb0)
  obtain ⟨q0, q1, q2, q3, q4, q5⟩ := XP.out w0 (Below.refl _ _)
  have hsm : bb = false → P.l.length ≤ 20 ∧ sl.length ≤ 50 ∧ gl.length ≤ 50 := fun e => by
    have hno : ¬ (20 < P.l.length ∨ ∃ m ∈ [sl.length, gl.length], 50 < m) := fun q => by rw [hbb.2 q] at e; cases e
    refine ⟨?_, ?_, ?_⟩
    · exact Nat.not_lt.1 fun q => hno (.inl q)
    · exact Nat.not_lt.1 fun q => hno (.inr ⟨_, by simp, q⟩)
    · exact Nat.not_lt.1 fun q => hno (.inr ⟨gl.length, by simp, q⟩)
  clear h h' hS hG h01 hb0 hlen hbb hmS hmG hXP hXR
  unfold maxLen at hml hml'
  cases bb
  case true =>
    clear hsm
    go_enter Try.func5, Try.ntmps5
    go_wp2_with (fail)
    refine HGR.out.mono ?_
    rintro qq2 w2 ⟨rfl, hb2⟩
    clear q0 q1 q2 q3 q4 q5
    go_wp2_with (fail)
    refine (tawake_any _).mono ?_
    rintro qq3 w3 ⟨rfl, hb3⟩
    go_wp2_with (fail)
    go_ret
    exact ⟨rfl, below_next HB0.out (below_next (below_next H01.out hb2) hb3)⟩
  obtain ⟨hl, hsl, hgl⟩ := hsm rfl
  clear hsm
  by_cases g2 : 1 < P.l.length
  · have hd : decide ((1 : Int) < (P.l.length : Int)) = true := decide_eq_true (by omega)
    go_enter Try.func5, Try.ntmps5
    go_wp2_with (fail)
    refine HGR.out.mono ?_
    rintro qq2 w2 ⟨rfl, hb2⟩
    have H02 := Lib.hid (below_next H01.out hb2)
    clear q0 q1 q2 q3 q4 q5
    obtain ⟨q0, q1, q2, q3, q4, q5⟩ := XP.out w2 H02.out
    go_wp2_with (fail)
    refine (tawake_any _).mono ?_
    rintro qq3 w3 ⟨rfl, hb3⟩
    go_wp2_with (fail)
    go_ret
    exact ⟨rfl, below_next HB0.out (below_next H02.out hb3)⟩
  have hd : decide ((1 : Int) < (P.l.length : Int)) = false := decide_eq_false (by omega)
  by_cases g3 : 1 < R.l.length
  · have hd3 : decide ((1 : Int) < (R.l.length : Int)) = true := decide_eq_true (by omega)
    go_enter Try.func5, Try.ntmps5
    go_wp2_with (fail)
    refine HGR.out.mono ?_
    rintro qq2 w2 ⟨rfl, hb2⟩
    have H02 := Lib.hid (below_next H01.out hb2)
    clear q0 q1 q2 q3 q4 q5
    obtain ⟨q0, q1, q2, q3, q4, q5⟩ := XP.out w2 H02.out
    obtain ⟨p0, p1, p2, p3, p4, p5⟩ := XR.out w2 H02.out
    go_wp2_with (fail)
    refine (tawake_any _).mono ?_
    rintro qq3 w3 ⟨rfl, hb3⟩
    go_wp2_with (fail)
    go_ret
    exact ⟨rfl, below_next HB0.out (below_next H02.out hb3)⟩
  have hd3 : decide ((1 : Int) < (R.l.length : Int)) = false := decide_eq_false (by omega)
  have hl' : R.l.length ≤ 20 := by omega
  have hwx : IntKind.i64.wrap x = x := IntWalk.i64_in _ (by omega)
  obtain ⟨⟨v, ok⟩, hv⟩ : ∃ q, valueT P.b P.d P.t P.u P.s P.l [x] = q := ⟨_, rfl⟩
  obtain ⟨⟨v2, is⟩, hv2⟩ : ∃ q, valueT R.b R.d R.t R.u R.s R.l [x] = q := ⟨_, rfl⟩
  have HV := Lib.hid (fun W D h1 h2 => tvalue_any P.b P.d P.t P.u P.s P.A D P.l.length P.c 1 1 P.l [x] W h1 (by unfold maxLen; omega) h2 (by unfold maxLen; omega))
  have HV2 := Lib.hid (fun W D h1 h2 => tvalue_any R.b R.d R.t R.u R.s R.A D R.l.length R.c 1 1 R.l [x] W h1 (by unfold maxLen; omega) h2 (by unfold maxLen; omega))
  rw [hv] at HV
  rw [hv2] at HV2
  obtain ⟨inB, hin⟩ : ∃ q, memB sl x = q := ⟨_, rfl⟩
  obtain ⟨gB, hgB⟩ : ∃ q, memB gl v = q := ⟨_, rfl⟩
  have HPRE := Lib.hid (show ∀ o, Is o (fun y => mem sl y ∧ Sy y ∧ PQ P.b P.d P.t P.u P.s P.l gl y) → memB o x = (inB && (ok && gB)) from fun o ho => memB_eq (by
    rw [ho.2 x, ← hin, ← hgB]
    dsimp only
    unfold PQ
    rw [hv]
    simp only [Bool.and_eq_true, memB_iff]
    constructor
    · rintro ⟨a1, _, v', e, a3⟩
      injection e with e1 e2
      subst e1 e2
      exact ⟨a1, rfl, a3⟩
    · rintro ⟨a1, a2, a3⟩
      subst a2
      exact ⟨a1, value_sy hv, v, rfl, a3⟩))
  have HEQ := Lib.hid (show ∀ o, Is o (fun y => mem sl y ∧ Sy y ∧ QE P R y) → memB o x = (inB && (ok && (is && (v == v2)))) from fun o ho => memB_eq (by
    rw [ho.2 x, ← hin]
    dsimp only
    unfold QE
    rw [hv, hv2]
    simp only [Bool.and_eq_true, memB_iff, beq_iff_eq]
    constructor
    · rintro ⟨a1, _, v', e, e'⟩
      injection e with e1 e2
      injection e' with e3 e4
      subst e1 e2 e4
      exact ⟨a1, rfl, rfl, e3.symm⟩
    · rintro ⟨a1, a2, a3, a4⟩
      subst a2 a3 a4
      exact ⟨a1, value_sy hv, v, rfl, rfl⟩))
  have HHS := Lib.hid (fun W h1 => has_any As sl.length cs sl x W h1 (by omega))
  have HHG := Lib.hid (fun W h1 => has_any Ag gl.length cg gl v W h1 (by omega))
  rw [hin] at HHS
  rw [hgB] at HHG
  clear hv hv2 hin hgB
  go_enter Try.func5, Try.ntmps5
  go_wp2_with (fail)
  refine HGR.out.mono ?_
  rintro qq2 w2 ⟨rfl, hb2⟩
  have H02 := Lib.hid (below_next H01.out hb2)
  clear hb2 q0 q1 q2 q3 q4 q5
  obtain ⟨q0, q1, q2, q3, q4, q5⟩ := XP.out w2 H02.out
  obtain ⟨p0, p1, p2, p3, p4, p5⟩ := XR.out w2 H02.out
  obtain ⟨w3, hw3⟩ : ∃ w3, w2.alloc (.cells #[.int .i32 x] 21) = w3 := ⟨_, rfl⟩
  have hs3 : w3.heap.size = w2.heap.size + 1 := by rw [← hw3]; simp
  have h03 : Below w0.heap.size w0 w3 := by rw [← hw3]; exact below_al H02.out _
  have rv3 : RR w3 w3.heap.size (some ⟨w2.heap.size, 0, none⟩) 1 [x] := rr_lit (by rw [← hw3]; simp) (by omega) hx1 hx2
  have H03 := Lib.hid h03
  clear h03
  go_wp2_with (fail)
  refine (HV.out _ _ (H0.out.belowM H03.out) rv3).mono ?_
  rintro qq4 w4 ⟨rfl, hb4⟩
  have H04 := Lib.hid (below_next H03.out hb4)
  clear hb4 rv3 q0 q1 q2 q3 q4 q5 p0 p1 p2 p3 p4 p5
  obtain ⟨p0, p1, p2, p3, p4, p5⟩ := XR.out w4 H04.out
  obtain ⟨w5, hw5⟩ : ∃ w5, w4.alloc (.cells #[.int .i32 x] 21) = w5 := ⟨_, rfl⟩
  have hs5 : w5.heap.size = w4.heap.size + 1 := by rw [← hw5]; simp
  have h05 : Below w0.heap.size w0 w5 := by rw [← hw5]; exact below_al H04.out _
  have rv5 : RR w5 w5.heap.size (some ⟨w4.heap.size, 0, none⟩) 1 [x] := rr_lit (by rw [← hw5]; simp) (by omega) hx1 hx2
  have H05 := Lib.hid h05
  clear h05
  go_wp2_with (fail)
  refine (HV2.out _ _ (H0'.out.belowM H05.out) rv5).mono ?_
  rintro qq6 w6 ⟨rfl, hb6⟩
  have H06 := Lib.hid (below_next H05.out hb6)
  clear hb6 rv5 p0 p1 p2 p3 p4 p5
  go_wp2_with (fail)
  refine (HHS.out _ (HS0.out.belowM H06.out)).mono ?_
  rintro qq7 w7 ⟨rfl, hb7⟩
  have H07 := Lib.hid (below_next H06.out hb7)
  clear hb7
  obtain ⟨q0, q1, q2, q3, q4, q5⟩ := XP.out w7 H07.out
  have HP := Lib.hid (pre_any P.b P.d P.t P.u P.s P.A P.c P.l As cs sl Ag cg gl w7 (H0.out.belowM H07.out) hl hs (HS0.out.belowM H07.out) hcs hsl (HG0.out.belowM H07.out) hgl)
  go_wp2_with (fail)
  refine HP.out.mono ?_
  rintro qq8 w8 ⟨v8, o8, rfl, hi8, ho8, hb8⟩
  obtain ⟨A8, c8, rfl, hc8, hr8⟩ := own_RS ho8
  have hH8 := has_any A8 o8.length c8 o8 x w8 hr8 (by have := hi8.1.short; omega)
  rw [HPRE.out o8 hi8] at hH8
  have HH8 := Lib.hid hH8
  have H08 := Lib.hid (below_next H07.out hb8)
  clear hi8 ho8 hb8 hr8 hH8 q0 q1 q2 q3 q4 q5
  go_wp2_with (fail)
  refine HH8.out.mono ?_
  rintro qq9 w9 ⟨rfl, hb9⟩
  have H09 := Lib.hid (below_next H08.out hb9)
  clear hb9
  obtain ⟨q0, q1, q2, q3, q4, q5⟩ := XP.out w9 H09.out
  obtain ⟨p0, p1, p2, p3, p4, p5⟩ := XR.out w9 H09.out
  have HE := Lib.hid (eq_any P R As cs sl w9 (H0.out.belowM H09.out) hl hs (H0'.out.belowM H09.out) hl' hs' (HS0.out.belowM H09.out) hcs hsl)
  go_wp2_with (fail)
  refine HE.out.mono ?_
  rintro qq10 w10 ⟨v10, o10, rfl, hi10, ho10, hb10⟩
  obtain ⟨A10, c10, rfl, hc10, hr10⟩ := own_RS ho10
  have hH10 := has_any A10 o10.length c10 o10 x w10 hr10 (by have := hi10.1.short; omega)
  rw [HEQ.out o10 hi10] at hH10
  have HH10 := Lib.hid hH10
  have H010 := Lib.hid (below_next H09.out hb10)
  clear hi10 ho10 hb10 hr10 hH10 q0 q1 q2 q3 q4 q5 p0 p1 p2 p3 p4 p5
  go_wp2_with (fail)
  refine HH10.out.mono ?_
  rintro qq11 w11 ⟨rfl, hb11⟩
  have H011 := Lib.hid (below_next H010.out hb11)
  have HGG := Lib.hid (HHG.out _ (HG0.out.belowM H011.out))
  clear hb11
  cases inB
  · go_wp2_with (fail)
    refine (tawake_any _).mono ?_
    rintro qq12 w12 ⟨rfl, hb12⟩
    go_wp2_with (fail)
    go_ret
    exact ⟨rfl, below_next HB0.out (below_next H011.out hb12)⟩
  cases ok
  · go_wp2_with (fail)
    refine (tawake_any _).mono ?_
    rintro qq12 w12 ⟨rfl, hb12⟩
    go_wp2_with (fail)
    go_ret
    exact ⟨rfl, below_next HB0.out (below_next H011.out hb12)⟩
  cases is
  · cases gB <;>
    · go_wp2_with (fail)
      refine HGG.out.mono ?_
      rintro qq12 w12 ⟨rfl, hb12⟩
      go_wp2_with (fail)
      refine (tawake_any _).mono ?_
      rintro qq13 w13 ⟨rfl, hb13⟩
      go_wp2_with (fail)
      go_ret
      exact ⟨rfl, below_next HB0.out (below_next (below_next H011.out hb12) hb13)⟩
  · by_cases hvv : v = v2
    · subst hvv
      cases gB <;>
      · go_wp2_with (fail)
        refine HGG.out.mono ?_
        rintro qq12 w12 ⟨rfl, hb12⟩
        go_wp2_with (fail)
        refine (tawake_any _).mono ?_
        rintro qq13 w13 ⟨rfl, hb13⟩
        go_wp2_with (fail)
        go_ret
        exact ⟨rfl, below_next HB0.out (below_next (below_next H011.out hb12) hb13)⟩
    · have hvv' : (v == v2) = false := by simpa using hvv
      cases gB <;>
      · go_wp2_with (fail)
        refine HGG.out.mono ?_
        rintro qq12 w12 ⟨rfl, hb12⟩
        go_wp2_with (fail)
        refine (tawake_any _).mono ?_
        rintro qq13 w13 ⟨rfl, hb13⟩
        go_wp2_with (fail)
        go_ret
        exact ⟨rfl, below_next HB0.out (below_next (below_next H011.out hb12) hb13)⟩
end Go.Proofs.Ytplpafoflibnlaa.Te
