/- The walk of term.Pre. -/
import Derived.Test.YtmcgapejebceoaaTeAsked
namespace Go.Proofs.Ytmcgapejebceoaa.Te
set_option maxRecDepth 100000
open Go Go.RowKit Go.Proofs.Ytmcgapejebceoaa.Sp Go.Proofs.Ytmcgapejebceoaa.Pa

/-- y's value is told, and in g. -/
def PQ (b d t u s : Int) (l : List PT) (g : List Span) (y : Int) : Prop := ∃ v, valueT b d t u s l [y] = (v, true) ∧ mem g v
theorem not_ok {b d t u s : Int} {l : List PT} {y v : Int} (h : valueT b d t u s l [y] = (v, true)) : partsB 1 l = true ∧ Bits d t u := by
  obtain ⟨_, a2, a3⟩ := value_true h
  exact ⟨a2, (whole_true a3).2.1⟩
theorem box_row {w : World} {base : Nat} {v : Value} {xs : List Span} (h : OwnsL w base v xs) : ∀ k, v.ownBlock = some k → k < w.heap.size := fun k hk => (World.ownsRow.lt h k hk).2
/-- Between the rounds over the spans. -/
def OutR (Q : Int → Prop) (own : List Span) (w3 : World) (v iv : Value) (wr : World) : Prop :=
  ∃ (k X : Nat) (xs : List Span), k ≤ own.length ∧ iv = .int .i64 k ∧ OwnsL wr w3.heap.size v xs ∧ Below w3.heap.size w3 wr ∧ xs.length ≤ 50 * X ∧ X ≤ 1114112 ∧ (∀ p ∈ own.drop k, (X : Int) ≤ p.1) ∧ (∀ y, inL xs y ↔ inL (own.take k) y ∧ Q y)
/-- Within a span. -/
def InR (Q : Int → Prop) (xs0 : List Span) (lo hi : Int) (gr : Nat) (w3 : World) (v xv : Value) (wr : World) : Prop :=
  ∃ (x : Nat) (xs : List Span), lo ≤ x ∧ (x : Int) ≤ hi + 1 ∧ xv = .int .i64 x ∧ OwnsL wr w3.heap.size v xs ∧ Below w3.heap.size w3 wr ∧ xs.length ≤ 50 * x ∧ (∀ y, inL xs y ↔ inL xs0 y ∨ (lo ≤ y ∧ y < x ∧ Q y)) ∧ wr.cell? ⟨gr, 1, none⟩ = some (.int .i64 hi) ∧ v.ownBlock ≠ some gr ∧ gr < wr.heap.size
theorem cell_grown {w w' : World} {r : Option Nat} {g i : Nat} {u : Value} (hg : w.grownBy w' r) (hne : r ≠ some g) (h : w.cell? ⟨g, i, none⟩ = some u) : w'.cell? ⟨g, i, none⟩ = some u := hg.cell h (fun e => hne e.symm)
theorem BoxS.store0 {W : World} {g : Nat} {a v r : Int} {h : Bool} (q : BoxS W g a h v r) (a' : Int) : ∃ w5, W.setCell ⟨g, 0, none⟩ (.int .i64 a') = w5 ∧ BoxS w5 g a' h v r ∧ (∀ B, B ≤ g → Below B W w5) ∧ FarB W w5 g := by
  obtain ⟨⟨g0, g1, g2, g3⟩, hf⟩ := q
  refine ⟨_, rfl, ⟨⟨?_, ?_, ?_, ?_⟩, fun i hi => ?_⟩, fun B hB => (Below.refl _ _).setCell (by simpa using hB) _, (FarB.refl _ _).set _⟩
  case refine_5 => simp only [set_frozen]; exact hf i hi
  all_goals simp [go_sem, g0, g1, g2, g3]
theorem pq_step {b d t u s : Int} {l : List PT} {gl new xs xs0 : List Span} {x : Nat} {lo M fl fv fg : Int} {fh : Bool} (hM : M ≤ fl) (_hxM : (x : Int) ≤ M) (hlo : lo ≤ x)
    (hv : ∀ y, (x : Int) ≤ y → y ≤ fl → valueT b d t u s l [y] = if fh = true then (wrap64 (fv + fg * (y - x)), true) else (0, false))
    (hn : HitSpec gl M fh fv fg x new) (hin : ∀ y, inL xs y ↔ inL xs0 y ∨ (lo ≤ y ∧ y < x ∧ PQ b d t u s l gl y)) (y : Int) : inL (xs ++ new) y ↔ inL xs0 y ∨ (lo ≤ y ∧ y < M + 1 ∧ PQ b d t u s l gl y) := by
  have key : (x : Int) ≤ y → y ≤ M → (PQ b d t u s l gl y ↔ fh = true ∧ mem gl (wrap64 (fv + fg * (y - x)))) := fun h1 h2 => by
    unfold PQ
    rw [hv y h1 (by omega)]
    cases fh
    · simp
    · simp
  rw [inL_append, hin, hn]
  constructor
  · rintro ((h | ⟨h1, h2, h3⟩) | ⟨h1, h2, h3, h4⟩)
    · exact .inl h
    · exact .inr ⟨h1, by omega, h3⟩
    · exact .inr ⟨by omega, by omega, (key h1 h2).2 ⟨h3, h4⟩⟩
  · rintro (h | ⟨h1, h2, h3⟩)
    · exact .inl (.inl h)
    · by_cases hx : y < x
      · exact .inl (.inr ⟨h1, hx, h3⟩)
      · have := (key (by omega) (by omega)).1 h3
        exact .inr ⟨by omega, by omega, this.1, this.2⟩
theorem take_in {own : List Span} {k : Nat} {lo hi : Int} (hk : ∃ hl : k < own.length, own[k] = (lo, hi)) (y : Int) : inL (own.take (k + 1)) y ↔ inL (own.take k) y ∨ (lo ≤ y ∧ y ≤ hi) := by
  obtain ⟨hl, e⟩ := hk
  rw [List.take_succ_eq_append_getElem hl, inL_append, e, inL_one]
set_option maxHeartbeats 8000000 in
theorem pre_any (b d t u s : Int) (A : Option Addr) (c : Nat) (l : List PT) (As : Option Addr) (cs : Nat) (sl : List Span) (Ag : Option Addr) (cg : Nat) (gl : List Span) (w : World)
    (h : RP w w.heap.size A l.length l) (hl : l.length ≤ 20) (hs : R64 s) (hS : RS w w.heap.size As sl.length sl) (hcs : sl.length ≤ cs) (hsl : sl.length ≤ 50) (hG : RS w w.heap.size Ag gl.length gl) (hgl : gl.length ≤ 50) :
    Calls Try.prog 26 #[trm b d t u s A l.length c, .slice As sl.length cs, .slice Ag gl.length cg] w (SetOut (fun y => mem sl y ∧ Sy y ∧ PQ b d t u s l gl y) w) := by
  obtain ⟨w0, hw0⟩ : ∃ w0, w.alloc (.cells (tcells b d t u s A l.length c) 24) = w0 := ⟨_, rfl⟩
  have hs0 : w0.heap.size = w.heap.size + 1 := by rw [← hw0]; simp
  have hb0 : Below w.heap.size w w0 := by rw [← hw0]; exact (Below.refl _ _).alloc (Nat.le_refl _) _
  have XT := Lib.hid (fun W (hb : Below w0.heap.size w0 W) => show Boxed6 W w.heap.size b d t u s A l.length c from by rw [← hw0] at hb; exact boxed6 hb)
  obtain ⟨w1, hw1⟩ : ∃ w1, w0.alloc (.cells (tcells b d t u s A l.length c) 24) = w1 := ⟨_, rfl⟩
  have hs1 : w1.heap.size = w0.heap.size + 1 := by rw [← hw1]; simp
  have h01 : Below w0.heap.size w0 w1 := by rw [← hw1]; exact (Below.refl _ _).alloc (Nat.le_refl _) _
  have hb1 := below_next hb0 h01
  have hrt : RTs w1 (w.heap.size + 1) 0 [⟨b, d, t, u, s, A, c, l⟩] := fun j hj => by
    obtain rfl : j = 0 := by simp at hj; omega
    have q := boxed6 (w := w0) (w1 := w1) (b := b) (d := d) (t := t) (u := u) (s := s) (A := A) (n := l.length) (c := c) (ty := 24) (by rw [hw1]; exact Below.refl _ _)
    rw [hs0] at q
    exact q
  have HK := Lib.hid (asked_any As cs sl (w.heap.size + 1) 0 1 [⟨b, d, t, u, s, A, c, l⟩] w1 (hS.belowM hb1) hcs (by omega) hrt (by omega) (by simp) (fun x hx => by
    rw [List.mem_singleton] at hx
    subst hx
    exact ⟨h.belowM hb1, by unfold maxLen; dsimp only; omega⟩))
  simp only [List.length_singleton] at HK
  have H1 := Lib.hid (h.belowM hb1)
  have HG1 := Lib.hid (hG.belowM hb1)
  have H01 := Lib.hid h01
  have HB1 := Lib.hid hb1
  obtain ⟨q0, q1, q2, q3, q4, q5⟩ := XT.out w0 (Below.refl _ _)
  clear h hS hG hb0 h01 hb1 hrt
  go_enter Try.func26, Try.ntmps26
  go_wp2_with (fail)
  refine HK.out.mono ?_
  rintro qq2 w2 ⟨A2, n2, c2, own, rfl, hio, hr2, hn2, hc2, hb2⟩
  have HN := Lib.hid (norm_any Ag gl.length cg gl w2 (HG1.out.belowM hb2) (by omega))
  have HIO := Lib.hid hio
  have H02 := Lib.hid (below_next H01.out hb2)
  have HR2 := Lib.hid hr2
  have hz2 := hb2.size
  have HB2 := Lib.hid (below_next HB1.out hb2)
  have H2 := Lib.hid (H1.out.belowM hb2)
  clear hio hr2 hb2 q0 q1 q2 q3 q4 q5
  go_wp2_with (fail)
  refine HN.out.mono ?_
  rintro qq3 w3 ⟨v3, W, rfl, hiW, ho3, hb3⟩
  obtain ⟨AW, cW, rfl, hcW, hrW⟩ := own_RS ho3
  have hWf := Nat.le_trans (norm_few hiW) hgl
  have HIW := Lib.hid hiW
  have HRW := Lib.hid hrW
  have HR3 := Lib.hid (HR2.out.belowM hb3)
  have H03 := Lib.hid (below_next H02.out hb3)
  have hz3 := hb3.size
  have HB3 := Lib.hid (below_next HB2.out hb3)
  have H3 := Lib.hid (H2.out.belowM hb3)
  have hn2' : own.length = n2 := HR2.out.1
  subst hn2'
  clear hiW ho3 hrW hb3
  go_wp2_with (fail)
  go_loopw [9, 22] (fun v i wr => OutR (PQ b d t u s l gl) own w3 v i wr) (fun _ i _ => own.length - (intOf i).toNat)
  case atStart => exact ⟨0, 0, [], Nat.zero_le _, rfl, World.ownsRow_nil _ _ _ _, Below.refl _ _, by simp, by omega, fun p hp => by
    have hok := HIO.out.1.2 p (by simpa using hp)
    have := (HIO.out.2 p.1).1 ⟨by have := hok.2.1; have := hok.2.2; have := hok.1; unfold Rng; omega, p, by simpa using hp, Int.le_refl _, hok.1⟩
    obtain ⟨_, q, hq, a, bq⟩ := this.2.2
    rw [List.mem_singleton] at hq
    subst hq
    exact a, fun y => ⟨fun q => absurd q inL_nil, fun q => absurd q.1 (by simp [inL])⟩⟩
  case round =>
    obtain ⟨wo, rfl⟩ : ∃ wo : World, wo = wr := ⟨_, rfl⟩
    obtain ⟨k, X, xs0, hk, rfl, ho, hb, hlen, hX, hdrop, hin⟩ := hrel
    have hz := hb.size
    have HO := Lib.hid ho
    have HB := Lib.hid hb
    have HIN := Lib.hid hin
    by_cases hlt : k < own.length
    · obtain ⟨b1, off, lo, hi, hA2, hbB, hlk, c1, c2'⟩ := (HR3.out.below hb).at_ hlt
      subst hA2
      have hlk2 := hlk
      obtain ⟨_, hlk2⟩ := hlk2
      have hok := HIO.out.1.2 _ (List.getElem_mem hlt)
      rw [hlk2] at hok
      have hmem : ∀ y, lo ≤ y → y ≤ hi → (okT ⟨b, d, t, u, s, A, c, l⟩) ∧ mem sl y ∧ Sy y := fun y h1 h2 => by
        have := (HIO.out.2 y).1 ⟨by have := hok.2.1; have := hok.2.2; unfold Rng; omega, (lo, hi), by rw [← hlk2]; exact List.getElem_mem hlt, h1, h2⟩
        obtain ⟨_, q, hq, a, bq⟩ := this.2.2
        rw [List.mem_singleton] at hq
        subst hq
        exact ⟨this.1 _ (List.mem_singleton.2 rfl), this.2.1, a, bq⟩
      have hlohi : lo ≤ hi := hok.1
      have hloS := (hmem lo (Int.le_refl _) hlohi).2.2
      have hhiS := (hmem hi hlohi (Int.le_refl _)).2.2
      have hokT := (hmem lo (Int.le_refl _) hlohi).1
      have hXlo : (X : Int) ≤ lo := by
        have := hdrop own[k] (by rw [List.drop_eq_getElem_cons hlt]; exact List.mem_cons_self ..)
        rw [hlk2] at this
        exact this
      have HDR := Lib.hid (show ∀ p ∈ own.drop (k + 1), hi + 1 ≤ p.1 from fun p hp => by
        have := (HIO.out.1.at_ hlt).2 p hp
        rw [hlk2] at this
        dsimp only at this
        omega)
      have HTK := Lib.hid (take_in hlk)
      obtain ⟨lo', hlo'⟩ := Int.eq_ofNat_of_zero_le hloS.1
      subst hlo'
      have hok2 := hokT
      obtain ⟨hpB, hBo⟩ := hok2
      dsimp only at hpB hBo
      obtain ⟨w5, hw5⟩ : ∃ w5, wo.alloc (.cells #[.int .i64 lo', .int .i64 hi] 69) = w5 := ⟨_, rfl⟩
      have hs5 : w5.heap.size = wo.heap.size + 1 := by rw [← hw5]; simp
      have h5 : Below wo.heap.size wo w5 := by rw [← hw5]; exact (Below.refl _ _).alloc (Nat.le_refl _) _
      have y0 : w5.cell? ⟨wo.heap.size, 0, none⟩ = some (.int .i64 lo') := by rw [← hw5]; simp
      have y1 : w5.cell? ⟨wo.heap.size, 1, none⟩ = some (.int .i64 hi) := by rw [← hw5]; simp
      have H5 := Lib.hid h5
      have hvne : ∀ k', u9.ownBlock = some k' → k' < wo.heap.size := box_row ho
      have HATS := Lib.hid (show InR (PQ b d t u s l gl) xs0 lo' hi wo.heap.size w3 u9 (.int .i64 lo') w5 from
        ⟨lo', xs0, Int.le_refl _, by omega, rfl, ownS_below HO.out h5, HB.out.trans (h5.mono hz), by omega, fun y => ⟨fun q => .inl q, fun q => by
          rcases q with q | q
          · exact q
          · omega⟩, y1, fun e => by have := hvne _ e; omega, by omega⟩)
      clear ho hb hin hdrop hlk hmem hok h5 hvne
      go_wp2_with (fail)
      go_loopw [9, 12] (fun v xv wr' => InR (PQ b d t u s l gl) xs0 lo' hi wo.heap.size w3 v xv wr') (fun _ xv _ => (hi + 1 - intOf xv).toNat)
      case atStart => exact HATS.out
      case round =>
        obtain ⟨x, xs, hx0, hx1, rfl, ho, hb, hlx, hin, hc1, hne, hgr⟩ := hrel
        have hz6 := hb.size
        have HO2 := Lib.hid ho
        have HB2' := Lib.hid hb
        have HIN2 := Lib.hid hin
        have hvlt : ∀ k', u9.ownBlock = some k' → k' < wr.heap.size := box_row ho
        by_cases hle : (x : Int) ≤ hi
        · have hxS : Sy x := ⟨by omega, by have := hhiS.2; omega⟩
          have hak := along_ok (b := b) hs hl hpB hBo hxS
          have HAL := Lib.hid (along_any b d t u s A c l x wr (H3.out.belowM hb) hl hs hpB hBo hxS)
          obtain ⟨f, hf⟩ : ∃ f, alongT b d t u s l x = f := ⟨_, rfl⟩
          rw [hf] at hak HAL
          obtain ⟨fl, fh, fv, fg⟩ := f
          obtain ⟨ha1, ha2, ha3, ha4, ha5, ha6⟩ := hak
          dsimp only at ha1 ha2 ha3 ha4 ha5 ha6
          have HA6 := Lib.hid (fun y h1 h2 => (ha6 y h1 h2).2)
          obtain ⟨M, hM⟩ : ∃ M, (if hi < fl then hi else fl) = M := ⟨_, rfl⟩
          have hM2 : min fl hi = M := by rw [← hM]; split <;> omega
          have hMx : (x : Int) ≤ M := by omega
          have hMf : M ≤ fl := by omega
          have hMh : M ≤ hi := by omega
          have hPM : fg * (M - x) ≤ 66060288 := (ha6 M hMx hMf).1
          obtain ⟨q0, q1, q2, q3, q4, q5⟩ := XT.out wr (below_next H03.out hb)
          clear ho hb hin hf ha6
          go_wp2_with (fail)
          refine HAL.out.mono ?_
          rintro qq6 w6 ⟨rfl, hb6⟩
          dsimp only
          have hs6 := hb6.size
          have hBX := BoxS.new w6 fl fh fv fg 73
          obtain ⟨w7, hw7⟩ : ∃ w7, w6.alloc (.cells (scells fl fh fv fg) 73) = w7 := ⟨_, rfl⟩
          rw [hw7] at hBX
          have hs7 : w7.heap.size = w6.heap.size + 1 := by rw [← hw7]; simp
          have h67 : Below wr.heap.size wr w7 := by rw [← hw7]; exact below_al hb6 _
          obtain ⟨w8, hw8, hF8, hL8, hN8⟩ := hBX.store0 M
          obtain ⟨⟨f0, f1, f2, f3⟩, ff⟩ := hBX
          have ff0 := ff 0 (by omega)
          have c17 : w7.cell? ⟨wo.heap.size, 1, none⟩ = some (.int .i64 hi) := (h67.cell hgr).trans hc1
          have h68 : Below wr.heap.size wr w8 := h67.trans (hL8 _ (by omega))
          have c18 : w8.cell? ⟨wo.heap.size, 1, none⟩ = some (.int .i64 hi) := (h68.cell hgr).trans hc1
          have hs8 : w8.heap.size = w7.heap.size := hN8.2
          obtain ⟨⟨p0, p1, p2, p3⟩, _⟩ := hF8
          have HHT := Lib.hid (hit_any w3.heap.size u9 xs M fh fv fg x AW cW W gl w8 (ownS_below HO2.out h68) (by omega) (by omega) (HRW.out.belowM (HB2'.out.trans (h68.mono hz6))) hcW HIW.out hWf (by omega) hMx (by omega) ha3 ha4 ha5 hPM)
          have H68 := Lib.hid h68
          clear hb6 h67 h68 q0 q1 q2 q3 q4 q5 hL8 hN8 ff
          go_wp2_with (fail)
          refine HHT.out.mono ?_
          rintro qq9 w9 ⟨v9, new, rfl, ho9, hb9, ⟨hnew, hspec⟩, hg9, hgrew⟩
          have m0 : w9.cell? ⟨w6.heap.size, 0, none⟩ = some (.int .i64 M) := cell_grown hg9 (fun e => by have := hvlt _ e; omega) p0
          have c19 : w9.cell? ⟨wo.heap.size, 1, none⟩ = some (.int .i64 hi) := cell_grown hg9 hne c18
          have hne9 : v9.ownBlock ≠ some wo.heap.size := by
            rcases hgrew with e | ⟨g9, e, hge⟩
            · rw [e]; exact hne
            · rw [e]
              intro q
              injection q with q
              omega
          have hs9 := hg9.size
          have HIN9 := Lib.hid (pq_step hMf hMx hx0 HA6.out hspec HIN2.out)
          have HO9 := Lib.hid ho9
          have HB9 := Lib.hid ((HB2'.out.trans (H68.out.mono hz6)).trans hb9)
          have hwM : IntKind.i64.wrap (M + 1) = M + 1 := IntWalk.i64_in _ (by omega)
          obtain ⟨X2, hX2⟩ : ∃ X2 : Nat, M + 1 = (X2 : Int) := ⟨(M + 1).toNat, by omega⟩
          have HLN := Lib.hid (show (xs ++ new).length ≤ 50 * X2 by rw [List.length_append]; omega)
          clear ho9 hb9 hspec hg9 hgrew p0 p1 p2 p3 f0 f1 f2 f3 ff0 c17 c18 hnew
          go_wp2_with (fail)
          go_roundw
          case rel => exact ⟨X2, xs ++ new, by omega, by omega, by first | rw [hX2] | go_num, HO9.out, HB9.out, HLN.out, fun y => by rw [HIN9.out y, hX2], c19, hne9, by omega⟩
          case measure => simp [intOf]; omega
        · have hxe : (x : Int) = hi + 1 := by omega
          have HFIN := Lib.hid (show ∀ y, inL xs y ↔ inL (own.take (k + 1)) y ∧ PQ b d t u s l gl y from fun y => by
            rw [HIN2.out y, HTK.out y, HIN.out y]
            constructor
            · rintro (h | ⟨h1, h2, h3⟩)
              · exact ⟨.inl h.1, h.2⟩
              · exact ⟨.inr ⟨h1, by omega⟩, h3⟩
            · rintro ⟨h1 | ⟨h1, h2⟩, h3⟩
              · exact .inl ⟨h1, h3⟩
              · exact .inr ⟨h1, by omega, h3⟩)
          clear ho hb hin
          go_wp2_with (fail)
          go_roundw
          case rel => exact ⟨k + 1, x, xs, by omega, by go_num, HO2.out, HB2'.out, hlx, by have := hhiS.2; omega, fun p hp => by have := HDR.out p hp; omega, HFIN.out⟩
          case measure => simp [intOf]; omega
    · have hkl : k = own.length := by omega
      subst hkl
      rw [List.take_length] at hin
      obtain ⟨A9, c9, hv9, hc9, hr9⟩ := own_RS ho
      subst hv9
      have HN9 := Lib.hid (norm_any A9 xs0.length c9 xs0 _ hr9 (by omega))
      have HFIN := Lib.hid (show ∀ y, mem xs0 y ↔ mem sl y ∧ Sy y ∧ PQ b d t u s l gl y from fun y => by
        have e1 : mem xs0 y ↔ Rng y ∧ inL xs0 y := Iff.rfl
        have e2 : mem own y ↔ Rng y ∧ inL own y := Iff.rfl
        have e3 := HIO.out.2 y
        have e4 : mem [(0, 1114111)] y ↔ Rng y ∧ Sy y := by unfold mem Sy; simp
        rw [e1, hin]
        dsimp only at e3
        rw [e2, e4] at e3
        constructor
        · rintro ⟨h1, h2, h3⟩
          have := e3.1 ⟨h1, h2⟩
          exact ⟨this.2.1, this.2.2.2, h3⟩
        · rintro ⟨h1, h2, v, h3, h4⟩
          have hk2 := not_ok h3
          have := e3.2 ⟨fun x hx => by rw [List.mem_singleton] at hx; subst hx; exact hk2, h1, h1.1, h2⟩
          exact ⟨this.1, this.2, v, h3, h4⟩)
      have HBf := Lib.hid (HB3.out.trans (hb.mono HB3.out.size))
      have hzf := HB3.out.size
      clear ho hb hin hdrop hr9
      go_wp2_with (fail)
      refine HN9.out.mono ?_
      rintro qq10 w10 ⟨v10, o10, rfl, hi10, ho10, hb10⟩
      have HI10 := Lib.hid hi10
      clear hi10
      go_wp2_with (fail)
      go_ret
      exact ⟨v10, o10, rfl, HI10.out.congr HFIN.out, own_mono ho10 (by omega), HBf.out.trans (hb10.mono (by omega))⟩
end Go.Proofs.Ytmcgapejebceoaa.Te
