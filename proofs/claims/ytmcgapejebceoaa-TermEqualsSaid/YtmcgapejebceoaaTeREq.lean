/- The walk of the document's Equal. -/
import Derived.Test.YtmcgapejebceoaaTeRPre
import Derived.Test.YtmcgapejebceoaaTeEqB
namespace Go.Proofs.Ytmcgapejebceoaa.Te
set_option maxRecDepth 100000
open Go Go.RowKit Go.Proofs.Ytmcgapejebceoaa.Sp Go.Proofs.Ytmcgapejebceoaa.Pa

theorem rune_of {v : Int} (h0 : 0 ≤ v) (h1 : v ≤ 1114111) : IntKind.i32.wrap v = v := IntWalk.i32_in _ (by omega)
theorem rr_sym {W : World} {g : Nat} {x : Int} (h0 : W.cell? ⟨g, 0, none⟩ = some (.int .i32 x)) (hg : g < W.heap.size) (h1 : -2147483648 ≤ x) (h2 : x ≤ 2147483647) : RR W W.heap.size (some ⟨g, 0, none⟩) 1 [x] :=
  ⟨rfl, fun y hy => by simp at hy; omega, fun _ => ⟨g, 0, rfl, hg, fun j hj => by
    obtain rfl : j = 0 := by simp at hj; omega
    exact h0⟩⟩
def ROut (Q : Int → Prop) (m : List Span) (w2 : World) (v iv : Value) (wr : World) : Prop :=
  ∃ (k X : Nat) (xs : List Span), k ≤ m.length ∧ iv = .int .i64 k ∧ OwnsL wr w2.heap.size v xs ∧ Below w2.heap.size w2 wr ∧ RisL xs X ∧ (∀ p ∈ m.drop k, (X : Int) ≤ p.1) ∧ (∀ y, inL xs y ↔ inL (m.take k) y ∧ Q y)
def RIn (Q : Int → Prop) (xs0 : List Span) (lo hi : Int) (w2 : World) (v xv : Value) (wr : World) : Prop :=
  ∃ (x : Nat) (xs : List Span), lo ≤ x ∧ (x : Int) ≤ hi + 1 ∧ xv = .int .i64 x ∧ OwnsL wr w2.heap.size v xs ∧ Below w2.heap.size w2 wr ∧ RisL xs x ∧ (∀ y, inL xs y ↔ inL xs0 y ∨ (lo ≤ y ∧ y < x ∧ Q y))
theorem rin_yes {Q : Int → Prop} {xs xs0 : List Span} {lo : Int} {x : Nat} (hlo : lo ≤ x) (hr : RisL xs x) (hx : Sy x) (hq : Q x) (hin : ∀ y, inL xs y ↔ inL xs0 y ∨ (lo ≤ y ∧ y < x ∧ Q y)) :
    RisL (addL xs x) ((x + 1 : Nat) : Int) ∧ ∀ y, inL (addL xs x) y ↔ inL xs0 y ∨ (lo ≤ y ∧ y < ((x + 1 : Nat) : Int) ∧ Q y) := by
  obtain ⟨h1, h2⟩ := addL_ok hr hx
  refine ⟨by rw [Int.natCast_add]; exact h1, fun y => ?_⟩
  rw [h2, hin]
  constructor
  · rintro ((h | ⟨a, b, c⟩) | h)
    · exact .inl h
    · exact .inr ⟨a, by omega, c⟩
    · subst h
      exact .inr ⟨hlo, by omega, hq⟩
  · rintro (h | ⟨a, b, c⟩)
    · exact .inl (.inl h)
    · by_cases e : y = x
      · exact .inr e
      · exact .inl (.inr ⟨a, by omega, c⟩)
theorem rin_no {Q : Int → Prop} {xs xs0 : List Span} {lo : Int} {x : Nat} (hr : RisL xs x) (hq : ¬ Q x) (hin : ∀ y, inL xs y ↔ inL xs0 y ∨ (lo ≤ y ∧ y < x ∧ Q y)) :
    RisL xs ((x + 1 : Nat) : Int) ∧ ∀ y, inL xs y ↔ inL xs0 y ∨ (lo ≤ y ∧ y < ((x + 1 : Nat) : Int) ∧ Q y) := by
  refine ⟨⟨hr.1, fun p hp => by have := hr.2 p hp; omega⟩, fun y => ?_⟩
  rw [hin]
  constructor
  · rintro (h | ⟨a, b, c⟩)
    · exact .inl h
    · exact .inr ⟨a, by omega, c⟩
  · rintro (h | ⟨a, b, c⟩)
    · exact .inl h
    · by_cases e : y = x
      · subst e
        exact absurd c hq
      · exact .inr ⟨a, by omega, c⟩
theorem rlen {xs : List Span} {x : Int} (h : RisL xs x) : xs.length ≤ 1000000000000 := by have := h.1.short; omega
set_option maxHeartbeats 8000000 in
theorem requal_any (P R : TM) (As : Option Addr) (cs : Nat) (sl : List Span) (w : World)
    (h : RP w w.heap.size P.A P.l.length P.l) (hl : P.l.length ≤ 20) (h' : RP w w.heap.size R.A R.l.length R.l) (hl' : R.l.length ≤ 20) (hS : RS w w.heap.size As sl.length sl) (hsl : sl.length ≤ 50) :
    Calls Try.prog 29 #[trm P.b P.d P.t P.u P.s P.A P.l.length P.c, trm R.b R.d R.t R.u R.s R.A R.l.length R.c, .slice As sl.length cs] w (SetOut (fun y => mem sl y ∧ Sy y ∧ QE P R y) w) := by
  obtain ⟨w0, hw0⟩ : ∃ w0, (w.alloc (.cells (tcells P.b P.d P.t P.u P.s P.A P.l.length P.c) 24)).alloc (.cells (tcells R.b R.d R.t R.u R.s R.A R.l.length R.c) 24) = w0 := ⟨_, rfl⟩
  have hs0 : w0.heap.size = w.heap.size + 1 + 1 := by rw [← hw0]; simp
  have hb0 : Below w.heap.size w w0 := by rw [← hw0]; exact ((Below.refl _ _).alloc (Nat.le_refl _) _).alloc (by simp) _
  have hXP : BoxF w0 w.heap.size P.b P.d P.t P.u P.s P.A P.l.length P.c := by
    rw [← hw0]
    exact (BoxF.new w _ _ _ _ _ _ _ _ _).keep ((Below.refl _ _).alloc (Nat.le_refl _) _) (by simp)
  have hXR : BoxF w0 (w.heap.size + 1) R.b R.d R.t R.u R.s R.A R.l.length R.c := by
    rw [← hw0]
    have q := BoxF.new (w.alloc (.cells (tcells P.b P.d P.t P.u P.s P.A P.l.length P.c) 24)) R.b R.d R.t R.u R.s R.A R.l.length R.c 24
    simpa using q
  have XT := Lib.hid (fun W (hb : Below w0.heap.size w0 W) => show Boxed6 W w.heap.size P.b P.d P.t P.u P.s P.A P.l.length P.c from (hXP.keep hb (by omega)).1)
  have XR := Lib.hid (fun W (hb : Below w0.heap.size w0 W) => show Boxed6 W (w.heap.size + 1) R.b R.d R.t R.u R.s R.A R.l.length R.c from (hXR.keep hb (by omega)).1)
  have HS := Lib.hid (rsymbols_any As cs sl w0 (hS.belowM hb0) (by omega))
  have H0 := Lib.hid (h.belowM hb0)
  have H0' := Lib.hid (h'.belowM hb0)
  have HB0 := Lib.hid hb0
  clear h h' hS hb0 hXP hXR
  go_enter Try.func29, Try.ntmps29
  go_wp2_with (fail)
  refine HS.out.mono ?_
  rintro qq2 w2 ⟨v2, m, rfl, him, ho2, hb2⟩
  obtain ⟨A2, c2, rfl, hc2, hr2⟩ := own_RS ho2
  have HIM := Lib.hid him
  have HR2 := Lib.hid hr2
  have HB2 := Lib.hid hb2
  have hz2 := hb2.size
  clear him ho2 hr2 hb2
  go_wp2_with (fail)
  go_loopw [8, 9] (fun v i wr => ROut (QE P R) m w2 v i wr) (fun _ i _ => m.length - (intOf i).toNat)
  case atStart => exact ⟨0, 0, [], Nat.zero_le _, rfl, World.ownsRow_nil _ _ _ _, Below.refl _ _, ⟨Plain.nil, fun p hp => by cases hp⟩, fun p hp => by
    have hok := HIM.out.1.2 p (by simpa using hp)
    have := (HIM.out.2 p.1).1 ⟨by have := hok.2.1; have := hok.2.2; have := hok.1; unfold Rng; omega, p, by simpa using hp, Int.le_refl _, hok.1⟩
    exact this.2.1, fun y => ⟨fun q => absurd q inL_nil, fun q => absurd q.1 (by simp [inL])⟩⟩
  case round =>
    obtain ⟨wo, rfl⟩ : ∃ wo : World, wo = wr := ⟨_, rfl⟩
    obtain ⟨k, X, xs0, hk, rfl, ho, hb, hris, hdrop, hin⟩ := hrel
    have HIN := Lib.hid hin
    have hms := HIM.out.1.short
    by_cases hlt : k < m.length
    · obtain ⟨b1, off, lo, hi, hA2, hbB, hlk, c1, c2'⟩ := (HR2.out.below hb).at_ hlt
      subst hA2
      have hlk2 := hlk
      obtain ⟨_, hlk2⟩ := hlk2
      have hok := HIM.out.1.2 _ (List.getElem_mem hlt)
      rw [hlk2] at hok
      have hmem : ∀ y, lo ≤ y → y ≤ hi → Sy y := fun y h1 h2 =>
        ((HIM.out.2 y).1 ⟨by have := hok.2.1; have := hok.2.2; unfold Rng; omega, (lo, hi), by rw [← hlk2]; exact List.getElem_mem hlt, h1, h2⟩).2
      have hlohi : lo ≤ hi := hok.1
      have hloS := hmem lo (Int.le_refl _) hlohi
      have hhiS := hmem hi hlohi (Int.le_refl _)
      have hXlo : (X : Int) ≤ lo := by
        have := hdrop m[k] (by rw [List.drop_eq_getElem_cons hlt]; exact List.mem_cons_self ..)
        rw [hlk2] at this
        exact this
      have HDR := Lib.hid (show ∀ p ∈ m.drop (k + 1), hi + 1 ≤ p.1 from fun p hp => by
        have := (HIM.out.1.at_ hlt).2 p hp
        rw [hlk2] at this
        dsimp only at this
        omega)
      have HTK := Lib.hid (take_in hlk)
      have HCE := Lib.hid (show ∀ W, Below w2.heap.size w2 W → W.cell? ⟨b1, off + k * 2 + 1, none⟩ = some (.int .i64 hi) from fun W hW => by
        obtain ⟨b1', off', lo1, hi1, hA, _, hlk1, _, c2''⟩ := (HR2.out.below hW).at_ hlt
        injection hA with hA
        injection hA with e1 e2 _
        subst e1 e2
        obtain ⟨_, e3⟩ := hlk1
        rw [hlk2] at e3
        injection e3 with _ e4
        rw [c2'', e4])
      obtain ⟨lo', hlo'⟩ := Int.eq_ofNat_of_zero_le hloS.1
      subst hlo'
      have HATS := Lib.hid (show RIn (QE P R) xs0 lo' hi w2 u8 (.int .i64 lo') wo from
        ⟨lo', xs0, Int.le_refl _, by omega, rfl, ho, hb, ⟨hris.1, fun p hp => by have := hris.2 p hp; omega⟩, fun y => ⟨fun q => .inl q, fun q => by
          rcases q with q | q
          · exact q
          · omega⟩⟩)
      clear ho hb hin hdrop hlk hmem hok hris
      go_wp2_with (fail)
      go_loopw [8, 10] (fun v xv wr' => RIn (QE P R) xs0 lo' hi w2 v xv wr') (fun _ xv _ => (hi + 1 - intOf xv).toNat)
      case atStart => exact HATS.out
      case round =>
        obtain ⟨x, xs, hx0, hx1, rfl, ho, hb, hris, hin⟩ := hrel
        have hz6 := hb.size
        have HO2 := Lib.hid ho
        have HB2' := Lib.hid hb
        have HIN2 := Lib.hid hin
        have HRIS := Lib.hid hris
        have e1 := HCE.out wr hb
        by_cases hle : (x : Int) ≤ hi
        · have hxS : Sy x := ⟨by omega, by have := hhiS.2; omega⟩
          have hwr : IntKind.i32.wrap (x : Int) = x := rune_of hxS.1 hxS.2
          have hxb : (x : Int) ≤ 1114111 := hxS.2
          obtain ⟨q0, q1, q2, q3, q4, q5⟩ := XT.out wr (below_next HB2.out hb)
          obtain ⟨w5, hw5⟩ : ∃ w5, wr.alloc (.cells #[.int .i32 (x : Int)] 21) = w5 := ⟨_, rfl⟩
          have hs5 : w5.heap.size = wr.heap.size + 1 := by rw [← hw5]; simp
          have h5 : Below wr.heap.size wr w5 := by rw [← hw5]; exact (Below.refl _ _).alloc (Nat.le_refl _) _
          have hr5 : RR w5 w5.heap.size (some ⟨wr.heap.size, 0, none⟩) 1 [(x : Int)] := rr_sym (by rw [← hw5]; simp) (by omega) (by have := hxS.1; omega) (by have := hxS.2; omega)
          have HV := Lib.hid (rtvalue_any P.b P.d P.t P.u P.s P.A (some ⟨wr.heap.size, 0, none⟩) P.l.length P.c 1 1 P.l [(x : Int)] w5 ((H0.out.belowM HB2.out).belowM (hb.trans (h5.mono hz6))) (by unfold maxLen; omega) hr5 (by unfold maxLen; omega))
          have HV2 := Lib.hid (fun W D h1 h2 => rtvalue_any R.b R.d R.t R.u R.s R.A D R.l.length R.c 1 1 R.l [(x : Int)] W h1 (by unfold maxLen; omega) h2 (by unfold maxLen; omega))
          have HQ := Lib.hid (show QE P R x ↔ ∃ v, valueT P.b P.d P.t P.u P.s P.l [(x : Int)] = (v, true) ∧ valueT R.b R.d R.t R.u R.s R.l [(x : Int)] = (v, true) from Iff.rfl)
          obtain ⟨⟨vv, ok⟩, hvv⟩ : ∃ q, valueT P.b P.d P.t P.u P.s P.l [(x : Int)] = q := ⟨_, rfl⟩
          obtain ⟨⟨v2, is⟩, hv2⟩ : ∃ q, valueT R.b R.d R.t R.u R.s R.l [(x : Int)] = q := ⟨_, rfl⟩
          rw [hvv] at HV HQ
          rw [hv2] at HV2 HQ
          have HOW := Lib.hid (fun W (hW : Below wr.heap.size wr W) => ownS_below ho hW)
          have HADD := Lib.hid (fun W v0 hW hb0 => add_any w2.heap.size v0 xs x W hW hb0 (rlen hris) hxS)
          have HWR5 := Lib.hid h5
          have HXR5 := Lib.hid (fun W (hW : Below wr.heap.size wr W) => XR.out W (below_next HB2.out (hb.trans (hW.mono hz6))))
          have HRP5 := Lib.hid (fun W (hW : Below wr.heap.size wr W) => (H0'.out.belowM HB2.out).belowM (hb.trans (hW.mono hz6)))
          clear ho hb hin hris h5 hr5 hvv hv2
          go_wp2_with (fail)
          refine HV.out.mono ?_
          rintro qq6 w6 ⟨rfl, hb6⟩
          have H6 := Lib.hid (below_next HWR5.out hb6)
          clear hb6 q0 q1 q2 q3 q4 q5 e1
          obtain ⟨q0, q1, q2, q3, q4, q5⟩ := HXR5.out w6 H6.out
          obtain ⟨w7, hw7⟩ : ∃ w7, w6.alloc (.cells #[.int .i32 (x : Int)] 21) = w7 := ⟨_, rfl⟩
          have hs7 : w7.heap.size = w6.heap.size + 1 := by rw [← hw7]; simp
          have hs6 := H6.out.size
          have h7 : Below wr.heap.size wr w7 := by rw [← hw7]; exact below_al H6.out _
          have hr7 : RR w7 w7.heap.size (some ⟨w6.heap.size, 0, none⟩) 1 [(x : Int)] := rr_sym (by rw [← hw7]; simp) (by omega) (by have := hxS.1; omega) (by have := hxS.2; omega)
          have H7 := Lib.hid h7
          clear h7
          go_wp2_with (fail)
          refine (HV2.out w7 _ (HRP5.out _ H7.out) hr7).mono ?_
          rintro qq8 w8 ⟨rfl, hb8⟩
          have H8 := Lib.hid (below_next H7.out hb8)
          have hs8 := H8.out.size
          have HO8 := Lib.hid (HOW.out _ H8.out)
          have HB8 := Lib.hid (HB2'.out.trans (H8.out.mono hz6))
          clear hb8 hr7 q0 q1 q2 q3 q4 q5
          by_cases hyes : ok = true ∧ is = true ∧ vv = v2
          · obtain ⟨y1, y2, y3⟩ := hyes
            subst y1 y2 y3
            have HNX := Lib.hid (rin_yes hx0 HRIS.out hxS (HQ.out.2 ⟨vv, rfl, rfl⟩) HIN2.out)
            go_wp2_with (fail)
            refine (HADD.out _ _ HO8.out (by omega)).mono ?_
            rintro qq9 w9 ⟨v9, rfl, ho9, hb9⟩
            have HO9 := Lib.hid ho9
            have HB9 := Lib.hid (HB8.out.trans hb9)
            clear ho9 hb9
            go_wp2_with (fail)
            go_roundw
            case rel => exact ⟨x + 1, addL xs x, by omega, by omega, by go_num, HO9.out, HB9.out, HNX.out.1, HNX.out.2⟩
            case measure => simp [intOf]; omega
          · have HNX := Lib.hid (rin_no HRIS.out (fun qq => hyes (by
              obtain ⟨v, hv, hv'⟩ := HQ.out.1 qq
              injection hv with a1 a2
              injection hv' with a3 a4
              exact ⟨a2, a4, a1.trans a3.symm⟩)) HIN2.out)
            cases ok
            · go_wp2_with (fail)
              go_roundw
              case rel => exact ⟨x + 1, xs, by omega, by omega, by go_num, HO8.out, HB8.out, HNX.out.1, HNX.out.2⟩
              case measure => simp [intOf]; omega
            · cases is
              · go_wp2_with (fail)
                go_roundw
                case rel => exact ⟨x + 1, xs, by omega, by omega, by go_num, HO8.out, HB8.out, HNX.out.1, HNX.out.2⟩
                case measure => simp [intOf]; omega
              · have hne : ¬ vv = v2 := fun e => hyes ⟨rfl, rfl, e⟩
                have hne' : (vv == v2) = false := by simpa using hne
                clear hyes
                go_wp2_with (fail)
                go_roundw
                case rel => exact ⟨x + 1, xs, by omega, by omega, by go_num, HO8.out, HB8.out, HNX.out.1, HNX.out.2⟩
                case measure => simp [intOf]; omega
        · have hxe : (x : Int) = hi + 1 := by omega
          have HFIN := Lib.hid (show ∀ y, inL xs y ↔ inL (m.take (k + 1)) y ∧ QE P R y from fun y => by
            rw [HIN2.out y, HTK.out y, HIN.out y]
            constructor
            · rintro (h | ⟨h1, h2, h3⟩)
              · exact ⟨.inl h.1, h.2⟩
              · exact ⟨.inr ⟨h1, by omega⟩, h3⟩
            · rintro ⟨h1 | ⟨h1, h2⟩, h3⟩
              · exact .inl ⟨h1, h3⟩
              · exact .inr ⟨h1, by omega, h3⟩)
          clear ho hb hin hris
          go_wp2_with (fail)
          go_roundw
          case rel => exact ⟨k + 1, x, xs, by omega, by go_num, HO2.out, HB2'.out, HRIS.out, fun p hp => by have := HDR.out p hp; omega, HFIN.out⟩
          case measure => simp [intOf]; omega
    · have hkl : k = m.length := by omega
      subst hkl
      rw [List.take_length] at hin
      have HFIN := Lib.hid (show Is xs0 (fun y => mem sl y ∧ Sy y ∧ QE P R y) from ⟨hris.1, fun y => by
        have e1 : mem xs0 y ↔ Rng y ∧ inL xs0 y := Iff.rfl
        have e2 : mem m y ↔ Rng y ∧ inL m y := Iff.rfl
        have e3 := HIM.out.2 y
        dsimp only at e3
        rw [e1, hin]
        rw [e2] at e3
        constructor
        · rintro ⟨h1, h2, h3⟩
          have := e3.1 ⟨h1, h2⟩
          exact ⟨this.1, this.2, h3⟩
        · rintro ⟨h1, h2, h3⟩
          have := e3.2 ⟨h1, h2⟩
          exact ⟨this.1, this.2, h3⟩⟩)
      have HOf := Lib.hid (own_mono ho (show w.heap.size ≤ w2.heap.size by omega))
      have HBf := Lib.hid (HB0.out.trans ((HB2.out.trans (hb.mono hz2)).mono HB0.out.size))
      clear ho hb hin hdrop hris
      go_wp2_with (fail)
      go_ret
      exact ⟨_, xs0, rfl, HFIN.out, HOf.out, HBf.out⟩
end Go.Proofs.Ytmcgapejebceoaa.Te
