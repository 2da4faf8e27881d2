/- The walk of the document's Value of a term. -/
import Derived.Test.YtmcgapejebceoaaTeVal
namespace Go.Proofs.Ytmcgapejebceoaa.Te
set_option maxRecDepth 100000
open Go Go.RowKit Go.Proofs.Ytmcgapejebceoaa.Sp Go.Proofs.Ytmcgapejebceoaa.Pa

def VRel3 (xs : List Int) (s : Int) (l : List PT) (B : Nat) (w2 : World) (sv iv : Value) (wr : World) : Prop := ∃ k : Nat, k ≤ l.length ∧ iv = .int .i64 k ∧ sv = .int .i64 (innerT xs s (l.take k)) ∧ AllR xs.length l k ∧ Below B w2 wr
set_option maxHeartbeats 8000000 in
theorem rtvalue_any (b d t u s : Int) (A B : Option Addr) (n c m e : Nat) (l : List PT) (xs : List Int) (w : World) (h : RP w w.heap.size A n l) (hn : n ≤ maxLen) (h' : RR w w.heap.size B m xs) (hm : m ≤ maxLen) :
    Calls Try.prog 18 #[trm b d t u s A n c, .slice B m e] w (RetV (valueT b d t u s l xs) w) := by
  unfold maxLen at hn hm
  have hlen := h.1
  have hlen' := h'.1
  subst hlen hlen'
  have hbw : Below w.heap.size w (w.alloc (.cells (tcells b d t u s A l.length c) 24)) := (Below.refl _ w).alloc (Nat.le_refl _) _
  obtain ⟨w0, hw0⟩ : ∃ w0, w.alloc (.cells (tcells b d t u s A l.length c) 24) = w0 := ⟨_, rfl⟩
  have X6 := Lib.hid (fun W (hb : Below w0.heap.size w0 W) => show Boxed6 W w.heap.size b d t u s A l.length c from by rw [← hw0] at hb; exact boxed6 hb)
  rw [hw0] at hbw
  have HW := Lib.hid hbw
  have H := Lib.hid (h.belowM hbw)
  have H' := Lib.hid (h'.belowM hbw)
  clear h h' hbw
  go_enter Try.func18, Try.ntmps18
  go_wp2_with (fail)
  go_loopw [6] (fun i wr => VRel1 xs w0.heap.size w0 i wr) (fun i _ => xs.length - (intOf i).toNat)
  case atStart => exact ⟨0, Nat.zero_le _, rfl, fun q hq => by simp at hq, Below.refl _ _⟩
  case round =>
    obtain ⟨k, hk, rfl, hA, hb⟩ := hrel
    have HA := Lib.hid hA
    have HB := Lib.hid hb
    have hz := hb.size
    by_cases hlt : k < xs.length
    · obtain ⟨bb, off, x, hA', hbB, hlk, c1, x1, x2⟩ := (H'.out.below hb).at_ hlt
      have HLK := Lib.hid hlk
      subst hA'
      clear hA hb hlk
      by_cases hx0 : x < 0
      · have HV := Lib.hid (show valueT b d t u s l xs = (0, false) from if_neg (fun h => by rw [symB_false HLK.out (fun q => by have := q.1; omega)] at h; exact absurd h.1 (by decide)))
        go_wp2_with (fail)
        go_ret2
        exact ⟨ret_v HV.out, HW.out.trans (HB.out.mono HW.out.size)⟩
      · by_cases hx1 : 1114111 < x
        · have HV := Lib.hid (show valueT b d t u s l xs = (0, false) from if_neg (fun h => by rw [symB_false HLK.out (fun q => by have := q.2; omega)] at h; exact absurd h.1 (by decide)))
          go_wp2_with (fail)
          go_ret2
          exact ⟨ret_v HV.out, HW.out.trans (HB.out.mono HW.out.size)⟩
        · go_wp2_with (fail)
          go_roundw
          case rel => exact ⟨k + 1, by omega, by go_num, allS_next HA.out HLK.out ⟨by omega, by omega⟩, HB.out⟩
          case measure => simp [intOf]; omega
    · have hkl : k = xs.length := by omega
      subst hkl
      have HS := Lib.hid (symB_true hA)
      obtain ⟨r0, r1, r2, r3, r4, r5⟩ := X6.out wr hb
      clear hA hb
      go_wp2_with (fail)
      obtain ⟨w3, hw3⟩ : ∃ w3, w3 = wr := ⟨_, rfl⟩
      subst hw3
      go_loopw [7, 8] (fun sv iv wr => VRel3 xs s l w3.heap.size w3 sv iv wr) (fun _ i _ => l.length - (intOf i).toNat)
      case atStart => exact ⟨0, Nat.zero_le _, rfl, rfl, fun q hq => by simp at hq, Below.refl _ _⟩
      case round =>
        obtain ⟨k, hk, rfl, rfl, hR, hb⟩ := hrel
        have HR := Lib.hid hR
        have hbx := HB.out.trans (hb.mono hz)
        obtain ⟨r0, r1, r2, r3, r4, r5⟩ := X6.out wr hbx
        have HB2 := Lib.hid hbx
        have hz4 := hbx.size
        obtain ⟨acc, hacc⟩ : ∃ acc, innerT xs s (l.take k) = acc := ⟨_, rfl⟩
        rw [hacc]
        by_cases hlt : k < l.length
        · obtain ⟨bb, off, a', d', t', u', hA', hbB, hlk, c1, c2, c3, c4⟩ := (H.out.below hbx).at_ hlt
          have HLK := Lib.hid hlk
          have HRT := Lib.hid (rright_any a' d' t' u' xs.length)
          have HBR := Lib.hid hb
          obtain ⟨w5, hw5⟩ : ∃ w5, wr.alloc (.cells #[.int .i64 a', .int .i64 d', .int .i64 t', .int .i64 u'] 33) = w5 := ⟨_, rfl⟩
          have h45 : Below wr.heap.size wr w5 := by rw [← hw5]; exact (Below.refl _ _).alloc (Nat.le_refl _) _
          have H45 := Lib.hid h45
          have Z5 := Lib.hid (show ∀ W, Below w5.heap.size w5 W → W.cell? ⟨wr.heap.size, 0, none⟩ = some (.int .i64 a') ∧ W.cell? ⟨wr.heap.size, 1, none⟩ = some (.int .i64 d') ∧ W.cell? ⟨wr.heap.size, 2, none⟩ = some (.int .i64 t') ∧ W.cell? ⟨wr.heap.size, 3, none⟩ = some (.int .i64 u') from fun W hW => by
            rw [← hw5] at hW
            exact boxed4 hW)
          obtain ⟨z0, z1, z2, z3⟩ := Z5.out w5 (Below.refl _ _)
          subst hA'
          rcases hrt : rightB a' d' t' u' xs.length with _ | _
          · rw [hrt] at HRT
            have HV := Lib.hid (show valueT b d t u s l xs = (0, false) from if_neg (fun h => by rw [partsB_false HLK.out hrt] at h; exact absurd h.2 (by decide)))
            clear hrt hlk hacc hb hbx hR h45
            go_wp2_with (fail)
            refine (HRT.out _).mono ?_
            rintro e w6 ⟨rfl, hb6⟩
            go_wp2_with (fail)
            go_ret2
            exact ⟨ret_v HV.out, HW.out.trans ((HB2.out.trans ((H45.out.trans (hb6.mono H45.out.size)).mono hz4)).mono HW.out.size)⟩
          · rw [hrt] at HRT
            have HRR := Lib.hid (allR_next HR.out HLK.out hrt)
            unfold rightB at hrt
            obtain ⟨ra, rb, rc⟩ := of_decide_eq_true hrt
            obtain ⟨j, hj⟩ := Int.eq_ofNat_of_zero_le ra
            subst hj
            have hjl : j < xs.length := by omega
            obtain ⟨b2, off2, x, hB', hbB2, hxk, y1, x1, x2⟩ := (H'.out.below hbx).at_ hjl
            subst hB'
            have hsy : Sy x := by
              obtain ⟨_, e1⟩ := hxk
              rw [← e1]
              have := HA.out
              rw [AllS, List.take_length] at this
              exact this _ (List.getElem_mem _)
            have HI := Lib.hid (show innerT xs s (l.take (k + 1)) = wrap64 (acc + valI d' t' u' x) from by rw [inner_next HLK.out, hacc, atI_get rfl hxk])
            have hx9 : x ≤ 9223372036854775807 := by omega
            have HX := Lib.hid (show ∀ W, Calls Try.prog 44 #[prt j d' t' u', .int .i64 (IntKind.i64.wrap x)] W (RetV (valP d' t' u' x) W) from fun W => by rw [IntWalk.i64_in x (by omega)]; exact rvalue_any j d' t' u' x W hx9)
            have hp : valP d' t' u' x = (valI d' t' u' x, true) := if_pos ⟨rc, hsy.1, by have := hsy.2; omega⟩
            rw [hp] at HX
            have hvb := valI_bound rc x
            generalize valI d' t' u' x = v at *
            have HC := Lib.hid (show ∀ W, Below wr.heap.size wr W → W.cell? ⟨b2, off2 + j, none⟩ = some (.int .i32 x) from fun W hW => (hW.cell (by simp only; omega)).trans y1)
            have Q5 := Lib.hid (show ∀ W, Below w5.heap.size w5 W → W.cell? ⟨wr.heap.size, 0, none⟩ = some (.int .i64 j) ∧ W.cell? ⟨wr.heap.size, 1, none⟩ = some (.int .i64 d') ∧ W.cell? ⟨wr.heap.size, 2, none⟩ = some (.int .i64 t') ∧ W.cell? ⟨wr.heap.size, 3, none⟩ = some (.int .i64 u') ∧ W.cell? ⟨b2, off2 + j, none⟩ = some (.int .i32 x) from fun W hW => by
              obtain ⟨z0, z1, z2, z3⟩ := Z5.out W hW
              exact ⟨z0, z1, z2, z3, HC.out W (h45.trans (hW.mono h45.size))⟩)
            clear hrt hp rc hxk hlk hacc hb hbx hsy h45 HC hR
            go_wp2_with (fail)
            refine (HRT.out _).mono ?_
            rintro e w6 ⟨rfl, hb6⟩
            obtain ⟨y0, y1, y2, y3, y4⟩ := Q5.out _ hb6
            have H6 := Lib.hid hb6
            clear hb6 z0 z1 z2 z3
            go_wp2_with (fail)
            go_region_held3 (fun w' => w'.cell? ⟨wr.heap.size, 0, none⟩ = some (.int .i64 j) ∧ w'.cell? ⟨wr.heap.size, 1, none⟩ = some (.int .i64 d') ∧ w'.cell? ⟨wr.heap.size, 2, none⟩ = some (.int .i64 t') ∧ w'.cell? ⟨wr.heap.size, 3, none⟩ = some (.int .i64 u') ∧ w'.cell? ⟨b2, off2 + j, none⟩ = some (.int .i32 x))
              (first | go_keep | exact Q5.out _ H6.out.drew | exact Q5.out _ hB4)
              (first
                | (go_at_call 44; (with_reducible refine (HX.out _).mono ?_); rintro q4 w4 ⟨rfl, hb4⟩; have hB4 : Below w5.heap.size w5 w4 := H6.out.drew.trans (hb4.mono H6.out.drew.size)))
            have HB4 := Lib.hid (HBR.out.trans ((H45.out.trans (hB4.mono H45.out.size)).mono HBR.out.size))
            clear hb4 hB4
            go_wp2_with (fail)
            go_roundw
            case rel => exact ⟨k + 1, by omega, by go_num, by rw [HI.out], HRR.out, HB4.out⟩
            case measure => simp [intOf]; omega
        · have hkl : k = l.length := by omega
          subst hkl
          have HV := Lib.hid (show valueT b d t u s l xs = wholeT b d t u acc from by
            rw [← hacc, List.take_length]
            exact if_pos ⟨HS.out, partsB_true hR⟩)
          clear hacc hb hbx hR
          have HO := Lib.hid (router_any b d t u s A l.length c)
          by_cases g1 : acc < 0
          · have HE := Lib.hid (show wholeT b d t u acc = (0, false) from if_neg (fun h => by have := h.1.1; omega))
            go_wp2_with (fail)
            go_ret2
            exact ⟨ret_v (by rw [HV.out, HE.out]), HW.out.trans (HB2.out.mono HW.out.size)⟩
          · by_cases g2 : 1114111 < acc
            · have HE := Lib.hid (show wholeT b d t u acc = (0, false) from if_neg (fun h => by have := h.1.2; omega))
              go_wp2_with (fail)
              go_ret2
              exact ⟨ret_v (by rw [HV.out, HE.out]), HW.out.trans (HB2.out.mono HW.out.size)⟩
            · have hx9 : acc ≤ 9223372036854775807 := by omega
              have HX := Lib.hid (fun W => rvalue_any 0 d t u acc W hx9)
              by_cases h2 : Bits d t u
              · have hp : valP d t u acc = (valI d t u acc, true) := if_pos ⟨h2, by omega, by omega⟩
                rw [hp] at HX
                have HE := Lib.hid (show wholeT b d t u acc = (wrap64 (b + valI d t u acc), true) from if_pos ⟨⟨by omega, by omega⟩, h2⟩)
                generalize valI d t u acc = v at *
                clear hp h2
                go_wp2_with (fail)
                refine (HO.out _).mono ?_
                rintro e w4 ⟨rfl, hb4⟩
                go_wp2_with (fail)
                refine (HX.out _).mono ?_
                rintro e w5 ⟨rfl, hb5⟩
                have hb9 := HB2.out.trans ((hb4.trans (hb5.mono hb4.size)).mono hz4)
                obtain ⟨q0, q1, q2, q3, q4, q5⟩ := X6.out w5 hb9
                have H9 := Lib.hid hb9
                clear hb9 hb4 hb5 r0 r1 r2 r3 r4 r5
                go_wp2_with (fail)
                go_ret2
                exact ⟨ret_v (by rw [HV.out, HE.out]), HW.out.trans (H9.out.mono HW.out.size)⟩
              · have hp : valP d t u acc = (0, false) := if_neg (fun h => h2 h.1)
                rw [hp] at HX
                have HE := Lib.hid (show wholeT b d t u acc = (0, false) from if_neg (fun h => h2 h.2))
                clear hp h2
                go_wp2_with (fail)
                refine (HO.out _).mono ?_
                rintro e w4 ⟨rfl, hb4⟩
                go_wp2_with (fail)
                refine (HX.out _).mono ?_
                rintro e w5 ⟨rfl, hb5⟩
                go_wp2_with (fail)
                go_ret2
                exact ⟨ret_v (by rw [HV.out, HE.out]), HW.out.trans ((HB2.out.trans ((hb4.trans (hb5.mono hb4.size)).mono hz4)).mono HW.out.size)⟩
end Go.Proofs.Ytmcgapejebceoaa.Te
