/- The walk of the law TermValues (the frame is still to come). -/
import Derived.Test.YtmcgapejebceoaaTeAwake
namespace Go.Proofs.Ytmcgapejebceoaa.Te
set_option maxRecDepth 100000
open Go Go.RowKit Go.Proofs.Ytmcgapejebceoaa.Sp Go.Proofs.Ytmcgapejebceoaa.Pa

set_option maxHeartbeats 8000000 in
theorem walk_TermValues (b d t u s : Int) (A B : Option Addr) (c e : Nat) (l : List PT) (xs : List Int) (w : World) (h : RP w w.heap.size A l.length l) (hn : l.length ≤ maxLen) (h' : RR w w.heap.size B xs.length xs) (hm : xs.length ≤ maxLen) :
    Calls Try.prog 4 #[trm b d t u s A l.length c, .slice B xs.length e] w (RetB true w) := by
  have HG := Lib.hid (fun W => tgreat_any b d t u s A l.length c W hn)
  have HV := Lib.hid (fun W h1 h2 => tvalue_any b d t u s A B l.length c xs.length e l xs W h1 hn h2 hm)
  have HR := Lib.hid (fun W h1 h2 => rtvalue_any b d t u s A B l.length c xs.length e l xs W h1 hn h2 hm)
  obtain ⟨⟨v, ok⟩, hv⟩ : ∃ q, valueT b d t u s l xs = q := ⟨_, rfl⟩
  rw [hv] at HV HR
  clear hv
  unfold maxLen at hn hm
  have hbw : Below w.heap.size w (w.alloc (.cells (tcells b d t u s A l.length c) 24)) := (Below.refl _ w).alloc (Nat.le_refl _) _
  obtain ⟨w0, hw0⟩ : ∃ w0, w.alloc (.cells (tcells b d t u s A l.length c) 24) = w0 := ⟨_, rfl⟩
  have X6 := Lib.hid (fun W (hb : Below w0.heap.size w0 W) => show Boxed6 W w.heap.size b d t u s A l.length c from by rw [← hw0] at hb; exact boxed6 hb)
  rw [hw0] at hbw
  have HW := Lib.hid hbw
  have H := Lib.hid (h.belowM hbw)
  have H' := Lib.hid (h'.belowM hbw)
  obtain ⟨r0, r1, r2, r3, r4, r5⟩ := X6.out w0 (Below.refl _ _)
  clear h h' hbw
  by_cases g1 : 20 < l.length
  · rw [decide_eq_true g1] at HG
    go_enter Try.func4, Try.ntmps4
    go_wp2_with (fail)
    refine (HG.out _).mono ?_
    rintro e w1 ⟨rfl, hb1⟩
    go_wp2_with (fail)
    refine (tawake_any _).mono ?_
    rintro e w2 ⟨rfl, hb2⟩
    go_wp2_with (fail)
    go_ret
    exact ⟨rfl, HW.out.trans ((hb1.trans (hb2.mono hb1.size)).mono HW.out.size)⟩
  rw [decide_eq_false g1] at HG
  by_cases g2 : 100 < xs.length
  · go_enter Try.func4, Try.ntmps4
    go_wp2_with (fail)
    refine (HG.out _).mono ?_
    rintro e w1 ⟨rfl, hb1⟩
    go_wp2_with (fail)
    refine (tawake_any _).mono ?_
    rintro e w2 ⟨rfl, hb2⟩
    go_wp2_with (fail)
    go_ret
    exact ⟨rfl, HW.out.trans ((hb1.trans (hb2.mono hb1.size)).mono HW.out.size)⟩
  have heq : (ok == ok) = true := by simp
  go_enter Try.func4, Try.ntmps4
  go_wp2_with (fail)
  refine (HG.out _).mono ?_
  rintro e w1 ⟨rfl, hb1⟩
  clear r0 r1 r2 r3 r4 r5
  obtain ⟨r0, r1, r2, r3, r4, r5⟩ := X6.out w1 hb1
  have HB1 := Lib.hid hb1
  clear hb1
  go_wp2_with (fail)
  refine (HV.out _ (H.out.belowM HB1.out) (H'.out.belowM HB1.out)).mono ?_
  rintro e w2 ⟨rfl, hb2⟩
  have HB2 := Lib.hid (HB1.out.trans (hb2.mono HB1.out.size))
  clear hb2 r0 r1 r2 r3 r4 r5
  obtain ⟨r0, r1, r2, r3, r4, r5⟩ := X6.out w2 HB2.out
  go_wp2_with (fail)
  refine (HR.out _ (H.out.belowM HB2.out) (H'.out.belowM HB2.out)).mono ?_
  rintro e w3 ⟨rfl, hb3⟩
  have HB3 := Lib.hid (HB2.out.trans (hb3.mono HB2.out.size))
  clear hb3 r0 r1 r2 r3 r4 r5
  go_wp2_with (fail)
  refine (tawake_any _).mono ?_
  rintro e w4 ⟨rfl, hb4⟩
  go_wp2_with (fail)
  go_ret
  exact ⟨rfl, HW.out.trans ((HB3.out.trans (hb4.mono HB3.out.size)).mono HW.out.size)⟩
end Go.Proofs.Ytmcgapejebceoaa.Te
