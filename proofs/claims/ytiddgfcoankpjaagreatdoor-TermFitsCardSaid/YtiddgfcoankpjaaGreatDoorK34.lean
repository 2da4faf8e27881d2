/- The walk of the law TermFits. -/
import Derived.Test.YtiddgfcoankpjaaGreatDoorK19
import Derived.Test.YtiddgfcoankpjaaGreatDoorK33
namespace Go.Proofs.YtiddgfcoankpjaaGreatDoor.Tp
set_option maxRecDepth 100000
open Go Go.RowKit Go.Shelf Go.Maps Go.Proofs.YtiddgfcoankpjaaGreatDoor.Sp Go.Proofs.YtiddgfcoankpjaaGreatDoor.Pa Go.Proofs.YtiddgfcoankpjaaGreatDoor.Te Go.Proofs.YtiddgfcoankpjaaGreatDoor.Mi Go.Proofs.YtiddgfcoankpjaaGreatDoor.Sh Go.Proofs.YtiddgfcoankpjaaGreatDoor.Fi Go.Proofs.YtiddgfcoankpjaaGreatDoor.Tf

/-- A guard's symbols, as a plain list. -/
theorem exists_sym (g : List Span) : ∃ p, Is p fun x => mem g x ∧ Sy x := by
  obtain ⟨p, hp⟩ := exists_plain (g.map fun q => (max q.1 0, min q.2 1114111))
  refine ⟨p, hp.congr fun x => ?_⟩
  unfold mem Sy
  constructor
  · rintro ⟨h1, q, hq, h2, h3⟩
    obtain ⟨r, hr, rfl⟩ := List.mem_map.1 hq
    simp only at h2 h3
    exact ⟨⟨h1, r, hr, by omega, by omega⟩, by omega, by omega⟩
  · rintro ⟨⟨h1, r, hr, h2, h3⟩, h4, h5⟩
    exact ⟨h1, _, List.mem_map.2 ⟨r, hr, rfl⟩, by simp only; omega, by simp only; omega⟩
theorem exists_met (gs : List (List Span)) : ∃ L, MetS gs L :=
  ⟨gs.map fun g => Classical.choose (exists_sym g), by simp, fun i h1 h2 => by
    simp only [List.getElem_map]
    exact Classical.choose_spec (exists_sym gs[i])⟩
theorem met_eq {gs L M : List (List Span)} (h : MetS gs L) (k : MetS gs M) : L = M :=
  List.ext_getElem (by rw [h.1, k.1]) fun i h1 h2 => (h.2 i (by rw [← h.1]; exact h1) h1).eq (k.2 i (by rw [← k.1]; exact h2) h2) fun _ => Iff.rfl
theorem below_m {w W W' : World} (h1 : Below w.heap.size w W) (h2 : Below W.heap.size W W') : Below w.heap.size w W' := h1.trans (h2.mono h1.size)
set_option maxHeartbeats 16000000 in
theorem walk_TermFits (b d t u s : Int) (A : Option Addr) (c : Nat) (l : List PT) (i o : Int) (G : Option Addr) (gc : Nat) (gs : List (List Span)) (w : World)
    (h : RP w w.heap.size A l.length l) (hml : l.length ≤ maxLen) (hg : RGs w G gs.length gs) (hgl : gs.length ≤ maxLen) (hgm : ∀ g ∈ gs, g.length ≤ maxLen) (hT : TabB w) :
    Calls Tryz.prog 3 #[trm b d t u s A l.length c, .int .i64 i, .int .i64 o, .slice G gs.length gc] w (RetB true w) := by
  obtain ⟨w0, hw0⟩ : ∃ w0, w.alloc (.cells (tcells b d t u s A l.length c) 24) = w0 := ⟨_, rfl⟩
  have hbw : Below w.heap.size w w0 := by rw [← hw0]; exact (Below.refl _ w).alloc (Nat.le_refl _) _
  have hsz0 : w0.heap.size = w.heap.size + 1 := by rw [← hw0]; simp
  have X6 := Lib.hid (fun W (hb : Below w0.heap.size w0 W) => show Boxed6 W w.heap.size b d t u s A l.length c from by rw [← hw0] at hb; exact boxed6 hb)
  obtain ⟨r0, r1, r2, r3, r4, r5⟩ := X6.out w0 (Below.refl _ _)
  obtain ⟨bb, hbb⟩ : ∃ bb : Bool, bb = true ↔ 20 < l.length ∨ 20 < gs.length ∨ ∃ g ∈ gs, 50 < g.length := by
    by_cases q : 20 < l.length ∨ 20 < gs.length ∨ ∃ g ∈ gs, 50 < g.length
    · exact ⟨true, ⟨fun _ => q, fun _ => rfl⟩⟩
    · exact ⟨false, ⟨fun e => (by cases e), fun e => absurd e q⟩⟩
  have HGR := Lib.hid (great_any b d t u s A l.length c G gc gs bb w0 hml (hg.belowM hbw) hgl hgm hbb)
  have hsm : bb = false → l.length ≤ 20 ∧ gs.length ≤ 20 ∧ ∀ g ∈ gs, g.length ≤ 50 := fun e => by
    have hno : ¬ (20 < l.length ∨ 20 < gs.length ∨ ∃ g ∈ gs, 50 < g.length) := fun q => by rw [hbb.2 q] at e; cases e
    exact ⟨Nat.not_lt.1 fun q => hno (.inl q), Nat.not_lt.1 fun q => hno (.inr (.inl q)), fun g hg => Nat.not_lt.1 fun q => hno (.inr (.inr ⟨g, hg, q⟩))⟩
  have HW := Lib.hid hbw
  have HP0 := Lib.hid (h.belowM hbw)
  have HG0 := Lib.hid (hg.belowM hbw)
  have HT0 := Lib.hid (hT.next hbw)
  clear h hg hT hbw hbb hgm
  unfold maxLen at hgl
  cases bb with
  | true =>
    clear hsm
    go_enter Tryz.func3, Tryz.ntmps3
    go_wp2_with (fail)
    refine HGR.out.mono ?_
    rintro e w2 ⟨rfl, hb2⟩
    have HB2 := Lib.hid (below_m HW.out hb2)
    clear hb2
    go_wp2_with (fail)
    refine (tawake_any _).mono ?_
    rintro e w3 ⟨rfl, hb3⟩
    go_wp2_with (fail)
    go_ret
    exact ⟨rfl, below_m HB2.out hb3⟩
  | false =>
  obtain ⟨hl20, hg20, hgm⟩ := hsm rfl
  have HGM := Lib.hid hgm
  clear hsm hgm
  obtain ⟨L, hL⟩ := exists_met gs
  have HWN := Lib.hid (fun W (hW : RGs W G gs.length gs) => rwindows_any G gc gs L 3000 W hW (by omega) (fun g hg => Nat.le_trans (HGM.out g hg) (by omega)) hL.1 hL.2 (by omega) (by omega))
  obtain ⟨fb, hfb⟩ : ∃ fb : Bool, fb = true ↔ FitsP (domL o) i o b d t u s l gs := by
    by_cases q : FitsP (domL o) i o b d t u s l gs
    · exact ⟨true, ⟨fun _ => q, fun _ => rfl⟩⟩
    · exact ⟨false, ⟨fun e => (by cases e), fun e => absurd e q⟩⟩
  have HFT := Lib.hid (fun W (h1 : RP W W.heap.size A l.length l) (h2 : RGs W G gs.length gs) (h3 : TabB W) => fits_any b d t u s i o A l.length c l G gc gs fb W h1 (by unfold maxLen; omega) h2 (fun g hg => Nat.le_trans (HGM.out g hg) (by omega)) h3 hfb)
  have HRF := Lib.hid (fun W (hq : gs.length ≤ 4 → ∀ L, MetS gs L → prodC L ≤ 3000) (h1 : RP W W.heap.size A l.length l) (h2 : RGs W G gs.length gs) => rfits_any b d t u s i o A l.length c l G gc gs fb W h1 (by unfold maxLen; omega) h2 (fun g hg => Nat.le_trans (HGM.out g hg) (by omega)) hq hfb)
  have HDONE := Lib.hid (fun (W W' : World) (h1 : Below w0.heap.size w0 W) (h2 : Below W.heap.size W W') => show Below w.heap.size w W' from HW.out.trans ((below_m h1 h2).mono (by omega)))
  have hbq : (fb == fb) = true := by cases fb <;> rfl
  obtain ⟨P, hP⟩ : ∃ P, prodC L = P := ⟨_, rfl⟩
  rw [hP] at HWN
  have HMET := Lib.hid (And.intro hL hP)
  clear hfb hL hP
  by_cases k1 : gs.length ≤ 4
  · have hd4 : decide ((gs.length : Int) ≤ 4) = true := decide_eq_true (by omega)
    by_cases k2 : P ≤ 3000
    case neg =>
      rw [show capZ 3000 P = 3001 from if_neg k2] at HWN
      clear k2
      go_enter Tryz.func3, Tryz.ntmps3
      go_wp2_with (fail)
      refine HGR.out.mono ?_
      rintro e w2 ⟨rfl, hb2⟩
      have HB2 := Lib.hid hb2
      have HG2 := Lib.hid (HG0.out.belowM hb2)
      clear hb2
      go_wp2_with (fail)
      refine (HWN.out _ HG2.out).mono ?_
      rintro e w3 ⟨rfl, hb3⟩
      have HB3 := Lib.hid (below_m HB2.out hb3)
      clear hb3
      go_wp2_with (fail)
      refine (tawake_any _).mono ?_
      rintro e w4 ⟨rfl, hb4⟩
      go_wp2_with (fail)
      go_ret
      exact ⟨rfl, HDONE.out _ _ HB3.out hb4⟩
    rw [show capZ 3000 P = P from if_pos k2] at HWN
    have hd5 : decide ((3000 : Int) < P) = false := decide_eq_false (by omega)
    have HQ := Lib.hid (show gs.length ≤ 4 → ∀ L, MetS gs L → prodC L ≤ 3000 from fun _ M hM => by
      rw [met_eq hM HMET.out.1, HMET.out.2]
      exact k2)
    go_enter Tryz.func3, Tryz.ntmps3
    go_wp2_with (fail)
    refine HGR.out.mono ?_
    rintro e w2 ⟨rfl, hb2⟩
    have HB2 := Lib.hid hb2
    have HG2 := Lib.hid (HG0.out.belowM hb2)
    have HP2 := Lib.hid (HP0.out.belowM hb2)
    have HT2 := Lib.hid (HT0.out.next hb2)
    clear hb2
    go_wp2_with (fail)
    refine (HWN.out _ HG2.out).mono ?_
    rintro e w3 ⟨rfl, hb3⟩
    have hb3' := below_m HB2.out hb3
    obtain ⟨r0, r1, r2, r3, r4, r5⟩ := X6.out w3 hb3'
    have HB3 := Lib.hid hb3'
    have HG3 := Lib.hid (HG2.out.belowM hb3)
    have HP3 := Lib.hid (HP2.out.belowM hb3)
    have HT3 := Lib.hid (HT2.out.next hb3)
    clear hb3 hb3'
    go_wp2_with (fail)
    refine (HRF.out _ HQ.out HP3.out HG3.out).mono ?_
    rintro e w4 ⟨rfl, hb4⟩
    have hb4' := below_m HB3.out hb4
    obtain ⟨r0, r1, r2, r3, r4, r5⟩ := X6.out w4 hb4'
    have HB4 := Lib.hid hb4'
    have HG4 := Lib.hid (HG3.out.belowM hb4)
    have HP4 := Lib.hid (HP3.out.belowM hb4)
    have HT4 := Lib.hid (HT3.out.next hb4)
    clear hb4 hb4'
    go_wp2_with (fail)
    refine (HFT.out _ HP4.out HG4.out HT4.out).mono ?_
    rintro e w5 ⟨rfl, hb5⟩
    have HB5 := Lib.hid (below_m HB4.out hb5)
    clear hb5
    go_wp2_with (fail)
    refine (tawake_any _).mono ?_
    rintro e w6 ⟨rfl, hb6⟩
    go_wp2_with (fail)
    go_ret
    exact ⟨rfl, HDONE.out _ _ HB5.out hb6⟩
  · have hd4 : decide ((gs.length : Int) ≤ 4) = false := decide_eq_false (by omega)
    have HQ := Lib.hid (show gs.length ≤ 4 → ∀ L, MetS gs L → prodC L ≤ 3000 from fun q => absurd q k1)
    go_enter Tryz.func3, Tryz.ntmps3
    go_wp2_with (fail)
    refine HGR.out.mono ?_
    rintro e w3 ⟨rfl, hb3⟩
    obtain ⟨r0, r1, r2, r3, r4, r5⟩ := X6.out w3 hb3
    have HB3 := Lib.hid hb3
    have HG3 := Lib.hid (HG0.out.belowM hb3)
    have HP3 := Lib.hid (HP0.out.belowM hb3)
    have HT3 := Lib.hid (HT0.out.next hb3)
    clear hb3
    go_wp2_with (fail)
    refine (HRF.out _ HQ.out HP3.out HG3.out).mono ?_
    rintro e w4 ⟨rfl, hb4⟩
    have hb4' := below_m HB3.out hb4
    obtain ⟨r0, r1, r2, r3, r4, r5⟩ := X6.out w4 hb4'
    have HB4 := Lib.hid hb4'
    have HG4 := Lib.hid (HG3.out.belowM hb4)
    have HP4 := Lib.hid (HP3.out.belowM hb4)
    have HT4 := Lib.hid (HT3.out.next hb4)
    clear hb4 hb4'
    go_wp2_with (fail)
    refine (HFT.out _ HP4.out HG4.out HT4.out).mono ?_
    rintro e w5 ⟨rfl, hb5⟩
    have HB5 := Lib.hid (below_m HB4.out hb5)
    clear hb5
    go_wp2_with (fail)
    refine (tawake_any _).mono ?_
    rintro e w6 ⟨rfl, hb6⟩
    go_wp2_with (fail)
    go_ret
    exact ⟨rfl, HDONE.out _ _ HB5.out hb6⟩
end Go.Proofs.YtiddgfcoankpjaaGreatDoor.Tp
