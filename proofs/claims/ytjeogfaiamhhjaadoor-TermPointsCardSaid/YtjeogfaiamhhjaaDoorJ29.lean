/- Texts of this proof, joined: TeAwake, TpGreat. -/
import Derived.Test.YtjeogfaiamhhjaaDoorJ3
import Derived.Test.YtjeogfaiamhhjaaDoorJ4
/- The walk of the law's examples (awake). -/
namespace Go.Proofs.YtjeogfaiamhhjaaDoor.Te
set_option maxRecDepth 100000
open Go Go.RowKit Go.Proofs.YtjeogfaiamhhjaaDoor.Sp Go.Proofs.YtjeogfaiamhhjaaDoor.Pa

abbrev exP : List PT := [(1, 0, 6, 0), (0, 0, 5, 6)]
theorem ex_value : valueT 0 0 21 0 0 exP [195, 188] = (252, true) := by
  have h1 : symB [195, 188] = true := symB_true (fun x hx => by simp at hx; rcases hx with rfl | rfl <;> (unfold Sy; omega))
  have h2 : partsB ([195, 188] : List Int).length exP = true := by decide
  have v1 : valI 0 6 0 188 = 60 := by decide
  have v2 : valI 0 5 6 195 = 192 := by decide
  have v3 : valI 0 21 0 252 = 252 := by decide
  have hi : innerT [195, 188] 0 exP = 252 := by
    show wrap64 (wrap64 (0 + valI 0 6 0 188) + valI 0 5 6 195) = 252
    rw [v1, v2]
    kernel_rfl
  have hw : wholeT 0 0 21 0 252 = (252, true) := by
    unfold wholeT
    rw [if_pos ⟨by unfold Sy; omega, by decide⟩, v3]
    kernel_rfl
  unfold valueT
  rw [if_pos ⟨h1, h2⟩, hi, hw]
theorem ex_right : rightT 1 2 2 0 0 21 0 0 exP = true := by
  have h : riseB exP = true := riseB_true (k := 2) (fun i h1 h2 => by
    obtain rfl : i = 0 := by omega
    show (0 : Int) < 6
    decide) (by decide)
  have hn : numB 0 0 21 0 0 exP = true := by unfold numB; rw [h]; decide
  unfold rightT
  rw [hn]
  decide
theorem RP_two {w : World} {g B : Nat} (h1 : ∀ i (hi : i < 8), w.cell? ⟨g, i, none⟩ = some (#[Value.int .i64 1, .int .i64 0, .int .i64 6, .int .i64 0, .int .i64 0, .int .i64 0, .int .i64 5, .int .i64 6][i])) (hB : g < B) : RP w B (some ⟨g, 0, none⟩) 2 exP :=
  ⟨rfl, fun _ => ⟨g, 0, rfl, hB, fun j hj => by
    rcases (show j = 0 ∨ j = 1 from by simp at hj; omega) with rfl | rfl
    · exact ⟨h1 0 (by decide), h1 1 (by decide), h1 2 (by decide), h1 3 (by decide)⟩
    · exact ⟨h1 4 (by decide), h1 5 (by decide), h1 6 (by decide), h1 7 (by decide)⟩⟩⟩
set_option maxHeartbeats 4000000 in
theorem tawake_any (w : World) : Calls Tryd.prog 5 #[] w (RetB true w) := by
  go_enter Tryd.func5, Tryd.ntmps5
  go_wp2_with (fail)
  have HV := Lib.hid (fun W h h' => tvalue_any 0 0 21 0 0 (some ⟨w.heap.size, 0, none⟩) (some ⟨w.heap.size + 1 + 1, 0, none⟩) 2 2 2 2 exP [195, 188] W h (by unfold maxLen; omega) h' (by unfold maxLen; omega))
  rw [ex_value] at HV
  have hrp : RP (((w.alloc (.cells #[.int .i64 1, .int .i64 0, .int .i64 6, .int .i64 0, .int .i64 0, .int .i64 0, .int .i64 5, .int .i64 6] 39)).alloc (.cells (tcells 0 0 21 0 0 (some ⟨w.heap.size, 0, none⟩) 2 2) 24)).alloc (.cells #[.int .i32 195, .int .i32 188] 21)) (w.heap.size + 1 + 1 + 1) (some ⟨w.heap.size, 0, none⟩) 2 exP := RP_two (fun i hi => by
    rcases (show i = 0 ∨ i = 1 ∨ i = 2 ∨ i = 3 ∨ i = 4 ∨ i = 5 ∨ i = 6 ∨ i = 7 from by omega) with rfl | rfl | rfl | rfl | rfl | rfl | rfl | rfl <;> simp [go_sem]) (by omega)
  have hrr : RR (((w.alloc (.cells #[.int .i64 1, .int .i64 0, .int .i64 6, .int .i64 0, .int .i64 0, .int .i64 0, .int .i64 5, .int .i64 6] 39)).alloc (.cells (tcells 0 0 21 0 0 (some ⟨w.heap.size, 0, none⟩) 2 2) 24)).alloc (.cells #[.int .i32 195, .int .i32 188] 21)) (w.heap.size + 1 + 1 + 1) (some ⟨w.heap.size + 1 + 1, 0, none⟩) 2 [195, 188] := ⟨rfl, fun x hx => by simp at hx; omega, fun _ => ⟨w.heap.size + 1 + 1, 0, rfl, by omega, fun j hj => by
    rcases (show j = 0 ∨ j = 1 from by simp at hj; omega) with rfl | rfl <;> simp [go_sem]⟩⟩
  have hrt : Boxed6 (((w.alloc (.cells #[.int .i64 1, .int .i64 0, .int .i64 6, .int .i64 0, .int .i64 0, .int .i64 0, .int .i64 5, .int .i64 6] 39)).alloc (.cells (tcells 0 0 21 0 0 (some ⟨w.heap.size, 0, none⟩) 2 2) 24)).alloc (.cells #[.int .i32 195, .int .i32 188] 21)) (w.heap.size + 1) 0 0 21 0 0 (some ⟨w.heap.size, 0, none⟩) 2 2 := by
    refine ⟨?_, ?_, ?_, ?_, ?_, ?_⟩ <;> simp [go_sem]
  have hbw : Below w.heap.size w (((w.alloc (.cells #[.int .i64 1, .int .i64 0, .int .i64 6, .int .i64 0, .int .i64 0, .int .i64 0, .int .i64 5, .int .i64 6] 39)).alloc (.cells (tcells 0 0 21 0 0 (some ⟨w.heap.size, 0, none⟩) 2 2) 24)).alloc (.cells #[.int .i32 195, .int .i32 188] 21)) := (((Below.refl _ _).alloc (Nat.le_refl _) _).alloc (by simp) _).alloc (by simp only [World.size_alloc]; omega) _
  obtain ⟨w0, hw0⟩ : ∃ w0, (((w.alloc (.cells #[.int .i64 1, .int .i64 0, .int .i64 6, .int .i64 0, .int .i64 0, .int .i64 0, .int .i64 5, .int .i64 6] 39)).alloc (.cells (tcells 0 0 21 0 0 (some ⟨w.heap.size, 0, none⟩) 2 2) 24)).alloc (.cells #[.int .i32 195, .int .i32 188] 21)) = w0 := ⟨_, rfl⟩
  have hs0 : w0.heap.size = w.heap.size + 1 + 1 + 1 := by rw [← hw0]; simp
  rw [hw0] at hrp hrr hrt hbw ⊢
  rw [← hs0] at hrp hrr
  have HRP := Lib.hid hrp
  have HBW := Lib.hid hbw
  have HRT := Lib.hid (show ∀ W, Below w0.heap.size w0 W → Boxed6 W (w.heap.size + 1) 0 0 21 0 0 (some ⟨w.heap.size, 0, none⟩) 2 2 from fun W hW => by
    obtain ⟨a0, a1, a2, a3, a4, a5⟩ := hrt
    exact ⟨(hW.cell (by simp only; omega)).trans a0, (hW.cell (by simp only; omega)).trans a1, (hW.cell (by simp only; omega)).trans a2, (hW.cell (by simp only; omega)).trans a3, (hW.cell (by simp only; omega)).trans a4, (hW.cell (by simp only; omega)).trans a5⟩)
  refine (HV.out _ hrp hrr).mono ?_
  rintro e w1 ⟨rfl, hb1⟩
  have HB1 := Lib.hid hb1
  clear hw0 hrp hrr hrt hbw hb1
  go_wp2_with (fail)
  refine (copy_any 0 1 _).mono ?_
  rintro e w2 ⟨A2, c2, rfl, hr2, hc2, hb2⟩
  have HB2 := Lib.hid (HB1.out.trans (hb2.mono HB1.out.size))
  have HR2 := Lib.hid hr2
  clear hb2 hr2
  simp only [List.length_singleton]
  go_wp2_with (fail)
  refine (const_nil 97 (by omega) (by omega) _).mono ?_
  rintro e w3 ⟨rfl, hb3⟩
  have HR3 := Lib.hid (HR2.out.belowM hb3)
  have HB3 := Lib.hid (HB2.out.trans (hb3.mono HB2.out.size))
  clear hb3
  go_wp2_with (fail)
  refine (put_ex A2 c2 _ HR3.out).mono ?_
  rintro e w4 ⟨rfl, hb4⟩
  have hb44 := HB3.out.trans (hb4.mono HB3.out.size)
  obtain ⟨w5, hw5⟩ : ∃ w5, w4.alloc (.cells (tcells 0 0 21 0 98 none 0 0) 24) = w5 := ⟨_, rfl⟩
  have h45 : Below w4.heap.size w4 w5 := by rw [← hw5]; exact (Below.refl _ _).alloc (Nat.le_refl _) _
  have B5 : Boxed6 w5 w4.heap.size 0 0 21 0 98 none 0 0 := by rw [← hw5]; exact boxed6 (Below.refl _ _)
  obtain ⟨q0, q1, q2, q3, q4, q5⟩ := B5
  have hb5 := hb44.trans (h45.mono hb44.size)
  obtain ⟨r0, r1, r2, r3, r4, r5⟩ := HRT.out _ hb5
  have HB5 := Lib.hid hb5
  have HX := Lib.hid (fun W (hW : Below w0.heap.size w0 W) => tright_any 1 2 2 0 0 21 0 0 (some ⟨w.heap.size, 0, none⟩) 2 2 exP W (HRP.out.belowM hW) (by unfold maxLen; omega))
  rw [ex_right] at HX
  have hz4 : w0.heap.size ≤ w4.heap.size := hb44.size
  have ne1 : ¬ (w.heap.size + 1 = w4.heap.size) := by omega
  have ne2 : ¬ (w4.heap.size = w.heap.size + 1) := by omega
  have H6 := Lib.hid (hb5.setCell (p := ⟨w4.heap.size, 5, none⟩) hz4 (.slice none 0 0))
  have fz : ∀ i, i < 6 → w5.frozen? ⟨w4.heap.size, i, none⟩ = false := fun i hi => by rw [← hw5]; simp
  have f0 := fz 0 (by omega)
  have f1 := fz 1 (by omega)
  have f2 := fz 2 (by omega)
  have f3 := fz 3 (by omega)
  have f4 := fz 4 (by omega)
  have f5 := fz 5 (by omega)
  clear hb44 hb4 h45 hb5 fz
  go_wp2_with (fail)
  refine (HX.out _ H6.out).mono ?_
  rintro e w6 ⟨rfl, hb6⟩
  have HB6 := Lib.hid (H6.out.trans (hb6.mono H6.out.size))
  clear hb6
  go_wp2_with (fail)
  go_ret
  exact ⟨rfl, HBW.out.trans (HB6.out.mono HBW.out.size)⟩
end Go.Proofs.YtjeogfaiamhhjaaDoor.Te
/- The walk of the law's great, of a term and guards. -/
namespace Go.Proofs.YtjeogfaiamhhjaaDoor.Tp
set_option maxRecDepth 100000
open Go Go.RowKit Go.Proofs.YtjeogfaiamhhjaaDoor.Sp Go.Proofs.YtjeogfaiamhhjaaDoor.Pa Go.Proofs.YtjeogfaiamhhjaaDoor.Te Go.Proofs.YtjeogfaiamhhjaaDoor.Mi

def GRel (gs : List (List Span)) (w1 : World) (iv : Value) (wr : World) : Prop := ∃ k : Nat, k ≤ gs.length ∧ iv = .int .i64 k ∧ (∀ g ∈ gs.take k, g.length ≤ 50) ∧ Below w1.heap.size w1 wr
set_option maxHeartbeats 2000000 in
theorem great_any (b d t u s : Int) (A : Option Addr) (n c : Nat) (G : Option Addr) (gc : Nat) (gs : List (List Span)) (bb : Bool) (w : World) (hn : n ≤ maxLen) (h : RGs w G gs.length gs) (hl : gs.length ≤ maxLen) (hns : ∀ g ∈ gs, g.length ≤ maxLen) (hb : bb = true ↔ 20 < n ∨ 20 < gs.length ∨ ∃ g ∈ gs, 50 < g.length) :
    Calls Tryd.prog 4 #[trm b d t u s A n c, .slice G gs.length gc] w (RetB bb w) := by
  unfold maxLen at hn hns hl
  have HNS := Lib.hid hns
  have HBB := Lib.hid hb
  clear hb hns
  by_cases g1 : 20 < n
  · have HT := Lib.hid (HBB.out.2 (.inl g1))
    go_enter Tryd.func4, Tryd.ntmps4
    go_wp2_with (fail)
    go_ret
    exact ⟨ret_bool HT.out.symm, (Below.refl _ _).alloc (Nat.le_refl _) _⟩
  · have hd1 : decide ((20 : Int) < (n : Int)) = false := decide_eq_false (by omega)
    by_cases g2 : 20 < gs.length
    · have HT := Lib.hid (HBB.out.2 (.inr (.inl g2)))
      have hd2 : decide ((20 : Int) < (gs.length : Int)) = true := decide_eq_true (by omega)
      go_enter Tryd.func4, Tryd.ntmps4
      go_wp2_with (fail)
      go_ret
      exact ⟨ret_bool HT.out.symm, (Below.refl _ _).alloc (Nat.le_refl _) _⟩
    have hd2 : decide ((20 : Int) < (gs.length : Int)) = false := decide_eq_false (by omega)
    obtain ⟨w1, hw1⟩ : ∃ w1, w.alloc (.cells (tcells b d t u s A n c) 24) = w1 := ⟨_, rfl⟩
    have h01 : Below w.heap.size w w1 := by rw [← hw1]; exact (Below.refl _ _).alloc (Nat.le_refl _) _
    have q5 : w1.cell? ⟨w.heap.size, 5, none⟩ = some (.slice A n c) := by rw [← hw1]; exact (boxed6 (Below.refl _ _)).2.2.2.2.2
    have H01 := Lib.hid h01
    have HL := Lib.hid (h.belowM h01)
    clear h h01
    go_enter Tryd.func4, Tryd.ntmps4
    go_wp2_with (fail)
    go_loopw [5] (fun i wr => GRel gs w1 i wr) (fun i _ => gs.length - (intOf i).toNat)
    case atStart => exact ⟨0, Nat.zero_le _, rfl, fun m hm => by simp at hm, Below.refl _ _⟩
    case round =>
      obtain ⟨k, hk, rfl, hsm, hb⟩ := hrel
      have HSM := Lib.hid hsm
      clear hsm
      by_cases hlt : k < gs.length
      · obtain ⟨bq, off, Aj, cj, hA, hbB, hc, hr, hcj, hnj⟩ := (HL.out.belowM hb).at_ hlt
        obtain ⟨m, hm⟩ : ∃ m, gs[k].length = m := ⟨_, rfl⟩
        have hmm : gs[k] ∈ gs := List.getElem_mem hlt
        have hm1 := HNS.out _ hmm
        rw [hm] at hc hm1
        have HM := Lib.hid hm
        subst hA
        have HB := Lib.hid hb
        clear hr hcj hnj hb hm
        by_cases hgt : 50 < m
        · have HT := Lib.hid (HBB.out.2 (.inr (.inr ⟨gs[k], hmm, by rw [HM.out]; exact hgt⟩)))
          clear hmm
          go_wp2_with (fail)
          go_ret
          exact ⟨ret_bool HT.out.symm, H01.out.trans (HB.out.mono H01.out.size)⟩
        · have HNX := Lib.hid (show ∀ g ∈ gs.take (k + 1), g.length ≤ 50 from fun g hg => by
            rw [List.take_succ_eq_append_getElem hlt, List.mem_append, List.mem_singleton] at hg
            rcases hg with hg | rfl
            · exact HSM.out g hg
            · have := HM.out; omega)
          clear hmm
          go_wp2_with (fail)
          go_roundw
          case rel => exact ⟨k + 1, by omega, by go_num, HNX.out, HB.out⟩
          case measure => simp [intOf]; omega
      · have HT := Lib.hid (show bb = false from by
          cases e : bb
          · rfl
          · rcases HBB.out.1 e with q | q | ⟨m, hm, hgt⟩
            · omega
            · omega
            · have := HSM.out m (by rw [List.take_of_length_le (by omega)]; exact hm)
              omega)
        have HB := Lib.hid (H01.out.trans (hb.mono H01.out.size))
        clear hb
        go_wp2_with (fail)
        go_ret
        exact ⟨ret_bool HT.out.symm, HB.out⟩
end Go.Proofs.YtjeogfaiamhhjaaDoor.Tp
