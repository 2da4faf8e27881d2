/- The walk of the law's great, of a term and guards. -/
import Derived.Test.YtiddgfcoankpjaaDoorQ3
import Derived.Test.YtiddgfcoankpjaaDoorQ4
namespace Go.Proofs.YtiddgfcoankpjaaDoor.Tp
set_option maxRecDepth 100000
open Go Go.RowKit Go.Proofs.YtiddgfcoankpjaaDoor.Sp Go.Proofs.YtiddgfcoankpjaaDoor.Pa Go.Proofs.YtiddgfcoankpjaaDoor.Te Go.Proofs.YtiddgfcoankpjaaDoor.Mi

def GRel (gs : List (List Span)) (w1 : World) (iv : Value) (wr : World) : Prop := ∃ k : Nat, k ≤ gs.length ∧ iv = .int .i64 k ∧ (∀ g ∈ gs.take k, g.length ≤ 50) ∧ Below w1.heap.size w1 wr
set_option maxHeartbeats 2000000 in
theorem great_any (b d t u s : Int) (A : Option Addr) (n c : Nat) (G : Option Addr) (gc : Nat) (gs : List (List Span)) (bb : Bool) (w : World) (hn : n ≤ maxLen) (h : RGs w G gs.length gs) (hl : gs.length ≤ maxLen) (hns : ∀ g ∈ gs, g.length ≤ maxLen) (hb : bb = true ↔ 20 < n ∨ 20 < gs.length ∨ ∃ g ∈ gs, 50 < g.length) :
    Calls Tryd.prog 4 #[trm b d t u s A n c, .slice G gs.length gc] w (RetB bb w) := by
  unfold maxLen at hn hns hl
  have HNS := Lib.hid hns
  have HBB := Lib.hid hb
  clear hb hns
  by_cases g1 : 20 < n
  · have HT := Lib.hid (HBB.out.2 (.inl g1))
    go_enter Tryd.func4, Tryd.ntmps4
    go_wp2_with (fail)
    go_ret
    exact ⟨ret_bool HT.out.symm, (Below.refl _ _).alloc (Nat.le_refl _) _⟩
  · have hd1 : decide ((20 : Int) < (n : Int)) = false := decide_eq_false (by omega)
    by_cases g2 : 20 < gs.length
    · have HT := Lib.hid (HBB.out.2 (.inr (.inl g2)))
      have hd2 : decide ((20 : Int) < (gs.length : Int)) = true := decide_eq_true (by omega)
      go_enter Tryd.func4, Tryd.ntmps4
      go_wp2_with (fail)
      go_ret
      exact ⟨ret_bool HT.out.symm, (Below.refl _ _).alloc (Nat.le_refl _) _⟩
    have hd2 : decide ((20 : Int) < (gs.length : Int)) = false := decide_eq_false (by omega)
    obtain ⟨w1, hw1⟩ : ∃ w1, w.alloc (.cells (tcells b d t u s A n c) 24) = w1 := ⟨_, rfl⟩
    have h01 : Below w.heap.size w w1 := by rw [← hw1]; exact (Below.refl _ _).alloc (Nat.le_refl _) _
    have q5 : w1.cell? ⟨w.heap.size, 5, none⟩ = some (.slice A n c) := by rw [← hw1]; exact (boxed6 (Below.refl _ _)).2.2.2.2.2
    have H01 := Lib.hid h01
    have HL := Lib.hid (h.belowM h01)
    clear h h01
    go_enter Tryd.func4, Tryd.ntmps4
    go_wp2_with (fail)
    go_loopw [5] (fun i wr => GRel gs w1 i wr) (fun i _ => gs.length - (intOf i).toNat)
    case atStart => exact ⟨0, Nat.zero_le _, rfl, fun m hm => by simp at hm, Below.refl _ _⟩
    case round =>
      obtain ⟨k, hk, rfl, hsm, hb⟩ := hrel
      have HSM := Lib.hid hsm
      clear hsm
      by_cases hlt : k < gs.length
      · obtain ⟨bq, off, Aj, cj, hA, hbB, hc, hr, hcj, hnj⟩ := (HL.out.belowM hb).at_ hlt
        obtain ⟨m, hm⟩ : ∃ m, gs[k].length = m := ⟨_, rfl⟩
        have hmm : gs[k] ∈ gs := List.getElem_mem hlt
        have hm1 := HNS.out _ hmm
        rw [hm] at hc hm1
        have HM := Lib.hid hm
        subst hA
        have HB := Lib.hid hb
        clear hr hcj hnj hb hm
        by_cases hgt : 50 < m
        · have HT := Lib.hid (HBB.out.2 (.inr (.inr ⟨gs[k], hmm, by rw [HM.out]; exact hgt⟩)))
          clear hmm
          go_wp2_with (fail)
          go_ret
          exact ⟨ret_bool HT.out.symm, H01.out.trans (HB.out.mono H01.out.size)⟩
        · have HNX := Lib.hid (show ∀ g ∈ gs.take (k + 1), g.length ≤ 50 from fun g hg => by
            rw [List.take_succ_eq_append_getElem hlt, List.mem_append, List.mem_singleton] at hg
            rcases hg with hg | rfl
            · exact HSM.out g hg
            · have := HM.out; omega)
          clear hmm
          go_wp2_with (fail)
          go_roundw
          case rel => exact ⟨k + 1, by omega, by go_num, HNX.out, HB.out⟩
          case measure => simp [intOf]; omega
      · have HT := Lib.hid (show bb = false from by
          cases e : bb
          · rfl
          · rcases HBB.out.1 e with q | q | ⟨m, hm, hgt⟩
            · omega
            · omega
            · have := HSM.out m (by rw [List.take_of_length_le (by omega)]; exact hm)
              omega)
        have HB := Lib.hid (H01.out.trans (hb.mono H01.out.size))
        clear hb
        go_wp2_with (fail)
        go_ret
        exact ⟨ret_bool HT.out.symm, HB.out⟩
end Go.Proofs.YtiddgfcoankpjaaDoor.Tp
