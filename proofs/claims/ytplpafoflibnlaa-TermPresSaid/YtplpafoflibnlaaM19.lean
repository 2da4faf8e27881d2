/- The walk of the law's great, of a term and a few lists of spans. -/
import Derived.Test.YtplpafoflibnlaaM12
import Derived.Test.YtplpafoflibnlaaM15
namespace Go.Proofs.Ytplpafoflibnlaa.Te
set_option maxRecDepth 100000
open Go Go.RowKit Go.Proofs.Ytplpafoflibnlaa.Sp Go.Proofs.Ytplpafoflibnlaa.Pa

theorem below_nextG {w W W' : World} (h1 : Below w.heap.size w W) (h2 : Below W.heap.size W W') : Below w.heap.size w W' := h1.trans (h2.mono h1.size)
def GLRel (ns : List Nat) (w1 : World) (iv : Value) (wr : World) : Prop := ∃ k : Nat, k ≤ ns.length ∧ iv = .int .i64 k ∧ (∀ n ∈ ns.take k, n ≤ 50) ∧ Below w1.heap.size w1 wr
set_option maxHeartbeats 2000000 in
theorem tgl_any (b d t u s : Int) (A : Option Addr) (n c g cg : Nat) (ns : List Nat) (bb : Bool) (w : World) (hn : n ≤ maxLen) (hg : g < w.heap.size) (h : Lens w g ns) (hl : ns.length ≤ 10) (hns : ∀ m ∈ ns, m ≤ maxLen) (hb : bb = true ↔ 20 < n ∨ ∃ m ∈ ns, 50 < m) :
    Calls Try.prog 12 #[trm b d t u s A n c, .slice (some ⟨g, 0, none⟩) ns.length cg] w (RetB bb w) := by
  unfold maxLen at hn hns
  have HNS := Lib.hid hns
  have HBB := Lib.hid hb
  clear hb hns
  by_cases g1 : 20 < n
  · have HT := Lib.hid (HBB.out.2 (.inl g1))
    go_enter Try.func12, Try.ntmps12
    go_wp2_with (fail)
    go_ret
    exact ⟨ret_bool HT.out.symm, (Below.refl _ _).alloc (Nat.le_refl _) _⟩
  · have hd2 : decide ((20 : Int) < (ns.length : Int)) = false := decide_eq_false (by omega)
    obtain ⟨w1, hw1⟩ : ∃ w1, w.alloc (.cells (tcells b d t u s A n c) 24) = w1 := ⟨_, rfl⟩
    have h01 : Below w.heap.size w w1 := by rw [← hw1]; exact (Below.refl _ _).alloc (Nat.le_refl _) _
    have q5 : w1.cell? ⟨w.heap.size, 5, none⟩ = some (.slice A n c) := by rw [← hw1]; exact (boxed6 (Below.refl _ _)).2.2.2.2.2
    have H01 := Lib.hid h01
    have HL := Lib.hid h
    clear h h01
    go_enter Try.func12, Try.ntmps12
    go_wp2_with (fail)
    go_loopw [5] (fun i wr => GLRel ns w1 i wr) (fun i _ => ns.length - (intOf i).toNat)
    case atStart => exact ⟨0, Nat.zero_le _, rfl, fun m hm => by simp at hm, Below.refl _ _⟩
    case round =>
      obtain ⟨k, hk, rfl, hsm, hb⟩ := hrel
      have HSM := Lib.hid hsm
      clear hsm
      by_cases hlt : k < ns.length
      · obtain ⟨A1, c1, hc⟩ := HL.out k hlt
        have hc2 := ((below_nextG H01.out hb).cell hg).trans hc
        obtain ⟨m, hm⟩ : ∃ m, ns[k] = m := ⟨_, rfl⟩
        have hmm : m ∈ ns := by rw [← hm]; exact List.getElem_mem hlt
        have hm1 := HNS.out m hmm
        rw [hm] at hc2
        have HM := Lib.hid hm
        clear hc hm
        by_cases hgt : 50 < m
        · have HT := Lib.hid (HBB.out.2 (.inr ⟨m, hmm, hgt⟩))
          clear hmm
          go_wp2_with (fail)
          go_ret
          exact ⟨ret_bool HT.out.symm, below_nextG H01.out hb⟩
        · have HNX := Lib.hid (show ∀ n ∈ ns.take (k + 1), n ≤ 50 from fun n hn => by
            rw [List.take_succ_eq_append_getElem hlt, List.mem_append, List.mem_singleton, HM.out] at hn
            rcases hn with hn | rfl
            · exact HSM.out n hn
            · omega)
          have HB := Lib.hid hb
          clear hmm hb
          go_wp2_with (fail)
          go_roundw
          case rel => exact ⟨k + 1, by omega, by go_num, HNX.out, HB.out⟩
          case measure => simp [intOf]; omega
      · have HT := Lib.hid (show bb = false from by
          cases e : bb
          · rfl
          · rcases HBB.out.1 e with q | ⟨m, hm, hgt⟩
            · omega
            · have := HSM.out m (by rw [List.take_of_length_le (by omega)]; exact hm)
              omega)
        have HB := Lib.hid (below_nextG H01.out hb)
        clear hb
        go_wp2_with (fail)
        go_ret
        exact ⟨ret_bool HT.out.symm, HB.out⟩
end Go.Proofs.Ytplpafoflibnlaa.Te
