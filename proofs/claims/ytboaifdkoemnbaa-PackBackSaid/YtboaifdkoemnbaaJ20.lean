/- The reference's Same of lists of sets and of terms, where both are one list. -/
import Derived.Test.YtboaifdkoemnbaaJ3
import Derived.Test.YtboaifdkoemnbaaJ4
import Derived.StillTailTactics
namespace Go.Proofs.Ytboaifdkoemnbaa.De
set_option maxRecDepth 100000
open Go Go.RowKit Go.Proofs.Ytboaifdkoemnbaa.Sp Go.Proofs.Ytboaifdkoemnbaa.Pa Go.Proofs.Ytboaifdkoemnbaa.Te Go.Proofs.Ytboaifdkoemnbaa.Mi
def rterms_eqRel (n : Nat) (w : World) (i : Value) (wr : World) : Prop := ∃ k : Nat, k ≤ n ∧ i = .int .i64 k ∧ Below w.heap.size w wr
set_option maxHeartbeats 2000000 in
theorem rterms_eq (A A' : Option Addr) (c c' : Nat) (L : List TmL) (w : World) (h : RTm w A L.length L) (h' : RTm w A' L.length L) (hl : L.length ≤ maxLen) :
    Calls Try.prog 28 #[.slice A L.length c, .slice A' L.length c'] w (RetB true w) := by
  unfold maxLen at hl
  have H := Lib.hid h
  have H' := Lib.hid h'
  clear h h'
  obtain ⟨n, hn⟩ : ∃ n, L.length = n := ⟨_, rfl⟩
  have HNL := Lib.hid hn
  have hd : ((n : Int) != (n : Int)) = false := by simp
  rw [hn] at hl ⊢
  clear hn
  go_enter Try.func28, Try.ntmps28
  go_wp2_with (fail)
  go_loopw [5] (fun i wr => rterms_eqRel n w i wr) (fun i _ => n - (intOf i).toNat)
  case atStart => exact ⟨0, Nat.zero_le _, rfl, Below.refl _ _⟩
  case round =>
    obtain ⟨k, hk, rfl, hb⟩ := hrel
    by_cases hlt : k < n
    · have hkL : k < L.length := by have := HNL.out; omega
      obtain ⟨b1, off1, hA1, hb1, d0, d1, d2, d3, d4, A1, c1, d5, hr1, _, hm1⟩ := (H.out.belowM hb).at_ hkL
      obtain ⟨b2, off2, hA2, hb2, e0, e1, e2, e3, e4, A2, c2, e5, hr2, _, hm2⟩ := (H'.out.belowM hb).at_ hkL
      obtain ⟨tk, htk⟩ : ∃ tk, L[k] = tk := ⟨_, rfl⟩
      rw [htk] at d0 d1 d2 d3 d4 d5 hr1 hm1 e0 e1 e2 e3 e4 e5 hr2
      have hdr : Below wr.heap.size wr wr.drew := (Below.refl _ _).drew
      have HC := Lib.hid (rsame_eq tk.b tk.d tk.t tk.u tk.s A1 A2 tk.ps.length c1 c2 tk.ps wr.drew (hr1.belowM hdr) (hr2.belowM hdr) hm1)
      have HB := Lib.hid (hb.drew)
      rw [hA1, hA2]
      have i1 : (0 : Int) ≤ (k : Int) := Int.natCast_nonneg _
      have i2 : (k : Int) < (n : Int) := by omega
      clear hA1 hA2 hr1 hr2 htk hb hm1 hm2
      go_wp2_with (fail)
      go_still_tail 8, (by kernel_rfl)
      change wpList _ _ _ _ _ wr.drew
      go_wp2_with (fail)
      refine HC.out.mono ?_
      rintro e w3 ⟨rfl, hb3⟩
      have HB3 := Lib.hid (HB.out.trans (hb3.mono HB.out.size))
      clear hb3
      go_wp2_with (fail)
      go_roundw
      case rel => exact ⟨k + 1, by omega, by go_num, HB3.out⟩
      case measure => simp [intOf]; omega
    · have HB := Lib.hid hb
      clear hb
      go_wp2_with (fail)
      go_ret
      exact ⟨rfl, HB.out⟩
end Go.Proofs.Ytboaifdkoemnbaa.De
