/- The walk of the reference's Same of lists of sets. -/
import Derived.Test.YtgmkchkaceciiaaMiAsk
import Derived.StillTailTactics
namespace Go.Proofs.Ytgmkchkaceciiaa.Mi
set_option maxRecDepth 100000
open Go Go.RowKit Go.Proofs.Ytgmkchkaceciiaa.Sp

def SmRel (L R : List (List Span)) (w : World) (i : Value) (wr : World) : Prop := ∃ k : Nat, k ≤ L.length ∧ i = .int .i64 k ∧ (∀ (j : Nat) (h : j < L.length) (h' : j < R.length), j < k → L[j] = R[j]) ∧ Below w.heap.size w wr
theorem ret_dec {L R : List (List Span)} {b : Bool} {w W : World} (h : decide (L = R) = b) (hb : Below w.heap.size w W) : RetB (decide (L = R)) w (.returned (.bool b)) W := ⟨by rw [h], hb⟩
set_option maxHeartbeats 2000000 in
theorem rsame_any (A A' : Option Addr) (c c' : Nat) (L R : List (List Span)) (w : World) (h : RGs w A L.length L) (h' : RGs w A' R.length R) (hl : L.length ≤ 1000000) (hl' : R.length ≤ 1000000) (hs : ∀ l ∈ L, l.length ≤ 1099511627776) (hs' : ∀ l ∈ R, l.length ≤ 1099511627776) :
    Calls Try.prog 27 #[.slice A L.length c, .slice A' R.length c'] w (RetB (decide (L = R)) w) := by
  by_cases e : L.length = R.length
  · have H := Lib.hid h
    have H' := Lib.hid h'
    have HS := Lib.hid hs
    have HS' := Lib.hid hs'
    clear h h' hs hs'
    obtain ⟨n, hn⟩ : ∃ n, R.length = n := ⟨_, rfl⟩
    have hn2 : L.length = n := e.trans hn
    have hd : decide ((n : Int) = (n : Int)) = true := decide_eq_true rfl
    rw [hn2, hn]
    go_enter Try.func27, Try.ntmps27
    go_wp2_with (fail)
    go_loopw [5] (fun i wr => SmRel L R w i wr) (fun i _ => n - (intOf i).toNat)
    case atStart => exact ⟨0, Nat.zero_le _, rfl, fun j _ _ h => absurd h (by omega), Below.refl _ _⟩
    case round =>
      obtain ⟨k, hk, rfl, hsm, hb⟩ := hrel
      have HSM := Lib.hid hsm
      clear hsm
      by_cases hlt : k < n
      · obtain ⟨b1, off1, A1, c1, hA1, hb1, hc1, hr1, _, _⟩ := (H.out.belowM hb).at_ (k := k) (by omega)
        obtain ⟨b2, off2, A2, c2, hA2, hb2, hc2, hr2, _, _⟩ := (H'.out.belowM hb).at_ (k := k) (by omega)
        have hl1 := HS.out _ (List.getElem_mem (show k < L.length by omega))
        have hl2 := HS'.out _ (List.getElem_mem (show k < R.length by omega))
        have hdr : Below wr.heap.size wr wr.drew := (Below.refl _ _).drew
        obtain ⟨lk, hlk⟩ : ∃ lk, (L[k]'(by omega)) = lk := ⟨_, rfl⟩
        obtain ⟨rk, hrk⟩ : ∃ rk, (R[k]'(by omega)) = rk := ⟨_, rfl⟩
        rw [hlk] at hc1 hr1 hl1
        rw [hrk] at hc2 hr2 hl2
        have HC := Lib.hid (same_any A1 A2 lk.length rk.length c1 c2 lk rk wr.drew (hr1.belowM hdr) (hr2.belowM hdr) hl1 hl2)
        have HLK := Lib.hid hlk
        have HRK := Lib.hid hrk
        have HB := Lib.hid (hb.drew)
        rw [hA1, hA2]
        obtain ⟨n1, hn1⟩ : ∃ n1, lk.length = n1 := ⟨_, rfl⟩
        obtain ⟨n2, hn2'⟩ : ∃ n2, rk.length = n2 := ⟨_, rfl⟩
        rw [hn1] at hc1 HC
        rw [hn2'] at hc2 HC
        clear hA1 hA2 hr1 hr2 hlk hrk hn1 hn2' hb hl1 hl2
        have i1 : (0 : Int) ≤ (k : Int) := Int.natCast_nonneg _
        have i2 : (k : Int) < (n : Int) := by omega
        by_cases hq : lk = rk
        · rw [decide_eq_true hq] at HC
          have HQ := Lib.hid hq
          have HNX := Lib.hid (show ∀ (j : Nat) (h : j < L.length) (h' : j < R.length), j < k + 1 → L[j] = R[j] from fun j h h' hj => by
            by_cases ej : j = k
            · subst ej
              exact HLK.out.trans (HQ.out.trans HRK.out.symm)
            · exact HSM.out j h h' (by omega))
          clear hq
          go_wp2_with (fail)
          go_still_tail 8, (by kernel_rfl)
          change wpList _ _ _ _ _ wr.drew
          go_wp2_with (fail)
          refine HC.out.mono ?_
          rintro e w3 ⟨rfl, hb3⟩
          go_wp2_with (fail)
          go_roundw
          case rel => exact ⟨k + 1, by omega, by go_num, HNX.out, below_nextM HB.out hb3⟩
          case measure => simp [intOf]; omega
        · rw [decide_eq_false hq] at HC
          have HNE := Lib.hid (show decide (L = R) = false from decide_eq_false (fun q => hq (by subst q; exact HLK.out.symm.trans HRK.out)))
          clear hq
          go_wp2_with (fail)
          go_still_tail 8, (by kernel_rfl)
          change wpList _ _ _ _ _ wr.drew
          go_wp2_with (fail)
          refine HC.out.mono ?_
          rintro e w3 ⟨rfl, hb3⟩
          go_wp2_with (fail)
          go_ret
          exact ret_dec HNE.out (below_nextM HB.out hb3)
      · have HNE := Lib.hid (show decide (L = R) = true from decide_eq_true (List.ext_getElem (by omega) fun j h h' => HSM.out j h h' (by omega)))
        go_wp2_with (fail)
        go_ret
        exact ret_dec HNE.out hb
  · have hd : decide ((L.length : Int) = (R.length : Int)) = false := decide_eq_false (by omega)
    have hne : decide (L = R) = false := decide_eq_false (fun q => e (by rw [q]))
    clear h h' hs hs'
    go_enter Try.func27, Try.ntmps27
    go_wp2_with (fail)
    go_ret
    exact ret_dec hne (Below.refl _ _)
end Go.Proofs.Ytgmkchkaceciiaa.Mi
