/- The walk of the reference's SameSets at two rows of the same sets. -/
import Derived.Test.YtjhgboncipnkeaaDoorUtSets
import Derived.StillTailTactics
namespace Go.Proofs.YtjhgboncipnkeaaDoor.Ut
set_option maxRecDepth 100000
open Go Go.RowKit Go.Shelf Go.Proofs.YtjhgboncipnkeaaDoor.Wo

def SsRel (n : Nat) (w : World) (i : Value) (wr : World) : Prop := ∃ k : Nat, k ≤ n ∧ i = .int .i64 k ∧ Below w.heap.size w wr
theorem RGp.at_ {p : Nat → Prop} {w : World} {A : Option Addr} {L : List (Int × Int)} (h : RGp p w A L) {k : Nat} (hk : k < L.length) : ∃ g off b, A = some ⟨g, off, none⟩ ∧ g < w.heap.size ∧ w.cell? ⟨g, off + k, none⟩ = some (oneV b) ∧ b < w.heap.size ∧ w.heap[b]? = some (spanB L[k]) ∧ Sp.RS w w.heap.size (some ⟨b, 0, none⟩) 1 [L[k]] := by
  obtain ⟨g, off, e, hp, hg, hc⟩ := h
  obtain ⟨b, hb, hbs, h1, h2⟩ := hc k hk
  exact ⟨g, off, b, e, hg, h1, hbs, h2, lit_span hbs h2⟩
set_option maxHeartbeats 2000000 in
theorem rsets_any (p q : Nat → Prop) (A A' : Option Addr) (c c' n : Nat) (L : List (Int × Int)) (hn : L.length = n) (w : World) (h : RGp p w A L) (h' : RGp q w A' L) (hl : n ≤ 1000) :
    Calls Tryd.prog 23 #[.slice A n c, .slice A' n c'] w (RetB true w) := by
  have H := Lib.hid h
  have H' := Lib.hid h'
  clear h h'
  have hd : decide ((n : Int) = (n : Int)) = true := decide_eq_true rfl
  go_enter Tryd.func23, Tryd.ntmps23
  go_wp2_with (fail)
  go_loopw [5] (fun i wr => SsRel n w i wr) (fun i _ => n - (intOf i).toNat)
  case atStart => exact ⟨0, Nat.zero_le _, rfl, Below.refl _ _⟩
  case round =>
    obtain ⟨k, hk, rfl, hb⟩ := hrel
    by_cases hlt : k < n
    · obtain ⟨g1, off1, b1, hA1, hg1, hc1, _, _, hr1⟩ := (H.out.below hb).at_ (k := k) (by omega)
      obtain ⟨g2, off2, b2, hA2, hg2, hc2, _, _, hr2⟩ := (H'.out.below hb).at_ (k := k) (by omega)
      have hdr : Below wr.heap.size wr wr.drew := (Below.refl _ _).drew
      obtain ⟨s, hs⟩ : ∃ s, (L[k]'(by omega)) = s := ⟨_, rfl⟩
      rw [hs] at hr1 hr2
      have HC := Lib.hid (Sp.same_any (some ⟨b1, 0, none⟩) (some ⟨b2, 0, none⟩) 1 1 1 1 [s] [s] wr.drew (hr1.belowM hdr) (hr2.belowM hdr) (by omega) (by omega))
      rw [decide_eq_true rfl] at HC
      have HB := Lib.hid (hb.drew)
      subst hA1 hA2
      clear hr1 hr2 hs hb
      have i1 : (0 : Int) ≤ (k : Int) := Int.natCast_nonneg _
      have i2 : (k : Int) < (n : Int) := by omega
      go_wp2_with (fail)
      go_still_tail 8, (by kernel_rfl)
      change wpList _ _ _ _ _ wr.drew
      go_wp2_with (fail)
      refine HC.out.mono ?_
      rintro e w3 ⟨rfl, hb3⟩
      go_wp2_with (fail)
      go_roundw
      case rel => exact ⟨k + 1, by omega, by go_num, HB.out.trans (hb3.mono HB.out.size)⟩
      case measure => simp [intOf]; omega
    · have HB := Lib.hid hb
      clear hb
      go_wp2_with (fail)
      go_ret
      exact ⟨rfl, HB.out⟩
end Go.Proofs.YtjhgboncipnkeaaDoor.Ut
