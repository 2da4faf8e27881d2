/- The walks of ref.Count, ref.Nth, ref.At and ref.Move. -/
import Derived.Test.YtldpoaknddhjfaaSpHelp
import Derived.Deep.RegionHeld3
import Derived.Deep.AppendLies
import Derived.IntWalk
namespace Go.Proofs.Ytldpoaknddhjfaa.Sp
set_option maxRecDepth 100000
open Go Go.RowKit

def RCountRel (p : List Span) (w2 : World) (n i : Value) (wr : World) : Prop := ∃ k : Nat, k ≤ p.length ∧ i = .int .i64 k ∧ n = .int .i64 (cnt (p.take k)) ∧ Below w2.heap.size w2 wr
def RNthRel (p : List Span) (i0 : Int) (w2 : World) (v i : Value) (wr : World) : Prop := ∃ (k : Nat) (j : Int), k ≤ p.length ∧ i = .int .i64 k ∧ v = .int .i64 j ∧ j ≤ i0 ∧ (0 ≤ i0 → 0 ≤ j) ∧ (i0 < 0 → k = 0 ∧ j = i0) ∧ nth p i0 = nth (p.drop k) j ∧ Below w2.heap.size w2 wr
/-- A list of spans, each moved. -/
def shift (d : Int) (p : List Span) : List Span := p.map fun q => (q.1 + d, q.2 + d)
theorem shift_mem (d : Int) (p : List Span) (hp : Plain p) (x : Int) : mem (shift d p) x ↔ Rng x ∧ mem p (x - d) := by
  unfold mem shift
  constructor
  · rintro ⟨h, q, hq, h1, h2⟩
    obtain ⟨q', hq', rfl⟩ := List.mem_map.1 hq
    have := hp.2 q' hq'
    unfold Ok at this
    simp only at h1 h2
    exact ⟨h, by unfold Rng; omega, q', hq', by omega, by omega⟩
  · rintro ⟨h, _, q, hq, h1, h2⟩
    exact ⟨h, _, List.mem_map.2 ⟨q, hq, rfl⟩, by simp only; omega, by simp only; omega⟩
theorem shift_next {d lo hi : Int} {p : List Span} {k : Nat} (hk : ∃ hl : k < p.length, p[k] = (lo, hi)) : shift d (p.take (k + 1)) = shift d (p.take k) ++ [(lo + d, hi + d)] := by
  obtain ⟨hl, e⟩ := hk
  rw [List.take_succ_eq_append_getElem hl, e]
  simp [shift]
def RMoveRel (p : List Span) (d : Int) (w2 : World) (v i : Value) (wr : World) : Prop := ∃ k : Nat, k ≤ p.length ∧ i = .int .i64 k ∧ OwnsL wr w2.heap.size v (shift d (p.take k)) ∧ Below w2.heap.size w2 wr
theorem shift_len (d : Int) (p : List Span) (k : Nat) (hk : k ≤ p.length) : (shift d (p.take k)).length = k := by simp [shift]; omega
end Go.Proofs.Ytldpoaknddhjfaa.Sp
