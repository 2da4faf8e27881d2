/- The walk of span.cut: it lays what a plain list leaves of a span behind another list. -/
import Derived.Test.YtldpoaknddhjfaaSpPut
namespace Go.Proofs.Ytldpoaknddhjfaa.Sp
set_option maxRecDepth 100000
open Go Go.RowKit

def CutRel (base : Nat) (xs q : List Span) (lo hi : Int) (w : World) (s0 s7 i : Value) (wr : World) : Prop :=
  ∃ (k : Nat) (cur : List Span) (lo' : Int), k ≤ q.length ∧ i = .int .i64 k ∧ s7 = .int .i64 lo' ∧ OwnsL wr base s0 cur ∧ cutL hi lo xs q = cutL hi lo' cur (q.drop k) ∧ cur.length ≤ xs.length + k ∧
    Below base w wr ∧ wr.cell? ⟨w.heap.size, 1, none⟩ = some (.int .i64 hi) ∧ s0.ownBlock ≠ some w.heap.size ∧ w.heap.size < wr.heap.size
theorem cut_at {q : List Span} {k : Nat} {a b hi lo : Int} {cur : List Span} (hk : ∃ hl : k < q.length, q[k] = (a, b)) : cutL hi lo cur (q.drop k) = if hi < a then putL cur lo hi else cutL hi (b + 1) (putL cur lo (a - 1)) (q.drop (k + 1)) := by
  obtain ⟨hl, e⟩ := hk
  rw [cutL_drop hl, e]
theorem ok_at {q : List Span} {k : Nat} {a b : Int} (hq : Plain q) (hk : ∃ hl : k < q.length, q[k] = (a, b)) : a ≤ b ∧ -1073741824 ≤ a ∧ b ≤ 1073741824 := by
  obtain ⟨hl, e⟩ := hk
  have := (hq.at_ hl).1
  rw [e] at this
  exact this

end Go.Proofs.Ytldpoaknddhjfaa.Sp
