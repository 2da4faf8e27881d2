/- The walks of span.Count, First, Last, At and Move. -/
import Derived.Test.YtldpoaknddhjfaaSpMinus
namespace Go.Proofs.Ytldpoaknddhjfaa.Sp
set_option maxRecDepth 100000
open Go Go.RowKit

def RetI (v : Int) (w : World) (e : Ending) (w' : World) : Prop := e = .returned (.int .i64 v) ∧ Below w.heap.size w w'
def RetIB (v : Int × Bool) (w : World) (e : Ending) (w' : World) : Prop := e = .returned (.tuple #[.int .i64 v.1, .bool v.2]) ∧ Below w.heap.size w w'
theorem ret_int {a b : Int} (h : a = b) : Ending.returned (.int .i64 a) = .returned (.int .i64 b) := by rw [h]
theorem ret_ib {a : Int} {b : Bool} {v : Int × Bool} (h : (a, b) = v) : Ending.returned (.tuple #[.int .i64 a, .bool b]) = .returned (.tuple #[.int .i64 v.1, .bool v.2]) := by rw [← h]
theorem cnt_take {p : List Span} {k : Nat} {lo hi : Int} (hk : ∃ hl : k < p.length, p[k] = (lo, hi)) : cnt (p.take (k + 1)) = cnt (p.take k) + (hi - lo + 1) := by
  obtain ⟨hl, e⟩ := hk
  rw [List.take_succ_eq_append_getElem hl, e, cnt_append]
  simp only [cnt]; omega

def CountRel (p : List Span) (w2 : World) (n i : Value) (wr : World) : Prop := ∃ k : Nat, k ≤ p.length ∧ i = .int .i64 k ∧ n = .int .i64 (cnt (p.take k)) ∧ Below w2.heap.size w2 wr
def fstP : List Span → Int × Bool
  | [] => (0, false)
  | p :: _ => (p.1, true)
def lstP (l : List Span) : Int × Bool := match l.getLast? with
  | none => (0, false)
  | some p => (p.2, true)
def nthB (p : List Span) (i : Int) : Int × Bool := if i < 0 then (0, false) else match nth p i with
  | none => (0, false)
  | some v => (v, true)
theorem nth_drop {p : List Span} {k : Nat} {lo hi i : Int} (hk : ∃ hl : k < p.length, p[k] = (lo, hi)) : nth (p.drop k) i = if i < hi - lo + 1 then some (lo + i) else nth (p.drop (k + 1)) (i - (hi - lo + 1)) := by
  obtain ⟨hl, e⟩ := hk
  rw [List.drop_eq_getElem_cons hl, e, nth]
def AtRel (p : List Span) (i0 : Int) (w2 : World) (v i : Value) (wr : World) : Prop := ∃ (k : Nat) (j : Int), k ≤ p.length ∧ i = .int .i64 k ∧ v = .int .i64 j ∧ 0 ≤ j ∧ j ≤ i0 ∧ nth p i0 = nth (p.drop k) j ∧ Below w2.heap.size w2 wr
def MoveRel (p : List Span) (d : Int) (w2 : World) (v i : Value) (wr : World) : Prop := ∃ (k : Nat) (o : List Span), k ≤ p.length ∧ i = .int .i64 k ∧ OwnsL wr w2.heap.size v o ∧ MoveInv p d k o ∧ Below w2.heap.size w2 wr
theorem move_next {p o : List Span} {d : Int} {k : Nat} {lo hi : Int} (h : MoveInv p d k o) (hp : Plain p) (hk : ∃ hl : k < p.length, p[k] = (lo, hi)) : MoveInv p d (k + 1) (putL o (lo + d) (hi + d)) := by
  obtain ⟨hl, e⟩ := hk
  have := h.next hp hl
  rw [e] at this
  exact this
theorem moved_none {l : List Span} {d : Int} (h : d < -2147483648 ∨ 2147483648 < d) : Is [] fun x => Rng x ∧ mem l (x - d) :=
  ⟨Plain.nil, fun x => ⟨fun hm => absurd hm (mem_nil x), fun ⟨h1, h2, _⟩ => by unfold Rng at h1 h2; omega⟩⟩
end Go.Proofs.Ytldpoaknddhjfaa.Sp
