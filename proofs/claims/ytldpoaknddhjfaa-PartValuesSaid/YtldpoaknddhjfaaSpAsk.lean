/- The walks of ref.Has, span.Has and ref.Same: whether a number is in a set; whether two lists are the same. -/
import Derived.Test.YtldpoaknddhjfaaSpCheck
namespace Go.Proofs.Ytldpoaknddhjfaa.Sp
set_option maxRecDepth 100000
open Go Go.RowKit

noncomputable def memB (l : List Span) (x : Int) : Bool := @decide (mem l x) (Classical.propDecidable _)
theorem memB_true {l : List Span} {x : Int} (h : mem l x) : memB l x = true := by unfold memB; simpa using h
theorem memB_false {l : List Span} {x : Int} (h : ¬ mem l x) : memB l x = false := by unfold memB; simpa using h
theorem memB_iff {l : List Span} {x : Int} : memB l x = true ↔ mem l x := by unfold memB; simp
theorem mem_take_next {l : List Span} {k : Nat} {lo hi x : Int} (hk : ∃ hl : k < l.length, l[k] = (lo, hi)) : mem (l.take (k + 1)) x ↔ mem (l.take k) x ∨ (Rng x ∧ lo ≤ x ∧ x ≤ hi) := by
  obtain ⟨hl, e⟩ := hk
  rw [mem_take_succ hl, e]
theorem mem_here {l : List Span} {k : Nat} {lo hi x : Int} (hk : ∃ hl : k < l.length, l[k] = (lo, hi)) (hx : Rng x) (h1 : lo ≤ x) (h2 : x ≤ hi) : true = memB l x := by
  obtain ⟨hl, e⟩ := hk
  exact (memB_true ⟨hx, _, List.getElem_mem hl, by rw [e]; exact h1, by rw [e]; exact h2⟩).symm
theorem mem_on {l : List Span} {k : Nat} {lo hi x : Int} (hk : ∃ hl : k < l.length, l[k] = (lo, hi)) (hn : ¬ mem (l.take k) x) (h : lo ≤ x → x ≤ hi → ¬ Rng x) : ¬ mem (l.take (k + 1)) x := by
  rw [mem_take_next hk]
  rintro (h1 | ⟨h1, h2, h3⟩)
  · exact hn h1
  · exact h h2 h3 h1
theorem mem_out {l : List Span} {x : Int} (h : ¬ Rng x) : false = memB l x := (memB_false fun hm => h hm.1).symm

def RetW (v : Value) (w : World) (e : Ending) (w' : World) : Prop := e = .returned v ∧ w = w'
def HasRel (l : List Span) (x : Int) (n : Nat) (i : Value) : Prop := ∃ k : Nat, k ≤ n ∧ i = .int .i64 k ∧ ¬ mem (l.take k) x

def HasRelW (l : List Span) (x : Int) (n : Nat) (w : World) (i : Value) (wr : World) : Prop := ∃ k : Nat, k ≤ n ∧ i = .int .i64 k ∧ ¬ mem (l.take k) x ∧ Below w.heap.size w wr

theorem span_guardType : Try.prog.eqGuardType Try.prog.depth 38 = false := by kernel_rfl
theorem span_guard (w : World) (op : BinOp) (x y : Operand) (xs ys : Array Value) : (eqGuard op 38 x y (.agg xs) (.agg ys)).run Try.prog w = .ok () w := run_eqGuard_agg w op _ x y xs ys span_guardType
theorem span_eq (w : World) (p q r s : Int) : (Op.equalIn 10000 38 (.agg #[.int .i64 p, .int .i64 q]) (.agg #[.int .i64 r, .int .i64 s])).run Try.prog w = .ok (p == r && q == s) w := by
  have u3 := Try.underlying3
  have a3 := Try.isAgg3
  have z3 := Try.sizeOf3
  have hS : Try.prog.underlying 38 = some (.struct (Try.prog.fieldsOf 38)) := by kernel_rfl
  have hp : Try.prog.stoodInHeld 38 = false := by kernel_rfl
  rw [show (10000 : Nat) = 9999 + 1 from rfl, run_equalIn_agg w 9999 38 _ _ hS hp]
  simp only [Program.fieldsOf, Try.underlying38]
  go_simp
  by_cases h1 : p = r <;> by_cases h2 : q = s <;> simp [h1, h2]
attribute [local go_sem] span_guard span_eq

def SameRel (l r : List Span) (n : Nat) (w : World) (i : Value) (wr : World) : Prop := ∃ k : Nat, k ≤ n ∧ i = .int .i64 k ∧ l.take k = r.take k ∧ Below w.heap.size w wr
theorem same_not {l r : List Span} {k : Nat} {p q : Int × Int} (hk : ∃ hl : k < l.length, l[k] = p) (hk' : ∃ hl : k < r.length, r[k] = q) (h : p ≠ q) : false = decide (l = r) := by
  obtain ⟨hl, e⟩ := hk
  obtain ⟨hr, e'⟩ := hk'
  refine (decide_eq_false fun he => ?_).symm
  subst he
  exact h (e.symm.trans e')
theorem same_next {l r : List Span} {k : Nat} {p q : Int × Int} (hk : ∃ hl : k < l.length, l[k] = p) (hk' : ∃ hl : k < r.length, r[k] = q) (h : p = q) (ht : l.take k = r.take k) : l.take (k + 1) = r.take (k + 1) := by
  obtain ⟨hl, e⟩ := hk
  obtain ⟨hr, e'⟩ := hk'
  rw [List.take_succ_eq_append_getElem hl, List.take_succ_eq_append_getElem hr, ht, e, e', h]

end Go.Proofs.Ytldpoaknddhjfaa.Sp
