/- The walks of the statements' helpers (great, awake, copied) and of ref.Norm. -/
import Derived.Test.YtldpoaknddhjfaaSpMake0
import Derived.Test.YtldpoaknddhjfaaSpNums
import Derived.Test.YtldpoaknddhjfaaSpClone
import Derived.Test.YtldpoaknddhjfaaSpAsk
import Derived.Laws.AppendOwnNone
namespace Go.Proofs.Ytldpoaknddhjfaa.Sp
set_option maxRecDepth 100000
open Go Go.RowKit

/-- The slices' lengths in a list of slices, block g. -/
def Lens (w : World) (g : Nat) (ns : List Nat) : Prop := ∀ (j : Nat) (h : j < ns.length), ∃ A c, w.cell? ⟨g, j, none⟩ = some (.slice A ns[j] c)
theorem lit_RS {w : World} {g B : Nat} {lo hi : Int} (hg : g < B) (h : w.heap[g]? = some (.cells #[.int .i64 lo, .int .i64 hi] 38)) : RS w B (some ⟨g, 0, none⟩) 1 [(lo, hi)] := by
  refine ⟨rfl, fun _ => ⟨g, 0, rfl, hg, fun j hj => ?_⟩⟩
  have : j = 0 := by simp at hj; exact hj
  subst this
  have hb : Blk w g 38 #[.int .i64 lo, .int .i64 hi] := h
  exact ⟨hb.cell 0, hb.cell 1⟩
theorem awake_set : Is [(0, 2), (5, 9)] fun x => mem [(0, 9)] x ∧ ¬ mem [(3, 4)] x := by
  refine ⟨⟨by simp, by simp [Ok]⟩, fun x => ?_⟩
  show mem ([(0, 2)] ++ [(5, 9)]) x ↔ (mem [(0, 9)] x ∧ ¬ mem [(3, 4)] x)
  rw [mem_append, mem_one, mem_one, mem_one, mem_one]
  unfold Rng
  simp only
  omega
attribute [local go_sem] span_guard span_eq
def CopyOut (l : List Span) (w : World) (e : Ending) (w' : World) : Prop := ∃ A c, e = .returned (.slice A l.length c) ∧ l.length ≤ c ∧ RS w' w'.heap.size A l.length l ∧ Below w.heap.size w w'
theorem inP0_nil (l : List Span) (x : Int) : (Rng x ∧ inP 0 (memB l x) (memB [] x) = true) ↔ mem l x := by
  rw [memB_false (mem_nil x)]
  have : inP 0 (memB l x) false = memB l x := by cases memB l x <;> rfl
  rw [this, memB_iff]
  exact ⟨fun h => h.2, fun h => ⟨h.1, h⟩⟩
end Go.Proofs.Ytldpoaknddhjfaa.Sp
