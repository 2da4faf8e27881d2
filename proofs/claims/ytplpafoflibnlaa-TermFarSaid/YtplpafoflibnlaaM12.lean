/- The walks of the statements' helpers (great, awake, copied) and of ref.Norm. -/
import Derived.Test.YtplpafoflibnlaaM3
import Derived.Test.YtplpafoflibnlaaM11
import Derived.Laws.AppendOwnNone
namespace Go.Proofs.Ytplpafoflibnlaa.Sp
set_option maxRecDepth 100000
open Go Go.RowKit

/-- The slices' lengths in a list of slices, block g. -/
def Lens (w : World) (g : Nat) (ns : List Nat) : Prop := ∀ (j : Nat) (h : j < ns.length), ∃ A c, w.cell? ⟨g, j, none⟩ = some (.slice A ns[j] c)
attribute [local go_sem] span_guard span_eq
theorem inP0_nil (l : List Span) (x : Int) : (Rng x ∧ inP 0 (memB l x) (memB [] x) = true) ↔ mem l x := by
  rw [memB_false (mem_nil x)]
  have : inP 0 (memB l x) false = memB l x := by cases memB l x <;> rfl
  rw [this, memB_iff]
  exact ⟨fun h => h.2, fun h => ⟨h.1, h⟩⟩
set_option maxHeartbeats 400000 in
theorem rnorm_any (A : Option Addr) (n c : Nat) (l : List Span) (w : World) (h : RS w w.heap.size A n l) (hn : n ≤ 68719476736) :
    Calls Try.prog 36 #[.slice A n c] w (SetOut (mem l) w) := by
  have H := Lib.hid (rmake0 A none n 0 c 0 l [] w h (RS.nil_ _ _ _) hn (by omega))
  go_enter Try.func36, Try.ntmps36
  go_wp2_with (fail)
  refine H.out.mono ?_
  rintro e w1 ⟨v, out, rfl, his, ho, hb⟩
  have HI := Lib.hid his; clear his
  have HO := Lib.hid ho; clear ho
  go_wp2_with (fail)
  go_ret
  exact ⟨v, out, rfl, HI.out.congr (inP0_nil l), HO.out, hb⟩
end Go.Proofs.Ytplpafoflibnlaa.Sp
