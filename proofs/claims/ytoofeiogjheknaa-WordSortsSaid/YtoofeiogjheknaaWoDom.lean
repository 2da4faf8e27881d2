/- The walks of word.Domain and ref.Domain. -/
import Derived.Test.YtoofeiogjheknaaWoAwake
import Derived.Test.YtoofeiogjheknaaWoSame
namespace Go.Proofs.Ytoofeiogjheknaa.Wo
open Go Go.RowKit

def domL (k : Int) : List (Int × Int) := if k = 1 then [(0, 255)] else if k = 2 then [(0, 55295), (57344, 1114111)] else []
def DomOut (k : Int) (w : World) (e : Ending) (w' : World) : Prop := ∃ A c, e = .returned (.slice A (domL k).length c) ∧ Sp.RS w' w'.heap.size A (domL k).length (domL k) ∧ Below w.heap.size w w'
theorem one_RS {w : World} : Sp.RS (w.alloc (.cells #[.int .i64 0, .int .i64 255] 52)) (w.alloc (.cells #[.int .i64 0, .int .i64 255] 52)).heap.size (some ⟨w.heap.size, 0, none⟩) 1 [(0, 255)] := by
  refine ⟨rfl, fun _ => ⟨w.heap.size, 0, rfl, by simp, fun j hj => ?_⟩⟩
  have : j = 0 := by simp at hj; exact hj
  subst this
  exact ⟨by simp, by simp⟩
theorem two_RS {w : World} : Sp.RS (w.alloc (.cells #[.int .i64 0, .int .i64 55295, .int .i64 57344, .int .i64 1114111] 52)) (w.alloc (.cells #[.int .i64 0, .int .i64 55295, .int .i64 57344, .int .i64 1114111] 52)).heap.size (some ⟨w.heap.size, 0, none⟩) 2 [(0, 55295), (57344, 1114111)] := by
  refine ⟨rfl, fun _ => ⟨w.heap.size, 0, rfl, by simp, fun j hj => ?_⟩⟩
  have : j = 0 ∨ j = 1 := by simp at hj; omega
  rcases this with rfl | rfl
  · exact ⟨by simp, by simp⟩
  · exact ⟨by simp, by simp⟩
set_option maxHeartbeats 400000 in
theorem domain_any (k : Int) (w : World) : Calls Try.prog 19 #[.int .i64 k] w (DomOut k w) := by
  by_cases k1 : k = 1
  · subst k1
    go_enter Try.func19, Try.ntmps19
    go_wp2_with (fail)
    go_ret
    exact ⟨_, 1, rfl, one_RS, (Below.refl _ _).alloc (Nat.le_refl _) _⟩
  · by_cases k2 : k = 2
    · subst k2
      go_enter Try.func19, Try.ntmps19
      go_wp2_with (fail)
      go_ret
      exact ⟨_, 2, rfl, two_RS, (Below.refl _ _).alloc (Nat.le_refl _) _⟩
    · have h1 : (k == 1) = false := by simpa using k1
      have h2 : (k == 2) = false := by simpa using k2
      have HV := Lib.hid (show domL k = [] by unfold domL; rw [if_neg k1, if_neg k2])
      clear k1 k2
      go_enter Try.func19, Try.ntmps19
      go_wp2_with (fail)
      go_ret
      exact ⟨none, 0, by rw [HV.out]; rfl, by rw [HV.out]; exact Sp.RS.nil_ _ _ _, Below.refl _ _⟩
set_option maxHeartbeats 400000 in
theorem rdomain_any (k : Int) (w : World) : Calls Try.prog 20 #[.int .i64 k] w (DomOut k w) := by
  by_cases k1 : k = 1
  · subst k1
    go_enter Try.func20, Try.ntmps20
    go_wp2_with (fail)
    go_ret
    exact ⟨_, 1, rfl, one_RS, (Below.refl _ _).alloc (Nat.le_refl _) _⟩
  · by_cases k2 : k = 2
    · subst k2
      go_enter Try.func20, Try.ntmps20
      go_wp2_with (fail)
      go_ret
      exact ⟨_, 2, rfl, two_RS, (Below.refl _ _).alloc (Nat.le_refl _) _⟩
    · have h1 : (k == 1) = false := by simpa using k1
      have h2 : (k == 2) = false := by simpa using k2
      have HV := Lib.hid (show domL k = [] by unfold domL; rw [if_neg k1, if_neg k2])
      clear k1 k2
      go_enter Try.func20, Try.ntmps20
      go_wp2_with (fail)
      go_ret
      exact ⟨none, 0, by rw [HV.out]; rfl, by rw [HV.out]; exact Sp.RS.nil_ _ _ _, Below.refl _ _⟩
end Go.Proofs.Ytoofeiogjheknaa.Wo
