/- The walk of the part statements' great. -/
import Derived.Test.YtfjghokjecdfgaaPaAwake
namespace Go.Proofs.Ytfjghokjecdfgaa.Pa
set_option maxRecDepth 100000
open Go Go.RowKit Go.Proofs.Ytfjghokjecdfgaa.Sp

theorem pgreat_any (A B : Option Addr) (n m c e : Nat) (b : Bool) (w : World) (hb : b = decide (50 < n ∨ 8 < m)) : Calls Try.prog 39 #[.slice A n c, .slice B m e] w (RetW (.bool b) w) := by
  have HB := Lib.hid hb
  clear hb
  by_cases h1 : 50 < n
  · go_enter Try.func39, Try.ntmps39
    go_wp2_with (fail)
    go_ret
    exact ⟨ret_bool (by rw [HB.out]; simp [h1]), rfl⟩
  · go_enter Try.func39, Try.ntmps39
    go_wp2_with (fail)
    go_ret
    exact ⟨ret_bool (by rw [HB.out, Bool.eq_iff_iff]; simp <;> omega), rfl⟩
end Go.Proofs.Ytfjghokjecdfgaa.Pa
