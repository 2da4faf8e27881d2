/- The numbers at which a library function lies in this translation: one table, and one theorem that each entry fits. -/
import Derived.Test.YtiddgfcoankpjaaDoorProg
import Derived.Shelf.Spec.TrailingZeros
import Derived.Ground.Names7Prog
namespace Go.Proofs.YtiddgfcoankpjaaDoor.Fi
open Go Go.Shelf
def tzB_ren : Go.Shelf.Ren := ⟨fun | 27 => 73 | 28 => 81 | 29 => 82 | n => n, fun | 25 => 97 | 3 => 3 | 27 => 103 | 22 => 105 | 4 => 4 | 53 => 113 | 0 => 0 | 5 => 5 | 54 => 114 | n => n, fun | 0 => 0 | 1 => 1 | n => n⟩
theorem tzB : Go.Proofs.Lays7.n27 Tryd.prog tzB_ren := {
  mixed := by kernel_rfl
  f27 := Tryd.func73.trans (congrArg some (by kernel_rfl))
  f28 := Tryd.func81.trans (congrArg some (by kernel_rfl))
  f29 := Tryd.func82.trans (congrArg some (by kernel_rfl))
  t0 := Tryd.underlying0
  a0 := Tryd.isAgg0
  z0 := Tryd.sizeOf0
  v0 := Tryd.zeroValue0
  i0 := by kernel_rfl
  t3 := Tryd.underlying3
  a3 := Tryd.isAgg3
  z3 := Tryd.sizeOf3
  v3 := Tryd.zeroValue3
  i3 := by kernel_rfl
  t4 := Tryd.underlying4
  a4 := Tryd.isAgg4
  z4 := Tryd.sizeOf4
  v4 := Tryd.zeroValue4
  i4 := by kernel_rfl
  t5 := Tryd.underlying5
  a5 := Tryd.isAgg5
  z5 := Tryd.sizeOf5
  v5 := Tryd.zeroValue5
  i5 := by kernel_rfl
  t22 := Tryd.underlying105
  a22 := Tryd.isAgg105
  z22 := Tryd.sizeOf105
  v22 := Tryd.zeroValue105
  i22 := by kernel_rfl
  t25 := Tryd.underlying97
  a25 := Tryd.isAgg97
  z25 := Tryd.sizeOf97
  v25 := Tryd.zeroValue97
  i25 := by kernel_rfl
  t27 := Tryd.underlying103
  a27 := Tryd.isAgg103
  z27 := Tryd.sizeOf103
  v27 := Tryd.zeroValue103
  i27 := by kernel_rfl
  t53 := Tryd.underlying113
  a53 := Tryd.isAgg113
  z53 := Tryd.sizeOf113
  v53 := Tryd.zeroValue113
  i53 := by kernel_rfl
  t54 := Tryd.underlying114
  a54 := Tryd.isAgg114
  z54 := Tryd.sizeOf114
  g0 := by kernel_rfl
  g1 := by kernel_rfl }
end Go.Proofs.YtiddgfcoankpjaaDoor.Fi
