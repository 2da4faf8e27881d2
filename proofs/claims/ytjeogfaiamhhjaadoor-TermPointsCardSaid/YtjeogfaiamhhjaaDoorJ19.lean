/- The numbers at which a library function lies in this translation: one table, and one theorem that each entry fits. -/
import Derived.Test.YtjeogfaiamhhjaaDoorProg
import Derived.Shelf.Spec.TrailingZeros
import Derived.Ground.Names7Prog
namespace Go.Proofs.YtjeogfaiamhhjaaDoor.Fi
open Go Go.Shelf
def tzB_ren : Go.Shelf.Ren := ⟨fun | 27 => 67 | 28 => 75 | 29 => 76 | n => n, fun | 25 => 95 | 3 => 3 | 27 => 101 | 22 => 103 | 4 => 4 | 53 => 111 | 0 => 0 | 5 => 5 | 54 => 112 | n => n, fun | 0 => 0 | 1 => 1 | n => n⟩
theorem tzB : Go.Proofs.Lays7.n27 Tryd.prog tzB_ren := {
  mixed := by kernel_rfl
  f27 := Tryd.func67.trans (congrArg some (by kernel_rfl))
  f28 := Tryd.func75.trans (congrArg some (by kernel_rfl))
  f29 := Tryd.func76.trans (congrArg some (by kernel_rfl))
  t0 := Tryd.underlying0
  a0 := Tryd.isAgg0
  z0 := Tryd.sizeOf0
  v0 := Tryd.zeroValue0
  i0 := by kernel_rfl
  t3 := Tryd.underlying3
  a3 := Tryd.isAgg3
  z3 := Tryd.sizeOf3
  v3 := Tryd.zeroValue3
  i3 := by kernel_rfl
  t4 := Tryd.underlying4
  a4 := Tryd.isAgg4
  z4 := Tryd.sizeOf4
  v4 := Tryd.zeroValue4
  i4 := by kernel_rfl
  t5 := Tryd.underlying5
  a5 := Tryd.isAgg5
  z5 := Tryd.sizeOf5
  v5 := Tryd.zeroValue5
  i5 := by kernel_rfl
  t22 := Tryd.underlying103
  a22 := Tryd.isAgg103
  z22 := Tryd.sizeOf103
  v22 := Tryd.zeroValue103
  i22 := by kernel_rfl
  t25 := Tryd.underlying95
  a25 := Tryd.isAgg95
  z25 := Tryd.sizeOf95
  v25 := Tryd.zeroValue95
  i25 := by kernel_rfl
  t27 := Tryd.underlying101
  a27 := Tryd.isAgg101
  z27 := Tryd.sizeOf101
  v27 := Tryd.zeroValue101
  i27 := by kernel_rfl
  t53 := Tryd.underlying111
  a53 := Tryd.isAgg111
  z53 := Tryd.sizeOf111
  v53 := Tryd.zeroValue111
  i53 := by kernel_rfl
  t54 := Tryd.underlying112
  a54 := Tryd.isAgg112
  z54 := Tryd.sizeOf112
  g0 := by kernel_rfl
  g1 := by kernel_rfl }
end Go.Proofs.YtjeogfaiamhhjaaDoor.Fi
