/- The numbers at which a library function lies in this translation: one table, and one theorem that each entry fits. -/
import Derived.Test.YtiddgfcoankpjaaGreatDoorProg
import Derived.Shelf.Spec.TrailingZeros
import Derived.Ground.Names7Prog
namespace Go.Proofs.YtiddgfcoankpjaaGreatDoor.Fi
open Go Go.Shelf
def tzB_ren : Go.Shelf.Ren := ⟨fun | 27 => 151 | 28 => 166 | 29 => 167 | n => n, fun | 25 => 60 | 3 => 3 | 27 => 170 | 22 => 172 | 4 => 4 | 53 => 179 | 0 => 0 | 5 => 5 | 54 => 180 | n => n, fun | 0 => 0 | 1 => 1 | n => n⟩
theorem tzB : Go.Proofs.Lays7.n27 Tryz.prog tzB_ren := {
  mixed := by kernel_rfl
  f27 := Tryz.func151.trans (congrArg some (by kernel_rfl))
  f28 := Tryz.func166.trans (congrArg some (by kernel_rfl))
  f29 := Tryz.func167.trans (congrArg some (by kernel_rfl))
  t0 := Tryz.underlying0
  a0 := Tryz.isAgg0
  z0 := Tryz.sizeOf0
  v0 := Tryz.zeroValue0
  i0 := by kernel_rfl
  t3 := Tryz.underlying3
  a3 := Tryz.isAgg3
  z3 := Tryz.sizeOf3
  v3 := Tryz.zeroValue3
  i3 := by kernel_rfl
  t4 := Tryz.underlying4
  a4 := Tryz.isAgg4
  z4 := Tryz.sizeOf4
  v4 := Tryz.zeroValue4
  i4 := by kernel_rfl
  t5 := Tryz.underlying5
  a5 := Tryz.isAgg5
  z5 := Tryz.sizeOf5
  v5 := Tryz.zeroValue5
  i5 := by kernel_rfl
  t22 := Tryz.underlying172
  a22 := Tryz.isAgg172
  z22 := Tryz.sizeOf172
  v22 := Tryz.zeroValue172
  i22 := by kernel_rfl
  t25 := Tryz.underlying60
  a25 := Tryz.isAgg60
  z25 := Tryz.sizeOf60
  v25 := Tryz.zeroValue60
  i25 := by kernel_rfl
  t27 := Tryz.underlying170
  a27 := Tryz.isAgg170
  z27 := Tryz.sizeOf170
  v27 := Tryz.zeroValue170
  i27 := by kernel_rfl
  t53 := Tryz.underlying179
  a53 := Tryz.isAgg179
  z53 := Tryz.sizeOf179
  v53 := Tryz.zeroValue179
  i53 := by kernel_rfl
  t54 := Tryz.underlying180
  a54 := Tryz.isAgg180
  z54 := Tryz.sizeOf180
  g0 := by kernel_rfl
  g1 := by kernel_rfl }
end Go.Proofs.YtiddgfcoankpjaaGreatDoor.Fi
