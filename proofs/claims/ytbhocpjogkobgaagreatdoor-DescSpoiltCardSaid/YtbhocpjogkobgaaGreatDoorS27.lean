import Derived.Test.YtbhocpjogkobgaaGreatDoorProg
import Derived.Shelf.Spec.TrailingZeros
import Derived.Ground.Names7Prog
namespace Go.Proofs.YtbhocpjogkobgaaGreatDoor.Fi
open Go Go.Shelf
def tzB_ren : Go.Shelf.Ren := ⟨fun | 27 => 145 | 28 => 161 | 29 => 162 | n => n, fun | 25 => 42 | 3 => 3 | 27 => 169 | 22 => 171 | 4 => 4 | 53 => 178 | 0 => 0 | 5 => 5 | 54 => 179 | n => n, fun | 0 => 0 | 1 => 1 | n => n⟩
theorem tzB : Go.Proofs.Lays7.n27 Tryz.prog tzB_ren := {
 mixed := by kernel_rfl
 f27 := Tryz.func145.trans (congrArg some (by kernel_rfl))
 f28 := Tryz.func161.trans (congrArg some (by kernel_rfl))
 f29 := Tryz.func162.trans (congrArg some (by kernel_rfl))
 t0 := Tryz.underlying0
 a0 := Tryz.isAgg0
 z0 := Tryz.sizeOf0
 v0 := Tryz.zeroValue0
 i0 := by kernel_rfl
 t3 := Tryz.underlying3
 a3 := Tryz.isAgg3
 z3 := Tryz.sizeOf3
 v3 := Tryz.zeroValue3
 i3 := by kernel_rfl
 t4 := Tryz.underlying4
 a4 := Tryz.isAgg4
 z4 := Tryz.sizeOf4
 v4 := Tryz.zeroValue4
 i4 := by kernel_rfl
 t5 := Tryz.underlying5
 a5 := Tryz.isAgg5
 z5 := Tryz.sizeOf5
 v5 := Tryz.zeroValue5
 i5 := by kernel_rfl
 t22 := Tryz.underlying171
 a22 := Tryz.isAgg171
 z22 := Tryz.sizeOf171
 v22 := Tryz.zeroValue171
 i22 := by kernel_rfl
 t25 := Tryz.underlying42
 a25 := Tryz.isAgg42
 z25 := Tryz.sizeOf42
 v25 := Tryz.zeroValue42
 i25 := by kernel_rfl
 t27 := Tryz.underlying169
 a27 := Tryz.isAgg169
 z27 := Tryz.sizeOf169
 v27 := Tryz.zeroValue169
 i27 := by kernel_rfl
 t53 := Tryz.underlying178
 a53 := Tryz.isAgg178
 z53 := Tryz.sizeOf178
 v53 := Tryz.zeroValue178
 i53 := by kernel_rfl
 t54 := Tryz.underlying179
 a54 := Tryz.isAgg179
 z54 := Tryz.sizeOf179
 g0 := by kernel_rfl
 g1 := by kernel_rfl }
end Go.Proofs.YtbhocpjogkobgaaGreatDoor.Fi
