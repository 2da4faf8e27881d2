import Derived.Test.YtoofgpoeheponaaGreatDoorProg
import Derived.Shelf.Spec.TrailingZeros
namespace Go.Proofs.YtoofgpoeheponaaGreatDoor.Fi
open Go Go.Shelf
def tzB_ren : Go.Shelf.Ren:=⟨fun | 27=>143 | 28=>159 | 29=>160 | n=>n,fun | 25=>143 | 3=>3 | 27=>167 | 22=>169 | 4=>4 | 53=>176 | 0=>0 | 5=>5 | 54=>177 | n=>n,fun | 0=>0 | 1=>1 | n=>n⟩
theorem tzB : Go.Proofs.Lays7.n27 Tryz.prog tzB_ren:={
 mixed:=by kernel_rfl
 f27:=Tryz.func143.trans (congrArg some (by kernel_rfl))
 f28:=Tryz.func159.trans (congrArg some (by kernel_rfl))
 f29:=Tryz.func160.trans (congrArg some (by kernel_rfl))
 t0:=Tryz.underlying0
 a0:=Tryz.isAgg0
 z0:=Tryz.sizeOf0
 v0:=Tryz.zeroValue0
 i0:=by kernel_rfl
 t3:=Tryz.underlying3
 a3:=Tryz.isAgg3
 z3:=Tryz.sizeOf3
 v3:=Tryz.zeroValue3
 i3:=by kernel_rfl
 t4:=Tryz.underlying4
 a4:=Tryz.isAgg4
 z4:=Tryz.sizeOf4
 v4:=Tryz.zeroValue4
 i4:=by kernel_rfl
 t5:=Tryz.underlying5
 a5:=Tryz.isAgg5
 z5:=Tryz.sizeOf5
 v5:=Tryz.zeroValue5
 i5:=by kernel_rfl
 t22:=Tryz.underlying169
 a22:=Tryz.isAgg169
 z22:=Tryz.sizeOf169
 v22:=Tryz.zeroValue169
 i22:=by kernel_rfl
 t25:=Tryz.underlying143
 a25:=Tryz.isAgg143
 z25:=Tryz.sizeOf143
 v25:=Tryz.zeroValue143
 i25:=by kernel_rfl
 t27:=Tryz.underlying167
 a27:=Tryz.isAgg167
 z27:=Tryz.sizeOf167
 v27:=Tryz.zeroValue167
 i27:=by kernel_rfl
 t53:=Tryz.underlying176
 a53:=Tryz.isAgg176
 z53:=Tryz.sizeOf176
 v53:=Tryz.zeroValue176
 i53:=by kernel_rfl
 t54:=Tryz.underlying177
 a54:=Tryz.isAgg177
 z54:=Tryz.sizeOf177
 g0:=by kernel_rfl
 g1:=by kernel_rfl }
end Go.Proofs.YtoofgpoeheponaaGreatDoor.Fi
