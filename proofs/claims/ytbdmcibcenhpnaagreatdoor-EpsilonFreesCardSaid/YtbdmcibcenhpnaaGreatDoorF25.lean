import Derived.Test.YtbdmcibcenhpnaaGreatDoorProg
import Derived.Shelf.Spec.TrailingZeros
namespace Go.Proofs.YtbdmcibcenhpnaaGreatDoor.Fi
open Go Go.Shelf
def Gl:Go.Shelf.Ren:=⟨fun | 27=>136 | 28=>152 | 29=>153 | n=>n,fun | 25=>142 | 3=>3 | 27=>166 | 22=>168 | 4=>4 | 53=>175 | 0=>0 | 5=>5 | 54=>176 | n=>n,fun | 0=>0 | 1=>1 | n=>n⟩
theorem tzB:Go.Proofs.Lays7.n27 Tryz.prog Gl:={
 mixed:=by kernel_rfl
 f27:=Tryz.func136.trans (congrArg some (by kernel_rfl))
 f28:=Tryz.func152.trans (congrArg some (by kernel_rfl))
 f29:=Tryz.func153.trans (congrArg some (by kernel_rfl))
 t0:=Tryz.underlying0
 a0:=Tryz.isAgg0
 z0:=Tryz.sizeOf0
 v0:=Tryz.zeroValue0
 i0:=by kernel_rfl
 t3:=Tryz.underlying3
 a3:=Tryz.isAgg3
 z3:=Tryz.sizeOf3
 v3:=Tryz.zeroValue3
 i3:=by kernel_rfl
 t4:=Tryz.underlying4
 a4:=Tryz.isAgg4
 z4:=Tryz.sizeOf4
 v4:=Tryz.zeroValue4
 i4:=by kernel_rfl
 t5:=Tryz.underlying5
 a5:=Tryz.isAgg5
 z5:=Tryz.sizeOf5
 v5:=Tryz.zeroValue5
 i5:=by kernel_rfl
 t22:=Tryz.underlying168
 a22:=Tryz.isAgg168
 z22:=Tryz.sizeOf168
 v22:=Tryz.zeroValue168
 i22:=by kernel_rfl
 t25:=Tryz.underlying142
 a25:=Tryz.isAgg142
 z25:=Tryz.sizeOf142
 v25:=Tryz.zeroValue142
 i25:=by kernel_rfl
 t27:=Tryz.underlying166
 a27:=Tryz.isAgg166
 z27:=Tryz.sizeOf166
 v27:=Tryz.zeroValue166
 i27:=by kernel_rfl
 t53:=Tryz.underlying175
 a53:=Tryz.isAgg175
 z53:=Tryz.sizeOf175
 v53:=Tryz.zeroValue175
 i53:=by kernel_rfl
 t54:=Tryz.underlying176
 a54:=Tryz.isAgg176
 z54:=Tryz.sizeOf176
 g0:=by kernel_rfl
 g1:=by kernel_rfl }
end Go.Proofs.YtbdmcibcenhpnaaGreatDoor.Fi
