import Derived.Test.YtoofgpoeheponaaGreatDoorProg
import Derived.Shelf.SlLaysO
namespace Go.Proofs.YtoofgpoeheponaaGreatDoor.Sp
open Go Go.Shelf
def searchSp_ren : Go.Shelf.Ren:=⟨fun | 16=>111 | n=>n,fun | 3=>3 | 35=>128 | 4=>4 | 38=>143 | n=>n,fun | n=>n⟩
theorem searchSp : Go.Proofs.SlLaysO.n16 Tryz.prog searchSp_ren:={
 mixed:=by kernel_rfl
 f16:=Tryz.func111.trans (congrArg some (by kernel_rfl))
 t3:=Tryz.underlying3
 a3:=Tryz.isAgg3
 z3:=Tryz.sizeOf3
 v3:=Tryz.zeroValue3
 t4:=Tryz.underlying4
 a4:=Tryz.isAgg4
 z4:=Tryz.sizeOf4
 v4:=Tryz.zeroValue4
 t35:=Tryz.underlying128
 a35:=Tryz.isAgg128
 z35:=Tryz.sizeOf128
 v35:=Tryz.zeroValue128
 t38:=Tryz.underlying143
 a38:=Tryz.isAgg143
 z38:=Tryz.sizeOf143
 v38:=Tryz.zeroValue143 }
end Go.Proofs.YtoofgpoeheponaaGreatDoor.Sp
