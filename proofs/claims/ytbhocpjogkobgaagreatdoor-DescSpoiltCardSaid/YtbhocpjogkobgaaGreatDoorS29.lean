import Derived.Test.YtbhocpjogkobgaaGreatDoorProg
import Derived.Shelf.SlGeneric
import Derived.Shelf.SlLaysO
import Derived.Ground.SlsoProg
namespace Go.Proofs.YtbhocpjogkobgaaGreatDoor.Sp
open Go Go.Shelf
def searchSp_ren : Go.Shelf.Ren := ⟨fun | 16 => 110 | n => n, fun | 3 => 3 | 35 => 131 | 4 => 4 | 38 => 42 | n => n, fun | n => n⟩
theorem searchSp : Go.Proofs.SlLaysO.n16 Tryz.prog searchSp_ren := {
 mixed := by kernel_rfl
 f16 := Tryz.func110.trans (congrArg some (by kernel_rfl))
 t3 := Tryz.underlying3
 a3 := Tryz.isAgg3
 z3 := Tryz.sizeOf3
 v3 := Tryz.zeroValue3
 t4 := Tryz.underlying4
 a4 := Tryz.isAgg4
 z4 := Tryz.sizeOf4
 v4 := Tryz.zeroValue4
 t35 := Tryz.underlying131
 a35 := Tryz.isAgg131
 z35 := Tryz.sizeOf131
 v35 := Tryz.zeroValue131
 t38 := Tryz.underlying42
 a38 := Tryz.isAgg42
 z38 := Tryz.sizeOf42
 v38 := Tryz.zeroValue42 }
end Go.Proofs.YtbhocpjogkobgaaGreatDoor.Sp
