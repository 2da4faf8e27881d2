/- The numbers at which a library function lies in this translation: one table, and one theorem that each entry fits. -/
import Derived.Test.YtiddgfcoankpjaaGreatDoorProg
import Derived.Shelf.SlGeneric
import Derived.Shelf.SlLaysO
import Derived.Ground.SlsoProg
namespace Go.Proofs.YtiddgfcoankpjaaGreatDoor.Sp
open Go Go.Shelf
def searchSp_ren : Go.Shelf.Ren := ⟨fun | 16 => 111 | n => n, fun | 3 => 3 | 35 => 100 | 4 => 4 | 38 => 60 | n => n, fun | n => n⟩
theorem searchSp : Go.Proofs.SlLaysO.n16 Tryz.prog searchSp_ren := {
  mixed := by kernel_rfl
  f16 := Tryz.func111.trans (congrArg some (by kernel_rfl))
  t3 := Tryz.underlying3
  a3 := Tryz.isAgg3
  z3 := Tryz.sizeOf3
  v3 := Tryz.zeroValue3
  t4 := Tryz.underlying4
  a4 := Tryz.isAgg4
  z4 := Tryz.sizeOf4
  v4 := Tryz.zeroValue4
  t35 := Tryz.underlying100
  a35 := Tryz.isAgg100
  z35 := Tryz.sizeOf100
  v35 := Tryz.zeroValue100
  t38 := Tryz.underlying60
  a38 := Tryz.isAgg60
  z38 := Tryz.sizeOf60
  v38 := Tryz.zeroValue60 }
end Go.Proofs.YtiddgfcoankpjaaGreatDoor.Sp
