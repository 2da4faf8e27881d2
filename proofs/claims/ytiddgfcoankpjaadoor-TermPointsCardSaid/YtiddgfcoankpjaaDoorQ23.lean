/- The numbers at which a library function lies in this translation: one table, and one theorem that each entry fits. -/
import Derived.Test.YtiddgfcoankpjaaDoorProg
import Derived.Shelf.SlGeneric
import Derived.Shelf.SlLaysO
import Derived.Ground.SlsoProg
namespace Go.Proofs.YtiddgfcoankpjaaDoor.Sp
open Go Go.Shelf
def searchSp_ren : Go.Shelf.Ren := ⟨fun | 16 => 68 | n => n, fun | 3 => 3 | 35 => 53 | 4 => 4 | 38 => 97 | n => n, fun | n => n⟩
theorem searchSp : Go.Proofs.SlLaysO.n16 Tryd.prog searchSp_ren := {
  mixed := by kernel_rfl
  f16 := Tryd.func68.trans (congrArg some (by kernel_rfl))
  t3 := Tryd.underlying3
  a3 := Tryd.isAgg3
  z3 := Tryd.sizeOf3
  v3 := Tryd.zeroValue3
  t4 := Tryd.underlying4
  a4 := Tryd.isAgg4
  z4 := Tryd.sizeOf4
  v4 := Tryd.zeroValue4
  t35 := Tryd.underlying53
  a35 := Tryd.isAgg53
  z35 := Tryd.sizeOf53
  v35 := Tryd.zeroValue53
  t38 := Tryd.underlying97
  a38 := Tryd.isAgg97
  z38 := Tryd.sizeOf97
  v38 := Tryd.zeroValue97 }
end Go.Proofs.YtiddgfcoankpjaaDoor.Sp
