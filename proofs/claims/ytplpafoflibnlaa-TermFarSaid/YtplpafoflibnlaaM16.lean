/- The numbers at which a library function lies in this translation: one table, and one theorem that each entry fits. -/
import Derived.Test.YtplpafoflibnlaaProg
import Derived.Shelf.SlGeneric
import Derived.Shelf.SlLaysO
import Derived.Ground.SlsoProg
namespace Go.Proofs.Ytplpafoflibnlaa.Sp
open Go Go.Shelf
def searchSp_ren : Go.Shelf.Ren := ⟨fun | 16 => 92 | n => n, fun | 3 => 3 | 35 => 61 | 4 => 4 | 38 => 58 | n => n, fun | n => n⟩
theorem searchSp : Go.Proofs.SlLaysO.n16 Try.prog searchSp_ren := {
  mixed := by kernel_rfl
  f16 := Try.func92.trans (congrArg some (by kernel_rfl))
  t3 := Try.underlying3
  a3 := Try.isAgg3
  z3 := Try.sizeOf3
  v3 := Try.zeroValue3
  t4 := Try.underlying4
  a4 := Try.isAgg4
  z4 := Try.sizeOf4
  v4 := Try.zeroValue4
  t35 := Try.underlying61
  a35 := Try.isAgg61
  z35 := Try.sizeOf61
  v35 := Try.zeroValue61
  t38 := Try.underlying58
  a38 := Try.isAgg58
  z38 := Try.sizeOf58
  v38 := Try.zeroValue58 }
end Go.Proofs.Ytplpafoflibnlaa.Sp
