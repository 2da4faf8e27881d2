/- The numbers at which a library function lies in this translation: one table, and one theorem that each entry fits. -/
import Derived.Shelf.SlGeneric
import Derived.Shelf.SlLaysO
import Derived.Ground.SlsoProg
import Derived.Test.YtldpoaknddhjfaaProg
namespace Go.Proofs.Ytldpoaknddhjfaa.Sp
open Go Go.Shelf
def searchSp_ren : Go.Shelf.Ren := ⟨fun | 16 => 38 | n => n, fun | 3 => 3 | 35 => 51 | 4 => 4 | 38 => 30 | n => n, fun | n => n⟩
theorem searchSp : Go.Proofs.SlLaysO.n16 Try.prog searchSp_ren := {
  mixed := by kernel_rfl
  f16 := Try.func38.trans (congrArg some (by kernel_rfl))
  t3 := Try.underlying3
  a3 := Try.isAgg3
  z3 := Try.sizeOf3
  v3 := Try.zeroValue3
  t4 := Try.underlying4
  a4 := Try.isAgg4
  z4 := Try.sizeOf4
  v4 := Try.zeroValue4
  t35 := Try.underlying51
  a35 := Try.isAgg51
  z35 := Try.sizeOf51
  v35 := Try.zeroValue51
  t38 := Try.underlying30
  a38 := Try.isAgg30
  z38 := Try.sizeOf30
  v38 := Try.zeroValue30 }
end Go.Proofs.Ytldpoaknddhjfaa.Sp
