/- The numbers at which a library function lies in this translation: one table, and one theorem that each entry fits. -/
import Derived.Shelf.SlGeneric
import Derived.Shelf.SlLaysO
import Derived.Ground.SlsoProg
import Derived.Test.YtgmkchkaceciiaaProg
namespace Go.Proofs.Ytgmkchkaceciiaa.Sp
open Go Go.Shelf
def searchSp_ren : Go.Shelf.Ren := ⟨fun | 16 => 71 | n => n, fun | 3 => 3 | 35 => 103 | 4 => 4 | 38 => 57 | n => n, fun | n => n⟩
theorem searchSp : Go.Proofs.SlLaysO.n16 Try.prog searchSp_ren := {
  mixed := by kernel_rfl
  f16 := Try.func71.trans (congrArg some (by kernel_rfl))
  t3 := Try.underlying3
  a3 := Try.isAgg3
  z3 := Try.sizeOf3
  v3 := Try.zeroValue3
  t4 := Try.underlying4
  a4 := Try.isAgg4
  z4 := Try.sizeOf4
  v4 := Try.zeroValue4
  t35 := Try.underlying103
  a35 := Try.isAgg103
  z35 := Try.sizeOf103
  v35 := Try.zeroValue103
  t38 := Try.underlying57
  a38 := Try.isAgg57
  z38 := Try.sizeOf57
  v38 := Try.zeroValue57 }
end Go.Proofs.Ytgmkchkaceciiaa.Sp
