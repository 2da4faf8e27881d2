/- The numbers at which a library function lies in this translation: one table, and one theorem that each entry fits. -/
import Derived.Shelf.Utf8.AppendRunePlain
import Derived.Test.YtjhgboncipnkeaaDoorProg
namespace Go.Proofs.YtjhgboncipnkeaaDoor.Ut
open Go Go.Shelf
def appR_ren : Go.Shelf.Ren := ⟨fun | 242 => 25 | 278 => 34 | n => n, fun | 37 => 22 | 21 => 21 | 51 => 64 | 4 => 4 | 5 => 5 | 46 => 68 | n => n, fun | n => n⟩
theorem appR : Go.Proofs.Lays.n242 Tryd.prog appR_ren := {
  mixed := by kernel_rfl
  f242 := Tryd.func25.trans (congrArg some (by kernel_rfl))
  f278 := Tryd.func34.trans (congrArg some (by kernel_rfl))
  t4 := Tryd.underlying4
  a4 := Tryd.isAgg4
  z4 := Tryd.sizeOf4
  v4 := Tryd.zeroValue4
  t5 := Tryd.underlying5
  a5 := Tryd.isAgg5
  z5 := Tryd.sizeOf5
  v5 := Tryd.zeroValue5
  t21 := Tryd.underlying21
  a21 := Tryd.isAgg21
  z21 := Tryd.sizeOf21
  v21 := Tryd.zeroValue21
  t37 := Tryd.underlying22
  a37 := Tryd.isAgg22
  z37 := Tryd.sizeOf22
  v37 := Tryd.zeroValue22
  t46 := Tryd.underlying68
  a46 := Tryd.isAgg68
  z46 := Tryd.sizeOf68
  v46 := Tryd.zeroValue68
  t51 := Tryd.underlying64
  a51 := Tryd.isAgg64
  z51 := Tryd.sizeOf64
  v51 := Tryd.zeroValue64 }
end Go.Proofs.YtjhgboncipnkeaaDoor.Ut
