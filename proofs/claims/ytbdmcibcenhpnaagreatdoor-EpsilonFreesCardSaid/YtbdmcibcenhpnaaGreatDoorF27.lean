import Derived.Test.YtbdmcibcenhpnaaGreatDoorProg
import Derived.Shelf.SlLaysO
namespace Go.Proofs.YtbdmcibcenhpnaaGreatDoor.Sp
open Go Go.Shelf
def pW:Go.Shelf.Ren:=⟨fun | 16=>104 | n=>n,fun | 3=>3 | 35=>126 | 4=>4 | 38=>142 | n=>n,fun | n=>n⟩
theorem uf:Go.Proofs.SlLaysO.n16 Tryz.prog pW:={
 mixed:=by kernel_rfl
 f16:=Tryz.func104.trans (congrArg some (by kernel_rfl))
 t3:=Tryz.underlying3
 a3:=Tryz.isAgg3
 z3:=Tryz.sizeOf3
 v3:=Tryz.zeroValue3
 t4:=Tryz.underlying4
 a4:=Tryz.isAgg4
 z4:=Tryz.sizeOf4
 v4:=Tryz.zeroValue4
 t35:=Tryz.underlying126
 a35:=Tryz.isAgg126
 z35:=Tryz.sizeOf126
 v35:=Tryz.zeroValue126
 t38:=Tryz.underlying142
 a38:=Tryz.isAgg142
 z38:=Tryz.sizeOf142
 v38:=Tryz.zeroValue142 }
end Go.Proofs.YtbdmcibcenhpnaaGreatDoor.Sp
