import Derived.Test.YtbdmcibcenhpnaaGreatDoorF4
import Derived.Deep.RegionLaw
namespace Go.Proofs.YtbdmcibcenhpnaaGreatDoor.Sh
set_option maxRecDepth 100000
open Go Go.RowKit Go.Maps Sp Pa Te
def RH (v:Value):Option (DataW Value×List MemPlace):=some (.held v,[])
theorem Lx:Keyed Tryz.prog 3:=int_keyed Tryz.underlying3
theorem Ln (w:World):(zeroValue 49).run Tryz.prog w = .ok (.slice none 0 0) w:=by kernel_rfl
theorem Ly {a:Int} (h1 : -9223372036854775808<=a) (h2:a<=9223372036854775807):keyOf Tryz.prog 3 (.int .i64 a)=some (.int .i64 a):=
 keyOf_int_mk Tryz.underlying3 (by simp[Lit.wf,IntKind.min,IntKind.max,IntKind.signed,IntKind.bits];omega)
theorem sI {W:World} {g n:Nat} {D:DataW Value} (h:W.ownsMap Tryz.prog 3 RH g n D) {a:Int} (h1 : -9223372036854775808<=a) (h2:a<=9223372036854775807) {v:Value} (hv:D.atKey (.int .i64 a) (.held (.slice none 0 0)) = .held v) :
  (Instr.lookup 130 (.map (some g)) (.int .i64 a) false).run Tryz.prog W = .ok v W:=by
 obtain⟨v',ps,hr,hR⟩:=h.lookup Lx Tryz.underlying130 (Ln W) (zd:=.held (.slice none 0 0)) (zp:=[]) rfl (Ly h1 h2);rw[hv]at hR;unfold RH at hR;injection hR with hR;injection hR with hR _;injection hR with hR;rw[hR]at hr;exact hr
end Go.Proofs.YtbdmcibcenhpnaaGreatDoor.Sh
