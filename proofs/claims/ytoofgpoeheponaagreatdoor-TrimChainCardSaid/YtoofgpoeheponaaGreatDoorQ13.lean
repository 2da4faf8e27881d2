import Derived.Test.YtoofgpoeheponaaGreatDoorRows
import Derived.Test.YtoofgpoeheponaaGreatDoorQ12
import Derived.ProofKit
import Derived.OpenShut
import Derived.Deep.SlicePairs
set_option maxRecDepth 100000
namespace Go.Proofs.YtoofgpoeheponaaGreatDoor.Sp
open Go Go.RowKit Go.ChangeShapes Go.WideShapes Go.ChangeAt Go.Deep
theorem own : ownKnob Tryz.prog.godebug = none := by kernel_rfl
theorem laidOut : laidOutB Tryz.prog = true := by kernel_rfl
theorem kept {H : Type} {enc : TypeId × Value → H} {W W' : World} {t : TypeId} {v : Value} {d : DataW H} {p : List MemPlace} (hr : Tryz.prog.readableRec t = true) (ht : t < Tryz.prog.types.size) (h : DataW.Trod enc Tryz.prog W 0 (fun _ => true) true t v d p) (hb : Below W.heap.size W W') (hlt : ∀ x ∈ p, x.block < W.heap.size) :
  DataW.Trod enc Tryz.prog W' 0 (fun b => decide (b < W.heap.size)) true t v d p := Below.trod laidOut hr ht h hb hlt
end Go.Proofs.YtoofgpoeheponaaGreatDoor.Sp
namespace Go.Proofs.YtoofgpoeheponaaGreatDoor.Mi
open Go Go.RowKit Go.ChangeShapes Go.WideShapes Go.ChangeAt Go.Deep Sp
end Go.Proofs.YtoofgpoeheponaaGreatDoor.Mi
