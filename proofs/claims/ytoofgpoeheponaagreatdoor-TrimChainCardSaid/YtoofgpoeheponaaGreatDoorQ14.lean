import Derived.Test.YtoofgpoeheponaaGreatDoorQ5
import Derived.Test.YtoofgpoeheponaaGreatDoorQ13
namespace Go.Proofs.YtoofgpoeheponaaGreatDoor.De
set_option maxRecDepth 100000
open Go Go.RowKit Go.Joins Go.ChangeShapes Go.WideShapes Go.ChangeAt Go.Deep Sp Pa Te Mi
section
variable {H : Type} {enc : TypeId × Value → H} {W : World} {t : TypeId} {fs : Array Field} {fuel : Nat} {cs : List Value} {x : DataW H × List MemPlace}
end
section
variable {H : Type} {enc : TypeId × Value → H} {W : World} {fuel : Nat} {v : Value} {x : DataW H × List MemPlace}
end
end Go.Proofs.YtoofgpoeheponaaGreatDoor.De
