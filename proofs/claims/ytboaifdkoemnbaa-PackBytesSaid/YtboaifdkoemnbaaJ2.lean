/- Words for memory: a slice value that reads as a list of spans (two cells each), and how that is kept while memory grows. No function of the program is named here. -/
import Derived.Test.YtboaifdkoemnbaaJ1
import Derived.Below
import Derived.Laws.OwnMore
import Derived.Laws.AppendOwn
import Derived.Deep.Draws
import Derived.WideShapes
import Derived.OwnWalk
import Derived.Deep.AppendLies
namespace Go.Proofs.Ytboaifdkoemnbaa.Sp
set_option maxRecDepth 100000
open Go Go.RowKit

section
variable {w w' : World} {B B' n : Nat} {A : Option Addr} {l : List Span}
end
end Go.Proofs.Ytboaifdkoemnbaa.Sp
