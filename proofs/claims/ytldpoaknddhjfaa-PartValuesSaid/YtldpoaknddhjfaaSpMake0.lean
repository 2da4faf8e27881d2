/- The walk of ref.Make, where it is asked for the union. -/
import Derived.Test.YtldpoaknddhjfaaSpMake
namespace Go.Proofs.Ytldpoaknddhjfaa.Sp
set_option maxRecDepth 100000
open Go Go.RowKit

end Go.Proofs.Ytldpoaknddhjfaa.Sp
