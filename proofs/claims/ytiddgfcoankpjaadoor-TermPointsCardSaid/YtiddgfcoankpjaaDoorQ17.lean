/- The statements' helper gone: a range over span.Each. -/
import Derived.Test.YtiddgfcoankpjaaDoorQ14
import Derived.Test.YtiddgfcoankpjaaDoorQ16
import Derived.RangeFuncFrom
import Derived.RangeFuncBox
import Derived.RegionTactic
import Derived.BigRegion
import Derived.Deep.RegionWith
namespace Go.Proofs.YtiddgfcoankpjaaDoor.Sp
set_option maxRecDepth 100000
open Go Go.RowKit Go.Shelf
attribute [local go_sem] Oper.semAt_some

theorem boxed_below {A A' : World} {B K : Nat} {t : TypeId} {v : Value} (h : Boxed A B t v) (hb : Below K A A') (hk : B < K) : Boxed A' B t v := (hb.block B hk).trans h
end Go.Proofs.YtiddgfcoankpjaaDoor.Sp
