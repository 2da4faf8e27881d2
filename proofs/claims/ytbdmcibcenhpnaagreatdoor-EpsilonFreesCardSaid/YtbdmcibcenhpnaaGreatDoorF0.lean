/- Short names of lemmas on lists and arrays. -/
import Derived.Below
namespace Go.Proofs.YtbdmcibcenhpnaaGreatDoor
theorem sA {α:Type} (l:List α) (i:Nat) (a:α):l.toArray.setIfInBounds i a=(l.set i a).toArray := List.setIfInBounds_toArray l i a
theorem sB {α:Type} {a b:α} {l:List α} : (a::l).set 0 b=b::l := List.set_cons_zero
theorem sC {α:Type} {a b:α} {l:List α} {i:Nat} : (a::l).set (i+1) b=a::l.set i b := List.set_cons_succ
theorem sD {α:Type} {l:List α} {i:Nat} : l.toArray[i]? = l[i]? := List.getElem?_toArray
theorem sE {α:Type} {a:α} {l:List α} : (a::l)[0]? = some a := List.getElem?_cons_zero
theorem sF {α:Type} {a:α} {l:List α} {i:Nat} : (a::l)[i+1]? = l[i]? := List.getElem?_cons_succ
end Go.Proofs.YtbdmcibcenhpnaaGreatDoor
