/- An operation of a drawn region that yields without doing anything is gone through first. -/
import Derived.OrdersHeld
import Derived.KernelRfl
namespace Go.Proofs.YtbdmcibcenhpnaaGreatDoor
open Go
theorem tk {P:Program} {md:Region.Mode} {ops:Array Oper} {Q:Exit → Act → World → Prop} {S:World → Prop} {fuel:Nat} {listed:Array Bool} {a:Act} {w:World} (i:Nat) (oi:Oper) (v:Value) (hi:ops[i]? = some oi) (hy:∀w, S w → (execOp a.eval oi).run P w = .ok (.value v) w) (h:wpAnyH P md ops Q S fuel (listed.setIfInBounds i true) (a.put oi.dst v) w)
    (hw:Region.wanted oi (yielded ops a.tmps)=true := by rfl) (hs:Region.noSelect ops=true := by kernel_rfl) (hf:Region.free md ops listed i=true := by kernel_rfl) (hr:(Region.ready md ops listed).contains i=true := by kernel_rfl) (hQ:∀c a w, Q (.panic c) (a.put oi.dst v) w → Q (.panic c) a w := by exact fun _ _ _ h => h) (hS:S w := by assumption):wpAnyH P md ops Q S (fuel+1) listed a w :=
  wpAnyH_take hi hs hf hr hQ (.inl ⟨hw, hy⟩) hS h
end Go.Proofs.YtbdmcibcenhpnaaGreatDoor
