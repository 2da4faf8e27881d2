import Derived.OrdersIn
import Derived.TacticsIn
import Derived.RangeFuncCalls
import Derived.Deep.RegionHeld
namespace Go.Proofs.YtbdmcibcenhpnaaGreatDoor.Ro
set_option maxRecDepth 100000
open Go
theorem Gj {P:Program} {o:Oper} {a:Act} {K:Act->World->Prop} {Q:Exit->Act->World->Prop} {l n:Nat} {r:Result Next} (h:o.upon P a K Q r):o.uponIn (Fence.wide.inRound l) n P a K Q r:=by
 cases r with
 | ok x w=>
  cases x with
  | value v=>exact h
  | skip=>exact h
  | defer d=>exact h
  | enter f args=>
   refine⟨fun hd=>?_,CallsIn.inRound l (callsIn_wide.2 h)⟩
   cases hd
  | row row args=>
   refine⟨fun hd=>?_,fun c cs _=>?_⟩
   ·cases hd
   ·obtain⟨v,w',hr,hs⟩:=h c cs
    exact⟨v,w',hr,stepsIn_wide.2 hs⟩
  | _=>exact False.elim h
 | halt x w=>
  cases x <;> first | exact h | exact False.elim h
theorem Ge {P:Program} {ops:Array Oper} {Q:Exit->Act->World->Prop} {l n i:Nat} {K K':Act->World->Prop} {a:Act} {w:World} (hd:∀(j:Nat) o c,ops[j]? = some o->o.op≠.defer c) (hq : ¬ LetsOut Q) (hk:∀a w,K a w->K' a w)
  (h:wpOp P ops Q i K a w):wpOpIn (Fence.wide.inRound l) n P ops Q i K' a w:=by
 unfold wpOp at h;unfold wpOpIn
 cases ho:ops[i]? with
 | none=>rw[ho]at h;exact hk _ _ h
 | some o=>
  rw[ho]at h;simp only at h ⊢;by_cases hw:Region.wanted o (yielded ops a.tmps)=true
  ·rw[if_pos hw]at h ⊢
   rcases h with h | h
   ·refine⟨fun _ _=>trivial,?_⟩
    have e:Oper.semAt (Fence.wide.inRound l).round a.eval o=execOp a.eval o:=Oper.semAt_some l a.eval o (fun c=>hd i o c ho);rw[e];exact Gj (Oper.wp_mono hk h)
   ·exact absurd h.2 hq
  ·rw[if_neg hw]at h ⊢
   exact⟨fun _ _=>trivial,hk _ _ h⟩
theorem tO {P:Program} {md:Region.Mode} {ops:Array Oper} {Q:Exit->Act->World->Prop} {l n:Nat} (hd:∀(j:Nat) o c,ops[j]? = some o->o.op≠.defer c) (hq : ¬ LetsOut Q) :
  ∀(fuel:Nat) (listed:Array Bool) (a:Act) (w:World),wpAny P md ops Q fuel listed a w->wpAnyIn (Fence.wide.inRound l) n P md ops Q fuel listed a w
 | 0,_,_,_,h=>h
 | fuel+1,_,_,_,h=>⟨h.1,fun i hi=>Ge hd hq (fun a' w' h'=>tO hd hq fuel _ a' w' h') (h.2 i hi)⟩
theorem mO {P:Program} {S:World->Prop} {id:Nat} {ops:Array Oper} {Q:Exit->Act->World->Prop} {l n:Nat} {a:Act} {w:World} (hm:P.follows .mixedOrders=true) (hd:∀(j:Nat) o c,ops[j]? = some o->o.op≠.defer c) (hq : ¬ LetsOut Q) (hS:S w.drew)
  (h:S w.drew->wpAnyH P .any ops Q S ops.size (Array.replicate ops.size false) a w.drew):(Code.region id ops true).wpIn (Fence.wide.inRound l) n P Q a w:=
 wpIn_region_any hm (tO hd hq _ _ _ _ (wpAny_of_held _ _ _ _ (h hS)))
def AJ:Oper->Bool:=fun o=>match o.op with | .defer _=>true | _=>false
theorem zZ {ops:Array Oper} (h:ops.all (fun o=>!AJ o)=true):∀(j:Nat) o c,ops[j]? = some o->o.op≠.defer c:=by
 intro j o c hj he;have hm:o∈ops:=Array.mem_of_getElem? hj;have:=Array.all_eq_true'.1 h o hm;simp[AJ,he]at this
end Go.Proofs.YtbdmcibcenhpnaaGreatDoor.Ro
