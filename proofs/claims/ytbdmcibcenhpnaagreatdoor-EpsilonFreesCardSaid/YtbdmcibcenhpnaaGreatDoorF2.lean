import Derived.Test.YtbdmcibcenhpnaaGreatDoorF1
import Derived.Below
import Derived.Deep.Draws
import Derived.OwnWalk
import Derived.Deep.AppendLies
namespace Go.Proofs.YtbdmcibcenhpnaaGreatDoor.Sp
set_option maxRecDepth 100000
open Go Go.RowKit
def vw (p:Span):List Value:=[.int .i64 p.1,.int .i64 p.2]
def flat (l:List Span):List Value:=l.flatMap vw
theorem qO (p:Span) (l:List Span):flat (p::l) = .int .i64 p.1 :: .int .i64 p.2::flat l:=rfl
theorem aA (l r:List Span):flat (l++r)=flat l++flat r:=List.flatMap_append
theorem aH (l:List Span):(flat l).length=l.length*2:=by
 induction l with
 | nil=>rfl
 | cons p l ih=>rw[qO];simp only[List.length_cons];omega
theorem cZ:∀(l:List Span) (j:Nat) (h:j<l.length),(flat l)[2*j]? = some (.int .i64 l[j].1)/\(flat l)[2*j+1]? = some (.int .i64 l[j].2):=by
 intro l
 induction l with
 | nil=>intro j h;simp at h
 | cons p l ih=>
  intro j h
  cases j with
  | zero=>exact⟨rfl,rfl⟩
  | succ j=>
   have:=ih j (by simpa using h);rw[qO];rw[show 2*(j+1)=2*j+1+1 from by omega];simpa using this
def RS (w:World) (B:Nat) (A:Option Addr) (n:Nat) (l:List Span):Prop:=
 l.length=n/\(0<n->∃b off,A=some ⟨b,off,none⟩/\b<B/\∀(j:Nat) (h:j<l.length),w.cell? ⟨b,off+j*2,none⟩=some (.int .i64 l[j].1)/\w.cell? ⟨b,off+j*2+1,none⟩=some (.int .i64 l[j].2))
section
variable {w w':World} {B B' n:Nat} {A:Option Addr} {l:List Span}
theorem RS.dS (w:World) (B:Nat) (A:Option Addr):RS w B A 0 []:=⟨rfl,fun h=>absurd h (by omega)⟩
theorem RS.at_ {k:Nat} (h:RS w B A n l) (hk:k<n):∃b off,∃lo hi:Int,A=some ⟨b,off,none⟩/\b<B/\(∃hl:k<l.length,l[k]=(lo,hi))/\w.cell? ⟨b,off+k*2,none⟩=some (.int .i64 lo)/\w.cell? ⟨b,off+k*2+1,none⟩=some (.int .i64 hi):=by
 obtain⟨b,off,e,hb,hc⟩:=h.2 (by omega);have hl:k<l.length:=by have:=h.1;omega
 exact⟨b,off,l[k].1,l[k].2,e,hb,⟨hl,rfl⟩,(hc k hl).1,(hc k hl).2⟩
theorem RS.keep (h:RS w B A n l) (hk:∀p:Addr,p.block<B->w'.cell? p=w.cell? p):RS w' B A n l:=
 ⟨h.1,fun hn=>by
  obtain⟨b,off,e,hb,hc⟩:=h.2 hn;exact⟨b,off,e,hb,fun j hj=>⟨(hk _ hb).trans (hc j hj).1,(hk _ hb).trans (hc j hj).2⟩⟩⟩
theorem RS.more (h:RS w B A n l) (hB:B<=B'):RS w B' A n l:=
 ⟨h.1,fun hn=>by
  obtain⟨b,off,e,hb,hc⟩:=h.2 hn;exact⟨b,off,e,by omega,hc⟩⟩
theorem RS.below (h:RS w B A n l) (hb:Below B w w'):RS w' B A n l:=h.keep fun _ hp=>hb.cell hp
theorem RS.ah (h:RS w w.heap.size A n l) (hb:Below w.heap.size w w'):RS w' w'.heap.size A n l:=(h.below hb).more hb.size
theorem RS.iV {base:Nat} {e:TypeId} {c:Nat} (h:w.ownsRow base e 2 (.slice A n c) n (flat l)):RS w w.heap.size A n l:=by
 have hlen:l.length=n:=by have:=h.1;rw[aH]at this;omega
 refine⟨hlen,fun hn=>?_⟩;obtain⟨g,cap,hv,_,hlt⟩:=h.form hn;have hA:A=some ⟨g,0,none⟩:=by injection hv
 subst hA;refine⟨g,0,rfl,hlt,fun j hj=>?_⟩;have h1:=h.cells (g:=g) rfl (2*j) _ (cZ l j hj).1;have h2:=h.cells (g:=g) rfl (2*j+1) _ (cZ l j hj).2;rw[Go.WideShapes.add_plain]at h1 h2;simp only[Nat.zero_add]at *;rw[show j*2=2*j from by omega];exact⟨h1,h2⟩
theorem RS.cut (h:RS w B A n l) {k cap:Nat} (hk:k<=n) (hc:n<=cap):RS w B (if cap=k then A else A.map (·.add (k*2))) (n-k) (l.drop k):=by
 refine⟨by rw[List.length_drop,h.1],fun hn=>?_⟩;obtain⟨b,off,rfl,hb,hcell⟩:=h.2 (by omega);rw[if_neg (by omega)];refine⟨b,off+k*2,?_,hb,fun j hj=>?_⟩
 ·simp only[Option.map_some,Go.WideShapes.add_plain]
 ·have hl:k+j<l.length:=by rw[List.length_drop]at hj;omega
  obtain⟨h1,h2⟩:=hcell (k+j) hl;rw[List.getElem_drop];rw[show off+k*2+j*2=off+(k+j)*2 from by omega];exact⟨h1,h2⟩
end
end Go.Proofs.YtbdmcibcenhpnaaGreatDoor.Sp
