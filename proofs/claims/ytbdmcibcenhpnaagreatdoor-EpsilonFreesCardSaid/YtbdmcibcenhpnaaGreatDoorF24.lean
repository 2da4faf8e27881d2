import Derived.Test.YtbdmcibcenhpnaaGreatDoorF22
import Derived.Test.YtbdmcibcenhpnaaGreatDoorF23
namespace Go.Proofs.YtbdmcibcenhpnaaGreatDoor.Fi
set_option maxRecDepth 100000
open Go.RowKit Sp Pa Te Sh
def iU (L:List (List Span)) (i:Int):List Span:=L.getD i.toNat []
theorem oH {L:List (List Span)} {j:Nat} (h:j<L.length):iU L (j:Int)=L[j]:=by unfold iU;simp[h]
def KF (gs:List (List Span)) (l:List PT) (L:List (List Span)):Prop:=L.length<=gs.length/\∀(j:Nat) (h:j<L.length) (h':j<gs.length),Is L[j] (gX (plP l j) gs[j])
theorem BJ {gs:List (List Span)} {l:List PT} {L:List (List Span)} (h:KF gs l L) (hl:L.length=gs.length):Mu (iU L) gs l:=fun i hi=>by
 rw[oH (by omega)];exact h.2 i (by omega) hi
theorem nC {L:List (List Span)} (f:List Span->Int):((bg L.length).map fun i=>f (iU L i)).sum=(L.map f).sum:=by
 congr 1
 unfold bg;rw[List.map_map];refine List.ext_getElem (by simp) fun j h1 h2=>?_
 simp only[List.getElem_map,List.getElem_range,Function.comp];have hj:j<L.length:=by simpa using h2
 exact congrArg f (oH hj)
def jR (gs:List (List Span)) (l:List PT) (s:Int) (z:Int):Prop:=∃xs,om gs xs/\jm xs s l=z
def o8 (gs:List (List Span)) (l:List PT) (s:Int):Prop:=∀xs,om gs xs->(∀x∈xs,Sy x)/\Sy (jm xs s l)
theorem uM {ps:List PT} (hb:BitsAll ps) (hl:ps.length<=4) {g p:List Span} (hne:∃x,mem g x) (hp:Is p (gX ps g)):p≠[]/\(∀x,mem p x->0<=x/\x<=264241152)/\0<=least p/\least p<=264241152/\0<=most p/\most p<=264241152:=by
 obtain⟨x0,hx0⟩:=hne;have h1:∀x,mem p x->0<=x/\x<=264241152:=fun x hx=>by
  obtain⟨z,_,rfl⟩:=(hp.2 x).1 hx;have:=bk hb z;omega
 have hnp:p≠[]:=fun e=>hp.cQ.1 e _ ⟨x0,hx0,rfl⟩
 have h2:=h1 _ (dB hp.1 hnp).1;have h3:=h1 _ (d9 hp.1 hnp).1;exact⟨hnp,h1,h2.1,h2.2,h3.1,h3.2⟩
theorem Bn {p:List Span} (h:p≠[]):JX p=(least p,true):=by
 obtain⟨q,l,rfl⟩:=List.exists_cons_of_ne_nil h;rfl
theorem DU {p:List Span} (h:p≠[]):DW p=(most p,true):=by
 obtain⟨l,q,rfl⟩:∃l q,p=l++[q]:=⟨p.dropLast,p.getLast h,(List.dropLast_concat_getLast h).symm⟩;unfold most DW;simp
theorem Mh {a b:List Span} (ha:Plain a) (hb:Plain b) (hna:a≠[]) (hnb:b≠[]) (h0:∀x,mem a x->0<=x) (h1:∀x,mem b x->0<=x):IY a b (most a) (most b):=by
 have key:∀{p:List Span},Plain p->p≠[]->(∀x,mem p x->0<=x)->(∀q∈p,0<=q.1/\q.1<=q.2/\q.2<=most p)/\∃lo,p.getLast? = some (lo,most p):=fun {p} hp hn h=>by
  refine⟨fun q hq=>?_,?_⟩
  ·have ok:=hp.2 q hq
   unfold Ok at ok;have m1:mem p q.1:=⟨by unfold Rng;omega,q,hq,by omega,ok.1⟩;have m2:mem p q.2:=⟨by unfold Rng;omega,q,hq,ok.1,by omega⟩;exact⟨h _ m1,ok.1,(d9 hp hn).2 _ m2⟩
  ·refine⟨(p.getLast hn).1,?_⟩
   rw[List.getLast?_eq_some_getLast hn];have e:most p=(p.getLast hn).2:=by unfold most DW;rw[List.getLast?_eq_some_getLast hn]
   rw[e]
 exact⟨(key ha hna h0).1,(key hb hnb h1).1,(key ha hna h0).2,(key hb hnb h1).2⟩
def rK (own:Int->List Span):List Int->Int->Prop
 | [],y=>y=0
 | a::r,y=>∃x z,rK own r x/\mem (own a) z/\x+z=y
theorem Fl {own:Int->List Span} : ∀(r:List Int),r.Nodup->∀y,rK own r y↔CP own r.reverse y
 | [],_,y=>by rw[List.reverse_nil,Db];rfl
 | a::r,h,y=>by
  obtain⟨h1,h2⟩:=List.nodup_cons.1 h;rw[List.reverse_cons,zi (by rw[List.mem_reverse];exact h1)];have ih:=Fl (own:=own) r h2
  constructor
  ·rintro⟨x,z,q1,q2,q3⟩
   exact⟨x,z,(ih x).1 q1,q2,q3⟩
  ·rintro⟨x,z,q1,q2,q3⟩
   exact⟨x,z,(ih x).2 q1,q2,q3⟩
theorem DE {a b:List Int} (h:a.Perm b) (f:Int->Int):(a.map f).sum=(b.map f).sum:=by
 induction h with
 | nil=>rfl
 | cons x _ ih=>rw[List.map_cons,List.sum_cons,List.map_cons,List.sum_cons,ih]
 | swap x y l=>simp only[List.map_cons,List.sum_cons];omega
 | trans _ _ h1 h2=>rw[h1,h2]
theorem zj {own:Int->List Span} {a b:List Int} (h:a.Perm b) (y:Int):CP own a y↔CP own b y:=by
 have hs:=DE h;exact⟨fun⟨f,h1,h2⟩=>⟨f,fun i hi=>h1 i (h.mem_iff.2 hi),by rw[<- hs];exact h2⟩,fun⟨f,h1,h2⟩=>⟨f,fun i hi=>h1 i (h.mem_iff.1 hi),by rw[hs];exact h2⟩⟩
open Classical in
noncomputable def BQ (own:Int->List Span) (r:List Int):List Span:=if h:∃p,Is p (rK own r)then Classical.choose h else[]
theorem tg {own:Int->List Span} {r:List Int} {p:List Span} (h:Is p (rK own r)):BQ own r=p:=by
 have hex:∃p,Is p (rK own r):=⟨p,h⟩;unfold BQ;rw[dif_pos hex];exact(Classical.choose_spec hex).eq h fun _=>Iff.rfl
end Go.Proofs.YtbdmcibcenhpnaaGreatDoor.Fi
