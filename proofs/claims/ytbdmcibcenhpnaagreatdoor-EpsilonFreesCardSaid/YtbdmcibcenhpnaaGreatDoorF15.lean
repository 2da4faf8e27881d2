import Derived.Test.YtbdmcibcenhpnaaGreatDoorF4
import Derived.Test.YtbdmcibcenhpnaaGreatDoorF12
set_option maxRecDepth 100000
namespace Go.Proofs.YtbdmcibcenhpnaaGreatDoor.Fi
open Go Go.RowKit Sp Pa Te Mi
theorem oM:(Tryz.prog.info? 48).map (fun i=>(i.zero,i.size,i.bytes))=some (some (.slice none 0 0),1,24):=by kernel_rfl
theorem fu {w w':World} {A:Option Addr} {n:Nat} {l:List Span} {r:Option Nat} (h:RS w w.heap.size A n l) (hg:w.grownBy w' r) (hne:∀b off,A=some ⟨b,off,none⟩->r≠some b):RS w' w'.heap.size A n l:=
 ⟨h.1,fun hn=>by
  obtain⟨b,off,e,hb,hc⟩:=h.2 hn;have hk:∀i,w'.cell? ⟨b,i,none⟩=w.cell? ⟨b,i,none⟩:=fun i=>World.cell?_of_block (a:=⟨b,i,none⟩) (hg.block b hb (fun e2=>hne b off e e2.symm))
  exact⟨b,off,e,by have:=hg.size;omega,fun j hj=>⟨(hk _).trans (hc j hj).1,(hk _).trans (hc j hj).2⟩⟩⟩
def dH (w:World) (base:Nat) (v o:Value) (L:List (List Span)) (X:List Span):Prop:=
 ∃vs:List Value,w.ownsRow base 48 1 v L.length vs /\
  (∀(j:Nat) (h:j<L.length),∃A c,vs[j]? = some (.slice A L[j].length c)/\RS w w.heap.size A L[j].length L[j]/\L[j].length<=c/\(A=none->L[j]=[]/\c=0)/\∀b off,A=some ⟨b,off,none⟩->b<w.heap.size/\v.ownBlock≠some b/\o.ownBlock≠some b) /\
  av w base o X/\(∀b,v.ownBlock=some b->o.ownBlock≠some b)
section
variable {w w':World} {base:Nat} {v o:Value} {L:List (List Span)} {X:List Span}
theorem aQ {w w':World} {base:Nat} {e:TypeId} {size:Nat} {v:Value} {n:Nat} {xs:List Value} (h:w.ownsRow base e size v n xs) (hk:∀g,v.ownBlock=some g->w'.heap[g]? = w.heap[g]?):w'.ownsRow base e size v n xs:=by
 refine⟨h.1,?_⟩;rcases h.2 with h2 | ⟨g,cap,cur,rfl,hg,hr,hrest⟩
 ·exact .inl h2
 ·exact .inr ⟨g,cap,cur,rfl,hg,(hk g rfl).trans hr,hrest⟩
theorem eF {w:World} {base:Nat} {e:TypeId} {size:Nat} {v:Value} {n:Nat} {xs ys:List Value} (h:w.ownsRow base e size v n xs) (h':w.ownsRow base e size v n ys):xs=ys:=by
 obtain⟨a1,h2⟩:=h;obtain⟨a2,h2'⟩:=h';rcases h2 with⟨rfl,h0⟩ | ⟨g,cap,cur,rfl,_,hh,_,_,_,ht⟩
 ·subst h0
  rw[Nat.zero_mul]at a1 a2;rw[List.eq_nil_of_length_eq_zero a1,List.eq_nil_of_length_eq_zero a2]
 ·rcases h2' with⟨hv,_⟩ | ⟨g',cap',cur',hv,_,hh',_,_,_,ht'⟩
  ·cases hv
  ·simp only[Value.slice.injEq,Option.some.injEq,Addr.mk.injEq]at hv
   obtain⟨⟨rfl,_⟩,_,_⟩:=hv;rw[hh]at hh';simp only[Option.some.injEq,Obj.cells.injEq]at hh';obtain⟨rfl,_⟩:=hh';rw[<- ht,<- ht']
theorem dH.below (h:dH w base v o L X) (hb:Below w.heap.size w w'):dH w' base v o L X:=by
 obtain⟨vs,h1,h2,h3,h4⟩:=h;refine⟨vs,aQ h1 fun g e=>hb.block g (World.ownsRow.lt h1 g e).2,fun j hj=>?_,aQ h3 fun g e=>hb.block g (World.ownsRow.lt h3 g e).2,h4⟩;obtain⟨A,c,q1,q2,q3,q4,q5⟩:=h2 j hj;exact⟨A,c,q1,q2.ah hb,q3,q4,fun b off e=>⟨Nat.lt_of_lt_of_le (q5 b off e).1 hb.size,(q5 b off e).2⟩⟩
theorem dH.at_ (h:dH w base v o L X) {j:Nat} (hj:j<L.length):∃g cap A c,v = .slice (some ⟨g,0,none⟩) L.length cap/\base<=g/\g<w.heap.size/\w.cell? ⟨g,j,none⟩=some (.slice A L[j].length c)/\RS w w.heap.size A L[j].length L[j]/\L[j].length<=c/\(A=none->L[j]=[]/\c=0):=by
 obtain⟨vs,h1,h2,h3,h4⟩:=h;obtain⟨g,cap,e,hb,hlt⟩:=World.ownsRow.form h1 (by omega);obtain⟨A,c,q1,q2,q3,q4,q5⟩:=h2 j hj;subst e;exact⟨g,cap,A,c,rfl,hb,hlt,by rw[World.ownsRow.cellAt h1 j (by omega),q1],q2,q3,q4⟩
theorem dH.row (h:dH w base v o L X):∃vs:List Value,w.ownsRow base 48 1 v L.length vs:=⟨h.choose,h.choose_spec.1⟩
theorem dH.out (h:dH w base v o L X):av w base o X:=h.choose_spec.2.2.1
theorem dH.more {vs:List Value} {l:List Span} {A:Option Addr} {c g cap H:Nat} (h:dH w base v o L X) (hvs:w.ownsRow base 48 1 v L.length vs) (hr:RS w w.heap.size A l.length l) (hc:l.length<=c) (hA:A=none->l=[]/\c=0)
  (hne:∀b off,A=some ⟨b,off,none⟩->b<w.heap.size/\v.ownBlock≠some b/\o.ownBlock≠some b)
  (hg:w.grownBy w' v.ownBlock) (ho:w'.ownsRow base 48 1 (.slice (some ⟨g,0,none⟩) (L.length+1) cap) (L.length+1) (vs++[.slice A l.length c])) (hat:v.ownBlock=some g\/g=H) (hH:w.heap.size<=H):dH w' base (.slice (some ⟨g,0,none⟩) (L.length+1) cap) o (L++[l]) X:=by
 obtain⟨vs',h1,h2,h3,h4⟩:=h;obtain rfl:vs'=vs:=eF h1 hvs;have hvl:vs'.length=L.length:=by have:=h1.1;omega
 have hnew:∀b,b<w.heap.size/\v.ownBlock≠some b/\o.ownBlock≠some b->b<w'.heap.size/\(Value.slice (some ⟨g,0,none⟩) (L.length+1) cap).ownBlock≠some b/\o.ownBlock≠some b:=fun b ⟨q1,q2,q3⟩=>by
  refine⟨by have:=hg.size;omega,fun e=>?_,q3⟩;have e:g=b:=by simpa[Value.ownBlock]using e
  rcases hat with k | k
  ·exact q2 (by rw[k,e])
  ·omega
 refine⟨vs'++[.slice A l.length c],by rw[List.length_append,List.length_singleton];exact ho,fun j hj=>?_,?_,fun b e=>?_⟩
 ·by_cases k:j<L.length
  ·obtain⟨Aj,cj,q1,q2,q3,q4,q5⟩:=h2 j k
   rw[List.getElem_append_left k];exact⟨Aj,cj,by rw[List.getElem?_append_left (by omega)];exact q1,fu q2 hg (fun b off e=>(q5 b off e).2.1),q3,q4,fun b off e=>hnew b (q5 b off e)⟩
  ·obtain rfl:j=L.length:=by simp at hj;omega
   rw[List.getElem_append_right (by omega)];simp only[Nat.sub_self,List.getElem_singleton];exact⟨A,c,by rw[List.getElem?_append_right (by omega)];simp[hvl],fu hr hg (fun b off e=>(hne b off e).2.1),hc,hA,fun b off e=>hnew b (hne b off e)⟩
 ·refine World.ownsRow.kept h3 hg ?_
  cases e:o.ownBlock with
  | none=>exact .inl rfl
  | some b=>exact .inr fun k=>h4 b k.symm e
 ·have e:g=b:=by simpa[Value.ownBlock]using e
  subst e;rcases hat with k | k
  ·exact h4 _ k
  ·exact fun e2=>by have:=(World.ownsRow.lt h3 g e2).2;omega
theorem dH.longer {Y:List Span} {g cap H:Nat} (h:dH w base v o L X) (hg:w.grownBy w' o.ownBlock) (ho:av w' base (.slice (some ⟨g,0,none⟩) (X.length+Y.length) cap) (X++Y)) (hat:o.ownBlock=some g\/g=H) (hH:w.heap.size<=H):dH w' base v (.slice (some ⟨g,0,none⟩) (X.length+Y.length) cap) L (X++Y):=by
 obtain⟨vs,h1,h2,h3,h4⟩:=h;have hnew:∀b,b<w.heap.size->o.ownBlock≠some b->(Value.slice (some ⟨g,0,none⟩) (X.length+Y.length) cap).ownBlock≠some b:=fun b q1 q2 e=>by
  have e:g=b:=by simpa[Value.ownBlock]using e
  rcases hat with k | k
  ·exact q2 (by rw[k,e])
  ·omega
 refine⟨vs,World.ownsRow.kept h1 hg ?_,fun j hj=>?_,ho,fun b e=>hnew b (World.ownsRow.lt h1 b e).2 (h4 b e)⟩
 ·cases e:v.ownBlock with
  | none=>exact .inl rfl
  | some b=>exact .inr fun k=>h4 b e k.symm
 ·obtain⟨A,c,q1,q2,q3,q4,q5⟩:=h2 j hj
  exact⟨A,c,q1,fu q2 hg (fun b off e=>(q5 b off e).2.2),q3,q4,fun b off e=>⟨by have:=hg.size;have:=(q5 b off e).1;omega,(q5 b off e).2.1,hnew b (q5 b off e).1 (q5 b off e).2.2⟩⟩
end
theorem zR {p:List Span} (hp:Plain p) {N:Nat} (F:Nat->Int) (h:∀y,mem p y->∃i,i<N/\F i=y):p.length<=N:=by
 have:=pS p ((List.range N).map fun i=>(F i,F i)) hp (fun x hx=>by
  obtain⟨i,hi,e⟩:=h x hx;exact⟨(F i,F i),List.mem_map.2 ⟨i,List.mem_range.2 hi,rfl⟩,by show F i<=x;omega,by show x<=F i;omega⟩) (fun q hq x y z a1 a2 a3 a4 hx hz=>by
  obtain⟨i,_,rfl⟩:=List.mem_map.1 hq;simp only at a1 a4;obtain rfl:y=x:=by omega
  exact hx)
 simpa using this
def eC (w:World) (base:Nat) (v:Value) (L:List (List Span)):Prop:=
 ∃vs:List Value,w.ownsRow base 48 1 v L.length vs /\
  (∀(j:Nat) (h:j<L.length),∃A c,vs[j]? = some (.slice A L[j].length c)/\RS w w.heap.size A L[j].length L[j]/\L[j].length<=c/\(A=none->L[j]=[]/\c=0)/\∀b off,A=some ⟨b,off,none⟩->base<=b/\b<w.heap.size/\v.ownBlock≠some b)
section
variable {w w':World} {base:Nat} {v:Value} {L:List (List Span)}
theorem eC.dS (w:World) (base:Nat):eC w base (.slice none 0 0) []:=⟨[],World.ownsRow_nil _ _ _ _,fun j h=>by simp at h⟩
theorem eC.keep (h:eC w base v L) (hs:w.heap.size<=w'.heap.size) (hk:∀g,base<=g->g<w.heap.size->w'.heap[g]? = w.heap[g]?):eC w' base v L:=by
 obtain⟨vs,h1,h2⟩:=h;refine⟨vs,aQ h1 fun g e=>hk g (World.ownsRow.lt h1 g e).1 (World.ownsRow.lt h1 g e).2,fun j hj=>?_⟩;obtain⟨A,c,q1,q2,q3,q4,q5⟩:=h2 j hj;refine⟨A,c,q1,⟨q2.1,fun hn=>?_⟩,q3,q4,fun b off e=>⟨(q5 b off e).1,Nat.lt_of_lt_of_le (q5 b off e).2.1 hs,(q5 b off e).2.2⟩⟩;obtain⟨b,off,e,hb,hc⟩:=q2.2 hn;have hkk:∀i,w'.cell? ⟨b,i,none⟩=w.cell? ⟨b,i,none⟩:=fun i=>World.cell?_of_block (a:=⟨b,i,none⟩) (hk b (q5 b off e).1 hb)
 exact⟨b,off,e,by omega,fun j hj=>⟨(hkk _).trans (hc j hj).1,(hkk _).trans (hc j hj).2⟩⟩
theorem eC.below (h:eC w base v L) (hb:Below w.heap.size w w'):eC w' base v L:=h.keep hb.size fun g _ hg=>hb.block g hg
theorem eC.aV (h:eC w base v L) {E:Nat} (hE:E<base) (u:Value):eC (w.setCell ⟨E,0,none⟩ u) base v L:=h.keep (by simp) fun g hg _=>heap_setCell_other w ⟨E,0,none⟩ g u (fun e=>by simp at e;omega)
theorem eC.at_ (h:eC w base v L) {j:Nat} (hj:j<L.length):∃g cap A c,v = .slice (some ⟨g,0,none⟩) L.length cap/\base<=g/\g<w.heap.size/\w.cell? ⟨g,j,none⟩=some (.slice A L[j].length c)/\RS w w.heap.size A L[j].length L[j]/\L[j].length<=c/\(A=none->L[j]=[]/\c=0):=by
 obtain⟨vs,h1,h2⟩:=h;obtain⟨g,cap,e,hb,hlt⟩:=World.ownsRow.form h1 (by omega);obtain⟨A,c,q1,q2,q3,q4,q5⟩:=h2 j hj;subst e;exact⟨g,cap,A,c,rfl,hb,hlt,by rw[World.ownsRow.cellAt h1 j (by omega),q1],q2,q3,q4⟩
theorem eC.row (h:eC w base v L):∃vs:List Value,w.ownsRow base 48 1 v L.length vs:=⟨h.choose,h.choose_spec.1⟩
theorem eC.lt (h:eC w base v L) {g:Nat} (e:v.ownBlock=some g):base<=g/\g<w.heap.size:=by obtain⟨vs,h1⟩:=h.row;exact World.ownsRow.lt h1 g e
theorem eC.reads (h:eC w base v L):∃A c,v = .slice A L.length c/\RGs w A L.length L/\L.length<=c:=by
 obtain⟨vs,h1,h2⟩:=h;by_cases hn:0<L.length
 ·obtain⟨g,cap,e,hb,hlt⟩:=World.ownsRow.form h1 hn
  subst e;refine⟨_,_,rfl,⟨rfl,fun _=>⟨g,0,rfl,hlt,fun j hj=>?_⟩⟩,?_⟩
  ·obtain⟨Aj,cj,q1,q2,q3,q4,_⟩:=h2 j hj
   exact⟨Aj,cj,by rw[Nat.zero_add,World.ownsRow.cellAt h1 j (by omega),q1],q2,q3,q4⟩
  ·rcases h1.2 with⟨e,_⟩ | ⟨g',cap',cur,e,_,_,hnc,_⟩
   ·cases e
   ·injection e with _ _ e
    omega
 ·obtain⟨A,c,e⟩:=aX h1
  have h0:L=[]:=List.eq_nil_of_length_eq_zero (by omega);subst h0;exact⟨A,c,e,RGs.dS _ _,Nat.zero_le _⟩
theorem eC.more {vs:List Value} {l:List Span} {A:Option Addr} {c H:Nat} {v':Value} (h:eC w base v L) (hvs:w.ownsRow base 48 1 v L.length vs) (hr:RS w w.heap.size A l.length l) (hc:l.length<=c) (hA:A=none->l=[]/\c=0)
  (hne:∀b off,A=some ⟨b,off,none⟩->base<=b/\b<w.heap.size/\v.ownBlock≠some b)
  (hg:w.grownBy w' v.ownBlock) (ho:w'.ownsRow base 48 1 v' (L.length+1) (vs++[.slice A l.length c])) (hat:v'.ownBlock=v.ownBlock\/v'.ownBlock=some H) (hH:w.heap.size<=H):eC w' base v' (L++[l]):=by
 obtain⟨vs',h1,h2⟩:=h;obtain rfl:vs'=vs:=eF h1 hvs;have hvl:vs'.length=L.length:=by have:=h1.1;omega
 have hnew:∀b,base<=b/\b<w.heap.size/\v.ownBlock≠some b->base<=b/\b<w'.heap.size/\v'.ownBlock≠some b:=fun b ⟨q0,q1,q2⟩=>by
  refine⟨q0,by have:=hg.size;omega,fun e=>?_⟩;rcases hat with k | k
  ·exact q2 (by rw[<- k,e])
  ·rw[k]at e
   injection e with e;omega
 refine⟨vs'++[.slice A l.length c],by rw[List.length_append,List.length_singleton];exact ho,fun j hj=>?_⟩;by_cases k:j<L.length
 ·obtain⟨Aj,cj,q1,q2,q3,q4,q5⟩:=h2 j k
  rw[List.getElem_append_left k];exact⟨Aj,cj,by rw[List.getElem?_append_left (by omega)];exact q1,fu q2 hg (fun b off e=>(q5 b off e).2.2),q3,q4,fun b off e=>hnew b (q5 b off e)⟩
 ·obtain rfl:j=L.length:=by simp at hj;omega
  rw[List.getElem_append_right (by omega)];simp only[Nat.sub_self,List.getElem_singleton];exact⟨A,c,by rw[List.getElem?_append_right (by omega)];simp[hvl],fu hr hg (fun b off e=>(hne b off e).2.2),hc,hA,fun b off e=>hnew b (hne b off e)⟩
end
end Go.Proofs.YtbdmcibcenhpnaaGreatDoor.Fi
namespace Go.Proofs.YtbdmcibcenhpnaaGreatDoor.De
set_option maxHeartbeats 64000000
open Go Go.RowKit Sp Mi Fi
open Go.Lib (hid)
theorem Du:∀(w:World) (a:Option Addr) (n c n' c':Nat),(binOp .eql 40 (.slice a n c) (.slice none n' c')).run Tryz.prog w = .ok (.bool a.isNone) w:=fun w a n c n' c'=>Lib.run_eql_slice_nil w _ _ a n c n' c' Tryz.underlying40
theorem zG {w:World} {A:Option Addr} {fam:List (List Span)} (h:RGs w A fam.length fam):∃xs:List Value,xs.length=fam.length /\
  (0<fam.length->∃b off,A=some ⟨b,off,none⟩/\b<w.heap.size/\∀j,j<fam.length->w.cell? ⟨b,off+j,none⟩=xs[j]?) /\
  ∀(j:Nat) (hj:j<fam.length),∃Aj cj,xs[j]? = some (.slice Aj fam[j].length cj)/\RS w w.heap.size Aj fam[j].length fam[j]/\fam[j].length<=cj/\(Aj=none->fam[j]=[]/\cj=0):=by
 by_cases hn:0<fam.length
 ·obtain⟨b,off,hA,hb,hc⟩:=h.2 hn
  have key:∀j,∃x:Value,∀hj:j<fam.length,w.cell? ⟨b,off+j,none⟩=some x/\∃Aj cj,x = .slice Aj fam[j].length cj/\RS w w.heap.size Aj fam[j].length fam[j]/\fam[j].length<=cj/\(Aj=none->fam[j]=[]/\cj=0):=fun j=>by
   by_cases hj:j<fam.length
   ·obtain⟨Aj,cj,h1,h2⟩:=hc j hj
    exact⟨_,fun _=>⟨h1,Aj,cj,rfl,h2⟩⟩
   ·exact⟨undef,fun q=>absurd q hj⟩
  obtain⟨F,hF⟩:=Classical.axiomOfChoice key;refine⟨(List.range fam.length).map F,by simp,fun _=>⟨b,off,hA,hb,fun j hj=>?_⟩,fun j hj=>?_⟩
  ·rw[(hF j hj).1];simp[hj]
  ·obtain⟨_,Aj,cj,h1,h2⟩:=hF j hj
   exact⟨Aj,cj,by simp[hj,h1],h2⟩
 ·have h0:fam=[]:=List.eq_nil_of_length_eq_zero (by omega)
  subst h0;exact⟨[],rfl,fun q=>absurd q hn,fun j hj=>by simp at hj⟩
def KI (xs:List Value) (w:World) (e:Ending) (w':World):Prop:=∃v,e = .returned v/\w'.ownsRow w.heap.size 48 1 v xs.length xs/\Below w.heap.size w w'
theorem yj (A:Option Addr) (c:Nat) (xs:List Value) (w:World) (h:0<xs.length->∃b off,A=some ⟨b,off,none⟩/\b<w.heap.size/\∀j,j<xs.length->w.cell? ⟨b,off+j,none⟩=xs[j]?) (hone:∀u∈xs,u.oneCell'=true) (hn:xs.length<=1000000) :
  Calls Tryz.prog 62 #[.slice A xs.length c] w (KI xs w):=by
 have q:=Du;rcases A with _ | ad
 ·have h0:xs=[]:=by
   rcases Nat.eq_zero_or_pos xs.length with e | e
   ·exact List.eq_nil_of_length_eq_zero e
   ·obtain⟨b,off,hA,_⟩:=h e
    cases hA
  subst h0;simp only[List.length_nil];go_enter Tryz.func62,Tryz.ntmps62;go_wp2_with (fail);go_ret;exact⟨_,rfl,World.ownsRow_nil _ _ _ _,Below.refl _ _⟩
 ·obtain⟨i0,hi0,hz0,hz1,hz2⟩:=info_parts oM
  have hown0:=hid (World.ownsRow_made (e:=48) (size:=1) w #[] 0 (Nat.le_refl w.heap.size) (by unfold maxLen;omega) rfl);have hnews:∀j u,xs[j]? = some u->(w.alloc (.cells #[] 48)).cell? (ad.add j)=some u:=fun j u hu=>by
   have hj:j<xs.length:=(List.getElem?_eq_some_iff.1 hu).1;obtain⟨b,off,hA,hb,hc⟩:=h (by omega);injection hA with hA;subst hA;rw[Go.WideShapes.add_plain];have hb1:Below w.heap.size w (w.alloc (.cells #[] 48)):=(Below.refl _ w).alloc (Nat.le_refl _) _;rw[hb1.cell (p:=⟨b,off+j,none⟩) hb,hc j hj,hu]
  have HN:=hid hnews;have HO1:=hid hone;clear h hnews hone;go_enter Tryz.func62,Tryz.ntmps62;go_wp2_with (at_builtin;go_must (refine wpList_append_own _ rfl _ _ 40 rfl w.heap.size 48 i0 _ 1 24 Tryz.underlying40 hi0 hz0 hz1 hz2 rfl (by decide) _ 0 [] rfl hown0.out ad xs.length c xs rfl (by omega) HN.out HO1.out ?c3 ?c4 ?c5 ?_))
  case c3=>simp only[maxLen];omega
  case c4=>omega
  case c5=>simp only[World.size_alloc];omega
  intro v1 w1 hown1 hg1 _;have HO:=hid (show w1.ownsRow w.heap.size 48 1 v1 xs.length xs by simpa using hown1);have HB:=hid (((Below.refl w.heap.size w).alloc (Nat.le_refl _) (.cells #[] 48)).grown hg1 (by simp) (fun k hk=>(World.ownsRow.lt hown0.out k hk).1));obtain⟨A1,c1,hv⟩:=aX HO.out;subst hv;clear hown1 hg1;go_wp2_with (fail);go_ret;exact⟨_,rfl,HO.out,HB.out⟩
def IU (fam:List (List Span)) (xs:List Value) (v:Value) (w:World) (i:Value) (wr:World):Prop:=
 ∃(k:Nat) (vs:List Value),k<=fam.length/\i = .int .i64 k/\wr.ownsRow w.heap.size 48 1 v fam.length vs/\Below w.heap.size w wr /\
  (∀(j:Nat) (hj:j<fam.length),j<k->∃A c,vs[j]? = some (.slice A fam[j].length c)/\RS wr wr.heap.size A fam[j].length fam[j]/\fam[j].length<=c/\(A=none->fam[j]=[]/\c=0)/\∀b off,A=some ⟨b,off,none⟩->w.heap.size<=b/\b<wr.heap.size/\v.ownBlock≠some b) /\
  (∀j,k<=j->vs[j]? = xs[j]?)
def jk (fam:List (List Span)) (w:World) (e:Ending) (w':World):Prop:=∃v,e = .returned v/\eC w' w.heap.size v fam/\Below w.heap.size w w'
theorem nP (A:Option Addr) (c:Nat) (fam:List (List Span)) (w:World) (h:RGs w A fam.length fam) (hn:fam.length<=1000000) (hm:∀g∈fam,g.length<=68719476736) :
  Calls Tryz.prog 50 #[.slice A fam.length c] w (jk fam w):=by
 obtain⟨xs,hxl,hxc,hxr⟩:=zG h;have hone:∀u∈xs,u.oneCell'=true:=fun u hu=>by
  obtain⟨j,hj,rfl⟩:=List.getElem_of_mem hu;obtain⟨Aj,cj,h1,_⟩:=hxr j (by omega);rw[List.getElem?_eq_getElem hj]at h1;injection h1 with h1;rw[h1];rfl
 have HCL:=hid (yj A c xs w (by rw[hxl];exact hxc) hone (by omega));rw[hxl]at HCL;have HXR:=hid hxr;have HXL:=hid hxl;have HM:=hid hm;clear h hxc hone hxr hxl hm;go_enter Tryz.func50,Tryz.ntmps50;go_wp2_with (fail);refine HCL.out.mono ?_;rintro e w1 ⟨v1,rfl,hown1,hb1⟩;rw[HXL.out]at hown1;obtain⟨A1,c1,hv1⟩:=aX hown1;have HST:=hid (show IU fam xs v1 w (.int .i64 (0:Nat)) w1 from⟨0,xs,Nat.zero_le _,rfl,hown1,hb1,fun _ _ q=>absurd q (Nat.not_lt_zero _),fun _ _=>rfl⟩);subst hv1;clear hown1 hb1;go_wp2_with (fail)
 go_loopw [10] (fun i wr=>IU fam xs (.slice A1 fam.length c1) w i wr) (fun i _=>fam.length-(intOf i).toNat)
 case atStart=>exact HST.out
 case round=>
  obtain⟨k,vs,hk,rfl,hown,hb,hnew,hold⟩:=hrel;have HB:=hid hb;have Jd:=hid hnew;have HOLD:=hid hold;have hz:=hb.size;by_cases hlt:k<fam.length
  ·obtain⟨g,cap,hv,hg1,hg2⟩:=World.ownsRow.form hown (by omega)
   obtain⟨hA1,hc1⟩:A1=some ⟨g,0,none⟩/\c1=cap:=by
    simp only[Value.slice.injEq]at hv;exact⟨hv.1,hv.2.2⟩
   subst hA1 hc1;obtain⟨Aj,cj,h1,h2,h3,h4⟩:=HXR.out k hlt;have hcell:wr.cell? ⟨g,k,none⟩=some (.slice Aj fam[k].length cj):=by rw[World.ownsRow.cellAt hown k (by omega),hold k (Nat.le_refl _),h1]
   have hfro:wr.frozen? ⟨g,k,none⟩=false:=World.ownsRow.frozenAt hown k;obtain⟨p,hp⟩:∃p,fam[k]=p:=⟨_,rfl⟩;have HP:=hid hp;rw[hp]at h2 h3 h4 hcell;have hmp:=HM.out p (by rw[<- hp];exact List.getElem_mem hlt);have HCS:=hid (n9 Aj cj p wr (h2.ah hb) hmp h4);have jS:=hid hown;obtain⟨np,hnp⟩:∃np,p.length=np:=⟨_,rfl⟩;rw[hnp]at hcell HCS;have HNP:=hid hnp;have s1:IntKind.i64.wrap ((k:Int)+1)=(k:Int)+1:=IntWalk.i64_in _ (by omega);clear hown hb hnew hold h1 h2 h3 h4 hp hv hnp;go_wp2_with (fail);refine HCS.out.mono ?_;rintro e w5 ⟨v5,rfl,hown5,hb5⟩;have hrow5:w5.ownsRow w.heap.size 48 1 (.slice (some ⟨g,0,none⟩) fam.length c1) fam.length vs:=aQ jS.out fun q e=>hb5.block q (World.ownsRow.lt jS.out q e).2
   obtain⟨A5,c5,hv5,hc5,hr5⟩:=aF hown5;have hnil5:A5=none->p=[]/\c5=0:=fun e=>by
    rw[hv5]at hown5;exact iC hown5 e
   have hbl5:∀b off,A5=some ⟨b,off,none⟩->wr.heap.size<=b/\b<w5.heap.size:=fun b off e=>World.ownsRow.lt hown5 b (by rw[hv5,e];rfl)
   have hcell5:w5.cell? ⟨g,k,none⟩=some (.slice Aj np cj):=(hb5.cell (p:=⟨g,k,none⟩) hg2).trans hcell;have hfro5:w5.frozen? ⟨g,k,none⟩=false:=World.ownsRow.frozenAt hrow5 k;have hst:=World.ownsRow.stored hrow5 k (.slice A5 p.length c5);have hvl:vs.length=fam.length:=by have:=hrow5.1;omega
   have HNX:=hid (show IU fam xs (.slice (some ⟨g,0,none⟩) fam.length c1) w (.int .i64 ((k:Int)+1)) (w5.setCell ⟨g,k,none⟩ (.slice A5 p.length c5))from by
    have hkeep:∀b,b≠g->(w5.setCell ⟨g,k,none⟩ (.slice A5 p.length c5)).heap[b]? = w5.heap[b]?:=fun b hb=>heap_setCell_other w5 ⟨g,k,none⟩ b _ hb
    have hrs:∀{A':Option Addr} {l':List Span},RS w5 w5.heap.size A' l'.length l'->(∀b off,A'=some ⟨b,off,none⟩->b≠g)->RS (w5.setCell ⟨g,k,none⟩ (.slice A5 p.length c5)) (w5.setCell ⟨g,k,none⟩ (.slice A5 p.length c5)).heap.size A' l'.length l':=fun {A' l'} hr hne=>⟨hr.1,fun hn=>by
     obtain⟨b,off,e,hb,hc⟩:=hr.2 hn;have hk':∀i,(w5.setCell ⟨g,k,none⟩ (.slice A5 p.length c5)).cell? ⟨b,i,none⟩=w5.cell? ⟨b,i,none⟩:=fun i=>World.cell?_of_block (a:=⟨b,i,none⟩) (hkeep b (hne b off e))
     exact⟨b,off,e,by simpa using hb,fun j hj=>⟨(hk' _).trans (hc j hj).1,(hk' _).trans (hc j hj).2⟩⟩⟩
    refine⟨k+1,vs.set k (.slice A5 p.length c5),by omega,rfl,hst.1,(HB.out.trans (hb5.mono hz)).setCell (p:=⟨g,k,none⟩) hg1 _,fun j hj hjk=>?_,fun j hj=>?_⟩
    ·by_cases e:j=k
     ·subst e
      refine⟨A5,c5,by rw[List.getElem?_set_self (by omega),HP.out],by rw[HP.out];exact hrs hr5 (fun b off e=>by have:=hbl5 b off e;omega),by rw[HP.out];exact hc5,by rw[HP.out];exact hnil5,fun b off e=>?_⟩;have h6:=hbl5 b off e;refine⟨by omega,by simpa using h6.2,fun q=>?_⟩;have q:g=b:=by simpa[Value.ownBlock]using q
      omega
     ·obtain⟨A',c',q1,q2,q3,q4,q5⟩:=Jd.out j hj (by omega)
      refine⟨A',c',by rw[List.getElem?_set_ne (by omega)];exact q1,hrs (q2.ah hb5) (fun b off e q=>?_),q3,q4,fun b off e=>?_⟩
      ·subst q
       exact(q5 b off e).2.2 rfl
      ·have h6:=q5 b off e
       have h7:=hb5.size;exact⟨h6.1,by simp;omega,h6.2.2⟩
    ·rw[List.getElem?_set_ne (by omega)]
     exact HOLD.out j (by omega))
   subst hv5;rw[HNP.out]at HNX;clear hown5 hb5 hrow5 hr5 hnil5 hbl5 hst hvl hc5;rw[HNP.out];go_wp2_with (fail)
   go_roundw
   case rel=>exact HNX.out
   case measure=>simp[intOf];omega
  ·obtain rfl:k=fam.length:=by omega
   have HF:=hid (show jk fam w (.returned (.slice A1 fam.length c1)) wr from⟨_,rfl,⟨vs,hown,fun j hj=>Jd.out j hj hj⟩,hb⟩);clear hown hb hnew hold;go_wp2_with (fail);go_ret;exact HF.out
end Go.Proofs.YtbdmcibcenhpnaaGreatDoor.De
namespace Go.Proofs.YtbdmcibcenhpnaaGreatDoor.De
set_option maxHeartbeats 64000000
open Go Go.RowKit Go.Shelf Sp Pa Te Mi
theorem uO:(Tryz.prog.info? 51).map (fun i=>(i.zero,i.size,i.bytes))=some (some (.agg #[.int .i64 0,.int .i64 0,.int .i64 0,.int .i64 0,.int .i64 0,.slice none 0 0]),6,64):=by kernel_rfl
def rG (w:World) (base:Nat) (v:Value) (n:Nat) (xs:List Value):Prop:=w.ownsRow base 51 6 v n xs
def Na (w:World) (e:Ending) (w':World):Prop:=∃v,e = .returned v/\rG w' w.heap.size v 0 []/\Below w.heap.size w w'
theorem vN (n:Nat):(Builtin.zeroCells #[.int .i64 0,.int .i64 0,.int .i64 0,.int .i64 0,.int .i64 0,.slice none 0 0] n).size=n*6:=by
 simp[Builtin.zeroCells]
theorem Bk (m:Int) (w:World) (h0:0<=m) (h1:m<=1000000):Calls Tryz.prog 81 #[.slice none 0 0,.int .i64 m] w (Na w):=by
 obtain⟨n,rfl⟩:=Int.eq_ofNat_of_zero_le h0;rcases Nat.eq_zero_or_pos n with rfl | hp
 ·have nM:=Any8.slices_Grow_room Sp.FL none 0 0 0 w (Nat.le_refl _) (by omega) (by omega) (Nat.le_refl _)
  change Calls Tryz.prog 81 _ _ _ at nM
  exact nM.mono fun e w' ⟨he,hw⟩=>by
   subst hw;exact⟨_,he,World.ownsRow_nil _ _ _ _,Below.refl _ _⟩
 ·obtain⟨i0,hi0,hz0,hz1,hz2⟩:=info_parts uO
  have nM:=Any8.slices_Grow_grow Sp.FL i0 _ hi0 hz0 (by omega) none 0 0 n [] w (Nat.le_refl _) (by omega) (by rw[hz2];omega) (by omega) (by simp) (fun _=>rfl) (fun _ h=>by cases h)
  change Calls Tryz.prog 81 _ _ _ at nM
  refine nM.mono fun e w' ⟨he,hw⟩=>⟨_,he,?_,?_⟩
  ·have hge:=grownCap_ge w (0+n) 0 51
   have hle:=grownCap_le_maxLen w (0+n) 0 51 (by unfold maxLen;omega);rw[hw];refine⟨rfl,.inr ⟨w.heap.size,_,_,rfl,Nat.le_refl _,heap_alloc_new w.drew _,Nat.zero_le _,hle,?_,by simp⟩⟩;have e1:(Value.agg #[.int .i64 0,.int .i64 0,.int .i64 0,.int .i64 0,.int .i64 0,.slice none 0 0]).cells=#[.int .i64 0,.int .i64 0,.int .i64 0,.int .i64 0,.int .i64 0,.slice none 0 0]:=rfl;rw[e1];simp only[Array.size_append,vN,List.size_toArray,List.length_nil]
   change 0+(0+n-0)*6+(grownCap w (0+n) 0 51-(0+n))*6=grownCap w (0+n) 0 51*6
   omega
  ·rw[hw]
   exact(Below.refl _ _).drew.alloc (Nat.le_refl _) _
def Ni (n:Nat) (xs:List Value) (w:World) (e:Ending) (w':World):Prop:=∃v,e = .returned v/\rG w' w.heap.size v n xs/\Below w.heap.size w w'
def KJ (l:List PT) (w:World) (e:Ending) (w':World):Prop:=∃A c,e = .returned (.slice A l.length c)/\RP w' w'.heap.size A l.length l/\Below w.heap.size w w'/\(∀b off,A=some ⟨b,off,none⟩->w.heap.size<=b)/\l.length<=c
theorem yh (A:Option Addr) (c:Nat) (l:List PT) (w:World) (h:RP w w.heap.size A l.length l) (hn:l.length<=20) :
  Calls Tryz.prog 65 #[.slice A l.length c] w (KJ l w):=by
 have q:=DF;rcases A with _ | ad
 ·have hl:l=[]:=by
   rcases l with _ | ⟨p,l⟩
   ·rfl
   ·obtain⟨b,off,hA,_⟩:=h.2 (by simp)
    cases hA
  subst hl;simp only[List.length_nil];go_enter Tryz.func65,Tryz.ntmps65;go_wp2_with (fail);go_ret;exact⟨none,0,rfl,RP.dS _ _ _,Below.refl _ _,(fun _ _ e=>by cases e),Nat.le_refl _⟩
 ·obtain⟨i0,hi0,hz0,hz1,hz2⟩:=info_parts uQ
  have hown0:=Lib.hid (World.ownsRow_made (e:=94) (size:=4) w #[] 0 (Nat.le_refl w.heap.size) (by unfold maxLen;omega) rfl);have HR:=Lib.hid ((h.below ((Below.refl w.heap.size w).alloc (Nat.le_refl _) (.cells #[] 94))));clear h;go_enter Tryz.func65,Tryz.ntmps65;go_wp2_with (at_builtin;go_must (refine wpList_append_own _ rfl _ _ 49 rfl w.heap.size 94 i0 _ 4 32 Tryz.underlying49 hi0 hz0 hz1 hz2 rfl (by decide) _ 0 [] rfl hown0.out ad l.length c (gi l) rfl (jO l) (Ii HR.out) (Bu l) ?c3 ?c4 ?c5 ?_))
  case c3=>simp only[maxLen];omega
  case c4=>omega
  case c5=>simp only[World.size_alloc];omega
  intro v1 w1 hown1 hg1 _;have ho:rF w1 w.heap.size v1 l:=by
   unfold rF;simpa using hown1
  have HB:=Lib.hid (((Below.refl w.heap.size w).alloc (Nat.le_refl _) (.cells #[] 94)).grown hg1 (by simp) (fun k hk=>(World.ownsRow.lt hown0.out k hk).1));obtain⟨A1,c1,hv,hrs,hc1,hfr⟩:=zV ho;subst hv;have HR1:=Lib.hid hrs;clear hown1 hg1 ho hrs;go_wp2_with (fail);go_ret;exact⟨A1,c1,rfl,HR1.out,HB.out,hfr,hc1⟩
def bS (vs:List Value) (j:Nat) (t:TmL) (A:Option Addr) (c:Nat):Prop:=
 vs[j*6]? = some (.int .i64 t.b)/\vs[j*6+1]? = some (.int .i64 t.d)/\vs[j*6+2]? = some (.int .i64 t.t)/\vs[j*6+3]? = some (.int .i64 t.u)/\vs[j*6+4]? = some (.int .i64 t.s)/\vs[j*6+5]? = some (.slice A t.ps.length c)
def tK (w:World) (base:Nat) (v:Value) (ts:List TmL):Prop:=
 ∃vs:List Value,rG w base v ts.length vs/\∀(j:Nat) (h:j<ts.length),∃A c,bS vs j ts[j] A c/\RP w w.heap.size A ts[j].ps.length ts[j].ps/\ts[j].ps.length<=c/\ts[j].ps.length<=maxLen/\∀b off,A=some ⟨b,off,none⟩->base<=b/\v.ownBlock≠some b
theorem iJ {w:World} {A:Option Addr} {ts:List TmL} (h:RTm w A ts.length ts):∃xs:List Value,xs.length=ts.length*6/\(∀u∈xs,u.oneCell'=true) /\
  (0<ts.length->∃b off,A=some ⟨b,off,none⟩/\b<w.heap.size/\∀j,j<ts.length*6->w.cell? ⟨b,off+j,none⟩=xs[j]?) /\
  ∀(j:Nat) (hj:j<ts.length),∃Aj cj,bS xs j ts[j] Aj cj/\RP w w.heap.size Aj ts[j].ps.length ts[j].ps/\ts[j].ps.length<=cj/\ts[j].ps.length<=maxLen:=by
 by_cases hn:0<ts.length
 ·obtain⟨b,off,hA,hb,hc⟩:=h.2 hn
  have key:∀j,∃x:Value,j<ts.length*6->w.cell? ⟨b,off+j,none⟩=some x/\x.oneCell'=true:=fun j=>by
   by_cases hj:j<ts.length*6
   ·obtain⟨h0,h1,h2,h3,h4,Aj,cj,h5,_⟩:=hc (j / 6) (by omega)
    rcases (show j=j / 6*6\/j=j / 6*6+1\/j=j / 6*6+2\/j=j / 6*6+3\/j=j / 6*6+4\/j=j / 6*6+5 from by omega)with e | e | e | e | e | e
    ·exact⟨_,fun _=>⟨by rw[e];exact h0,rfl⟩⟩
    ·exact⟨_,fun _=>⟨by rw[e];exact h1,rfl⟩⟩
    ·exact⟨_,fun _=>⟨by rw[e];exact h2,rfl⟩⟩
    ·exact⟨_,fun _=>⟨by rw[e];exact h3,rfl⟩⟩
    ·exact⟨_,fun _=>⟨by rw[e];exact h4,rfl⟩⟩
    ·exact⟨_,fun _=>⟨by rw[e];exact h5,rfl⟩⟩
   ·exact⟨undef,fun q=>absurd q hj⟩
  obtain⟨F,hF⟩:=Classical.axiomOfChoice key;have hget:∀j,j<ts.length*6->((List.range (ts.length*6)).map F)[j]? = w.cell? ⟨b,off+j,none⟩:=fun j hj=>by
   rw[(hF j hj).1];simp[hj]
  refine⟨(List.range (ts.length*6)).map F,by simp,fun u hu=>?_,fun _=>⟨b,off,hA,hb,fun j hj=>(hget j hj).symm⟩,fun j hj=>?_⟩
  ·obtain⟨j,hj,rfl⟩:=List.mem_map.1 hu
   exact(hF j (List.mem_range.1 hj)).2
  ·obtain⟨h0,h1,h2,h3,h4,Aj,cj,h5,h6⟩:=hc j hj
   exact⟨Aj,cj,⟨by rw[hget _ (by omega)];exact h0,by rw[hget _ (by omega)];exact h1,by rw[hget _ (by omega)];exact h2,by rw[hget _ (by omega)];exact h3,by rw[hget _ (by omega)];exact h4,by rw[hget _ (by omega)];exact h5⟩,h6⟩
 ·have h0:ts=[]:=List.eq_nil_of_length_eq_zero (by omega)
  subst h0;exact⟨[],rfl,fun u hu=>(by cases hu),fun q=>absurd q hn,fun j hj=>by simp at hj⟩
theorem bS.Jl {vs:List Value} {j k:Nat} {t:TmL} {A:Option Addr} {c:Nat} (h:bS vs j t A c) (hne:j≠k) (u:Value):bS (vs.set (k*6+5) u) j t A c:=by
 obtain⟨h0,h1,h2,h3,h4,h5⟩:=h;refine⟨?_,?_,?_,?_,?_,?_⟩ <;> (rw[List.getElem?_set_ne (by omega)];assumption)
theorem bS.Jm {vs:List Value} {k:Nat} {t:TmL} {A A':Option Addr} {c c':Nat} (h:bS vs k t A c):bS (vs.set (k*6+5) (.slice A' t.ps.length c')) k t A' c':=by
 obtain⟨h0,h1,h2,h3,h4,h5⟩:=h;refine⟨?_,?_,?_,?_,?_,?_⟩
 ·rw[List.getElem?_set_ne (by omega)];assumption
 ·rw[List.getElem?_set_ne (by omega)];assumption
 ·rw[List.getElem?_set_ne (by omega)];assumption
 ·rw[List.getElem?_set_ne (by omega)];assumption
 ·rw[List.getElem?_set_ne (by omega)];assumption
 ·rw[List.getElem?_set_self (List.getElem?_eq_some_iff.1 h5).1]
def IK (ts:List TmL) (v:Value) (w:World) (i:Value) (wr:World):Prop:=
 ∃(k:Nat) (vs:List Value),k<=ts.length/\i = .int .i64 k/\rG wr w.heap.size v ts.length vs/\Below w.heap.size w wr /\
  (∀(j:Nat) (hj:j<ts.length),∃A c,bS vs j ts[j] A c/\RP wr wr.heap.size A ts[j].ps.length ts[j].ps/\ts[j].ps.length<=c/\ts[j].ps.length<=maxLen/\(∀b off,A=some ⟨b,off,none⟩->0<ts[j].ps.length->v.ownBlock≠some b)/\(j<k->∀b off,A=some ⟨b,off,none⟩->w.heap.size<=b/\v.ownBlock≠some b))
def jg (ts:List TmL) (w:World) (e:Ending) (w':World):Prop:=∃v,e = .returned v/\tK w' w.heap.size v ts/\Below w.heap.size w w'
end Go.Proofs.YtbdmcibcenhpnaaGreatDoor.De
namespace Go.Proofs.YtbdmcibcenhpnaaGreatDoor.De
open Go Go.RowKit Sp Pa Te Mi Fi
section
variable {p q:Nat->Prop} {w w':World}
def rH (p:Nat->Prop) (w w':World):Prop:=w.heap.size<=w'.heap.size/\∀b,p b->b<w.heap.size->w'.heap[b]? = w.heap[b]?
theorem rH.cell (h:rH p w w') {b i:Nat} (hp:p b) (hb:b<w.heap.size):w'.cell? ⟨b,i,none⟩=w.cell? ⟨b,i,none⟩:=World.cell?_of_block (a:=⟨b,i,none⟩) (h.2 b hp hb)
def RSp (p:Nat->Prop) (w:World) (A:Option Addr) (l:List Span):Prop:=RS w w.heap.size A l.length l/\(0<l.length->∀b off,A=some ⟨b,off,none⟩->p b)
theorem RSp.keep {A:Option Addr} {l:List Span} (h:RSp p w A l) (hk:rH p w w') (hq:∀b,p b->b<w.heap.size->q b):RSp q w' A l:=by
 refine⟨⟨rfl,fun hn=>?_⟩,fun hn b off e=>?_⟩
 ·obtain⟨b,off,e,hb,hc⟩:=h.1.2 hn
  have hp:=h.2 hn b off e;exact⟨b,off,e,Nat.lt_of_lt_of_le hb hk.1,fun j hj=>⟨(hk.cell hp hb).trans (hc j hj).1,(hk.cell hp hb).trans (hc j hj).2⟩⟩
 ·obtain⟨b',off',e',hb,_⟩:=h.1.2 hn
  rw[e]at e';injection e' with e';injection e' with e';subst e';exact hq b (h.2 hn b off e) hb
def RGp (p:Nat->Prop) (w:World) (A:Option Addr) (fam:List (List Span)):Prop:=
 0<fam.length->∃b off,A=some ⟨b,off,none⟩/\p b/\b<w.heap.size/\∀(j:Nat) (h:j<fam.length),∃Aj cj,w.cell? ⟨b,off+j,none⟩=some (.slice Aj fam[j].length cj)/\RSp p w Aj fam[j]/\fam[j].length<=cj/\(Aj=none->fam[j]=[]/\cj=0)
theorem RGp.keep {A:Option Addr} {fam:List (List Span)} (h:RGp p w A fam) (hk:rH p w w') (hq:∀b,p b->b<w.heap.size->q b):RGp q w' A fam:=fun hn=>by
 obtain⟨b,off,e,hp,hb,hc⟩:=h hn;refine⟨b,off,e,hq b hp hb,Nat.lt_of_lt_of_le hb hk.1,fun j hj=>?_⟩;obtain⟨Aj,cj,h1,h2,h3,h4⟩:=hc j hj;exact⟨Aj,cj,(hk.cell hp hb).trans h1,h2.keep hk hq,h3,h4⟩
theorem RGp.reads {A:Option Addr} {fam:List (List Span)} (h:RGp p w A fam):RGs w A fam.length fam:=
 ⟨rfl,fun hn=>by
  obtain⟨b,off,e,_,hb,hc⟩:=h hn;refine⟨b,off,e,hb,fun j hj=>?_⟩;obtain⟨Aj,cj,h1,h2,h3,h4⟩:=hc j hj;exact⟨Aj,cj,h1,h2.1,h3,h4⟩⟩
theorem eC.far {base:Nat} {v:Value} {fam:List (List Span)} (h:eC w base v fam):∃A c,v = .slice A fam.length c/\RGp (fun b=>base<=b) w A fam/\fam.length<=c/\(A=none->c=0):=by
 obtain⟨vs,h1,h2⟩:=h;rcases h1.2 with⟨e,h0⟩ | ⟨g,cap,cur,e,hg,hh,hcap,_⟩
 ·subst e
  obtain rfl:fam=[]:=List.eq_nil_of_length_eq_zero h0;exact⟨none,0,rfl,fun hn=>by simp at hn,Nat.le_refl _,fun _=>rfl⟩
 ·subst e
  refine⟨some ⟨g,0,none⟩,cap,rfl,fun hn=>⟨g,0,rfl,hg,(World.ownsRow.lt h1 g rfl).2,fun j hj=>?_⟩,hcap,fun q=>by cases q⟩;obtain⟨Aj,cj,q1,q2,q3,q4,q5⟩:=h2 j hj;exact⟨Aj,cj,by rw[Nat.zero_add,World.ownsRow.cellAt h1 j (by omega),q1],⟨q2,fun _ b off e=>(q5 b off e).1⟩,q3,q4⟩
def RPp (p:Nat->Prop) (w:World) (A:Option Addr) (l:List PT):Prop:=RP w w.heap.size A l.length l/\(0<l.length->∀b off,A=some ⟨b,off,none⟩->p b)
theorem RPp.keep {A:Option Addr} {l:List PT} (h:RPp p w A l) (hk:rH p w w') (hq:∀b,p b->b<w.heap.size->q b):RPp q w' A l:=by
 refine⟨⟨rfl,fun hn=>?_⟩,fun hn b off e=>?_⟩
 ·obtain⟨b,off,e,hb,hc⟩:=h.1.2 hn
  have hp:=h.2 hn b off e;refine⟨b,off,e,Nat.lt_of_lt_of_le hb hk.1,fun j hj=>?_⟩;obtain⟨a0,a1,a2,a3⟩:=hc j hj;exact⟨(hk.cell hp hb).trans a0,(hk.cell hp hb).trans a1,(hk.cell hp hb).trans a2,(hk.cell hp hb).trans a3⟩
 ·obtain⟨b',off',e',hb,_⟩:=h.1.2 hn
  rw[e]at e';injection e' with e';injection e' with e';subst e';exact hq b (h.2 hn b off e) hb
def RTp (p:Nat->Prop) (w:World) (A:Option Addr) (ts:List TmL):Prop:=
 0<ts.length->∃b off,A=some ⟨b,off,none⟩/\p b/\b<w.heap.size/\∀(j:Nat) (h:j<ts.length),
  w.cell? ⟨b,off+j*6,none⟩=some (.int .i64 ts[j].b)/\w.cell? ⟨b,off+j*6+1,none⟩=some (.int .i64 ts[j].d)/\w.cell? ⟨b,off+j*6+2,none⟩=some (.int .i64 ts[j].t)/\w.cell? ⟨b,off+j*6+3,none⟩=some (.int .i64 ts[j].u)/\w.cell? ⟨b,off+j*6+4,none⟩=some (.int .i64 ts[j].s) /\
  ∃A' c',w.cell? ⟨b,off+j*6+5,none⟩=some (.slice A' ts[j].ps.length c')/\RPp p w A' ts[j].ps/\ts[j].ps.length<=c'/\ts[j].ps.length<=maxLen
theorem RTp.keep {A:Option Addr} {ts:List TmL} (h:RTp p w A ts) (hk:rH p w w') (hq:∀b,p b->b<w.heap.size->q b):RTp q w' A ts:=fun hn=>by
 obtain⟨b,off,e,hp,hb,hc⟩:=h hn;refine⟨b,off,e,hq b hp hb,Nat.lt_of_lt_of_le hb hk.1,fun j hj=>?_⟩;obtain⟨h0,h1,h2,h3,h4,A',c',h5,h6,h7,h8⟩:=hc j hj;exact⟨(hk.cell hp hb).trans h0,(hk.cell hp hb).trans h1,(hk.cell hp hb).trans h2,(hk.cell hp hb).trans h3,(hk.cell hp hb).trans h4,A',c',(hk.cell hp hb).trans h5,h6.keep hk hq,h7,h8⟩
theorem RTp.reads {A:Option Addr} {ts:List TmL} (h:RTp p w A ts):RTm w A ts.length ts:=
 ⟨rfl,fun hn=>by
  obtain⟨b,off,e,_,hb,hc⟩:=h hn;refine⟨b,off,e,hb,fun j hj=>?_⟩;obtain⟨h0,h1,h2,h3,h4,A',c',h5,h6,h7,h8⟩:=hc j hj;exact⟨h0,h1,h2,h3,h4,A',c',h5,h6.1,h7,h8⟩⟩
theorem tK.far {base:Nat} {v:Value} {ts:List TmL} (h:tK w base v ts):∃A c,v = .slice A ts.length c/\RTp (fun b=>base<=b) w A ts/\ts.length<=c/\(A=none->c=0):=by
 obtain⟨vs,h1,h2⟩:=h;have h1':w.ownsRow base 51 6 v ts.length vs:=h1;rcases h1'.2 with⟨e,h0⟩ | ⟨g,cap,cur,e,hg,hh,hcap,_⟩
 ·subst e
  obtain rfl:ts=[]:=List.eq_nil_of_length_eq_zero h0;exact⟨none,0,rfl,fun hn=>by simp at hn,Nat.le_refl _,fun _=>rfl⟩
 ·subst e
  refine⟨some ⟨g,0,none⟩,cap,rfl,fun hn=>⟨g,0,rfl,hg,(World.ownsRow.lt h1' g rfl).2,fun j hj=>?_⟩,hcap,fun q=>by cases q⟩;obtain⟨A',c',⟨q0,q1,q2,q3,q4,q5⟩,hr,hc,hm,hf⟩:=h2 j hj;have cc:∀r,r<6->w.cell? ⟨g,0+j*6+r,none⟩=vs[j*6+r]?:=fun r hr=>by rw[Nat.zero_add];exact World.ownsRow.cellAt h1' (j*6+r) (by omega)
  refine⟨by have:=cc 0 (by omega);rw[Nat.add_zero]at this;rw[this];exact q0,by rw[cc 1 (by omega)];exact q1,by rw[cc 2 (by omega)];exact q2,by rw[cc 3 (by omega)];exact q3,by rw[cc 4 (by omega)];exact q4,A',c',by rw[cc 5 (by omega)];exact q5,⟨hr,fun _ b off e=>(hf b off e).1⟩,hc,hm⟩
end
def Ih (vs:List Value) (j:Nat) (r:RuL) (G:Option Addr) (gc:Nat) (T:Option Addr) (tc:Nat):Prop:=
 vs[j*5]? = some (.int .i64 r.frm)/\vs[j*5+1]? = some (.int .i64 r.to_)/\vs[j*5+2]? = some (.slice G r.gs.length gc)/\vs[j*5+3]? = some (.int .i64 r.eat)/\vs[j*5+4]? = some (.slice T r.out.length tc)
def IW (vs:List Value) (j:Nat) (f:FiL) (G:Option Addr) (gc:Nat) (T:Option Addr) (tc:Nat):Prop:=
 vs[j*3]? = some (.int .i64 f.frm)/\vs[j*3+1]? = some (.slice G f.gs.length gc)/\vs[j*3+2]? = some (.slice T f.out.length tc)
def fP (p:Nat->Prop) (w:World) (base:Nat) (v:Value) (L:List RuL):Prop:=
 ∃vs:List Value,w.ownsRow base 43 5 v L.length vs/\∀(j:Nat) (h:j<L.length),∃G gc T tc,Ih vs j L[j] G gc T tc/\RGp (fun b=>p b/\v.ownBlock≠some b) w G L[j].gs/\L[j].gs.length<=gc/\RTp (fun b=>p b/\v.ownBlock≠some b) w T L[j].out/\L[j].out.length<=tc
def fQ (p:Nat->Prop) (w:World) (base:Nat) (v:Value) (L:List FiL):Prop:=
 ∃vs:List Value,w.ownsRow base 45 3 v L.length vs/\∀(j:Nat) (h:j<L.length),∃G gc T tc,IW vs j L[j] G gc T tc/\RGp (fun b=>p b/\v.ownBlock≠some b) w G L[j].gs/\L[j].gs.length<=gc/\RTp (fun b=>p b/\v.ownBlock≠some b) w T L[j].out/\L[j].out.length<=tc
theorem fP.dS (p:Nat->Prop) (w:World) (base:Nat):fP p w base (.slice none 0 0) []:=⟨[],World.ownsRow_nil _ _ _ _,fun j h=>by simp at h⟩
theorem fQ.dS (p:Nat->Prop) (w:World) (base:Nat):fQ p w base (.slice none 0 0) []:=⟨[],World.ownsRow_nil _ _ _ _,fun j h=>by simp at h⟩
section
variable {p q:Nat->Prop} {w w':World} {base:Nat} {v:Value}
theorem fP.keep {L:List RuL} (h:fP p w base v L) (hs:w.heap.size<=w'.heap.size) (hv:∀g,v.ownBlock=some g->w'.heap[g]? = w.heap[g]?) (hk:∀b,p b->v.ownBlock≠some b->b<w.heap.size->w'.heap[b]? = w.heap[b]?) (hq:∀b,p b->b<w.heap.size->q b):fP q w' base v L:=by
 obtain⟨vs,h1,h2⟩:=h;refine⟨vs,aQ h1 hv,fun j hj=>?_⟩;obtain⟨G,gc,T,tc,a1,a2,a3,a4,a5⟩:=h2 j hj;exact⟨G,gc,T,tc,a1,a2.keep ⟨hs,fun b hb=>hk b hb.1 hb.2⟩ (fun b hb hlt=>⟨hq b hb.1 hlt,hb.2⟩),a3,a4.keep ⟨hs,fun b hb=>hk b hb.1 hb.2⟩ (fun b hb hlt=>⟨hq b hb.1 hlt,hb.2⟩),a5⟩
theorem fQ.keep {L:List FiL} (h:fQ p w base v L) (hs:w.heap.size<=w'.heap.size) (hv:∀g,v.ownBlock=some g->w'.heap[g]? = w.heap[g]?) (hk:∀b,p b->v.ownBlock≠some b->b<w.heap.size->w'.heap[b]? = w.heap[b]?) (hq:∀b,p b->b<w.heap.size->q b):fQ q w' base v L:=by
 obtain⟨vs,h1,h2⟩:=h;refine⟨vs,aQ h1 hv,fun j hj=>?_⟩;obtain⟨G,gc,T,tc,a1,a2,a3,a4,a5⟩:=h2 j hj;exact⟨G,gc,T,tc,a1,a2.keep ⟨hs,fun b hb=>hk b hb.1 hb.2⟩ (fun b hb hlt=>⟨hq b hb.1 hlt,hb.2⟩),a3,a4.keep ⟨hs,fun b hb=>hk b hb.1 hb.2⟩ (fun b hb hlt=>⟨hq b hb.1 hlt,hb.2⟩),a5⟩
theorem fP.more {L:List RuL} {vs:List Value} {r:RuL} {G T:Option Addr} {gc tc H:Nat} {v':Value} (h:fP p w base v L) (hvs:w.ownsRow base 43 5 v L.length vs)
  (hg:RGp (fun b=>p b/\v.ownBlock≠some b) w G r.gs) (hgc:r.gs.length<=gc) (ht:RTp (fun b=>p b/\v.ownBlock≠some b) w T r.out) (htc:r.out.length<=tc)
  (hgr:w.grownBy w' v.ownBlock) (ho:w'.ownsRow base 43 5 v' (L.length+1) (vs++[.int .i64 r.frm,.int .i64 r.to_,.slice G r.gs.length gc,.int .i64 r.eat,.slice T r.out.length tc])) (hat:v'.ownBlock=v.ownBlock\/v'.ownBlock=some H) (hH:w.heap.size<=H):fP p w' base v' (L++[r]):=by
 obtain⟨vs',h1,h2⟩:=h;obtain rfl:vs'=vs:=eF h1 hvs;have hvl:vs'.length=L.length*5:=h1.1;have hkq:rH (fun b=>p b/\v.ownBlock≠some b) w w':=⟨hgr.size,fun b hb hlt=>hgr.block b hlt (fun e=>hb.2 e.symm)⟩;have hqq:∀b,(p b/\v.ownBlock≠some b)->b<w.heap.size->p b/\v'.ownBlock≠some b:=fun b hb hlt=>⟨hb.1,fun e=>by
  rcases hat with k | k
  ·exact hb.2 (by rw[<- k,e])
  ·rw[k]at e
   injection e with e;omega⟩
 refine⟨vs'++[.int .i64 r.frm,.int .i64 r.to_,.slice G r.gs.length gc,.int .i64 r.eat,.slice T r.out.length tc],by rw[List.length_append,List.length_singleton];exact ho,fun j hj=>?_⟩;by_cases k:j<L.length
 ·obtain⟨G',gc',T',tc',⟨a0,a1,a2,a3,a4⟩,b1,b2,b3,b4⟩:=h2 j k
  rw[List.getElem_append_left k];refine⟨G',gc',T',tc',⟨?_,?_,?_,?_,?_⟩,b1.keep hkq hqq,b2,b3.keep hkq hqq,b4⟩ <;> (rw[List.getElem?_append_left (by omega)];assumption)
 ·obtain rfl:j=L.length:=by simp at hj;omega
  rw[List.getElem_append_right (by omega)];simp only[Nat.sub_self,List.getElem_singleton];refine⟨G,gc,T,tc,⟨?_,?_,?_,?_,?_⟩,hg.keep hkq hqq,hgc,ht.keep hkq hqq,htc⟩ <;> (rw[List.getElem?_append_right (by omega)];simp[hvl])
theorem fQ.more {L:List FiL} {vs:List Value} {r:FiL} {G T:Option Addr} {gc tc H:Nat} {v':Value} (h:fQ p w base v L) (hvs:w.ownsRow base 45 3 v L.length vs)
  (hg:RGp (fun b=>p b/\v.ownBlock≠some b) w G r.gs) (hgc:r.gs.length<=gc) (ht:RTp (fun b=>p b/\v.ownBlock≠some b) w T r.out) (htc:r.out.length<=tc)
  (hgr:w.grownBy w' v.ownBlock) (ho:w'.ownsRow base 45 3 v' (L.length+1) (vs++[.int .i64 r.frm,.slice G r.gs.length gc,.slice T r.out.length tc])) (hat:v'.ownBlock=v.ownBlock\/v'.ownBlock=some H) (hH:w.heap.size<=H):fQ p w' base v' (L++[r]):=by
 obtain⟨vs',h1,h2⟩:=h;obtain rfl:vs'=vs:=eF h1 hvs;have hvl:vs'.length=L.length*3:=h1.1;have hkq:rH (fun b=>p b/\v.ownBlock≠some b) w w':=⟨hgr.size,fun b hb hlt=>hgr.block b hlt (fun e=>hb.2 e.symm)⟩;have hqq:∀b,(p b/\v.ownBlock≠some b)->b<w.heap.size->p b/\v'.ownBlock≠some b:=fun b hb hlt=>⟨hb.1,fun e=>by
  rcases hat with k | k
  ·exact hb.2 (by rw[<- k,e])
  ·rw[k]at e
   injection e with e;omega⟩
 refine⟨vs'++[.int .i64 r.frm,.slice G r.gs.length gc,.slice T r.out.length tc],by rw[List.length_append,List.length_singleton];exact ho,fun j hj=>?_⟩;by_cases k:j<L.length
 ·obtain⟨G',gc',T',tc',⟨a0,a1,a2⟩,b1,b2,b3,b4⟩:=h2 j k
  rw[List.getElem_append_left k];refine⟨G',gc',T',tc',⟨?_,?_,?_⟩,b1.keep hkq hqq,b2,b3.keep hkq hqq,b4⟩ <;> (rw[List.getElem?_append_left (by omega)];assumption)
 ·obtain rfl:j=L.length:=by simp at hj;omega
  rw[List.getElem_append_right (by omega)];simp only[Nat.sub_self,List.getElem_singleton];refine⟨G,gc,T,tc,⟨?_,?_,?_⟩,hg.keep hkq hqq,hgc,ht.keep hkq hqq,htc⟩ <;> (rw[List.getElem?_append_right (by omega)];simp[hvl])
end
def oo (w:World) (x:Nat) (i o n s:Int) (v vf:Value):Prop:=w.heap[x]? = some (.cells #[.int .i64 i,.int .i64 o,.int .i64 n,.int .i64 s,v,vf] 26 (0,0))
section
variable {w w':World} {x:Nat} {i o n s:Int} {v vf:Value}
theorem oo.lt (h:oo w x i o n s v vf):x<w.heap.size:=(Array.getElem?_eq_some_iff.1 h).1
theorem oo.at4 (h:oo w x i o n s v vf):w.cell? ⟨x,4,none⟩=some v:=by simp[World.cell?,show w.heap[x]? = _ from h]
theorem oo.at5 (h:oo w x i o n s v vf):w.cell? ⟨x,5,none⟩=some vf:=by simp[World.cell?,show w.heap[x]? = _ from h]
theorem oo.frozen (h:oo w x i o n s v vf) (k:Nat):w.frozen? ⟨x,k,none⟩=false:=by simp[World.frozen?,show w.heap[x]? = _ from h]
theorem oo.keep (h:oo w x i o n s v vf) (hk:w'.heap[x]? = w.heap[x]?):oo w' x i o n s v vf:=hk.trans h
theorem oo.set4 (h:oo w x i o n s v vf) (u:Value):oo (w.setCell ⟨x,4,none⟩ u) x i o n s u vf:=by
 obtain⟨hlt,hk⟩:=Array.getElem?_eq_some_iff.1 h;show(w.heap.modify x _)[x]? = _;rw[Array.getElem?_eq_getElem (by rw[Array.size_modify];exact hlt),Array.getElem_modify_self,hk];rfl
theorem oo.set5 (h:oo w x i o n s v vf) (u:Value):oo (w.setCell ⟨x,5,none⟩ u) x i o n s v u:=by
 obtain⟨hlt,hk⟩:=Array.getElem?_eq_some_iff.1 h;show(w.heap.modify x _)[x]? = _;rw[Array.getElem?_eq_getElem (by rw[Array.size_modify];exact hlt),Array.getElem_modify_self,hk];rfl
end
structure QE (bs x:Nat) (i o n s:Int) (L:List RuL) (F:List FiL) (v vf:Value) (w:World):Prop where
 box:oo w x i o n s v vf
 rules:fP (fun b=>bs<=b/\vf.ownBlock≠some b) w bs v L
 finals:fQ (fun b=>bs<=b/\v.ownBlock≠some b) w bs vf F
 apart:∀g,v.ownBlock=some g->vf.ownBlock≠some g
 low:x<bs
def tM (x:Nat) (v vf:Value) (w w':World):Prop:=w.heap.size<=w'.heap.size/\∀b,b<w.heap.size->b≠x->v.ownBlock≠some b->vf.ownBlock≠some b->w'.heap[b]? = w.heap[b]?
section
variable {w w' w1:World} {bs x:Nat} {i o n s:Int} {L:List RuL} {F:List FiL} {v vf v':Value}
theorem tM.trans {w2:World} {v2 vf2:Value} (h:tM x v vf w w1) (k:tM x v2 vf2 w1 w2) (hv:∀g,v2.ownBlock=some g->v.ownBlock=some g\/w.heap.size<=g) (hf:∀g,vf2.ownBlock=some g->vf.ownBlock=some g\/w.heap.size<=g):tM x v vf w w2:=
 ⟨Nat.le_trans h.1 k.1,fun b hb hx h1 h2=>(k.2 b (Nat.lt_of_lt_of_le hb h.1) hx (fun e=>by rcases hv b e with q | q;exact h1 q;omega) (fun e=>by rcases hf b e with q | q;exact h2 q;omega)).trans (h.2 b hb hx h1 h2)⟩
end
end Go.Proofs.YtbdmcibcenhpnaaGreatDoor.De
namespace Go.Proofs.YtbdmcibcenhpnaaGreatDoor.Sp
set_option maxHeartbeats 64000000
open Go Go.RowKit
open Go.Lib (hid)
def shift (d:Int) (p:List Span):List Span := p.map fun q => (q.1+d, q.2+d)
theorem zA (d:Int) (p:List Span) (hp:Plain p) (x:Int):mem (shift d p) x↔Rng x/\mem p (x-d) := by
  unfold mem shift
  constructor
  · rintro⟨h, q, hq, h1, h2⟩
    obtain⟨q', hq', rfl⟩ := List.mem_map.1 hq;have := hp.2 q' hq';unfold Ok at this;simp only at h1 h2;exact⟨h, by unfold Rng; omega, q', hq', by omega, by omega⟩
  · rintro⟨h, _, q, hq, h1, h2⟩
    exact⟨h, _, List.mem_map.2 ⟨q, hq, rfl⟩, by simp only; omega, by simp only; omega⟩
theorem vZ {d lo hi:Int} {p:List Span} {k:Nat} (hk:∃hl:k<p.length, p[k]=(lo, hi)):shift d (p.take (k+1))=shift d (p.take k)++[(lo+d, hi+d)] := by
  obtain⟨hl, e⟩ := hk;rw[List.take_succ_eq_append_getElem hl, e];simp[shift]
def E2 (p:List Span) (d:Int) (w2:World) (v i:Value) (wr:World):Prop := ∃k:Nat, k<=p.length/\i = .int .i64 k/\av wr w2.heap.size v (shift d (p.take k))/\Below w2.heap.size w2 wr
theorem zB (d:Int) (p:List Span) (k:Nat) (hk:k<=p.length):(shift d (p.take k)).length=k := by simp[shift]; omega
theorem zI (A:Option Addr) (n c:Nat) (l:List Span) (d:Int) (w:World) (h:RS w w.heap.size A n l) (hn:n<=68719476736) :
    Calls Tryz.prog 76 #[.slice A n c, .int .i64 d] w (aP (fun x => Rng x/\mem l (x-d)) w) := by
  obtain⟨i0, hi0, hz0, hz1, hz2⟩ := info_parts bQ;by_cases h2:2147483648<d
  · go_enter Tryz.func76, Tryz.ntmps76
    go_wp2_with (fail);go_ret;exact⟨_, [], rfl, gH (.inr h2), World.ownsRow_nil _ _ _ _, Below.refl _ _⟩
  by_cases h1:d < -2147483648
  · go_enter Tryz.func76, Tryz.ntmps76
    go_wp2_with (fail);go_ret;exact⟨_, [], rfl, gH (.inl h1), World.ownsRow_nil _ _ _ _, Below.refl _ _⟩
  go_enter Tryz.func76, Tryz.ntmps76;go_wp2_with (fail);refine(iO A n c l _ h hn).mono ?_;rintro e w2 ⟨v2, p, rfl, hP, ho2, hb2⟩;obtain⟨A2, c2, hv2, hc2, hr2⟩ := aF ho2;subst hv2;have I4 := hb2.size;have hs2 := hP.1.short;have HPS := hid hP.2;have HP := hid hP.1;clear hP ho2;go_wp2_with (fail)
  go_loopw [6, 7] (fun v i wr => E2 p d w2 v i wr) (fun _ i _ => p.length-(intOf i).toNat)
  case atStart => exact⟨0, Nat.zero_le _, rfl, World.ownsRow_nil _ _ _ _, Below.refl _ _⟩
  case round =>
    obtain⟨k, hk, rfl, ho, hb⟩ := hrel;have hz := hb.size;have HLEN := hid (zB d p k hk);have HO := hid ho; clear ho;by_cases hlt:k<p.length
    · obtain⟨b, off, lo, hi, hA, hbB, hlk, hc1, Et⟩ := (hr2.below hb).at_ hlt
      have hbs:b<wr.heap.size := by omega
      have hok := zY HP.out hlk;have HNX := hid (vZ (d := d) hlk);clear hlk;rw[hA];clear hA;have hag:u6.ownBlock≠some b := fun e => by have := (HO.out.lt _ e).1; omega
      have s1:IntKind.i64.wrap (lo+d)=lo+d := IntWalk.i64_in _ (by omega);have s2:IntKind.i64.wrap (hi+d)=hi+d := IntWalk.i64_in _ (by omega);have i1:(0:Int)<=(k:Int) := Int.natCast_nonneg _;have i2:(k:Int)<(p.length:Int) := by omega
      go_wp2_with (fail)
      go_region_held3 (fun w' => w'.cell? ⟨b, off+k*2, none⟩=some (.int .i64 lo)/\w'.cell? ⟨b, off+k*2+1, none⟩=some (.int .i64 hi))
        (first
          | go_keep
          | (go_split_ands
             refine⟨?_, ?_⟩
             · (rw[hgrow.cell_far _ (by simp; omega) (Ne.symm hag)]; assumption)
             · (rw[hgrow.cell_far _ (by simp; omega) (Ne.symm hag)]; assumption)))
        ((refine step_append_lies _ (by rfl) _ _ _ (by rfl) w2.heap.size 47 i0 _ 2 16 Tryz.underlying48 hi0 hz0 hz1 hz2 rfl (by omega) u6 (shift d (p.take k)).length (flat (shift d (p.take k))) (by rfl) ((HO.out.alloc _).drew)
            ⟨wr.heap.size, 0, none⟩ 1 1 [.int .i64 (lo+d), .int .i64 (hi+d)] (by rfl) (by rfl) (World.news_of_block (cs := #[.int .i64 (lo+d), .int .i64 (hi+d)]) (t := 47) (fr := (0, 0)) (heap_alloc_new wr _)) (by simp[Value.oneCell'])
            (by omega) (by rw[HLEN.out]; simp only[maxLen]; omega) (by rw[HLEN.out]; omega) (by simp; omega) (wr.heap.size+1) (by simp) ?_; intro gg cap w4 hown1 hgrow hat hlt))
      have hown2:av w4 w2.heap.size (.slice (some ⟨gg, 0, none⟩) ((shift d (p.take k)).length+1) cap) (shift d (p.take k)++[(lo+d, hi+d)]) := by
        unfold av; rw[aA, List.length_append]; exact hown1
      rw[<- HNX.out]at hown2;have HG1 := hid (((hb.alloc hz _).drew).grown hgrow (by simp; omega) (cA HO.out));have HO5 := hid hown2; clear hown2 hown1 hgrow hat hlt s1 s2 i1 i2;go_wp2_with (fail)
      go_roundw
      case rel => exact⟨k+1, by omega, by go_num, HO5.out, HG1.out⟩
      case measure => simp[intOf]; omega
    · have hT:p.take k=p := List.take_of_length_le (by omega)
      have ho := HO.out;rw[hT]at ho;obtain⟨A5, c5, hv5, hc5, hr5⟩ := aF ho;have hl5:(shift d p).length<=1073741825 := by simp[shift]; omega
      have H := hid (iO A5 (shift d p).length c5 (shift d p) wr hr5 (by omega));have HV := hid hv5;clear hT ho hr5 hv5;rw[HV.out];go_wp2_with (fail);refine H.out.mono ?_;rintro e w6 ⟨v6, o6, rfl, his6, ho6, hb6⟩;have HI6 := hid his6; clear his6;go_wp2_with (fail);go_ret;exact⟨v6, o6, rfl, HI6.out.congr fun x => by rw[zA d p HP.out, HPS.out], aL ho6 (by omega), hb2.trans ((hb.mono I4).trans (hb6.mono (by omega)))⟩
end Go.Proofs.YtbdmcibcenhpnaaGreatDoor.Sp
namespace Go.Proofs.YtbdmcibcenhpnaaGreatDoor.Ep
set_option maxHeartbeats 64000000
open Go Go.RowKit Go.Shelf Sp Pa Te Mi De
open Go.Lib (hid)
abbrev Tl:=Option Addr×Nat×Nat×List Value
structure Pc (w:World) (t:Tl):Prop where
 len:t.2.2.2.length=t.2.1*6
 at_:0<t.2.1->∃b off,t.1=some ⟨b,off,none⟩/\b<w.heap.size/\∀j,j<t.2.1*6->w.cell? ⟨b,off+j,none⟩=t.2.2.2[j]?
 one:∀u∈t.2.2.2,u.oneCell'=true
 dS:t.1=none->t.2.2.1=0
def jL (L:List Tl):Nat:=(L.map fun t=>t.2.1).sum
def yI (L:List Tl):List Value:=L.flatMap fun t=>t.2.2.2
theorem zf {L:List Tl} {k:Nat} (hk:k<L.length):jL (L.take (k+1))=jL (L.take k)+L[k].2.1:=by
 unfold jL;rw[List.take_succ_eq_append_getElem hk,List.map_append,List.sum_append];simp only[List.map_cons,List.map_nil,List.sum_cons,List.sum_nil];omega
theorem Cg {L:List Tl} {k:Nat} (hk:k<L.length):yI (L.take (k+1))=yI (L.take k)++L[k].2.2.2:=by
 unfold yI;rw[List.take_succ_eq_append_getElem hk,List.flatMap_append];simp only[List.flatMap_cons,List.flatMap_nil,List.append_nil]
theorem zh (L:List Tl) (k:Nat):jL (L.take k)<=jL L:=by
 have h:jL L=jL (L.take k)+jL (L.drop k):=by
  conv=>lhs;rw[<- List.take_append_drop k L]
  unfold jL;rw[List.map_append,List.sum_append]
 omega
def Oe (L:List Tl) (s i:Value):Prop:=∃k:Nat,k<=L.length/\i = .int .i64 (k:Int)/\s = .int .i64 (jL (L.take k):Int)
def Ll (L:List Tl) (w:World) (v i:Value) (wr:World):Prop:=∃k:Nat,k<=L.length/\i = .int .i64 (k:Int)/\rG wr w.heap.size v (jL (L.take k)) (yI (L.take k))/\Below w.heap.size w wr
theorem tA (g c:Nat) (L:List Tl) (w:World) (hL:∀k (hk:k<L.length),w.cell? ⟨g,k,none⟩=some (.slice L[k].1 L[k].2.1 L[k].2.2.1)) (hgs:g<w.heap.size) (hok:∀t∈L,Pc w t) (hn:jL L<=100000) (hl:L.length<=1000) :
  Calls Tryz.prog 64 #[.slice (some ⟨g,0,none⟩) L.length c] w (Ni (jL L) (yI L) w):=by
 obtain⟨i0,hi0,hz0,hz1,hz2⟩:=info_parts uO;have HL:=hid hL;have HOK:=hid hok;have HSN:=hid (fun k (hk:k<L.length)=>zf hk);have HCN:=hid (fun k (hk:k<L.length)=>Cg hk);have HLE:=hid (fun k=>zh L k);obtain⟨m,hm⟩:∃m,L.length=m:=⟨_,rfl⟩;obtain⟨tot,htot⟩:∃tot,jL L=tot:=⟨_,rfl⟩;obtain⟨F,hF⟩:∃F:Nat->Nat,(fun k=>jL (L.take k))=F:=⟨_,rfl⟩;have hFk:∀k,jL (L.take k)=F k:=fun k=>by rw[<- hF]
 have HM:=hid hm;have HT:=hid htot;have hfm:F m=tot:=by rw[<- hFk,<- hm,List.take_length,htot]
 have HFM:=hid hfm;have HFL:=hid (show∀k,F k<=tot from fun k=>by rw[<- hFk,<- htot];exact zh L k);have HF0:=hid (show F 0=0 from by rw[<- hFk];rfl);rw[hm]at hl ⊢;rw[htot]at hn ⊢;clear hL hok hF hfm htot hm;go_enter Tryz.func64,Tryz.ntmps64;go_wp2_with (fail)
 go_loop [3,11] (fun s i=>Oe L s i) (fun _ i=>m-(intOf i).toNat)
 case atStart=>exact⟨0,Nat.zero_le _,rfl,rfl⟩
 case round=>
  obtain⟨k,hk,rfl,rfl⟩:=hrel;rw[HM.out]at hk;by_cases hlt:k<m
  ·have hkl:k<L.length:=by rw[HM.out];exact hlt
   have hcell:=HL.out k hkl;have hsn:=HSN.out k hkl;rw[hFk,hFk]at hsn;have hfl:=HFL.out (k+1);have i1:(0:Int)<=(k:Int):=Int.natCast_nonneg _;have i2:(k:Int)<(m:Int):=by omega
   obtain⟨a,ha⟩:∃a,jL (L.take k)=a:=⟨_,rfl⟩;have ha2:F k=a:=by rw[<- hFk,ha]
   rw[ha2]at hsn;obtain⟨⟨A,n,c1,xs⟩,ht⟩:∃t,L[k]=t:=⟨_,rfl⟩;rw[ht]at hcell hsn;simp only at hcell hsn;have HNX:=hid (show Oe L (.int .i64 ((a:Int)+(n:Int))) (.int .i64 ((k:Int)+1))from⟨k+1,by rw[HM.out];omega,by go_num,by rw[hFk,hsn];go_num⟩);have d0:decide (((a:Int)+(n:Int))<0)=false:=decide_eq_false (by omega);have j1:(0:Int)<=(a:Int):=Int.natCast_nonneg _;have j2:(a:Int)+(n:Int)<=100000:=by omega
   rw[ha];clear ht hkl ha;go_wp2_with (fail)
   go_roundw
   case rel=>exact HNX.out
   case measure=>simp[intOf];omega
  ·obtain rfl:k=m:=by omega
   rw[hFk,HFM.out];go_wp2_with (fail);refine(Bk (tot:Int) _ (by omega) (by omega)).mono ?_;rintro e w2 ⟨v2,rfl,ho2,hb2⟩;have HST:=hid (show Ll L w v2 (.int .i64 0) w2 from⟨0,Nat.zero_le _,rfl,by
    have e1:jL (L.take 0)=0:=rfl;have e2:yI (L.take 0)=[]:=rfl;rw[e1,e2];exact ho2,hb2⟩)
   have HTB:=hid hn;clear ho2 hb2 hn hk hlt hFk;go_wp2_with (fail)
   go_loopw [6,27] (fun v i wr=>Ll L w v i wr) (fun _ i _=>k-(intOf i).toNat)
   case atStart=>exact HST.out
   case round=>
    obtain⟨r,hr,rfl,ho,hb⟩:=hrel;rw[HM.out]at hr;by_cases hlt:r<k
    ·have hrl:r<L.length:=by rw[HM.out];exact hlt
     have hcell0:=(hb.cell (p:=⟨g,r,none⟩) hgs).trans (HL.out r hrl);have hok:=HOK.out L[r] (List.getElem_mem hrl);have hsn:=HSN.out r hrl;have hcn:=HCN.out r hrl;have hle:=HLE.out (r+1);have i1:(0:Int)<=(r:Int):=Int.natCast_nonneg _;have i2:(r:Int)<(k:Int):=by omega
     obtain⟨⟨A,n,c1,xs⟩,ht⟩:∃t,L[r]=t:=⟨_,rfl⟩;rw[ht]at hcell0 hsn hcn hok;simp only at hcell0 hsn hcn;have hzz:=hb.size;have HO:=hid ho;have HB:=hid hb;have htb:jL L<=100000:=by rw[HT.out];exact HTB.out
     rcases A with _ | ad
     ·have e1:c1=0:=hok.dS rfl
      have e0:n=0:=by
       rcases Nat.eq_zero_or_pos n with q | q
       ·exact q
       ·obtain⟨b,off,e2,_⟩:=hok.at_ q
        cases e2
      subst e0 e1;have hx0:xs=[]:=List.eq_nil_of_length_eq_zero (by have:=hok.len;simp only at this;omega);subst hx0;have HNX:=hid (fun v (hv:rG wr w.heap.size v (jL (L.take r)) (yI (L.take r)))=>show Ll L w v (.int .i64 ((r:Int)+1)) wr from⟨r+1,by rw[HM.out];omega,by go_num,by rw[hsn,hcn,List.append_nil,Nat.add_zero];exact hv,HB.out⟩);clear hb ho hok ht hsn hcn hle htb;go_wp2_with (at_builtin;go_must (refine wpList_append_own_none rfl _ _ 41 rfl w.heap.size 51 i0 6 Tryz.underlying41 hi0 _ _ _ rfl HO.out rfl ?_))
      go_roundw
      case rel=>exact HNX.out _ HO.out
      case measure=>simp[intOf];omega
     ·have hnews:∀j u,xs[j]? = some u->wr.cell? (ad.add j)=some u:=fun j u hu=>by
       have hj:j<xs.length:=(List.getElem?_eq_some_iff.1 hu).1;have hxl:=hok.len;simp only at hxl;obtain⟨b,off,hA,hbb,hc⟩:=hok.at_ (by simp only;omega);injection hA with hA;subst hA;rw[Go.WideShapes.add_plain,HB.out.cell (p:=⟨b,off+j,none⟩) hbb,hc j (by simp only;omega),hu]
      have HNW:=hid hnews;have HXL:=hid (show xs.length=n*6 from hok.len);have HO1:=hid (show∀u∈xs,u.oneCell'=true from hok.one);have hb2:jL (L.take r)+n<=100000:=by omega
      have HNX:=hid (fun v w5 (hv:rG w5 w.heap.size v (jL (L.take r)+n) (yI (L.take r)++xs)) (h5:Below w.heap.size w w5)=>show Ll L w v (.int .i64 ((r:Int)+1)) w5 from⟨r+1,by rw[HM.out];omega,by go_num,by rw[hsn,hcn];exact hv,h5⟩);clear hnews hb ho hok ht hsn hcn hle htb;go_wp2_with (at_builtin;go_must (refine wpList_append_own _ rfl _ _ 41 rfl w.heap.size 51 i0 _ 6 64 Tryz.underlying41 hi0 hz0 hz1 hz2 rfl (by decide) _ _ _ rfl HO.out ad n c1 xs rfl HXL.out HNW.out HO1.out ?c3 ?c4 ?c5 ?_))
      case c3=>simp only[maxLen];omega
      case c4=>omega
      case c5=>omega
      intro v5 w5 hown5 hg5 _;have HF5:=hid (HNX.out v5 w5 hown5 (HB.out.grown hg5 hzz (fun k hk=>(World.ownsRow.lt HO.out k hk).1)));clear hown5 hg5;go_wp2_with (fail)
      go_roundw
      case rel=>exact HF5.out
      case measure=>simp[intOf];omega
    ·obtain rfl:r=k:=by omega
     have HF:=hid (fun v (hv:rG wr w.heap.size v (jL (L.take r)) (yI (L.take r)))=>show Ni tot (yI L) w (.returned v) wr from by
      rw[<- HM.out,List.take_length,HT.out]at hv;exact⟨v,rfl,hv,hb⟩)
     have HO:=hid ho;clear ho hb;go_wp2_with (fail);go_ret;exact HF.out _ HO.out
end Go.Proofs.YtbdmcibcenhpnaaGreatDoor.Ep
namespace Go.Proofs.YtbdmcibcenhpnaaGreatDoor.Ep
set_option maxHeartbeats 64000000
open Go Go.RowKit Go.Shelf Sp Pa Te Mi De
open Go.Lib (hid)
theorem yY (g k0 c:Nat) (ts:List TmL) (xs:List Value) (w:World) (hcc:Calls Tryz.prog 64 #[.slice (some ⟨g,0,none⟩) k0 c] w (Ni ts.length xs w))
  (hxr:∀(j:Nat) (hj:j<ts.length),∃Aj cj,bS xs j ts[j] Aj cj/\RP w w.heap.size Aj ts[j].ps.length ts[j].ps/\ts[j].ps.length<=cj/\ts[j].ps.length<=maxLen)
  (hn:ts.length<=100000) (hps:∀t∈ts,t.ps.length<=20) :
  Calls Tryz.prog 51 #[.slice (some ⟨g,0,none⟩) k0 c] w (jg ts w):=by
 have HCC:=hid hcc;have HXR:=hid hxr;have HPS:=hid hps;clear hxr hps hcc;go_enter Tryz.func51,Tryz.ntmps51;go_wp2_with (fail);refine HCC.out.mono ?_;rintro e w1 ⟨v1,rfl,hown1,hb1⟩;obtain⟨A1,c2,hv1⟩:=aX hown1;have HST:=hid (show IK ts v1 w (.int .i64 (0:Nat)) w1 from⟨0,xs,Nat.zero_le _,rfl,hown1,hb1,fun j hj=>by
  obtain⟨Aj,cj,h1,h2,h3,h4⟩:=HXR.out j hj;refine⟨Aj,cj,h1,h2.ah hb1,h3,h4,fun b off e hp q=>?_,fun q=>absurd q (Nat.not_lt_zero _)⟩;obtain⟨b',off',e',hb',_⟩:=h2.2 hp;rw[e]at e';injection e' with e';injection e' with e';have:=(World.ownsRow.lt hown1 b q).1;omega⟩)
 subst hv1;clear hown1 hb1;go_wp2_with (fail)
 go_loopw [10] (fun i wr=>IK ts (.slice A1 ts.length c2) w i wr) (fun i _=>ts.length-(intOf i).toNat)
 case atStart=>exact HST.out
 case round=>
  obtain⟨k,vs,hk,rfl,hown,hb,hall⟩:=hrel;have HB:=hid hb;have vL:=hid hall;have hz:=hb.size;by_cases hlt:k<ts.length
  ·obtain⟨g2,cap,hv,hg1,hg2⟩:=World.ownsRow.form hown (by omega)
   obtain⟨hA1,hc1⟩:A1=some ⟨g2,0,none⟩/\c2=cap:=by
    simp only[Value.slice.injEq]at hv;exact⟨hv.1,hv.2.2⟩
   subst hA1 hc1;obtain⟨Aj,cj,⟨h0,h1,h2,h3,h4,h5⟩,hrp,hcj,hml,hne,_⟩:=hall k hlt;obtain⟨tk,htk⟩:∃tk,ts[k]=tk:=⟨_,rfl⟩;have HTK:=hid htk;rw[htk]at h0 h1 h2 h3 h4 h5 hrp hcj hml;have hpk:=HPS.out tk (by rw[<- htk];exact List.getElem_mem hlt);have cc:∀r,r<6->wr.cell? ⟨g2,k*6+r,none⟩=vs[k*6+r]?:=fun r hr=>World.ownsRow.cellAt hown (k*6+r) (by omega)
   have q0:wr.cell? ⟨g2,k*6,none⟩=some (.int .i64 tk.b):=by have:=cc 0 (by omega);rw[Nat.add_zero]at this;rw[this,h0]
   have q1:wr.cell? ⟨g2,k*6+1,none⟩=some (.int .i64 tk.d):=by rw[cc 1 (by omega),h1]
   have q2:wr.cell? ⟨g2,k*6+2,none⟩=some (.int .i64 tk.t):=by rw[cc 2 (by omega),h2]
   have q3:wr.cell? ⟨g2,k*6+3,none⟩=some (.int .i64 tk.u):=by rw[cc 3 (by omega),h3]
   have q4:wr.cell? ⟨g2,k*6+4,none⟩=some (.int .i64 tk.s):=by rw[cc 4 (by omega),h4]
   have q5:wr.cell? ⟨g2,k*6+5,none⟩=some (.slice Aj tk.ps.length cj):=by rw[cc 5 (by omega),h5]
   obtain⟨w4,hw4⟩:∃w4,wr.alloc (.cells #[.int .i64 tk.b,.int .i64 tk.d,.int .i64 tk.t,.int .i64 tk.u,.int .i64 tk.s,.slice Aj tk.ps.length cj] 51)=w4:=⟨_,rfl⟩;have hb4:Below wr.heap.size wr w4:=by rw[<- hw4];exact(Below.refl _ _).alloc (Nat.le_refl _) _
   have hs4:w4.heap.size=wr.heap.size+1:=by rw[<- hw4];simp
   have p5:w4.cell? ⟨wr.heap.size,5,none⟩=some (.slice Aj tk.ps.length cj):=by rw[<- hw4];simp
   have HCL:=hid (yh Aj cj tk.ps w4 (hrp.ah hb4) hpk);have jS:=hid hown;have HB4:=hid hb4;have s1:IntKind.i64.wrap ((k:Int)+1)=(k:Int)+1:=IntWalk.i64_in _ (by omega);obtain⟨np,hnp⟩:∃np,tk.ps.length=np:=⟨_,rfl⟩;have HNP:=hid hnp;rw[hnp]at q5 p5 hw4 HCL;clear hown hb hall hrp hcj hml hne h0 h1 h2 h3 h4 h5 cc hv htk hb4 hnp hpk;go_wp2_with (fail);refine HCL.out.mono ?_;rintro e w5 ⟨A5,c5,rfl,hr5,hb5,hn5,hc5⟩;have JQ:=HB4.out.trans (hb5.mono HB4.out.size);have hrow5:rG w5 w.heap.size (.slice (some ⟨g2,0,none⟩) ts.length c2) ts.length vs:=Fi.aQ jS.out fun q e=>JQ.block q (World.ownsRow.lt jS.out q e).2
   have hcell5:w5.cell? ⟨g2,k*6+5,none⟩=some (.slice Aj np cj):=(JQ.cell (p:=⟨g2,k*6+5,none⟩) hg2).trans q5;have hfro5:w5.frozen? ⟨g2,k*6+5,none⟩=false:=World.ownsRow.frozenAt hrow5 (k*6+5);have hst:=World.ownsRow.stored hrow5 (k*6+5) (.slice A5 tk.ps.length c5);have HNX:=hid (show IK ts (.slice (some ⟨g2,0,none⟩) ts.length c2) w (.int .i64 ((k:Int)+1)) (w5.setCell ⟨g2,k*6+5,none⟩ (.slice A5 tk.ps.length c5))from by
    have hrs:∀{A':Option Addr} {l':List PT},RP w5 w5.heap.size A' l'.length l'->(∀b off,A'=some ⟨b,off,none⟩->0<l'.length->b≠g2)->RP (w5.setCell ⟨g2,k*6+5,none⟩ (.slice A5 tk.ps.length c5)) (w5.setCell ⟨g2,k*6+5,none⟩ (.slice A5 tk.ps.length c5)).heap.size A' l'.length l':=fun {A' l'} hr hne=>⟨hr.1,fun hn=>by
     obtain⟨b,off,e,hbb,hc⟩:=hr.2 hn;have hk':∀i,(w5.setCell ⟨g2,k*6+5,none⟩ (.slice A5 tk.ps.length c5)).cell? ⟨b,i,none⟩=w5.cell? ⟨b,i,none⟩:=fun i=>World.cell?_of_block (a:=⟨b,i,none⟩) (heap_setCell_other w5 ⟨g2,k*6+5,none⟩ b _ (hne b off e hn))
     refine⟨b,off,e,by simpa using hbb,fun j hj=>?_⟩;obtain⟨a0,a1,a2,a3⟩:=hc j hj;exact⟨(hk' _).trans a0,(hk' _).trans a1,(hk' _).trans a2,(hk' _).trans a3⟩⟩
    have hblk:∀b off,A5=some ⟨b,off,none⟩->w.heap.size<=b/\b≠g2:=fun b off e=>by
     have:=hn5 b off e;have:=HB4.out.size;omega
    refine⟨k+1,vs.set (k*6+5) (.slice A5 tk.ps.length c5),by omega,rfl,hst.1,(HB.out.trans (JQ.mono hz)).setCell (p:=⟨g2,k*6+5,none⟩) hg1 _,fun j hj=>?_⟩;obtain⟨A',c',q1',q2',q3',q4',q5',q6'⟩:=vL.out j hj;by_cases e:j=k
    ·subst e
     rw[HTK.out]at q1' q4' ⊢;refine⟨A5,c5,q1'.Jm,hrs hr5 (fun b off e _=>(hblk b off e).2),?_,q4',fun b off e _ q=>?_,fun _ b off e=>⟨(hblk b off e).1,fun q=>?_⟩⟩
     ·exact hc5
     all_goals
      have q:g2=b:=by simpa[Value.ownBlock]using q
      exact(hblk b off e).2 q.symm
    ·exact⟨A',c',q1'.Jl e _,hrs (q2'.ah JQ) (fun b off e2 hp q=>q5' b off e2 hp (by rw[q];rfl)),q3',q4',q5',fun hjk=>q6' (by omega)⟩)
   rw[HNP.out]at HNX;clear hb5 JQ hrow5 hr5 hn5 hst;rw[HNP.out];go_wp2_with (fail)
   go_roundw
   case rel=>exact HNX.out
   case measure=>simp[intOf];omega
  ·obtain rfl:k=ts.length:=by omega
   have HF:=hid (show jg ts w (.returned (.slice A1 ts.length c2)) wr from⟨_,rfl,⟨vs,hown,fun j hj=>by
    obtain⟨A',c',q1',q2',q3',q4',_,q6'⟩:=vL.out j hj;exact⟨A',c',q1',q2',q3',q4',q6' hj⟩⟩,hb⟩)
   clear hown hb hall;go_wp2_with (fail);go_ret;exact HF.out
theorem yX {xs ys:List Value} {j:Nat} {t:TmL} {A:Option Addr} {c:Nat} (h:bS xs j t A c):bS (xs++ys) j t A c:=by
 have key:∀{i:Nat} {v:Value},xs[i]? = some v->(xs++ys)[i]? = some v:=fun {i v} e=>by
  rw[List.getElem?_append_left (List.getElem?_eq_some_iff.1 e).1];exact e
 obtain⟨h0,h1,h2,h3,h4,h5⟩:=h;exact⟨key h0,key h1,key h2,key h3,key h4,key h5⟩
theorem tT {xs ys:List Value} {m j:Nat} {t:TmL} {A:Option Addr} {c:Nat} (hx:xs.length=m*6) (h:bS ys j t A c):bS (xs++ys) (m+j) t A c:=by
 have key:∀{i:Nat} {v:Value},ys[j*6+i]? = some v->(xs++ys)[(m+j)*6+i]? = some v:=fun {i v} e=>by
  rw[List.getElem?_append_right (by omega),show(m+j)*6+i-xs.length=j*6+i by omega];exact e
 obtain⟨h0,h1,h2,h3,h4,h5⟩:=h;exact⟨key (i:=0) h0,key h1,key h2,key h3,key h4,key h5⟩
theorem pJ (g c c1 c2:Nat) (A1 A2:Option Addr) (t1 t2:List TmL) (w:World) (hg0:w.cell? ⟨g,0,none⟩=some (.slice A1 t1.length c1)) (hg1:w.cell? ⟨g,1,none⟩=some (.slice A2 t2.length c2)) (hgs:g<w.heap.size)
  (h1:RTm w A1 t1.length t1) (h2:RTm w A2 t2.length t2) (hn:t1.length+t2.length<=100000) (hps:∀t∈t1++t2,t.ps.length<=20) (hnil1:A1=none->c1=0) (hnil2:A2=none->c2=0) :
  Calls Tryz.prog 51 #[.slice (some ⟨g,0,none⟩) 2 c] w (jg (t1++t2) w):=by
 obtain⟨xs,hxl,hone,hxc,hxr⟩:=iJ h1;obtain⟨ys,hyl,hone2,hyc,hyr⟩:=iJ h2;have hcc:=tA g c [(A1,t1.length,c1,xs),(A2,t2.length,c2,ys)] w (fun k hk=>by
  simp only[List.length_cons,List.length_nil]at hk;rcases (show k=0\/k=1 by omega)with rfl | rfl
  ·exact hg0
  ·exact hg1) hgs (fun t ht=>by
  simp only[List.mem_cons,List.not_mem_nil,or_false]at ht;rcases ht with rfl | rfl
  ·exact⟨hxl,hxc,hone,hnil1⟩
  ·exact⟨hyl,hyc,hone2,hnil2⟩) (by simp[jL];omega) (by simp)
 have e1:jL [(A1,t1.length,c1,xs),(A2,t2.length,c2,ys)]=(t1++t2).length:=by simp[jL]
 have e2:yI [(A1,t1.length,c1,xs),(A2,t2.length,c2,ys)]=xs++ys:=by simp[yI]
 rw[e1,e2]at hcc;refine yY g 2 c (t1++t2) (xs++ys) w hcc (fun j hj=>?_) (by rw[List.length_append];omega) hps;rw[List.length_append]at hj;by_cases hlt:j<t1.length
 ·obtain⟨Aj,cj,q1,q2,q3,q4⟩:=hxr j hlt
  have e:(t1++t2)[j]=t1[j]:=List.getElem_append_left hlt;rw[e];exact⟨Aj,cj,yX q1,q2,q3,q4⟩
 ·obtain⟨Aj,cj,q1,q2,q3,q4⟩:=hyr (j-t1.length) (by omega)
  have e:(t1++t2)[j]=t2[j-t1.length]:=List.getElem_append_right (by omega);rw[e];have:=tT hxl q1;rw[show t1.length+(j-t1.length)=j by omega]at this;exact⟨Aj,cj,this,q2,q3,q4⟩
end Go.Proofs.YtbdmcibcenhpnaaGreatDoor.Ep
