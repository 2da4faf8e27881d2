import Derived.Test.YtbdmcibcenhpnaaGreatDoorF19
import Derived.Test.YtbdmcibcenhpnaaGreatDoorF35
set_option maxRecDepth 100000
namespace Go.Proofs.YtbdmcibcenhpnaaGreatDoor.De
open Go Go.RowKit Sp Pa Te Mi Fi
structure DV where
 i:Int
 o:Int
 n:Int
 s:Int
 A:Option Addr
 cr:Nat
 B:Option Addr
 cf:Nat
 rs:List RuL
 fs:List FiL
structure DM (w:World) (d:DV):Prop where
 rules:RRu w d.A d.rs.length d.rs
 rl:d.rs.length<=maxLen
 finals:RFi w d.B d.fs.length d.fs
 fl:d.fs.length<=maxLen
 nr:rM w d.A d.rs.length 5 4
 nf:rM w d.B d.fs.length 3 2
theorem qB {w w':World} {A:Option Addr} {n m k:Nat} (h:rM w A n m k) (hA:0<n->∃b off,A=some ⟨b,off,none⟩/\b<w.heap.size) (hb:Below w.heap.size w w'):rM w' A n m k:=fun b off e j hj l c hc=>by
 obtain⟨b',off',e',hlt⟩:=hA (by omega);rw[e]at e';injection e' with e';injection e' with e';subst e';exact h b off e j hj l c ((hb.cell (p:=⟨b,off+j*m+k,none⟩) hlt).symm.trans hc)
theorem DM.below {w w':World} {d:DV} (h:DM w d) (hb:Below w.heap.size w w'):DM w' d:=
 ⟨h.rules.ah hb,h.rl,h.finals.ah hb,h.fl,qB h.nr (fun hn=>by
  obtain⟨b,off,e,hlt,_⟩:=h.rules.2 hn;exact⟨b,off,e,hlt⟩) hb,qB h.nf (fun hn=>by
  obtain⟨b,off,e,hlt,_⟩:=h.finals.2 hn;exact⟨b,off,e,hlt⟩) hb⟩
def DV.right (d:DV):Prop:=(aW d.i d.o d.n d.s d.rs d.fs).1=0
theorem og {α:Type} {P:α->Bool} {l:List α} (h:rA P l=none):∀x∈l,P x=true:=fun x hx=>by
 unfold rA at h;have:=List.findIdx?_eq_none_iff.1 h x hx;simpa using this
structure mz (d:DV):Prop where
 i:d.i=1\/d.i=2
 o:d.o=1\/d.o=2
 n:1<=d.n/\d.n<=1024
 s:0<=d.s/\d.s<d.n
 r:d.rs.length<=4096
 f:d.fs.length<=4096
 rs:∀r∈d.rs,0<=r.frm/\r.frm<d.n/\0<=r.to_/\r.to_<d.n/\r.gs.length<=4/\(∀g∈r.gs,g.length<=64)/\r.out.length<=64/\(∀t∈r.out,t.ps.length<=4)/\0<=r.eat/\r.eat<=4
 fs:∀r∈d.fs,0<=r.frm/\r.frm<d.n/\r.gs.length<=4/\(∀g∈r.gs,g.length<=64)/\r.out.length<=64/\(∀t∈r.out,t.ps.length<=4)
theorem jN {i:Int} {gs:List (List Span)} (h:aG i gs=true):gs.length<=4/\∀g∈gs,g.length<=64:=by
 unfold aG at h;rw[Bool.and_eq_true,decide_eq_true_eq]at h;refine⟨h.1,fun g hg=>?_⟩;have h2:=List.all_eq_true.1 h.2 g hg;unfold bp at h2;simp only[Bool.and_eq_true,decide_eq_true_eq]at h2;exact h2.2.1
theorem kQ {i o:Int} {gs:List (List Span)} {ts:List TmL} (h:bH (eB i o gs) ts=true):ts.length<=64/\∀t∈ts,t.ps.length<=4:=by
 unfold bH at h;rw[Bool.and_eq_true,decide_eq_true_eq]at h;refine⟨h.1,fun t ht=>?_⟩;have h2:=(kF i o gs t).1 (List.all_eq_true.1 h.2 t ht);exact(Fi.eO (Fi.fV h2.2.1).1).2.2.2
theorem DV.right.qg {d:DV} (h:d.right):mz d:=by
 unfold DV.right aW dO at h
 split at h
 ·next hh=>
  unfold bn at hh;simp only[Bool.and_eq_true,decide_eq_true_eq]at hh;obtain⟨h1,h2,h3,h4,h5,h6,h7⟩:=hh;unfold stB at h5;rw[decide_eq_true_eq]at h5
  split at h
  ·simp at h
  ·next hr=>
   split at h
   ·simp at h
   ·next hf=>
    unfold iN at h1 h2;refine⟨by simpa using h1,by simpa using h2,⟨h3,h4⟩,h5,h6,h7,fun r hr'=>?_,fun r hr'=>?_⟩
    ·have q:=og hr r hr'
     unfold dw stB oP at q;simp only[Bool.and_eq_true,decide_eq_true_eq]at q;obtain⟨q1,q2,q3,q4,q5⟩:=q;obtain⟨g1,g2⟩:=jN q3;obtain⟨t1,t2⟩:=kQ q5;refine⟨q1.1,q1.2,q2.1,q2.2,g1,g2,t1,t2,?_,?_⟩ <;> omega
    ·have q:=og hf r hr'
     unfold mK stB at q;simp only[Bool.and_eq_true,decide_eq_true_eq]at q;obtain⟨q1,q3,q5⟩:=q;obtain⟨g1,g2⟩:=jN q3;obtain⟨t1,t2⟩:=kQ q5;exact⟨q1.1,q1.2,g1,g2,t1,t2⟩
 ·simp at h
theorem fP.reads {p:Nat->Prop} {w:World} {base:Nat} {v:Value} {L:List RuL} (h:fP p w base v L) (hl:∀r∈L,r.gs.length<=maxLen/\(∀g∈r.gs,g.length<=maxLen)/\r.out.length<=maxLen/\rN r.eat):∃A c,v = .slice A L.length c/\RRu w A L.length L/\L.length<=c/\L.length<=maxLen:=by
 obtain⟨vs,h1,h2⟩:=h;have hrow:=h1;rcases h1.2 with⟨hv,hn⟩ | ⟨g,cap,cur,hv,hg,hb,hn,hm,hs,ht⟩
 ·have:L=[]:=List.eq_nil_of_length_eq_zero hn
  subst this;exact⟨none,0,hv,RRu.dS _ _,Nat.le_refl _,Nat.zero_le _⟩
 ·subst hv
  refine⟨some ⟨g,0,none⟩,cap,rfl,⟨rfl,fun hn0=>⟨g,0,rfl,(World.ownsRow.lt hrow g rfl).2,fun j hj=>?_⟩⟩,hn,by omega⟩;obtain⟨G,gc,T,tc,⟨a0,a1,a2,a3,a4⟩,b1,b2,b3,b4⟩:=h2 j hj;obtain⟨l1,l2,l3,l4⟩:=hl _ (List.getElem_mem hj);have cc:∀r,r<5->w.cell? ⟨g,0+j*5+r,none⟩=vs[j*5+r]?:=fun r hr=>by rw[Nat.zero_add];exact World.ownsRow.cellAt hrow (j*5+r) (by omega)
  have c0:=cc 0 (by omega);rw[Nat.add_zero,Nat.add_zero]at c0;exact⟨c0.trans a0,(cc 1 (by omega)).trans a1,(cc 3 (by omega)).trans a3,⟨G,gc,(cc 2 (by omega)).trans a2,b1.reads,b2,l1,l2⟩,T,tc,(cc 4 (by omega)).trans a4,b3.reads,b4,l3,l4⟩
theorem fQ.reads {p:Nat->Prop} {w:World} {base:Nat} {v:Value} {L:List FiL} (h:fQ p w base v L) (hl:∀r∈L,r.gs.length<=maxLen/\(∀g∈r.gs,g.length<=maxLen)/\r.out.length<=maxLen):∃A c,v = .slice A L.length c/\RFi w A L.length L/\L.length<=c/\L.length<=maxLen:=by
 obtain⟨vs,h1,h2⟩:=h;have hrow:=h1;rcases h1.2 with⟨hv,hn⟩ | ⟨g,cap,cur,hv,hg,hb,hn,hm,hs,ht⟩
 ·have:L=[]:=List.eq_nil_of_length_eq_zero hn
  subst this;exact⟨none,0,hv,RFi.dS _ _,Nat.le_refl _,Nat.zero_le _⟩
 ·subst hv
  refine⟨some ⟨g,0,none⟩,cap,rfl,⟨rfl,fun hn0=>⟨g,0,rfl,(World.ownsRow.lt hrow g rfl).2,fun j hj=>?_⟩⟩,hn,by omega⟩;obtain⟨G,gc,T,tc,⟨a0,a1,a2⟩,b1,b2,b3,b4⟩:=h2 j hj;obtain⟨l1,l2,l3⟩:=hl _ (List.getElem_mem hj);have cc:∀r,r<3->w.cell? ⟨g,0+j*3+r,none⟩=vs[j*3+r]?:=fun r hr=>by rw[Nat.zero_add];exact World.ownsRow.cellAt hrow (j*3+r) (by omega)
  have c0:=cc 0 (by omega);rw[Nat.add_zero,Nat.add_zero]at c0;exact⟨c0.trans a0,⟨G,gc,(cc 1 (by omega)).trans a1,b1.reads,b2,l1,l2⟩,T,tc,(cc 2 (by omega)).trans a2,b3.reads,b4,l3⟩
section
variable {w w':World} {bs x:Nat} {i o n s n':Int} {L:List RuL} {F:List FiL} {v vf:Value}
end
end Go.Proofs.YtbdmcibcenhpnaaGreatDoor.De
namespace Go.Proofs.YtbdmcibcenhpnaaGreatDoor.Tr
open Go Go.RowKit Sp Pa Te Mi De
def Pk (vs:List Value) (n m k:Nat):Prop:=∀j,j<n->∀l c,vs[j*m+k]? = some (.slice none l c)->c=0
def tL (w:World) (base:Nat) (e:TypeId) (m k:Nat) (v:Value) (n:Nat):Prop:=∃vs,w.ownsRow base e m v n vs/\Pk vs n m k
theorem tL.dS (w:World) (base:Nat) (e:TypeId) (m k:Nat):tL w base e m k (.slice none 0 0) 0:=⟨[],World.ownsRow_nil _ _ _ _,fun _ h=>absurd h (Nat.not_lt_zero _)⟩
section
variable {w w':World} {base:Nat} {e:TypeId} {m k n:Nat} {v v':Value}
theorem tL.keep (h:tL w base e m k v n) (hv:∀g,v.ownBlock=some g->w'.heap[g]? = w.heap[g]?):tL w' base e m k v n:=by
 obtain⟨vs,h1,h2⟩:=h;exact⟨vs,Fi.aQ h1 hv,h2⟩
theorem tL.more (h:tL w base e m k v n) {vs cs:List Value} (hvs:w.ownsRow base e m v n vs) (ho:w'.ownsRow base e m v' (n+1) (vs++cs)) (hk:k<m) (hc:∀l c,cs[k]? = some (.slice none l c)->c=0):tL w' base e m k v' (n+1):=by
 obtain⟨vs',h1,h2⟩:=h;obtain rfl:vs'=vs:=Fi.eF h1 hvs;refine⟨_,ho,fun j hj l c hjc=>?_⟩;have hl:vs'.length=n*m:=h1.1;rcases Nat.lt_or_ge j n with q | q
 ·refine h2 j q l c ?_
  have hlt:j*m+k<n*m:=by
   have:=Nat.mul_le_mul_right m (show j+1<=n from q);rw[Nat.succ_mul]at this;omega
  rwa [List.getElem?_append_left (by omega)]at hjc
 ·obtain rfl:j=n:=by omega
  rw[List.getElem?_append_right (by omega),hl,Nat.add_sub_cancel_left]at hjc;exact hc l c hjc
theorem tL.Nn {A:Option Addr} {c:Nat} (h:tL w base e m k (.slice A n c) n) (hk:k<m):rM w A n m k:=fun b off eA j hj l c' hjc=>by
 obtain⟨vs,h1,h2⟩:=h;subst eA;have hrow:=h1;rcases h1.2 with⟨hv,_⟩ | ⟨g,cap,cur,hv,hg,hb,hn,hm,hs,ht⟩
 ·injection hv with hv
  cases hv
 ·injection hv with hv
  injection hv with hv;injection hv with e1 e2;subst e1 e2;refine h2 j hj l c' ?_;rw[Nat.zero_add]at hjc;rw[<- hjc];exact(World.ownsRow.cellAt hrow (j*m+k) (by
   have:=Nat.mul_le_mul_right m (show j+1<=n from hj);rw[Nat.succ_mul]at this;omega)).symm
end
section
variable {l:List Nat} {rs:List RuL} {fs:List FiL} {k:Nat}
end
section
variable {x k B:Nat} {i o n s:Int} {l:List Nat} {rs:List RuL} {fs:List FiL} {v v9 vf:Value} {wz wr ws w9:World} {r:RuL} {f:FiL} {AG AT:Option Addr} {cG cT:Nat} {vs:List Value}
end
end Go.Proofs.YtbdmcibcenhpnaaGreatDoor.Tr
namespace Go.Proofs.YtbdmcibcenhpnaaGreatDoor.Ep
open Go Go.RowKit Sp Pa Te Mi Fi De
open Tr (tL)
def kN (w:World) (x:Nat) (ru fi:Value) (i o n s:Int) (v vf:Value):Prop:=w.heap[x]? = some (.cells #[ru,fi,.int .i64 i,.int .i64 o,.int .i64 n,.int .i64 s,v,vf] 67 (0,0))
section
variable {w w':World} {x:Nat} {ru fi:Value} {i o n s:Int} {v vf:Value}
theorem kN.lt (h:kN w x ru fi i o n s v vf):x<w.heap.size:=(Array.getElem?_eq_some_iff.1 h).1
theorem kN.at6 (h:kN w x ru fi i o n s v vf):w.cell? ⟨x,6,none⟩=some v:=by simp[World.cell?,show w.heap[x]? = _ from h]
theorem kN.at7 (h:kN w x ru fi i o n s v vf):w.cell? ⟨x,7,none⟩=some vf:=by simp[World.cell?,show w.heap[x]? = _ from h]
theorem kN.frozen (h:kN w x ru fi i o n s v vf) (k:Nat):w.frozen? ⟨x,k,none⟩=false:=by simp[World.frozen?,show w.heap[x]? = _ from h]
theorem kN.keep (h:kN w x ru fi i o n s v vf) (hk:w'.heap[x]? = w.heap[x]?):kN w' x ru fi i o n s v vf:=hk.trans h
theorem kN.set6 (h:kN w x ru fi i o n s v vf) (u:Value):kN (w.setCell ⟨x,6,none⟩ u) x ru fi i o n s u vf:=by
 obtain⟨hlt,hk⟩:=Array.getElem?_eq_some_iff.1 h;show(w.heap.modify x _)[x]? = _;rw[Array.getElem?_eq_getElem (by rw[Array.size_modify];exact hlt),Array.getElem_modify_self,hk];rfl
theorem kN.set7 (h:kN w x ru fi i o n s v vf) (u:Value):kN (w.setCell ⟨x,7,none⟩ u) x ru fi i o n s v u:=by
 obtain⟨hlt,hk⟩:=Array.getElem?_eq_some_iff.1 h;show(w.heap.modify x _)[x]? = _;rw[Array.getElem?_eq_getElem (by rw[Array.size_modify];exact hlt),Array.getElem_modify_self,hk];rfl
end
structure FS (X:Nat->Prop) (bs x:Nat) (ru fi:Value) (i o n s:Int) (L:List RuL) (F:List FiL) (v vf:Value) (w:World):Prop where
 box:kN w x ru fi i o n s v vf
 rules:fP (fun b=>(bs<=b/\¬ X b)/\vf.ownBlock≠some b) w bs v L
 finals:fQ (fun b=>(bs<=b/\¬ X b)/\v.ownBlock≠some b) w bs vf F
 apart:∀g,v.ownBlock=some g->vf.ownBlock≠some g
 low:x<bs
 vx:∀g,v.ownBlock=some g->¬ X g
 vfx:∀g,vf.ownBlock=some g->¬ X g
 xlt:∀b,X b->b<w.heap.size
 nr:tL w bs 43 5 4 v L.length
 nf:tL w bs 45 3 2 vf F.length
section
variable {X:Nat->Prop} {w w' w1:World} {bs x:Nat} {ru fi:Value} {i o n s:Int} {L:List RuL} {F:List FiL} {v vf v':Value}
theorem FS.keep (h:FS X bs x ru fi i o n s L F v vf w) (hb:Below w.heap.size w w'):FS X bs x ru fi i o n s L F v vf w' where
 box:=h.box.keep (hb.block x h.box.lt)
 rules:=h.rules.keep hb.size (fun g e=>hb.block g (by obtain⟨vs,h1,_⟩:=h.rules;exact(World.ownsRow.lt h1 g e).2)) (fun b _ _ hlt=>hb.block b hlt) (fun _ hp _=>hp)
 finals:=h.finals.keep hb.size (fun g e=>hb.block g (by obtain⟨vs,h1,_⟩:=h.finals;exact(World.ownsRow.lt h1 g e).2)) (fun b _ _ hlt=>hb.block b hlt) (fun _ hp _=>hp)
 apart:=h.apart
 low:=h.low
 vx:=h.vx
 vfx:=h.vfx
 xlt:=fun b hx=>Nat.lt_of_lt_of_le (h.xlt b hx) hb.size
 nr:=h.nr.keep fun g e=>hb.block g (by obtain⟨vs,h1,_⟩:=h.rules;exact(World.ownsRow.lt h1 g e).2)
 nf:=h.nf.keep fun g e=>hb.block g (by obtain⟨vs,h1,_⟩:=h.finals;exact(World.ownsRow.lt h1 g e).2)
theorem FS.rule {vs:List Value} {r:RuL} {G T:Option Addr} {gc tc H:Nat} (h:FS X bs x ru fi i o n s L F v vf w) (hvs:w.ownsRow bs 43 5 v L.length vs)
  (hg:RGp (fun b=>((bs<=b/\¬ X b)/\vf.ownBlock≠some b)/\v.ownBlock≠some b) w G r.gs) (hgc:r.gs.length<=gc) (ht:RTp (fun b=>((bs<=b/\¬ X b)/\vf.ownBlock≠some b)/\v.ownBlock≠some b) w T r.out) (htc:r.out.length<=tc) (hTn:T=none->tc=0)
  (hgr:w.grownBy w' v.ownBlock) (ho:w'.ownsRow bs 43 5 v' (L.length+1) (vs++[.int .i64 r.frm,.int .i64 r.to_,.slice G r.gs.length gc,.int .i64 r.eat,.slice T r.out.length tc])) (hat:v'.ownBlock=v.ownBlock\/v'.ownBlock=some H) (hH:w.heap.size<=H) :
  FS X bs x ru fi i o n s (L++[r]) F v' vf (w'.setCell ⟨x,6,none⟩ v'):=by
 have hxl:=h.box.lt;have hnx:∀g,bs<=g->g≠x:=fun g hg e=>by have:=h.low;omega
 have hvx:v.ownBlock≠some x:=fun e=>by have:=(World.ownsRow.lt hvs x e).1;have:=h.low;omega
 have hset:∀g,g≠x->(w'.setCell ⟨x,6,none⟩ v').heap[g]? = w'.heap[g]?:=fun g hg=>heap_setCell_other w' ⟨x,6,none⟩ g v' hg
 have hsz:w'.heap.size=(w'.setCell ⟨x,6,none⟩ v').heap.size:=by simp
 have hru:=h.rules.more hvs hg hgc ht htc hgr ho hat hH;have hvv:∀g,v'.ownBlock=some g->v.ownBlock=some g\/w.heap.size<=g:=fun g e=>by
  rcases hat with k | k
  ·exact .inl (by rw[<- k,e])
  ·rw[k]at e
   injection e with e;exact .inr (by omega)
 obtain⟨fs',hf1,hf2⟩:=h.finals;have hfb:∀g,vf.ownBlock=some g->bs<=g/\g<w.heap.size:=fun g e=>World.ownsRow.lt hf1 g e
 refine⟨(h.box.keep (hgr.block x hxl (fun e=>hvx e.symm))).set6 v',hru.keep (by omega) (fun g e=>hset g (hnx g (World.ownsRow.lt ho g e).1)) (fun b hb _ _=>hset b (hnx b hb.1.1)) (fun _ hp _=>hp),?_,fun g e q=>?_,h.low,fun g e=>(hvv g e).elim (h.vx g) (fun k hx=>by have:=h.xlt g hx;omega),h.vfx,fun b hx=>by have:=h.xlt b hx;have:=hgr.size;simp;omega,?_,?_⟩
 ·refine fQ.keep (w:=w) ⟨fs',hf1,hf2⟩ (by have:=hgr.size;omega) (fun g e=>?_) (fun b hb _ hlt=>?_) (fun b hb hlt=>⟨hb.1,fun e=>?_⟩)
  ·rw[hset g (hnx g (hfb g e).1)]
   exact hgr.block g (hfb g e).2 (fun q=>h.apart g q.symm e)
  ·rw[hset b (hnx b hb.1.1)]
   exact hgr.block b hlt (fun q=>hb.2 q.symm)
  ·rcases hvv b e with q | q
   ·exact hb.2 q
   ·omega
 ·rcases hvv g e with k | k
  ·exact h.apart g k q
  ·have:=(hfb g q).2
   omega
 ·rw[List.length_append]
  exact(h.nr.more hvs ho (by omega) (fun l c e=>by
   simp only[List.getElem?_cons_succ,List.getElem?_cons_zero,Option.some.injEq,Value.slice.injEq]at e;obtain⟨e1,_,e3⟩:=e;rw[<- e3];exact hTn e1)).keep fun g e=>hset g (hnx g (World.ownsRow.lt ho g e).1)
 ·refine h.nf.keep fun g e=>?_
  rw[hset g (hnx g (hfb g e).1)];exact hgr.block g (hfb g e).2 (fun q=>h.apart g q.symm e)
theorem FS.final {vs:List Value} {r:FiL} {G T:Option Addr} {gc tc H:Nat} (h:FS X bs x ru fi i o n s L F v vf w) (hvs:w.ownsRow bs 45 3 vf F.length vs)
  (hg:RGp (fun b=>((bs<=b/\¬ X b)/\v.ownBlock≠some b)/\vf.ownBlock≠some b) w G r.gs) (hgc:r.gs.length<=gc) (ht:RTp (fun b=>((bs<=b/\¬ X b)/\v.ownBlock≠some b)/\vf.ownBlock≠some b) w T r.out) (htc:r.out.length<=tc) (hTn:T=none->tc=0)
  (hgr:w.grownBy w' vf.ownBlock) (ho:w'.ownsRow bs 45 3 v' (F.length+1) (vs++[.int .i64 r.frm,.slice G r.gs.length gc,.slice T r.out.length tc])) (hat:v'.ownBlock=vf.ownBlock\/v'.ownBlock=some H) (hH:w.heap.size<=H) :
  FS X bs x ru fi i o n s L (F++[r]) v v' (w'.setCell ⟨x,7,none⟩ v'):=by
 have hxl:=h.box.lt;have hnx:∀g,bs<=g->g≠x:=fun g hg e=>by have:=h.low;omega
 have hvx:vf.ownBlock≠some x:=fun e=>by have:=(World.ownsRow.lt hvs x e).1;have:=h.low;omega
 have hset:∀g,g≠x->(w'.setCell ⟨x,7,none⟩ v').heap[g]? = w'.heap[g]?:=fun g hg=>heap_setCell_other w' ⟨x,7,none⟩ g v' hg
 have hsz:w'.heap.size=(w'.setCell ⟨x,7,none⟩ v').heap.size:=by simp
 have hru:=h.finals.more hvs hg hgc ht htc hgr ho hat hH;have hvv:∀g,v'.ownBlock=some g->vf.ownBlock=some g\/w.heap.size<=g:=fun g e=>by
  rcases hat with k | k
  ·exact .inl (by rw[<- k,e])
  ·rw[k]at e
   injection e with e;exact .inr (by omega)
 obtain⟨fs',hf1,hf2⟩:=h.rules;have hfb:∀g,v.ownBlock=some g->bs<=g/\g<w.heap.size:=fun g e=>World.ownsRow.lt hf1 g e
 refine⟨(h.box.keep (hgr.block x hxl (fun e=>hvx e.symm))).set7 v',?_,hru.keep (by omega) (fun g e=>hset g (hnx g (World.ownsRow.lt ho g e).1)) (fun b hb _ _=>hset b (hnx b hb.1.1)) (fun _ hp _=>hp),fun g e q=>?_,h.low,h.vx,fun g e=>(hvv g e).elim (h.vfx g) (fun k hx=>by have:=h.xlt g hx;omega),fun b hx=>by have:=h.xlt b hx;have:=hgr.size;simp;omega,?_,?_⟩
 ·refine fP.keep (w:=w) ⟨fs',hf1,hf2⟩ (by have:=hgr.size;omega) (fun g e=>?_) (fun b hb _ hlt=>?_) (fun b hb hlt=>⟨hb.1,fun e=>?_⟩)
  ·rw[hset g (hnx g (hfb g e).1)]
   exact hgr.block g (hfb g e).2 (fun q=>h.apart g e q.symm)
  ·rw[hset b (hnx b hb.1.1)]
   exact hgr.block b hlt (fun q=>hb.2 q.symm)
  ·rcases hvv b e with q | q
   ·exact hb.2 q
   ·omega
 ·rcases hvv g q with k | k
  ·exact h.apart g e k
  ·have:=(hfb g e).2
   omega
 ·refine h.nr.keep fun g e=>?_
  rw[hset g (hnx g (hfb g e).1)];exact hgr.block g (hfb g e).2 (fun q=>h.apart g e q.symm)
 ·rw[List.length_append]
  exact(h.nf.more hvs ho (by omega) (fun l c e=>by
   simp only[List.getElem?_cons_succ,List.getElem?_cons_zero,Option.some.injEq,Value.slice.injEq]at e;obtain⟨e1,_,e3⟩:=e;rw[<- e3];exact hTn e1)).keep fun g e=>hset g (hnx g (World.ownsRow.lt ho g e).1)
end
end Go.Proofs.YtbdmcibcenhpnaaGreatDoor.Ep
namespace Go.Proofs.YtbdmcibcenhpnaaGreatDoor.De
open Go Go.RowKit Sp Pa Te Mi Fi
theorem ou {x:Int} (hx:Sy x):dc 0 21 0 x=x:=by
 unfold Sy at hx;have h0:pw 0=1:=by decide
 have h1:pw 21=2097152:=by decide
 unfold dc;rw[h0,h1];omega
theorem nN (k:Int):aG k []=true:=by
 unfold aG;simp
theorem rz {α:Type} {P:α->Bool} {l:List α} (h:∀x∈l,P x=true):rA P l=none:=by
 unfold rA;rw[List.findIdx?_eq_none_iff];intro x hx;simp[h x hx]
theorem vQ {i o n s:Int} {rs:List RuL} {fs:List FiL} (hh:bn i o n s rs.length fs.length=true) (hr:∀r∈rs,dw i n (eB i o) r=true) (hf:∀f∈fs,mK i n (eB i o) f=true) (hc:jo (bF rs) n.toNat=false):aW i o n s rs fs=(0,0):=by
 unfold aW dO;rw[if_pos hh,rz hr,rz hf,hc];rfl
theorem J2 {E:List Eg} {N:Nat} (h:∀q,¬ Walk E (N+1) q):jo E N=false:=by
 unfold jo;exact @decide_eq_false _ (Classical.propDecidable _) fun⟨q,hq⟩=>h q hq
theorem sV {i o n f:Int} (hf:0<=f/\f<n):mK i n (eB i o) ⟨f,[],[]⟩=true:=by
 unfold mK bH;rw[zw hf.1 hf.2,nN];simp
theorem Di {k:Int} (hk:k=1\/k=2):iN k=true:=by
 unfold iN;rcases hk with rfl | rfl <;> decide
theorem zK {w:World} {A:Option Addr} {n:Nat} {fam:List (List Span)} (h:RGs w A n fam):RGp (fun b=>b<w.heap.size) w A fam:=fun hn=>by
 obtain⟨b,off,e,hb,hc⟩:=h.2 (by have:=h.1;omega);refine⟨b,off,e,hb,hb,fun j hj=>?_⟩;obtain⟨Aj,cj,h1,h2,h3,h4⟩:=hc j hj;refine⟨Aj,cj,h1,⟨h2,fun hp b' off' e'=>?_⟩,h3,h4⟩;obtain⟨b2,off2,e2,hb2,_⟩:=h2.2 hp;rw[e2]at e';injection e' with e';injection e' with e';omega
structure RJ (B0 bs x:Nat) (i o n s:Int) (L:List RuL) (F:List FiL) (v vf:Value) (w:World):Prop where
 box:oo w x i o n s v vf
 rules:fP (fun b=>b<B0) w bs v L
 finals:fQ (fun b=>b<B0) w bs vf F
 apart:∀g,v.ownBlock=some g->vf.ownBlock≠some g
 low:x<bs
 old:B0<=x
section
variable {w w':World} {B0 bs x:Nat} {i o n s:Int} {L:List RuL} {F:List FiL} {v vf v':Value}
end
end Go.Proofs.YtbdmcibcenhpnaaGreatDoor.De
