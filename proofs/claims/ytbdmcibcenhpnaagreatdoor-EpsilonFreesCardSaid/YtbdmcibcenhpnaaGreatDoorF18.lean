import Derived.Test.YtbdmcibcenhpnaaGreatDoorF16
import Derived.Deep.OwnRows
set_option maxRecDepth 100000
namespace Go.Proofs.YtbdmcibcenhpnaaGreatDoor.De
open Go Go.RowKit Sp Pa Te Mi
theorem Ej:(Tryz.prog.info? 56).map (fun i=>(i.zero,i.size,i.bytes))=some (some (.slice none 0 0),1,24):=by kernel_rfl
def jV (l:List Nat):List Value:=l.map fun x:Nat=>Value.int .i64 (x:Int)
def fK (w:World) (g N:Nat) (f:Nat->Nat):Prop:=w.ownsRow g 3 1 (.slice (some ⟨g,0,none⟩) N N) N (jV ((List.range N).map f))
section
variable {w w':World} {g N q:Nat} {f:Nat->Nat}
theorem fK.cell (h:fK w g N f) (hq:q<N):w.cell? ⟨g,q,none⟩=some (.int .i64 (f q:Int)):=by
 rw[World.ownsRow.cellAt h q (by omega)];simp[jV,hq]
theorem fK.frozen (h:fK w g N f) (q:Nat):w.frozen? ⟨g,q,none⟩=false:=World.ownsRow.frozenAt h q
theorem fK.stored (h:fK w g N f) (q v:Nat) {x:Int} (hx:x=(v:Int)):fK (w.setCell ⟨g,q,none⟩ (.int .i64 x)) g N (upd f q v):=by
 subst hx;have:=(World.ownsRow.stored h q (.int .i64 (v:Int))).1;unfold fK;have e:jV ((List.range N).map (upd f q v))=(jV ((List.range N).map f)).set q (.int .i64 (v:Int)):=List.ext_getElem (by simp[jV]) fun j h1 h2=>by
  simp only[jV,List.getElem_map,List.getElem_range,List.getElem_set,upd];by_cases e:j=q
  ·rw[if_pos e,if_pos e.symm]
  ·rw[if_neg e,if_neg fun k=>e k.symm]
 rw[e];exact this
end
theorem au {w w':World} {base:Nat} {e:TypeId} {size:Nat} {v:Value} {n:Nat} {xs:List Value} (h:w.ownsRow base e size v n xs) (hk:∀g,v.ownBlock=some g->w'.heap[g]? = w.heap[g]?):w'.ownsRow base e size v n xs:=by
 refine⟨h.1,?_⟩;rcases h.2 with h2 | ⟨g,cap,cur,rfl,hg,hr,hrest⟩
 ·exact .inl h2
 ·exact .inr ⟨g,cap,cur,rfl,hg,(hk g rfl).trans hr,hrest⟩
theorem fK.below {w w':World} {g N:Nat} {f:Nat->Nat} (h:fK w g N f) (hb:Below w.heap.size w w'):fK w' g N f:=au h fun k hk=>hb.block k ((World.ownsRow.lt h k hk).2)
def ji (w:World) (gN b N:Nat) (L:Nat->List Nat):Prop:=
 ∃vs:Nat->Value,w.ownsRow gN 56 1 (.slice (some ⟨gN,0,none⟩) N N) N ((List.range N).map vs)/\(∀q,q<N->w.ownsRow b 3 1 (vs q) (L q).length (jV (L q))) /\
  (∀p q,p<N->q<N->∀k,(vs p).ownBlock=some k->(vs q).ownBlock=some k->p=q)
section
variable {w w':World} {gN b N:Nat} {L:Nat->List Nat}
theorem ji.keep (h:ji w gN b N L) (hk:∀k,k=gN\/b<=k->k<w.heap.size->w'.heap[k]? = w.heap[k]?):ji w' gN b N L:=by
 obtain⟨vs,h1,h2,h3⟩:=h;refine⟨vs,au h1 fun k e=>hk k (.inl (by simpa[Value.ownBlock]using e.symm)) (World.ownsRow.lt h1 k e).2,fun q hq=>au (h2 q hq) fun k e=>hk k (.inr (World.ownsRow.lt (h2 q hq) k e).1) (World.ownsRow.lt (h2 q hq) k e).2,h3⟩
theorem ji.below (h:ji w gN b N L) (hb:Below w.heap.size w w'):ji w' gN b N L:=h.keep fun k _ hk=>hb.block k hk
theorem ji.at_ (h:ji w gN b N L) {q:Nat} (hq:q<N):∃A c,w.cell? ⟨gN,q,none⟩=some (.slice A (L q).length c)/\w.frozen? ⟨gN,q,none⟩=false/\w.ownsRow b 3 1 (.slice A (L q).length c) (L q).length (jV (L q)):=by
 obtain⟨vs,h1,h2,h3⟩:=h;obtain⟨A,c,e⟩:=aX (h2 q hq);have ho:=h2 q hq;refine⟨A,c,?_,World.ownsRow.frozenAt h1 q,by rw[e]at ho;exact ho⟩;rw[World.ownsRow.cellAt h1 q (by omega)];simp[hq,e]
end
theorem Fq {w:World} {b g n c:Nat} {l:List Nat} (h:w.ownsRow b 3 1 (.slice (some ⟨g,0,none⟩) n c) n (jV l)) {j:Nat} (hj:j<l.length) (hn:l.length=n):w.cell? ⟨g,j,none⟩=some (.int .i64 (l[j]:Int)):=by
 rw[World.ownsRow.cellAt h j (by omega)];simp[jV,hj]
theorem ji.longer {w w1:World} {gN b N:Nat} {L:Nat->List Nat} (h:ji w gN b N L) (hgb:gN<b) {a:Nat} (ha:a<N) {A:Option Addr} {c:Nat} (hc:w.cell? ⟨gN,a,none⟩=some (.slice A (L a).length c)) (x:Nat) {v':Value}
  (ho:w1.ownsRow b 3 1 v' ((L a).length+1) (jV (L a)++[.int .i64 (x:Int)])) (hg:w.grownBy w1 (Value.slice A (L a).length c).ownBlock) (hat:(Value.slice A (L a).length c).ownBlock=v'.ownBlock\/∃k,v'.ownBlock=some k/\w.heap.size<=k) :
  ji (w1.setCell ⟨gN,a,none⟩ v') gN b N (fun q=>if q=a then L a++[x]else L q):=by
 obtain⟨vs,h1,h2,h3⟩:=h;have hva:vs a = .slice A (L a).length c:=by
  rw[World.ownsRow.cellAt h1 a (by omega)]at hc;simpa[ha]using hc
 rw[<- hva]at hg hat;have hgs:gN<w.heap.size:=(World.ownsRow.lt h1 gN rfl).2;have hout:w1.ownsRow gN 56 1 (.slice (some ⟨gN,0,none⟩) N N) N ((List.range N).map vs):=by
  refine World.ownsRow.kept h1 hg (.inr fun e=>?_);have e2:(vs a).ownBlock=some gN:=by rw[<- e];rfl
  have:=(World.ownsRow.lt (h2 a ha) gN e2).1;omega
 have hst:=(World.ownsRow.stored hout a v').1;refine⟨fun q=>if q=a then v' else vs q,?_,fun q hq=>?_,fun p q hp hq k hkp hkq=>?_⟩
 ·have e:(List.range N).map (fun q=>if q=a then v' else vs q)=((List.range N).map vs).set a v':=List.ext_getElem (by simp) fun j h1 h2=>by
   simp only[List.getElem_map,List.getElem_range,List.getElem_set];by_cases e:j=a
   ·rw[if_pos e,if_pos e.symm]
   ·rw[if_neg e,if_neg fun k=>e k.symm]
  rw[e];exact hst
 ·by_cases e:q=a
  ·simp only[if_pos e]
   have:w1.ownsRow b 3 1 v' (L a++[x]).length (jV (L a++[x])):=by
    unfold jV at ho ⊢;rw[List.length_append,List.map_append];exact ho
   exact ownsRow_setCell_below this (a:=⟨gN,a,none⟩) hgb v'
  ·simp only[if_neg e]
   refine ownsRow_setCell_below (World.ownsRow.kept (h2 q hq) hg ?_) (a:=⟨gN,a,none⟩) hgb v'
   cases hu:(vs q).ownBlock with
   | none=>exact .inl rfl
   | some k=>exact .inr fun k2=>e (h3 q a hq ha k hu k2.symm)
 ·by_cases e1:p=a
  ·by_cases e2:q=a
   ·rw[e1,e2]
   ·simp only[if_pos e1]at hkp
    simp only[if_neg e2]at hkq;rcases hat with e | ⟨k',e,hk'⟩
    ·rw[e1];exact h3 a q ha hq k (by rw[e];exact hkp) hkq
    ·rw[e]at hkp
     injection hkp with hkp;have:=(World.ownsRow.lt (h2 q hq) k hkq).2;omega
  ·simp only[if_neg e1]at hkp
   by_cases e2:q=a
   ·simp only[if_pos e2]at hkq
    rcases hat with e | ⟨k',e,hk'⟩
    ·rw[e2];exact h3 p a hp ha k hkp (by rw[e];exact hkq)
    ·rw[e]at hkq
     injection hkq with hkq;have:=(World.ownsRow.lt (h2 p hp) k hkp).2;omega
   ·simp only[if_neg e2]at hkq
    exact h3 p q hp hq k hkp hkq
def edg (r:RuL):Eg:=(r.frm.toNat,r.to_.toNat)
def bF (rs:List RuL):List Eg:=(rs.filter yG).map edg
theorem qV {rs:List RuL} {k:Nat} (hk:k<rs.length) (h:yG rs[k]=false):bF (rs.take (k+1))=bF (rs.take k):=by
 unfold bF;rw[List.take_succ_eq_append_getElem hk,List.filter_append];simp[h]
theorem qW {rs:List RuL} {k:Nat} (hk:k<rs.length) (h:yG rs[k]=true):bF (rs.take (k+1))=bF (rs.take k)++[edg rs[k]]:=by
 unfold bF;rw[List.take_succ_eq_append_getElem hk,List.filter_append];simp[h]
theorem vu (rs:List RuL):(bF rs).length<=rs.length:=by unfold bF;rw[List.length_map];exact List.length_filter_le _ _
theorem Ef (E:List Eg) (e:Eg):inw (E++[e])=upd (inw E) e.2 (inw E e.2+1):=by
 funext q
 unfold upd inw;rw[List.countP_append];by_cases h:q=e.2
 ·rw[if_pos h,h];simp
 ·rw[if_neg h];simp[List.countP_cons];exact fun k=>h k.symm
theorem DH (E:List Eg) (e:Eg):bT (E++[e])=fun q=>if q=e.1 then bT E e.1++[e.2]else bT E q:=by
 funext q
 unfold bT;rw[List.filter_append,List.map_append];by_cases h:q=e.1
 ·rw[if_pos h,h];simp
 ·rw[if_neg h];simp[List.filter_cons];exact fun k=>h k.symm
theorem Jy (E:List Eg) (q:Nat):inw E q<=E.length:=List.countP_le_length
theorem zW (E:List Eg) (q:Nat):(bT E q).length<=E.length:=by unfold bT;rw[List.length_map];exact List.length_filter_le _ _
def E6 (gW S1:Nat) (ws wr:World):Prop:=S1<=wr.heap.size/\∀k,k<S1->k≠gW->wr.heap[k]? = ws.heap[k]?
theorem E6.grown {gW S1:Nat} {ws wr w':World} {row:Option Nat} (h:E6 gW S1 ws wr) (hg:wr.grownBy w' row) (hr:∀k,row=some k->k=gW\/S1<=k):E6 gW S1 ws w':=
 ⟨Nat.le_trans h.1 hg.size,fun k hk hne=>(hg.block k (by have:=h.1;omega) (fun e=>by rcases hr k e.symm with q | q <;> omega)).trans (h.2 k hk hne)⟩
theorem FQ {rs:List RuL} {N:Nat} (hst:∀j (hj:j<rs.length),stB N rs[j].frm=true/\stB N rs[j].to_=true):∀e∈bF rs,e.1<N/\e.2<N:=by
 intro e he;unfold bF at he;obtain⟨r,hr,rfl⟩:=List.mem_map.1 he;obtain⟨j,hj,rfl⟩:=List.getElem_of_mem (List.mem_filter.1 hr).1;obtain⟨h1,h2⟩:=hst j hj;have h1:=of_decide_eq_true h1;have h2:=of_decide_eq_true h2;unfold edg;exact⟨by show rs[j].frm.toNat<N;omega,by show rs[j].to_.toNat<N;omega⟩
end Go.Proofs.YtbdmcibcenhpnaaGreatDoor.De
namespace Go.Proofs.YtbdmcibcenhpnaaGreatDoor.De
set_option maxHeartbeats 64000000
open Go Go.RowKit Sp Pa Te Mi
open Go.Lib (hid)
def CS (B:Nat) (N:Nat) (i o s:Int) (A:Option Addr) (r cr:Nat) (Bf:Option Addr) (f cf:Nat) (E:List Eg) (w wr:World):Prop:=
 ji wr (B+1) (B+1+1+1) N (bT E)/\fK wr (B+1+1) N (inw E)/\Below B w wr/\B+1+1<wr.heap.size/\DB wr B i o (N:Int) s A r cr Bf f cf
theorem CS.below {B N:Nat} {i o s:Int} {A:Option Addr} {r cr:Nat} {Bf:Option Addr} {f cf:Nat} {E:List Eg} {w wr w':World} (h:CS B N i o s A r cr Bf f cf E w wr) (hb:Below wr.heap.size wr w'):CS B N i o s A r cr Bf f cf E w w':=by
 obtain⟨h1,h2,h3,h4,h5⟩:=h;exact⟨h1.below hb,h2.below hb,h3.trans (hb.mono (by omega)),by have:=hb.size;omega,h5.below (by omega) hb⟩
theorem CS.counted {B N:Nat} {i o s:Int} {A:Option Addr} {r cr:Nat} {Bf:Option Addr} {f cf:Nat} {E:List Eg} {w w7:World} {a t m:Nat} (hm:inw E t=m) (h1:ji w7 (B+1) (B+1+1+1) N (bT (E++[(a,t)]))) (h2:fK w7 (B+1+1) N (inw E)) (h3:Below B w w7) (h4:B+1+1<w7.heap.size) (h5:DB w7 B i o (N:Int) s A r cr Bf f cf) :
  CS B N i o s A r cr Bf f cf (E++[(a,t)]) w (w7.setCell ⟨B+1+1,t,none⟩ (.int .i64 ((m:Int)+1))):=by
 have hg:=(World.ownsRow.stored h2 t (.int .i64 ((m:Int)+1))).2;have hb:Below (B+1) w7 (w7.setCell ⟨B+1+1,t,none⟩ (.int .i64 ((m:Int)+1))):=(Below.refl _ _).setCell (by show B+1<=B+1+1;omega) _;refine⟨h1.keep fun k hk hlt=>hg.block k hlt (fun e=>by injection e with e;omega),?_,h3.trans (hb.mono (by omega)),by have:=hg.size;omega,h5.below (by omega) hb⟩;rw[Ef];show fK _ _ N (upd (inw E) t (inw E t+1));rw[hm];exact h2.stored t (m+1) (by simp)
def Qj (B:Nat) (N:Nat) (i o s:Int) (A:Option Addr) (cr:Nat) (Bf:Option Addr) (f cf:Nat) (rs:List RuL) (w:World) (v:Value) (wr:World):Prop:=
 ∃k:Nat,k<=rs.length/\v = .int .i64 k/\CS B N i o s A rs.length cr Bf f cf (bF (rs.take k)) w wr
def GS (B S1 N:Nat) (ws w:World) (g:Value) (gone:List Nat) (W:Nat->Nat) (wr:World):Prop:=
 wr.ownsRow S1 3 1 g gone.length (jV gone)/\fK wr (B+1+1) N W/\E6 (B+1+1) S1 ws wr/\Below B w wr
theorem GS.more {B S1 N:Nat} {ws w wr w9:World} {g v9:Value} {gone:List Nat} {W:Nat->Nat} {x:Nat} {o:Obj} (h:GS B S1 N ws w g gone W wr) (hS:B+1+1<S1) (hown:w9.ownsRow S1 3 1 v9 (gone.length+1) (jV gone++[.int .i64 (x:Int)])) (hg:(wr.alloc o).grownBy w9 g.ownBlock):GS B S1 N ws w v9 (gone++[x]) W w9:=by
 obtain⟨h1,h2,h3,h4⟩:=h;have hlow:∀k,g.ownBlock=some k->S1<=k:=fun k hk=>(World.ownsRow.lt h1 k hk).1
 have hz:=h3.1;refine⟨?_,?_,(h3.grown (World.grownBy_alloc wr o none) (fun k hk=>by cases hk)).grown hg (fun k hk=>.inr (hlow k hk)),(h4.alloc (by omega) o).grown hg (by simp;omega) (fun k hk=>by have:=hlow k hk;omega)⟩
 ·rw[List.length_append,List.length_singleton]
  unfold jV at hown ⊢;rw[List.map_append];exact hown
 ·exact World.ownsRow.kept (World.ownsRow.alloc h2 o) hg (.inr fun e=>by have:=hlow (B+1+1) (by rw[<- e];rfl);omega)
theorem GS.store {B S1 N:Nat} {ws w wr:World} {g:Value} {gone:List Nat} {W:Nat->Nat} (h:GS B S1 N ws w g gone W wr) (hS:B+1+1<S1) (q v:Nat) {x:Int} (hx:x=(v:Int)):GS B S1 N ws w g gone (upd W q v) (wr.setCell ⟨B+1+1,q,none⟩ (.int .i64 x)):=by
 obtain⟨h1,h2,h3,h4⟩:=h;have hg:=(World.ownsRow.stored h2 q (.int .i64 x)).2;refine⟨World.ownsRow.kept h1 hg ?_,h2.stored q v hx,h3.grown hg (fun k hk=>.inl (by injection hk with hk;exact hk.symm)),h4.setCell (by show B<=B+1+1;omega) _⟩
 cases hu:g.ownBlock with
 | none=>exact .inl rfl
 | some k=>exact .inr fun e=>by have:=(World.ownsRow.lt h1 k hu).1;injection e with e;omega
theorem GS.row {B S1 N:Nat} {ws w wr:World} {g:Value} {gone:List Nat} {W:Nat->Nat} (h:GS B S1 N ws w g gone W wr) (hS1:S1=ws.heap.size) {v:Value} {n:Nat} {xs:List Value} (ho:ws.ownsRow (B+1+1+1) 3 1 v n xs):wr.ownsRow (B+1+1+1) 3 1 v n xs:=
 au ho fun k e=>by have:=World.ownsRow.lt ho k e;exact h.2.2.1.2 k (by omega) (by omega)
theorem GS.cell {B S1 N:Nat} {ws w wr:World} {g:Value} {gone:List Nat} {W:Nat->Nat} (h:GS B S1 N ws w g gone W wr) {x:Nat} (hx:x<S1) (hne:x≠B+1+1) (q:Nat):wr.cell? ⟨x,q,none⟩=ws.cell? ⟨x,q,none⟩:=World.cell?_of_block (h.2.2.1.2 x hx hne)
theorem wV {P:Nat->Bool} {k:Nat} (h:P k=true):(List.range (k+1)).filter P=(List.range k).filter P++[k]:=by rw[List.range_succ,List.filter_append];simp[h]
theorem wU {P:Nat->Bool} {k:Nat} (h:P k=false):(List.range (k+1)).filter P=(List.range k).filter P:=by rw[List.range_succ,List.filter_append];simp[h]
theorem fS.Pb {E:List Eg} {N i j p q:Nat} {gone:List Nat} {W:Nat->Nat} (h:fS E N gone i W j) (hE:∀e∈E,e.2<N) (hp:gone[i]? = some p) (hj:j<(bT E p).length) (hq:(bT E p)[j]=q) (h2:W q-1≠0):fS E N gone i (upd W q (W q-1)) (j+1):=by
 obtain⟨hi,rfl⟩:=List.getElem?_eq_some_iff.1 hp;subst hq;exact h.dec hE hi hj h2
theorem fS.add' {E:List Eg} {N i j p q:Nat} {gone:List Nat} {W:Nat->Nat} (h:fS E N gone i W j) (hE:∀e∈E,e.2<N) (hp:gone[i]? = some p) (hj:j<(bT E p).length) (hq:(bT E p)[j]=q) (h2:W q-1=0):fS E N (gone++[q]) i (upd W q (W q-1)) (j+1):=by
 obtain⟨hi,rfl⟩:=List.getElem?_eq_some_iff.1 hp;subst hq;rw[h2];exact h.add hE hi hj h2
theorem fS.pos' {E:List Eg} {N i j p q:Nat} {gone:List Nat} {W:Nat->Nat} (h:fS E N gone i W j) (hE:∀e∈E,e.2<N) (hp:gone[i]? = some p) (hj:j<(bT E p).length) (hq:(bT E p)[j]=q):q<N/\0<W q:=by
 obtain⟨hi,rfl⟩:=List.getElem?_eq_some_iff.1 hp;subst hq;exact h.pos hE hi hj
theorem fS.next' {E:List Eg} {N i p:Nat} {gone:List Nat} {W:Nat->Nat} (hp:gone[i]? = some p) (h:fS E N gone i W (bT E p).length):fS E N gone (i+1) W 0:=by
 obtain⟨hi,rfl⟩:=List.getElem?_eq_some_iff.1 hp;exact fS.next hi h
theorem fS.bound {E:List Eg} {N i j q:Nat} {gone:List Nat} {W:Nat->Nat} (h:fS E N gone i W j) (hq:q<N):W q<=E.length:=by
 have:=h.ways q hq;have:rmn E (gone.take i) q<=E.length:=List.countP_le_length;omega
def Ng (B S1 N:Nat) (E:List Eg) (ws w:World) (g v:Value) (wr:World):Prop:=∃k:Nat,k<=N/\v = .int .i64 k/\GS B S1 N ws w g ((List.range k).filter fun q=>decide (inw E q=0)) (inw E) wr
def Nf (B S1 N:Nat) (E:List Eg) (ws w:World) (g v:Value) (wr:World):Prop:=∃(gone:List Nat) (k:Nat) (W:Nat->Nat),v = .int .i64 k/\fS E N gone k W 0/\GS B S1 N ws w g gone W wr
def Nd (B S1 N:Nat) (E:List Eg) (ws w:World) (k p:Nat) (g v:Value) (wr:World):Prop:=∃(gone:List Nat) (j:Nat) (W:Nat->Nat),v = .int .i64 j/\j<=(bT E p).length/\gone[k]? = some p/\fS E N gone k W j/\GS B S1 N ws w g gone W wr
theorem BN (N:Nat) (i o s:Int) (A:Option Addr) (cr:Nat) (Bf:Option Addr) (f cf:Nat) (rs:List RuL) (w:World) (h:RRu w A rs.length rs) (hl:rs.length<=4096) (hN:N<=1024) (hst:∀j (hj:j<rs.length),stB N rs[j].frm=true/\stB N rs[j].to_=true) :
  Calls Tryz.prog 45 #[dsc i o (N:Int) s A rs.length cr Bf f cf] w (dY (jo (bF rs) N) w):=by
 obtain⟨i0,hi0,hz0,hz1,hz2⟩:=info_parts gh;obtain⟨w0,hw0⟩:∃w0,w.alloc (.cells #[.int .i64 i,.int .i64 o,.int .i64 (N:Int),.int .i64 s,.slice A rs.length cr,.slice Bf f cf] 26)=w0:=⟨_,rfl⟩;have hs0:w0.heap.size=w.heap.size+1:=by rw[<- hw0];simp
 have hb0:Below w.heap.size w w0:=by rw[<- hw0];exact(Below.refl _ _).alloc (Nat.le_refl _) _
 have hd0:DB w0 w.heap.size i o N s A rs.length cr Bf f cf:=by rw[<- hw0];exact DB.boxed
 obtain⟨w1,hw1⟩:∃w1,w0.alloc (.cells (madeCells #[.slice none 0 0] N) 56)=w1:=⟨_,rfl⟩;have hs1:w1.heap.size=w.heap.size+1+1:=by rw[<- hw1,<- hs0];simp
 have hmk1:=run_make_row' (P:=Tryz.prog) 96 56 (.slice none 0 0) 24 Tryz.underlying96 Ej rfl .i64 .i64 N (by omega) (by omega) w0;rw[hw1,hs0]at hmk1;have hmk2:=run_make_row' (P:=Tryz.prog) 56 3 (.int .i64 0) 8 Tryz.underlying56 gh rfl .i64 .i64 N (by omega) (by omega) w1;have hox:w1.ownsRow (w.heap.size+1) 56 1 (.slice (some ⟨w.heap.size+1,0,none⟩) N N) N ((List.range N).map fun _=>Value.slice none 0 0):=by
  have:=World.ownsRow_lit (base:=w.heap.size+1) (e:=56) (size:=1) w0 (madeCells #[.slice none 0 0] N) N (by omega) (by simp only[maxLen];omega) (by simp[madeCells]);rw[toList_madeCells_one,hw1,hs0]at this;rw[show(List.range N).map (fun _=>Value.slice none 0 0)=List.replicate N (.slice none 0 0)from List.ext_getElem (by simp) fun j h1 h2=>by simp];exact this
 have hb1:Below w0.heap.size w0 w1:=by rw[<- hw1];exact(Below.refl _ _).alloc (Nat.le_refl _) _
 obtain⟨w2,hw2⟩:∃w2,w1.alloc (.cells (madeCells #[.int .i64 0] N) 3)=w2:=⟨_,rfl⟩;have hs2:w2.heap.size=w.heap.size+1+1+1:=by rw[<- hw2];simp[hs1]
 have hb2:Below w1.heap.size w1 w2:=by rw[<- hw2];exact(Below.refl _ _).alloc (Nat.le_refl _) _
 have how:fK w2 (w.heap.size+1+1) N (inw []):=by
  have:=World.ownsRow_lit (base:=w.heap.size+1+1) (e:=3) (size:=1) w1 (madeCells #[.int .i64 0] N) N (by omega) (by simp only[maxLen];omega) (by simp[madeCells]);rw[toList_madeCells_one,hw2,hs1]at this;unfold fK;rw[show jV ((List.range N).map (inw []))=List.replicate N (.int .i64 0)from List.ext_getElem (by simp[jV]) fun j h1 h2=>by simp[jV,inw]];exact this
 rw[hw2,hs1]at hmk2;have NS:=hd0.below (by omega) hb1;have HCS:=hid (show CS w.heap.size N i o s A rs.length cr Bf f cf (bF (rs.take 0)) w w2 from
  ⟨⟨fun _=>.slice none 0 0,au hox fun k e=>hb2.block k (World.ownsRow.lt hox k e).2,fun q _=>World.ownsRow_nil _ _ _ _,fun p q _ _ k e=>by simp[Value.ownBlock]at e⟩,how,(hb0.trans (hb1.mono (by omega))).trans (hb2.mono (by omega)),by omega,NS.below (by omega) hb2⟩)
 have H:=hid h;have HST:=hid hst;have O1:=HCS.out.2.2.2.2;obtain⟨p0,p1,p2,p3,p4,p5⟩:=hd0;obtain⟨t0,t1,t2,t3,t4,t5⟩:=NS;obtain⟨y0,y1,y2,y3,y4,y5⟩:=O1;clear h hst hox how hb0 hb1 hb2;obtain⟨v,hv⟩:∃v,jo (bF rs) N=v:=⟨_,rfl⟩;have HVV:=hid hv;rw[hv];clear hv;go_enter Tryz.func45,Tryz.ntmps45;go_wp2_with (fail)
 go_loopw [22] (fun v wr=>Qj w.heap.size N i o s A cr Bf f cf rs w v wr) (fun v _=>rs.length-(intOf v).toNat)
 case atStart=>exact⟨0,Nat.zero_le _,rfl,HCS.out⟩
 case round=>
  obtain⟨k,hk,rfl,hcs⟩:=hrel;have HC:=hid hcs;by_cases hlt:k<rs.length
  case pos=>
   obtain⟨b,off,A',c',A2,c2,hA,hbB,d0,d1,d2,d3,d4,_,_⟩:=(H.out.ah hcs.2.2.1).at_ hlt;obtain⟨a,ha,haN⟩:∃a:Nat,rs[k].frm=(a:Int)/\a<N:=by
    have:=of_decide_eq_true (HST.out k hlt).1;exact⟨rs[k].frm.toNat,by omega,by omega⟩
   obtain⟨t,ht,htN⟩:∃t:Nat,rs[k].to_=(t:Int)/\t<N:=by
    have:=of_decide_eq_true (HST.out k hlt).2;exact⟨rs[k].to_.toNat,by omega,by omega⟩
   have HED:=hid (show edg rs[k]=(a,t)by unfold edg;rw[ha,ht];rfl);have hE1:=fun h:yG rs[k]=false=>qV hlt h
   have hE2:=fun h:yG rs[k]=true=>qW hlt h
   have hEl:(bF (rs.take k)).length<=4096:=by have:=vu (rs.take k);rw[List.length_take]at this;omega
   obtain⟨E,hE⟩:∃E,bF (rs.take k)=E:=⟨_,rfl⟩;rw[hE]at hcs hE1 hE2 hEl;have HE1:=hid hE1;have HE2:=hid hE2;have HEL:=hid hEl;rw[ha]at d0;rw[ht]at d1;obtain⟨g,hg⟩:∃g,rs[k].gs.length=g:=⟨_,rfl⟩;have HEP:=hid (show yG rs[k]=decide (g=0)by unfold yG;rw[hg]);rw[hg]at d2;clear hE hE1 hE2 hEl hg HC ha ht;obtain⟨w5,hw5⟩:∃w5,wr.alloc (.cells #[.int .i64 (a:Int),.int .i64 (t:Int),.slice A' g c',.int .i64 rs[k].eat,.slice A2 rs[k].out.length c2] 43)=w5:=⟨_,rfl⟩;have hs5:w5.heap.size=wr.heap.size+1:=by rw[<- hw5];simp
   have hb5:Below wr.heap.size wr w5:=by rw[<- hw5];exact(Below.refl _ _).alloc (Nat.le_refl _) _
   have hrb:RB w5 wr.heap.size a t A' g c' rs[k].eat A2 rs[k].out.length c2:=by rw[<- hw5];exact RB.boxed
   have HC5:=hid (hcs.below hb5);have HRB:=hid hrb;obtain⟨r0,r1,r2,r3,r4⟩:=hrb;have hgw:=hcs.2.2.2.1;have HEV:=hid (Hh a t rs[k].eat A' g c' (.slice A2 rs[k].out.length c2) w5);subst hA;have HCW:=hid hcs;clear hcs;go_wp2_with (fail);refine HEV.out.mono ?_;rintro e w6 ⟨rfl,hb6⟩;have hs6:=hb6.size;have hcs:=HC5.out.below hb6;have HBX:=hid (hb5.trans (hb6.mono (by omega)));have HC6:=hid hcs;have hrb:=HRB.out.below (by omega) hb6;have QG:=hid hrb;clear hb6 hb5 r0 r1 r2 r3 r4;obtain⟨r0,r1,r2,r3,r4⟩:=hrb;obtain⟨eb,heb⟩:∃eb,decide (g=0)=eb:=⟨_,rfl⟩;rw[heb]at HEP ⊢;clear heb
   cases eb
   ·clear hcs
    go_wp2_with (fail)
    go_roundw
    case rel=>exact⟨k+1,by omega,by go_num,by rw[HE1.out HEP.out];exact HC6.out⟩
    case measure=>simp[intOf];omega
   obtain⟨Aa,ca,hca0,hfa0,LN⟩:=HCW.out.1.at_ haN;have hca:=(HBX.out.cell (p:=⟨w.heap.size+1,a,none⟩) (by show w.heap.size+1<wr.heap.size;omega)).trans hca0;have hfa:=(World.frozen?_of_block (a:=⟨w.heap.size+1,a,none⟩) (HBX.out.block (w.heap.size+1) (by omega))).trans hfa0;have hlx:∀q,(Value.slice Aa (bT E a).length ca).ownBlock=some q->q<wr.heap.size:=fun q hq=>(World.ownsRow.lt LN q hq).2
   have hoa:=au LN fun k e=>HBX.out.block k (hlx k e)
   clear hca0 hfa0 LN;obtain⟨m,hm⟩:∃m,inw E t=m:=⟨_,rfl⟩;have HM:=hid hm;have hml:m<=4096:=by have:=Jy E t;have:=HEL.out;omega
   clear hm;have hol:(bT E a).length<=4096:=Nat.le_trans (zW E a) HEL.out;obtain⟨na,hna⟩:∃na,(bT E a).length=na:=⟨_,rfl⟩;have HNA:=hid hna;rw[hna]at hca hoa hol hlx;have hlow:∀q,(Value.slice Aa na ca).ownBlock=some q->w.heap.size+1+1+1<=q:=fun q hq=>(World.ownsRow.lt hoa q hq).1
   have hxl:wr.heap.size<w6.heap.size:=by omega
   have hgN:w.heap.size+1<w6.heap.size:=by omega
   have hneg:(Value.slice Aa na ca).ownBlock≠some (w.heap.size+1):=fun q=>by have:=hlow _ q;omega
   have hnx:(Value.slice Aa na ca).ownBlock≠some wr.heap.size:=fun q=>by have:=hlx _ q;omega
   have KX:=World.grownBy_alloc w6 (.cells #[.int .i64 (t:Int)] 3) none;have L5:(w6.alloc (.cells #[.int .i64 (t:Int)] 3)).cell? ⟨w.heap.size+1,a,none⟩=some (.slice Aa na ca):=KX.cell hca (by simp);have NR:(w6.alloc (.cells #[.int .i64 (t:Int)] 3)).frozen? ⟨w.heap.size+1,a,none⟩=false:=(World.frozen?_of_block (KX.block _ hgN (by simp))).trans hfa;have NC:(w6.alloc (.cells #[.int .i64 (t:Int)] 3)).cell? ⟨wr.heap.size,0,none⟩=some (.int .i64 (a:Int)):=KX.cell r0 (by simp);have k1:(0:Int)<=(a:Int):=Int.natCast_nonneg _;have k2:(a:Int)<(N:Int):=by omega
   have k3:(0:Int)<=(t:Int):=Int.natCast_nonneg _;have k4:(t:Int)<(N:Int):=by omega
   have HOA:=hid hoa;have jJ:=hid hlow;have HNX:=hid hnx;have HCA:=hid L5;have HR1:=hid r1;have vK:=hid (fun(gg bX:Nat) (w4:World) (h1:w4.ownsRow (w.heap.size+1+1+1) 3 1 (.slice (some ⟨gg,0,none⟩) (na+1) bX) (na+1) (jV (bT E a)++[.int .i64 (t:Int)])) (h2:((w6.alloc (.cells #[.int .i64 (t:Int)] 3)).drew).grownBy w4 (Value.slice Aa na ca).ownBlock) (h3:(Value.slice Aa na ca).ownBlock=some gg\/gg=w6.heap.size+1)=>
    show(ji (w4.setCell ⟨w.heap.size+1,a,none⟩ (.slice (some ⟨gg,0,none⟩) (na+1) bX)) (w.heap.size+1) (w.heap.size+1+1+1) N (bT (E++[(a,t)]))/\fK (w4.setCell ⟨w.heap.size+1,a,none⟩ (.slice (some ⟨gg,0,none⟩) (na+1) bX)) (w.heap.size+1+1) N (inw E)/\Below w.heap.size w (w4.setCell ⟨w.heap.size+1,a,none⟩ (.slice (some ⟨gg,0,none⟩) (na+1) bX))/\w.heap.size+1+1<(w4.setCell ⟨w.heap.size+1,a,none⟩ (.slice (some ⟨gg,0,none⟩) (na+1) bX)).heap.size/\DB (w4.setCell ⟨w.heap.size+1,a,none⟩ (.slice (some ⟨gg,0,none⟩) (na+1) bX)) w.heap.size i o N s (some ⟨b,off,none⟩) rs.length cr Bf f cf)/\(w4.setCell ⟨w.heap.size+1,a,none⟩ (.slice (some ⟨gg,0,none⟩) (na+1) bX)).cell? ⟨wr.heap.size,1,none⟩=some (.int .i64 (t:Int))/\(w4.setCell ⟨w.heap.size+1,a,none⟩ (.slice (some ⟨gg,0,none⟩) (na+1) bX)).cell? ⟨w.heap.size+1+1,t,none⟩=some (.int .i64 (m:Int))/\(w4.setCell ⟨w.heap.size+1,a,none⟩ (.slice (some ⟨gg,0,none⟩) (na+1) bX)).frozen? ⟨w.heap.size+1+1,t,none⟩=false from by
    obtain⟨q1,q2,q3,q4,q5⟩:=HC6.out;have hzA:((w6.alloc (.cells #[.int .i64 (t:Int)] 3)).drew).heap.size=w6.heap.size+1:=by simp
    have hzz:=h2.size;rw[hzA]at hzz;have hAk:∀k,k<w6.heap.size->((w6.alloc (.cells #[.int .i64 (t:Int)] 3)).drew).heap[k]? = w6.heap[k]?:=fun k hk=>Below.heap_alloc w6 _ k hk
    have hbq:Below (w.heap.size+1) w6 (w4.setCell ⟨w.heap.size+1,a,none⟩ (.slice (some ⟨gg,0,none⟩) (na+1) bX)):=((((Below.refl _ _).alloc (by omega) _).drew).grown h2 (by rw[hzA];omega) (fun k hk=>by have:=jJ.out k hk;omega)).setCell (by show w.heap.size+1<=w.heap.size+1;omega) _;have hX:=(q1.keep (w':=(w6.alloc (.cells #[.int .i64 (t:Int)] 3)).drew) fun k _ hk=>hAk k hk).longer (by omega) haN (A:=Aa) (c:=ca) (by rw[HNA.out];exact HCA.out) t (v':=.slice (some ⟨gg,0,none⟩) (na+1) bX) (w1:=w4) (by rw[HNA.out];exact h1) (by rw[HNA.out];exact h2) (by
     rw[HNA.out];rcases h3 with q | q
     ·exact .inl q
     ·exact .inr ⟨gg,rfl,by rw[hzA];omega⟩)
    have hF:fK (w4.setCell ⟨w.heap.size+1,a,none⟩ (.slice (some ⟨gg,0,none⟩) (na+1) bX)) (w.heap.size+1+1) N (inw E):=ownsRow_setCell_below (World.ownsRow.kept (au q2 fun k e=>hAk k (World.ownsRow.lt q2 k e).2) h2 (.inr fun e=>by
     have:=jJ.out (w.heap.size+1+1) (by rw[<- e];rfl);omega)) (a:=⟨w.heap.size+1,a,none⟩) (by show w.heap.size+1<w.heap.size+1+1;omega) _
    have hcl:=hF.cell htN;rw[HM.out]at hcl;have hr:(w4.setCell ⟨w.heap.size+1,a,none⟩ (.slice (some ⟨gg,0,none⟩) (na+1) bX)).cell? ⟨wr.heap.size,1,none⟩=some (.int .i64 (t:Int)):=by
     rw[World.cell?_setCell_other _ _ _ _ (fun q=>by injection q with q;omega)];exact h2.cell (KX.cell HR1.out (by simp)) (fun e=>HNX.out e.symm)
    exact⟨⟨by rw[DH];exact hX,hF,q3.trans (hbq.mono (by omega)),by have:=hbq.size;omega,q5.below (by omega) hbq⟩,hr,hcl,hF.frozen t⟩)
   clear hcs hoa hlow hna;go_wp2_with (fail)
   go_region_law ((refine step_append_lies _ (by rfl) _ _ _ (by rfl) (w.heap.size+1+1+1) 3 i0 _ 1 8 Tryz.underlying56 hi0 hz0 hz1 hz2 rfl (by omega) (.slice Aa na ca) na (jV (bT E a)) (by rfl) ((World.ownsRow.alloc HOA.out _).drew) ⟨w6.heap.size,0,none⟩ 1 1 [.int .i64 (t:Int)] (by rfl) (by rfl) (World.news_of_block (cs:=#[.int .i64 (t:Int)]) (t:=3) (fr:=(0,0)) (heap_alloc_new w6 _)) (by simp[Value.oneCell']) (by omega) (by simp only[maxLen];omega) (by omega) (by simp;omega) (w6.heap.size+1) (by simp) ?_;intro gg bX w4 hown1 hgrow hat LU;have hcg4:w4.cell? ⟨w.heap.size+1,a,none⟩=some (.slice Aa na ca):=hgrow.cell L5 (fun e=>hneg e.symm);have hfg4:w4.frozen? ⟨w.heap.size+1,a,none⟩=false:=(World.frozen?_of_block (hgrow.block _ (by simp;omega) (fun e=>hneg e.symm))).trans NR;have hr04:w4.cell? ⟨wr.heap.size,0,none⟩=some (.int .i64 (a:Int)):=hgrow.cell NC (fun e=>hnx e.symm)))
   all_goals have HS:=hid (vK.out _ _ _ hown1 hgrow hat)
   all_goals have y1:=HS.out.2.1
   all_goals have y2:=HS.out.2.2.1
   all_goals have y3:=HS.out.2.2.2
   all_goals clear hown1 hgrow hat LU hcg4 hfg4 hr04 L5 NR NC hca hfa r0 r1 r2 r3 r4
   all_goals go_wp2_with (fail)
   all_goals go_roundw
   all_goals first
    | exact⟨k+1,by omega,by go_num,by rw[HE2.out HEP.out,HED.out];exact CS.counted HM.out HS.out.1.1 HS.out.1.2.1 HS.out.1.2.2.1 HS.out.1.2.2.2.1 HS.out.1.2.2.2.2⟩
    | (simp[intOf];omega)
  obtain rfl:k=rs.length:=by omega
  rw[List.take_length]at hcs;have HEE:=hid (FQ HST.out);have HEL:=hid (Nat.le_trans (vu rs) hl);obtain⟨E,hE⟩:∃E,bF rs=E:=⟨_,rfl⟩;rw[hE]at hcs HEE HEL HVV
  rename World=>ws
  have HWS:=hid hcs;have hgw:=hcs.2.2.2.1;obtain⟨y0,y1,y2,y3,y4,y5⟩:=hcs.2.2.2.2;obtain⟨S1,hS1⟩:∃S1,ws.heap.size=S1:=⟨_,rfl⟩;have HS1:=hid hS1.symm;have Md:w.heap.size+1+1<S1:=by omega
  have HG0:=hid (show GS w.heap.size S1 N ws w (.slice none 0 0) [] (inw E) ws from⟨World.ownsRow_nil _ _ _ _,hcs.2.1,⟨by omega,fun _ _ _=>rfl⟩,hcs.2.2.1⟩);clear hcs HC hE hgw;go_wp2_with (fail)
  go_loopw [7,51] (fun g v wr=>Ng w.heap.size S1 N E ws w g v wr) (fun _ v _=>N-(intOf v).toNat)
  case atStart=>exact⟨0,Nat.zero_le _,rfl,HG0.out⟩
  case round=>
   obtain⟨k2,hk2,rfl,hgs⟩:=hrel;have HGS:=hid hgs;by_cases hlt2:k2<N
   case pos=>
    obtain⟨Ag,cg,hvg⟩:=aX hgs.1;subst hvg;have hc:=hgs.2.1.cell hlt2;have hgl:((List.range k2).filter fun q=>decide (inw E q=0)).length<=k2:=by have:=List.length_filter_le (fun q=>decide (inw E q=0)) (List.range k2);rw[List.length_range]at this;exact this
    have hzs:=hgs.2.2.1.1;have HO:=hid hgs.1;obtain⟨m,hm⟩:∃m,inw E k2=m:=⟨_,rfl⟩;have HM:=hid hm;rw[hm]at hc;clear hgs hm;obtain⟨L,hL⟩:∃L,(List.range k2).filter (fun q=>decide (inw E q=0))=L:=⟨_,rfl⟩;have HL:=hid hL;rw[hL]at HO HGS hgl ⊢;clear hL;obtain⟨ng,hng⟩:∃ng,L.length=ng:=⟨_,rfl⟩;have HNG:=hid hng;rw[hng]at HO HGS hgl ⊢;clear hng;rcases Nat.eq_zero_or_pos m with z | z
    ·subst z
     have HR:=hid (wV (P:=fun q=>decide (inw E q=0)) (k:=k2) (decide_eq_true HM.out));go_wp2_with (at_builtin;go_must (refine wpList_append_own_at _ rfl _ _ 56 rfl S1 3 i0 _ 1 8 Tryz.underlying56 hi0 hz0 hz1 hz2 rfl (by decide) (.slice Ag ng cg) ng (jV L) rfl (HO.out.alloc _) ⟨wr.heap.size,0,none⟩ 1 1 [.int .i64 (k2:Int)] rfl rfl ?c1 ?c2 ?c3 ?c4 ?c5 ?_))
     case c1=>exact World.news_of_block (cs:=#[.int .i64 (k2:Int)]) (t:=3) (fr:=(0,0)) (heap_alloc_new wr _)
     case c2=>simp[Value.oneCell']
     case c3=>simp only[maxLen];omega
     case c4=>omega
     case c5=>simp;omega
     intro v9 w9 hown9 hg9 _ hat9;have HN9:=hid (HGS.out.more (x:=k2) Md (by rw[HNG.out];exact hown9) hg9);clear hown9 hg9 hat9;go_wp2_with (fail)
     go_roundw
     case rel=>exact⟨k2+1,by omega,by go_num,by rw[HR.out,HL.out];exact HN9.out⟩
     case measure=>simp[intOf];omega
    ·have hm0:((m:Int) == 0)=false:=by simp;omega
     have HR:=hid (wU (P:=fun q=>decide (inw E q=0)) (k:=k2) (decide_eq_false (by have:=HM.out;omega)));go_wp2_with (fail)
     go_roundw
     case rel=>exact⟨k2+1,by omega,by go_num,by rw[HR.out,HL.out];exact HGS.out⟩
     case measure=>simp[intOf];omega
   obtain rfl:k2=N:=by omega
   have HG3:=hid (fS.start (E:=E) (N:=k2))
   rename World=>wg
   clear hgs;go_wp2_with (fail)
   go_loopw [7,10] (fun g v wr=>Nf w.heap.size S1 k2 E ws w g v wr) (fun _ v _=>k2-(intOf v).toNat)
   case atStart=>exact⟨_,0,_,rfl,HG3.out,HGS.out⟩
   case round=>
    obtain⟨gone,k3,W,rfl,hkn,hgs⟩:=hrel;have HK:=hid hkn;have MW:=hid hgs;have sO:=hkn.few;by_cases hlt3:k3<gone.length
    case neg=>
     obtain⟨Ag,cg,hvg⟩:=aX hgs.1;subst hvg;have HV:=hid (hkn.done HEE.out (by omega));have hd2:=(hgs.cell (x:=w.heap.size) (by omega) (by omega) 2).trans y2;clear hkn hgs;obtain⟨ng,hng⟩:∃ng,gone.length=ng:=⟨_,rfl⟩;rw[hng]at hlt3 HV ⊢;clear hng;by_cases hc:ng<k2
     ·have hc':(ng:Int)<(k2:Int):=by omega
      obtain rfl:v=true:=by rw[<- HVV.out,HV.out,decide_eq_true hc]
      go_wp2_with (fail);go_ret;exact⟨by first | rfl | (show Ending.returned (Value.bool (decide ((ng:Int)<(k2:Int))))=_;rw[decide_eq_true hc']),MW.out.2.2.2⟩
     ·have hc' : ¬ (ng:Int)<(k2:Int):=by omega
      obtain rfl:v=false:=by rw[<- HVV.out,HV.out,decide_eq_false hc]
      go_wp2_with (fail);go_ret;exact⟨by first | rfl | (show Ending.returned (Value.bool (decide ((ng:Int)<(k2:Int))))=_;rw[decide_eq_false (by omega)]),MW.out.2.2.2⟩
    obtain⟨gg,bX,hvg,_,_⟩:=World.ownsRow.form hgs.1 (by omega);subst hvg;obtain⟨p,hp⟩:∃p,gone[k3]=p:=⟨_,rfl⟩;have hpN:p<k2:=by rw[<- hp];exact hkn.lt _ (List.getElem_mem hlt3)
    have HP:=hid (show gone[k3]? = some p by rw[List.getElem?_eq_getElem hlt3,hp]);have hcg:=Fq hgs.1 hlt3 rfl;rw[hp]at hcg;obtain⟨Ar,cr',hcr,_,hor⟩:=HWS.out.1.at_ hpN;have O5:=(hgs.cell (x:=w.heap.size+1) (by omega) (by omega) p).trans hcr;have HOR:=hid hor;have hol:=Nat.le_trans (zW E p) HEL.out;obtain⟨nr,hnr⟩:∃nr,(bT E p).length=nr:=⟨_,rfl⟩;have HNR:=hid hnr;rw[hnr]at hcr O5 hol HOR;obtain⟨ng,hng⟩:∃ng,gone.length=ng:=⟨_,rfl⟩;have HNG:=hid hng;rw[hng]at sO hlt3 ⊢;have k9:(0:Int)<=(p:Int):=Int.natCast_nonneg _;have k10:(p:Int)<(k2:Int):=by omega
    clear hkn hgs hor hp hnr hng;go_wp2_with (fail)
    go_loopw [7,77] (fun g v wr=>Nd w.heap.size S1 k2 E ws w k3 p g v wr) (fun _ v _=>nr-(intOf v).toNat)
    case atStart=>exact⟨gone,0,W,rfl,Nat.zero_le _,HP.out,HK.out,by rw[<- HNG.out];exact MW.out⟩
    case round=>
     obtain⟨gone4,j,W4,rfl,hj,hp4,hk4,hgs4⟩:=hrel;have HK4:=hid hk4;have Ou:=hid hgs4;have LX:=hk4.few;have HP4:=hid hp4;by_cases hlt4:j<nr
     case neg=>
      obtain rfl:j=(bT E p).length:=by have:=HNR.out;omega
      obtain⟨Ag4,cg4,LG⟩:=aX hgs4.1;subst LG;have HNX:=hid (fS.next' hp4 hk4);clear hk4 hgs4 hp4;go_wp2_with (fail)
      go_roundw
      case rel=>exact⟨gone4,k3+1,W4,by go_num,HNX.out,Ou.out⟩
      case measure=>simp[intOf];omega
     obtain⟨gr,QB,har,_,_⟩:=World.ownsRow.form HOR.out (by omega);injection har with har _ har2;subst har har2;have hjl:j<(bT E p).length:=by have:=HNR.out;omega
     obtain⟨q,hq⟩:∃q,(bT E p)[j]=q:=⟨_,rfl⟩;have HQ:=hid hq;have hcq:=Fq (hgs4.row HS1.out HOR.out) hjl HNR.out;rw[hq]at hcq;obtain⟨hqN,hpos⟩:=hk4.pos' (fun e he=>(HEE.out e he).2) hp4 hjl hq;have hbd:=Nat.le_trans (hk4.bound hqN) HEL.out;have hcw:=hgs4.2.1.cell hqN;have hfw:=hgs4.2.1.frozen q;have hzs:=hgs4.2.2.1.1;obtain⟨m,hm⟩:∃m,W4 q=m:=⟨_,rfl⟩;have HM:=hid hm;rw[hm]at hpos hbd hcw;obtain⟨x,hx⟩:∃x:Int,x=((m-1:Nat):Int):=⟨_,rfl⟩;have hxm:(m:Int)-1=x:=by omega
     have s3:IntKind.i64.wrap ((m:Int)-1)=x:=by rw[hxm];exact IntWalk.i64_in _ (by omega)
     have HST:=hid (hgs4.store Md q (m-1) hx);have hc8:=HST.out.2.1.cell hqN;rw[show upd W4 q (m-1) q=m-1 from if_pos rfl,<- hx]at hc8;have HKD:=hid (fun h:m-1≠0=>show fS E k2 gone4 k3 (upd W4 q (m-1)) (j+1)by rw[<- hm]at h ⊢;exact hk4.Pb (fun e he=>(HEE.out e he).2) hp4 hjl hq h);have HKA:=hid (fun h:m-1=0=>show fS E k2 (gone4++[q]) k3 (upd W4 q (m-1)) (j+1)by rw[<- hm]at h ⊢;exact hk4.add' (fun e he=>(HEE.out e he).2) hp4 hjl hq h);obtain⟨Ag4,cg4,LG⟩:=aX hgs4.1;subst LG;obtain⟨n4,hn4⟩:∃n4,gone4.length=n4:=⟨_,rfl⟩;have HN4:=hid hn4;rw[hn4]at HST Ou LX ⊢;obtain⟨w8,hw8⟩:∃w8,wr.setCell ⟨w.heap.size+1+1,q,none⟩ (.int .i64 x)=w8:=⟨_,rfl⟩;rw[hw8]at HST hc8;have hs8:=HST.out.2.2.1.1;have HO8:=hid (show w8.ownsRow S1 3 1 (.slice Ag4 n4 cg4) n4 (jV gone4)by have:=HST.out.1;rw[hn4]at this;exact this);have k11:(0:Int)<=(q:Int):=Int.natCast_nonneg _;have k12:(q:Int)<(k2:Int):=by omega
     have HXX:=hid hx;clear hk4 hgs4 hp4 hq hm hn4 hxm hx;by_cases hx0:x=0
     ·subst hx0
      have HM0:=hid (show m-1=0 by have:=HXX.out;omega);go_wp2_with (at_builtin;go_must (refine wpList_append_own_at _ rfl _ _ 56 rfl S1 3 i0 _ 1 8 Tryz.underlying56 hi0 hz0 hz1 hz2 rfl (by decide) (.slice Ag4 n4 cg4) n4 (jV gone4) rfl (HO8.out.alloc _) ⟨w8.heap.size,0,none⟩ 1 1 [.int .i64 (q:Int)] rfl rfl (World.news_of_block (cs:=#[.int .i64 (q:Int)]) (t:=3) (fr:=(0,0)) (heap_alloc_new w8 _)) ?c2 ?c3 ?c4 ?c5 ?_))
      case c2=>simp[Value.oneCell']
      case c3=>simp only[maxLen];omega
      case c4=>omega
      case c5=>first | omega | (simp;omega)
      intro v9 w9 hown9 hg9 _ hat9;have HN9:=hid (HST.out.more (x:=q) Md (by rw[HN4.out];exact hown9) hg9);clear hown9 hg9 hat9;go_wp2_with (fail)
      go_roundw
      case rel=>exact⟨gone4++[q],j+1,_,by go_num,by omega,by rw[List.getElem?_append_left (List.getElem?_eq_some_iff.1 HP4.out).1];exact HP4.out,HKA.out HM0.out,HN9.out⟩
      case measure=>simp[intOf];omega
     ·have hx1:(x == 0)=false:=by simpa using hx0
      go_wp2_with (fail)
      go_roundw
      case rel=>exact⟨gone4,j+1,_,by go_num,by omega,HP4.out,HKD.out (by have:=HXX.out;omega),HST.out⟩
      case measure=>simp[intOf];omega
end Go.Proofs.YtbdmcibcenhpnaaGreatDoor.De
namespace Go.Proofs.YtbdmcibcenhpnaaGreatDoor.De
set_option maxHeartbeats 64000000
open Go Go.RowKit Sp Pa Te Mi
open Go.Lib (hid)
theorem Em:(Tryz.prog.info? 4).map (fun i=>(i.zero,i.size,i.bytes))=some (some (.bool false),1,1):=by kernel_rfl
def mN (l:List Bool):List Value:=l.map Value.bool
def dG (w:World) (g N:Nat) (f:Nat->Bool):Prop:=w.ownsRow g 4 1 (.slice (some ⟨g,0,none⟩) N N) N (mN ((List.range N).map f))
def IZ (f:Nat->Bool) (q:Nat):Nat->Bool:=fun x=>if x=q then true else f x
section
variable {w w':World} {g N q:Nat} {f:Nat->Bool}
theorem dG.cell (h:dG w g N f) (hq:q<N):w.cell? ⟨g,q,none⟩=some (.bool (f q)):=by
 rw[World.ownsRow.cellAt h q (by omega)];simp[mN,hq]
theorem dG.frozen (h:dG w g N f) (q:Nat):w.frozen? ⟨g,q,none⟩=false:=World.ownsRow.frozenAt h q
theorem dG.stored (h:dG w g N f) (q:Nat):dG (w.setCell ⟨g,q,none⟩ (.bool true)) g N (IZ f q):=by
 have:=(World.ownsRow.stored h q (.bool true)).1;unfold dG;have e:mN ((List.range N).map (IZ f q))=(mN ((List.range N).map f)).set q (.bool true):=List.ext_getElem (by simp[mN]) fun j h1 h2=>by
  simp only[mN,List.getElem_map,List.getElem_range,List.getElem_set,IZ];by_cases e:j=q
  ·rw[if_pos e,if_pos e.symm]
  ·rw[if_neg e,if_neg fun k=>e k.symm]
 rw[e];exact this
theorem dG.kept {row:Option Nat} (h:dG w g N f) (hg:w.grownBy w' row) (hr:row≠some g):dG w' g N f:=World.ownsRow.kept h hg (.inr fun q=>hr (by simpa[Value.ownBlock]using q.symm))
theorem dG.below (h:dG w g N f) (hb:Below w.heap.size w w'):dG w' g N f:=au h fun k hk=>hb.block k ((World.ownsRow.lt h k hk).2)
theorem dG.lt (h:dG w g N f):g<w.heap.size:=(World.ownsRow.lt h g rfl).2
theorem dG.eq {f':Nat->Bool} (h:dG w g N f) (e:∀q,q<N->f q=f' q):dG w g N f':=by
 unfold dG at h ⊢;rw[show(List.range N).map f'=(List.range N).map f from List.map_congr_left fun q hq=>(e q (List.mem_range.1 hq)).symm];exact h
theorem qt (w:World) (N:Nat) (hN:N<=1024):dG (w.alloc (.cells (madeCells #[.bool false] N) 4)) w.heap.size N (fun _=>false):=by
 have:=World.ownsRow_lit (base:=w.heap.size) (e:=4) (size:=1) w (madeCells #[.bool false] N) N (Nat.le_refl _) (by simp only[maxLen];omega) (by simp[madeCells]);rw[toList_madeCells_one]at this;unfold dG;rw[show mN ((List.range N).map fun _=>false)=List.replicate N (.bool false)from List.ext_getElem (by simp[mN]) fun j h1 h2=>by simp[mN]];exact this
end
noncomputable def decP (p:Prop):Bool:=@decide p (Classical.propDecidable _)
theorem nY {p:Prop} (h:p):decP p=true:=@decide_eq_true _ (Classical.propDecidable _) h
theorem qY {p:Prop} (h : ¬ p):decP p=false:=@decide_eq_false _ (Classical.propDecidable _) h
theorem sZ {p q:Prop} (h:p↔q):decP p=decP q:=by rw[propext h]
def Nxt (E D:List Eg) (n q:Nat):Prop:=∃e∈D,e.2=q/\Walk E n e.1
def Som (E D:List Eg) (n:Nat):Prop:=∃e∈D,Walk E n e.1
theorem DL {E D:List Eg} {e:Eg} {n:Nat} (h : ¬ Walk E n e.1) (q:Nat):Nxt E (D++[e]) n q↔Nxt E D n q:=by
 constructor
 ·rintro⟨x,hx,h1,h2⟩
  rcases List.mem_append.1 hx with hx | hx
  ·exact⟨x,hx,h1,h2⟩
  ·rw[List.mem_singleton]at hx;subst hx;exact absurd h2 h
 ·rintro⟨x,hx,h1,h2⟩
  exact⟨x,List.mem_append_left _ hx,h1,h2⟩
theorem Dk {E D:List Eg} {e:Eg} {n:Nat} (h : ¬ Walk E n e.1):Som E (D++[e]) n↔Som E D n:=by
 constructor
 ·rintro⟨x,hx,h2⟩
  rcases List.mem_append.1 hx with hx | hx
  ·exact⟨x,hx,h2⟩
  ·rw[List.mem_singleton]at hx;subst hx;exact absurd h2 h
 ·rintro⟨x,hx,h2⟩
  exact⟨x,List.mem_append_left _ hx,h2⟩
theorem DN {E D:List Eg} {a t n:Nat} (h:Walk E n a) (q:Nat):decP (Nxt E (D++[(a,t)]) n q)=IZ (fun q=>decP (Nxt E D n q)) t q:=by
 unfold IZ;by_cases e:q=t
 ·rw[if_pos e]
  exact nY ⟨(a,t),by simp,e.symm,h⟩
 ·rw[if_neg e]
  refine sZ ⟨?_,?_⟩
  ·rintro⟨x,hx,h1,h2⟩
   rcases List.mem_append.1 hx with hx | hx
   ·exact⟨x,hx,h1,h2⟩
   ·rw[List.mem_singleton]at hx;subst hx;exact absurd h1.symm e
  ·rintro⟨x,hx,h1,h2⟩
   exact⟨x,List.mem_append_left _ hx,h1,h2⟩
theorem Dl {E D:List Eg} {a t n:Nat} (h:Walk E n a):Som E (D++[(a,t)]) n:=⟨(a,t),by simp,h⟩
theorem GK {E:List Eg} {n N:Nat} (h : ¬ Som E E n) (hn:n<=N):jo E N=false:=by
 refine qY ?_;rintro⟨q,hq⟩;obtain⟨d,hd⟩:∃d,N+1=n+1+d:=⟨N-n,by omega⟩;rw[hd]at hq;obtain⟨e,he,_,hw⟩:=hq.D2;exact h ⟨e,he,hw⟩
def Cv (N g x:Nat) (i o n s:Int) (A:Option Addr) (r cr:Nat) (B:Option Addr) (f cf:Nat) (w:World) (v:Value) (wr:World):Prop:=
 ∃k:Nat,k<=N/\v = .int .i64 k/\dG wr g N (fun q=>decide (q<k))/\Below x w wr/\DB wr x i o n s A r cr B f cf
def FY (E:List Eg) (N x:Nat) (i o n s:Int) (A:Option Addr) (r cr:Nat) (B:Option Addr) (f cf:Nat) (w:World) (u v:Value) (wr:World):Prop:=
 ∃(m g:Nat),m<=N+1/\v = .int .i64 m/\u = .slice (some ⟨g,0,none⟩) N N/\x<g/\dG wr g N (fun q=>decP (Walk E m q))/\(0<m->∃q,Walk E m q)/\Below x w wr/\DB wr x i o n s A r cr B f cf
def FZ (E:List Eg) (rs:List RuL) (m g g2 N x:Nat) (i o n s:Int) (A:Option Addr) (r cr:Nat) (B:Option Addr) (f cf:Nat) (w:World) (u v:Value) (wr:World):Prop:=
 ∃(k:Nat),k<=rs.length/\v = .int .i64 k/\u = .bool (decP (Som E (bF (rs.take k)) m))/\dG wr g N (fun q=>decP (Walk E m q))/\dG wr g2 N (fun q=>decP (Nxt E (bF (rs.take k)) m q))/\Below x w wr/\DB wr x i o n s A r cr B f cf
theorem wQ (N:Nat) (i o s:Int) (A:Option Addr) (cr:Nat) (Bf:Option Addr) (f cf:Nat) (rs:List RuL) (w:World) (h:RRu w A rs.length rs) (hl:rs.length<=4096) (hN:N<=1024) (hst:∀j (hj:j<rs.length),stB N rs[j].frm=true/\stB N rs[j].to_=true) :
  Calls Tryz.prog 34 #[dsc i o (N:Int) s A rs.length cr Bf f cf] w (dY (jo (bF rs) N) w):=by
 obtain⟨w0,hw0⟩:∃w0,w.alloc (.cells #[.int .i64 i,.int .i64 o,.int .i64 (N:Int),.int .i64 s,.slice A rs.length cr,.slice Bf f cf] 26)=w0:=⟨_,rfl⟩;have hs0:w0.heap.size=w.heap.size+1:=by rw[<- hw0];simp
 have hb0:Below w.heap.size w w0:=by rw[<- hw0];exact(Below.refl _ _).alloc (Nat.le_refl _) _
 have hd0:DB w0 w.heap.size i o N s A rs.length cr Bf f cf:=by rw[<- hw0];exact DB.boxed
 have LQ:=fun W:World=>run_make_row' (P:=Tryz.prog) 75 4 (.bool false) 1 Tryz.underlying75 Em rfl .i64 .i64 N (by omega) (by omega) W
 have HMK:=hid LQ;have hmk0:=LQ w0;have ht0:=qt w0 N hN;have hb1:Below w0.heap.size w0 (w0.alloc (.cells (madeCells #[.bool false] N) 4)):=(Below.refl _ _).alloc (Nat.le_refl _) _;obtain⟨w1,hw1⟩:∃w1,w0.alloc (.cells (madeCells #[.bool false] N) 4)=w1:=⟨_,rfl⟩;rw[hw1]at hmk0 ht0 hb1;rw[hs0]at hmk0 ht0;have hd1:=hd0.below (by omega) hb1;have HI:=hid (show Cv N (w.heap.size+1) w.heap.size i o N s A rs.length cr Bf f cf w (.int .i64 (0:Nat)) w1 from⟨0,Nat.zero_le _,rfl,ht0.eq fun q _=>by simp,hb0.trans (hb1.mono (by omega)),hd1⟩);have H:=hid h;have HST:=hid hst;have HEE:=hid (FQ hst);obtain⟨v,hv⟩:∃v,jo (bF rs) N=v:=⟨_,rfl⟩;have HVV:=hid hv;rw[hv];obtain⟨E,hE⟩:∃E,bF rs=E:=⟨_,rfl⟩;have HE:=hid hE;rw[hE]at HVV HEE;obtain⟨p0,p1,p2,p3,p4,p5⟩:=hd0;obtain⟨y0,y1,y2,y3,y4,y5⟩:=hd1;clear h hst hv hE hb0 hb1 ht0 LQ;go_enter Tryz.func34,Tryz.ntmps34;go_wp2_with (fail)
 go_loopw [14] (fun v wr=>Cv N (w.heap.size+1) w.heap.size i o N s A rs.length cr Bf f cf w v wr) (fun v _=>N-(intOf v).toNat)
 case atStart=>exact HI.out
 case round=>
  obtain⟨k,hk,rfl,ht,hb,hd⟩:=hrel;have HB:=hid hb;have HD:=hid hd;have HT:=hid ht;by_cases hlt:k<N
  case pos=>
   have hc:=ht.cell hlt;have hf:=ht.frozen k;have HS:=hid (ht.stored k);clear ht hb hd;go_wp2_with (fail)
   go_roundw
   case rel=>exact⟨k+1,by omega,by go_num,HS.out.eq fun q _=>by
     unfold IZ;by_cases e:q=k
     ·rw[if_pos e];simp;omega
     ·rw[if_neg e];exact decide_eq_decide.2 (by omega),HB.out.setCell (by show w.heap.size<=w.heap.size+1;omega) _,HD.out.below (b:=w.heap.size+1) (by omega) ((Below.refl _ _).setCell (by show w.heap.size+1<=w.heap.size+1;omega) _)⟩
   case measure=>simp[intOf];omega
  obtain rfl:k=N:=by omega
  have HO:=hid (show FY E k w.heap.size i o k s A rs.length cr Bf f cf w (.slice (some ⟨w.heap.size+1,0,none⟩) k k) (.int .i64 (0:Nat)) wr from⟨0,_,by omega,rfl,rfl,by omega,ht.eq fun q hq=>by simp only[hq,decide_true];exact(nY trivial).symm,fun h=>absurd h (by omega),hb,hd⟩)
  rename World=>wa
  clear ht hb hd HB HD HT;go_wp2_with (fail)
  go_loopw [3,5] (fun u v wr=>FY E k w.heap.size i o k s A rs.length cr Bf f cf w u v wr) (fun _ v _=>k+1-(intOf v).toNat)
  case atStart=>exact HO.out
  case round=>
   obtain⟨m,g,hm,rfl,rfl,hxg,ht,hwk,hb,hd⟩:=hrel;have HD:=hid hd;obtain⟨z0,z1,z2,z3,z4,z5⟩:=hd;by_cases hmk:m<=k
   case neg=>
    obtain rfl:m=k+1:=by omega
    obtain rfl:v=true:=by rw[<- HVV.out];exact nY (hwk (by omega))
    have HB:=hid hb;clear ht hwk hb;go_wp2_with (fail);go_ret;exact⟨rfl,HB.out⟩
   have Qv:(m:Int)<=(k:Int):=by omega
   have hmk1:=HMK.out wr;have hbn:Below wr.heap.size wr (wr.alloc (.cells (madeCells #[.bool false] k) 4)):=(Below.refl _ _).alloc (Nat.le_refl _) _;have hgl:=ht.lt;have ht2:=qt wr k hN;have hsn:(wr.alloc (.cells (madeCells #[.bool false] k) 4)).heap.size=wr.heap.size+1:=by simp
   obtain⟨wn,hwn⟩:∃wn,wr.alloc (.cells (madeCells #[.bool false] k) 4)=wn:=⟨_,rfl⟩;rw[hwn]at hmk1 hbn ht2 hsn;have HIN:=hid (show FZ E rs m g wr.heap.size k w.heap.size i o k s A rs.length cr Bf f cf w (.bool false) (.int .i64 (0:Nat)) wn from⟨0,Nat.zero_le _,rfl,by
     rw[qY];rintro⟨e,he,_⟩;simp[bF]at he,ht.below hbn,ht2.eq fun q _=>by
     rw[qY];rintro⟨e,he,_⟩;simp[bF]at he,hb.trans (hbn.mono hb.size),HD.out.below (b:=wr.heap.size) (by omega) hbn⟩)
   obtain⟨gn,hgn⟩:∃gn,wr.heap.size=gn:=⟨_,rfl⟩;rw[hgn]at hmk1 HIN hgl;obtain⟨z0,z1,z2,z3,z4,z5⟩:=HIN.out.choose_spec.2.2.2.2.2.2;clear ht hwk hb hbn ht2;go_wp2_with (fail)
   go_loopw [7,8] (fun u v wr=>FZ E rs m g gn k w.heap.size i o k s A rs.length cr Bf f cf w u v wr) (fun _ v _=>rs.length-(intOf v).toNat)
   case atStart=>exact HIN.out
   case round=>
    obtain⟨k2,hk2,rfl,rfl,ht,ht2,hb,hd⟩:=hrel;have HT:=hid ht;have HT2:=hid ht2;have HB:=hid hb;have HD:=hid hd;obtain⟨z0,z1,z2,z3,z4,z5⟩:=hd;by_cases hlt2:k2<rs.length
    case neg=>
     obtain rfl:k2=rs.length:=by omega
     have hDE:bF (rs.take rs.length)=E:=by rw[List.take_length];exact HE.out
     rw[hDE]at ht2 ⊢;have HTN:=hid ht2;obtain⟨b7,hb7⟩:∃b7,decP (Som E E m)=b7:=⟨_,rfl⟩;have HB7:=hid hb7;rw[hb7];clear ht ht2 hb hb7 hDE
     cases b7
     ·obtain rfl:v=false:=by
       rw[<- HVV.out];exact GK (fun hs=>by have:=HB7.out;rw[nY hs]at this;cases this) hmk
      go_wp2_with (fail);go_ret;exact⟨rfl,HB.out⟩
     ·have hsm:Som E E m:=Classical.byContradiction fun hn=>by have:=HB7.out;rw[qY hn]at this;cases this
      have HSM:=hid hsm;clear hsm;go_wp2_with (fail)
      go_roundw
      case rel=>exact⟨m+1,gn,by omega,by go_num,rfl,by omega,HTN.out,fun _=>by
       obtain⟨e,he,hw⟩:=HSM.out;exact⟨e.2,e,he,rfl,hw⟩,HB.out,HD.out⟩
      case measure=>simp[intOf];omega
    obtain⟨b,off,A',c',A2,c2,hA,hbB,d0,d1,d2,d3,d4,_,_⟩:=(H.out.ah hb).at_ hlt2;obtain⟨a,ha,haN⟩:∃a:Nat,rs[k2].frm=(a:Int)/\a<k:=by
     have:=of_decide_eq_true (HST.out k2 hlt2).1;exact⟨rs[k2].frm.toNat,by omega,by omega⟩
    obtain⟨t,hte,htN⟩:∃t:Nat,rs[k2].to_=(t:Int)/\t<k:=by
     have:=of_decide_eq_true (HST.out k2 hlt2).2;exact⟨rs[k2].to_.toNat,by omega,by omega⟩
    have HED:=hid (show edg rs[k2]=(a,t)by unfold edg;rw[ha,hte];rfl);have HE1:=hid (fun h:yG rs[k2]=false=>qV hlt2 h);have HE2:=hid (fun h:yG rs[k2]=true=>qW hlt2 h);obtain⟨D,hD⟩:∃D,bF (rs.take k2)=D:=⟨_,rfl⟩;rw[hD]at HE1 HE2 HT2 ht2 ⊢;rw[ha]at d0;rw[hte]at d1;obtain⟨g9,hg9⟩:∃g9,rs[k2].gs.length=g9:=⟨_,rfl⟩;have HEP:=hid (show yG rs[k2]=decide (g9=0)by unfold yG;rw[hg9]);rw[hg9]at d2;subst hA;clear hg9 ha hte hD;by_cases hz:g9=0
    case neg=>
     have hz1:((g9:Int) == 0)=false:=by simp;omega
     have HSK:=hid (HE1.out (by rw[HEP.out];exact decide_eq_false hz));clear ht ht2 hb;go_wp2_with (fail)
     go_roundw
     case rel=>exact⟨k2+1,by omega,by go_num,by rw[HSK.out],HT.out,by rw[HSK.out];exact HT2.out,HB.out,HD.out⟩
     case measure=>simp[intOf];omega
    subst hz;have HMR:=hid (show bF (rs.take (k2+1))=D++[(a,t)]by rw[HE2.out (by rw[HEP.out];rfl),HED.out]);have hca:=ht.cell haN;have k5:(0:Int)<=(a:Int):=Int.natCast_nonneg _;have k6:(a:Int)<(k:Int):=by omega
    have k7:(0:Int)<=(t:Int):=Int.natCast_nonneg _;have k8:(t:Int)<(k:Int):=by omega
    by_cases hw:Walk E m a
    ·rw[nY hw]at hca
     have hft:=ht2.frozen t;have hct:=ht2.cell htN;have hgs:=(World.ownsRow.stored ht2 t (.bool true)).2;have HN1:=hid (ht.kept hgs (fun e=>by injection e with e;omega));have HN2:=hid ((ht2.stored t).eq (f':=fun q=>decP (Nxt E (D++[(a,t)]) m q)) fun q _=>(DN hw q).symm);have HN3:=hid (nY (Dl (t:=t) (D:=D) hw));have HN4:=hid (HD.out.below (b:=gn) (by omega) ((Below.refl gn wr).setCell (p:=⟨gn,t,none⟩) (Nat.le_refl gn) (.bool true)));have HN5:=hid (HB.out.setCell (p:=⟨gn,t,none⟩) (by show w.heap.size<=gn;omega) (.bool true));clear ht ht2 hb hgs hw;go_wp2_with (fail)
     go_roundw
     case rel=>exact⟨k2+1,by omega,by go_num,by rw[HMR.out,HN3.out],HN1.out,by rw[HMR.out];exact HN2.out,HN5.out,HN4.out⟩
     case measure=>simp[intOf];omega
    ·rw[qY hw]at hca
     have HN2:=hid (HT2.out.eq (f':=fun q=>decP (Nxt E (D++[(a,t)]) m q)) fun q _=>(sZ (DL (e:=(a,t)) hw q)).symm);have HN3:=hid (sZ (Dk (D:=D) (e:=(a,t)) hw));clear ht ht2 hb hw;go_wp2_with (fail)
     go_roundw
     case rel=>exact⟨k2+1,by omega,by go_num,by rw[HMR.out,HN3.out],HT.out,by rw[HMR.out];exact HN2.out,HB.out,HD.out⟩
     case measure=>simp[intOf];omega
end Go.Proofs.YtbdmcibcenhpnaaGreatDoor.De
