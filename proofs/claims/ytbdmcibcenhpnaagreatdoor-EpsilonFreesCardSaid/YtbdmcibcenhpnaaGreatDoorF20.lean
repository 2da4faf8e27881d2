import Derived.Test.YtbdmcibcenhpnaaGreatDoorF12
import Derived.RangeFuncNested
import Derived.RangeFuncBound
import Derived.Shelf.RegionOpen
import Derived.OwnWalkIn
import Derived.LoopNIn
import Derived.LoopIn
set_option maxRecDepth 100000
namespace Go.Proofs.YtbdmcibcenhpnaaGreatDoor.Sp
set_option maxHeartbeats 64000000
open Go Go.RowKit Go.Shelf
attribute [local go_sem] Oper.semAt_some
def seg:Int->Nat->List Int
 | _,0=>[]
 | lo,n+1=>lo::seg (lo+1) n
theorem wG:∀(n:Nat) (lo:Int),(seg lo n).length=n:=by
 intro n
 induction n with
 | zero=>intro lo;rfl
 | succ n ih=>intro lo;simp[seg,ih]
def bM:List Span->List Int
 | []=>[]
 | p::l=>seg p.1 (p.2-p.1+1).toNat++bM l
theorem qz:∀l:List Span,Plain l->((bM l).length:Int)=cnt l:=by
 intro l
 induction l with
 | nil=>intro _;rfl
 | cons p l ih=>
  intro h;have hc:=h.cons;have h1:=hc.1.1;have:=ih hc.2.1;rw[bM,cnt,List.length_append,wG];omega
theorem xq {p:List Span} {k:Nat} {lo hi:Int} (hk:∃hl:k<p.length,p[k]=(lo,hi)):bM (p.drop k)=seg lo (hi-lo+1).toNat++bM (p.drop (k+1)):=by
 obtain⟨hl,e⟩:=hk;rw[List.drop_eq_getElem_cons hl,bM,e]
structure Po (X:Nat->Prop) (W W':World):Prop where
 size:W.heap.size<=W'.heap.size
 same:∀k cs t fr,¬ X k->W.heap[k]? = some (.cells cs t fr)->W'.heap[k]? = some (.cells cs t fr)
theorem rD {J:List Int->World->Prop} {B:Nat} (h:AbidesFrom B J) {pre:List Int} {W:World} (hj:J pre W) (o:Obj):J pre (W.alloc o):=h pre W _ none hj (World.grownBy_alloc _ _ _) (fun r e=>by cases e)
theorem Dn {x hi:Int} (h:x<=hi):seg x (hi-x+1).toNat=x::seg (x+1) (hi-(x+1)+1).toNat:=by
 rw[show(hi-x+1).toNat=(hi-(x+1)+1).toNat+1 from by omega,seg]
theorem Dm {x hi:Int} (h:hi<x):seg x (hi-x+1).toNat=[]:=by
 rw[show(hi-x+1).toNat=0 from by omega,seg]
abbrev F0:Fence:=Fence.wide
theorem qu {w:World} {base:Nat} {v:Value} {xs:List Span} (h:av w base v xs):∃A c,v = .slice A xs.length c/\RS w w.heap.size A xs.length xs/\(∀b off,A=some ⟨b,off,none⟩->base<=b)/\xs.length<=c:=by
 have h0:=h;obtain⟨h1,h2⟩:=h;rcases h2 with⟨hv,hn⟩ | ⟨g,cap,cur,hv,hb,hr⟩
 ·have:xs=[]:=List.eq_nil_of_length_eq_zero hn
  subst this;exact⟨none,0,hv,RS.dS _ _ _,(fun _ _ e=>by cases e),Nat.le_refl _⟩
 ·subst hv
  exact⟨some ⟨g,0,none⟩,cap,rfl,RS.iV h0,(fun b off e=>by injection e with e;injection e with e _ _;omega),hr.2.1⟩
def IX (p0:List Span) (w:World) (e:Ending) (w':World):Prop:=∃B A c,e = .returned (.func (.func 141) #[] #[.pointer (some ⟨B,0,none⟩)])/\w'.cell? ⟨B,0,none⟩=some (.slice A p0.length c)/\w.heap.size<=B/\(∀b off,A=some ⟨b,off,none⟩->w.heap.size<=b)/\RS w' w'.heap.size A p0.length p0/\Below w.heap.size w w'
theorem EN (A:Option Addr) (n c:Nat) (l p0:List Span) (w:World) (h:RS w w.heap.size A n l) (hn:n<=1099511627776) (hp0:Is p0 (mem l)) :
  Calls Tryz.prog 132 #[.slice A n c] w (IX p0 w):=by
 have HN:=Lib.hid (fF A n c l w h hn);go_enter Tryz.func132,Tryz.ntmps132;go_wp2_with (fail);refine HN.out.mono ?_;rintro e w1 ⟨v,out,rfl,hS,ho,hb⟩;have he:out=p0:=hS.eq hp0 (fun _=>Iff.rfl);subst he;obtain⟨A1,c1,hv,hr,hge,hc⟩:=qu ho;subst hv;have HB:=Lib.hid hb;have HR:=Lib.hid hr;have HG:=Lib.hid hge;clear ho hb hr hge;go_wp2_with (fail);go_ret;exact⟨w1.heap.size,A1,c1,rfl,by simp,HB.out.size,HG.out,HR.out.ah ((Below.refl _ _).alloc (Nat.le_refl _) _),HB.out.alloc HB.out.size _⟩
end Go.Proofs.YtbdmcibcenhpnaaGreatDoor.Sp
namespace Go.Proofs.YtbdmcibcenhpnaaGreatDoor.Sp
set_option maxHeartbeats 64000000
open Go Go.RowKit Go.Shelf
open Go.Lib (hid)
attribute [local go_sem] Oper.semAt_some
structure gA (Kp:World->World->Prop) (Safe:World->Nat->Prop) (Good:World->Prop):Prop where
 refl:∀W,Kp W W
 trans:∀{A B C},Kp A B->Kp B C->Kp A C
 alloc:∀W o,Good W->Kp W (W.alloc o)
 size:∀{W W'},Kp W W'->W.heap.size<=W'.heap.size
 cell:∀{W W'} {p:Addr} {v},Kp W W'->Safe W p.block->W.cell? p=some v->W'.cell? p=some v
 safe:∀{W W' k},Kp W W'->k<W.heap.size->Safe W k->Safe W' k
 good:∀{W W'},Kp W W'->Good W->Good W'
 new:∀{W o},Good W->Safe (W.alloc o) W.heap.size
theorem RS.Lz {Kp:World->World->Prop} {Safe:World->Nat->Prop} {Good:World->Prop} (K:gA Kp Safe Good) {W W':World} {B n:Nat} {A:Option Addr} {l:List Span} (h:RS W B A n l) (hk:Kp W W') (hx:∀b off,A=some ⟨b,off,none⟩->Safe W b):RS W' B A n l:=
 ⟨h.1,fun hn=>by
  obtain⟨b,off,e,hb,hc⟩:=h.2 hn;exact⟨b,off,e,hb,fun j hj=>⟨K.cell hk (hx b off e) (hc j hj).1,K.cell hk (hx b off e) (hc j hj).2⟩⟩⟩
theorem BK (n:Nat) (hn:1<=n) (l Bs:Nat) (A:Option Addr) (c:Nat) (p:List Span) (hp:Plain p) {Kp:World->World->Prop} {Safe:World->Nat->Prop} {Good:World->Prop} (K:gA Kp Safe Good) (J Jx:List Int->World->Prop) (W:World)
  (hJ:AbidesFrom W.heap.size J)
  (hY:∀pre x W1,J pre W1->pre.length<(bM p).length->YieldAt F0 (n-1) Tryz.prog l #[.int .i64 x] W1 fun e W'=>
   (e = .returned (.bool true)/\J (pre++[x]) W'/\Kp W1 W')\/(e = .returned (.bool false)/\Jx (pre++[x]) W'))
  (hG:Good W) (hSA:∀b off,A=some ⟨b,off,none⟩->Safe W b)
  (hBs:W.cell? ⟨Bs,0,none⟩=some (.slice A p.length c)) (hA:RS W W.heap.size A p.length p) (h0:J [] W) :
  CallsIn F0 n Tryz.prog 141 #[.func (.yield l) #[] #[],.pointer (some ⟨Bs,0,none⟩)] W fun e W'=>(∃v,e = .returned v) /\
   ((∃ys,ys=bM p/\J ys W')\/(∃pre,pre <+: bM p/\Jx pre W')):=by
 have hlen:=hp.short;refine callsIn_of_wp Tryz.func141 rfl trivial ?_ rfl;simp only[Tryz.ntmps141,List.size_toArray,List.length_cons,List.length_nil,Nat.reduceAdd,Nat.reduceSub,Array.replicate_succ,Array.replicate_zero,List.push_toArray,List.append_toArray,List.nil_append,List.cons_append];have HK:=hid K;have HSA:=hid hSA;clear K hSA
 gi_wp2
 gi_loopw [8] (fun i wr=>∃(k:Nat) (pre:List Int),k<=p.length/\i = .int .i64 k/\bM p=pre++bM (p.drop k)/\J pre wr/\Kp W wr) (fun i _=>p.length-(intOf i).toNat)
 case atStart=>exact⟨0,[],Nat.zero_le _,rfl,rfl,h0,HK.out.refl _⟩
 case round=>
  obtain⟨k,pre,hk,rfl,hnl,hJs,hkx⟩:=hrel;by_cases hlt:k<p.length
  ·have hRS:=hA.Lz HK.out hkx (fun b off e=>HSA.out b off e)
   obtain⟨b,off,lo,hi,hA1,hbB,hlk,hc1,hc2⟩:=hRS.at_ hlt;have hbd:Ok (lo,hi):=by obtain⟨hl1,e1⟩:=hlk;rw[<- e1];exact(hp.at_ hl1).1
   obtain⟨o1,o2,o3⟩:=hbd;simp only at o1 o2 o3;have HL:=hid hlk;have HNL:=hid hnl;subst hA1;clear hlk hnl;have HY:=hid hY;have HJ:=hid hJ;have hXr:Safe (wr.alloc (.cells #[.int .i64 lo,.int .i64 hi] 47)) wr.heap.size:=HK.out.new (HK.out.good hkx hG);have HXR:=hid hXr;have hnl2:bM p=pre++(seg lo (hi-lo+1).toNat++bM (p.drop (k+1))):=by rw[HNL.out,xq HL.out]
   have HN2:=hid hnl2;clear hY hJ hXr hnl2 hRS
   gi_wp2
   have hb1:(wr.alloc (.cells #[.int .i64 lo,.int .i64 hi] 47)).cell? ⟨wr.heap.size,0,none⟩=some (.int .i64 lo):=by simp
   have hb2:(wr.alloc (.cells #[.int .i64 lo,.int .i64 hi] 47)).cell? ⟨wr.heap.size,1,none⟩=some (.int .i64 hi):=by simp
   have hJ2:=rD HJ.out hJs (.cells #[.int .i64 lo,.int .i64 hi] 47);have hkx2:Kp W (wr.alloc (.cells #[.int .i64 lo,.int .i64 hi] 47)):=HK.out.trans hkx (HK.out.alloc _ _ (HK.out.good hkx hG));have HC1:=hid hb1;have HC2:=hid hb2;clear hb1 hb2 hJs
   generalize wr.alloc (.cells #[.int .i64 lo,.int .i64 hi] 47)=w1 at HC1 HC2 hJ2 hkx2 HXR ⊢
   have HKX:=hid hkx2;clear hkx2 hc1 hc2 hkx
   generalize wr.heap.size=rb at HC1 HC2 HXR ⊢
   clear wr
   gi_loopw [5] (fun v wr2=>∃(x:Int) (pre2:List Int),v = .int .i64 x/\lo<=x/\x<=hi+1/\bM p=pre2++(seg x (hi-x+1).toNat++bM (p.drop (k+1)))/\J pre2 wr2/\Kp w1 wr2) (fun v _=>(hi+1-intOf v).toNat)
   case atStart=>exact⟨lo,pre,rfl,by omega,by omega,HN2.out,hJ2,HK.out.refl _⟩
   case round=>
    obtain⟨x,pre2,rfl,hx1,hx2,hn3,hJ3,hk3⟩:=hrel;have hcl:wr.cell? ⟨rb,1,none⟩=some (.int .i64 hi):=HK.out.cell hk3 HXR.out HC2.out;have HN3:=hid hn3;clear hn3;by_cases q:x<=hi
    ·have hn4:bM p=pre2++(x::(seg (x+1) (hi-(x+1)+1).toNat++bM (p.drop (k+1)))):=by rw[HN3.out,Dn q];rfl
     have hlen2:pre2.length<(bM p).length:=by rw[hn4];simp
     have HN4:=hid hn4;obtain⟨fn,tmps,assign,body,hy,hR⟩:=HY.out pre2 x wr hJ3 hlen2;clear hn4 hlen2
     gi_wp2
     refine hR.mono ?_;rintro e W3 (⟨rfl,hJ4,hk4⟩ | ⟨rfl,hJx4⟩)
     ·gi_wp2
      go_roundw
      case rel=>exact⟨x+1,pre2++[x],by go_num,by omega,by omega,by rw[HN4.out,List.append_assoc];rfl,hJ4,HK.out.trans hk3 hk4⟩
      case measure=>simp[intOf];omega
     ·gi_wp2
      refine bodyPost_ret (results_none rfl _ _ _) rfl ?_;exact⟨⟨_,rfl⟩,.inr ⟨pre2++[x],⟨seg (x+1) (hi-(x+1)+1).toNat++bM (p.drop (k+1)),by rw[HN4.out,List.append_assoc];rfl⟩,hJx4⟩⟩
    ·have hn4:=HN3.out
     rw[Dm (by omega),List.nil_append]at hn4;have HN4:=hid hn4;clear hn4
     gi_wp2
     go_roundw
     case rel=>exact⟨k+1,pre2,by omega,by go_num,HN4.out,hJ3,HK.out.trans HKX.out hk3⟩
     case measure=>simp[intOf];omega
  ·have e:bM (p.drop k)=[]:=by rw[List.drop_eq_nil_of_le (by omega)];rfl
   have hfin:=hnl;rw[e,List.append_nil]at hfin;have HF:=hid hfin;clear hfin hnl e
   gi_wp2
   go_end0;exact⟨⟨_,rfl⟩,.inl ⟨pre,HF.out.symm,hJs⟩⟩
theorem sW (n:Nat) (hn:1<=n) (Bs:Nat) (A:Option Addr) (c:Nat) (p:List Span) (hp:Plain p) {Kp:World->World->Prop} {Safe:World->Nat->Prop} {Good:World->Prop} (K:gA Kp Safe Good) (w:World)
  (hgood:∀W,Below w.heap.size w W->Good W) (hSA:∀W b off,Below w.heap.size w W->A=some ⟨b,off,none⟩->Safe W b)
  (hBs:w.cell? ⟨Bs,0,none⟩=some (.slice A p.length c)) (hA:RS w w.heap.size A p.length p) :
  SeqStopsK F0 n Tryz.prog 141 #[.pointer (some ⟨Bs,0,none⟩)] (fun x:Int=>#[Value.int .i64 x]) Kp (fun ys=>ys=bM p) (fun pre=>pre <+: bM p) (bM p).length w:=fun l J Jx W hW hJ _ hY h0=>
 have hlt:=World.block_lt_of_cell? w _ hBs
 BK n hn l Bs A c p hp K J Jx W hJ hY (hgood W hW) (fun b off e=>hSA W b off hW e) ((hW.cell hlt).trans hBs) (hA.ah hW) h0
def ptr (W:World) (B:Nat):Option Nat:=(W.cell? ⟨B,0,none⟩).bind Value.ownBlock
structure Io (B:Nat) (W W':World):Prop where
 size:W.heap.size<=W'.heap.size
 same:∀k cs t fr,k≠B->ptr W B≠some k->W.heap[k]? = some (.cells cs t fr)->W'.heap[k]? = some (.cells cs t fr)
 ptr:ptr W' B=ptr W B\/∃g,Sp.ptr W' B=some g/\W.heap.size<=g
 lt:(∀g,Sp.ptr W B=some g->g<W.heap.size)->∀g,Sp.ptr W' B=some g->g<W'.heap.size
def Mp (B:Nat) (W:World) (k:Nat):Prop:=k≠B/\ptr W B≠some k
def Nc (B:Nat) (W:World):Prop:=B<W.heap.size/\∀g,ptr W B=some g->g<W.heap.size
theorem lE {W:World} {B:Nat} (h:B<W.heap.size) (o:Obj):ptr (W.alloc o) B=ptr W B:=by
 unfold ptr;rw[World.cell?_of_block (w:=W) (a:=⟨B,0,none⟩) (Below.heap_alloc W o B h)]
theorem gb (B:Nat):gA (Io B) (Mp B) (Nc B) where
 refl W:=⟨Nat.le_refl _,fun _ _ _ _ _ _ h=>h,.inl rfl,fun h=>h⟩
 trans {A C D} h k:=⟨Nat.le_trans h.size k.size,fun i cs t fr hi hp hk=>by
   have hlt:=(Array.getElem?_eq_some_iff.1 hk).1;refine k.same i cs t fr hi (fun e=>?_) (h.same i cs t fr hi hp hk);rcases h.ptr with e1 | ⟨g,e1,e2⟩
   ·exact hp (e1.symm.trans e)
   ·rw[e1]at e
    injection e with e;omega,by
   rcases k.ptr with e1 | ⟨g,e1,e2⟩
   ·rcases h.ptr with e3 | ⟨g,e3,e4⟩
    ·exact .inl (e1.trans e3)
    ·exact .inr ⟨g,e1.trans e3,e4⟩
   ·exact .inr ⟨g,e1,Nat.le_trans h.size e2⟩,fun hl=>k.lt (h.lt hl)⟩
 alloc W o hG:=⟨by simp,fun k cs t fr _ _ hk=>by rw[Below.heap_alloc W o k (Array.getElem?_eq_some_iff.1 hk).1];exact hk,.inl (lE hG.1 o),fun hl g hg=>by
  rw[lE hG.1 o]at hg;have:=hl g hg;simp;omega⟩
 size h:=h.size
 cell {W W' p v} h hs hc:=by
  have hq:∃cs t fr,W.heap[p.block]? = some (.cells cs t fr):=by
   unfold World.cell? at hc
   split at hc
   ·exact⟨_,_,_,by assumption⟩
   ·cases hc
  obtain⟨cs,t,fr,hq⟩:=hq;have h2:=h.same _ _ _ _ hs.1 hs.2 hq;simp only[World.cell?,hq]at hc;simp only[World.cell?,h2];exact hc
 safe {W W' k} h hk hs:=⟨hs.1,fun e=>by
  rcases h.ptr with e1 | ⟨g,e1,e2⟩
  ·exact hs.2 (e1.symm.trans e)
  ·rw[e1]at e
   injection e with e;omega⟩
 good h hG:=⟨Nat.lt_of_lt_of_le hG.1 h.size,h.lt hG.2⟩
 new {W o} hG:=⟨fun e=>by have:=hG.1;omega,fun e=>by
  rw[lE hG.1 o]at e;have:=hG.2 _ e;omega⟩
theorem dx {W:World} {B:Nat} {t:TypeId} {v:Value} (h:Boxed W B t v):ptr W B=v.ownBlock:=by unfold ptr;rw[h.cell];rfl
theorem lQ {B:Nat} {W:World} {l:Nat} {o o':Obj} (hB:B≠l) (hl:W.heap[l]? = some o) (ho:o.isCells=false):Io B W (W.putObj l o'):=by
 have hp:Sp.ptr (W.putObj l o') B=Sp.ptr W B:=by
  unfold Sp.ptr;rw[World.cell?_of_block (w:=W) (a:=⟨B,0,none⟩) (World.putObj_heap_other hB)]
 refine⟨by simp,fun k cs t fr _ _ hk=>?_,.inl hp,fun h g hg=>?_⟩
 ·by_cases e:k=l
  ·subst e
   rw[hl]at hk;injection hk with hk;subst hk
   cases ho
  ·rw[World.putObj_heap_other e];exact hk
 ·rw[hp]at hg
  have:=h g hg;simpa using this
theorem eu {W w1:World} {B g n cap:Nat} {t:TypeId} {v:Value} (hv:Boxed W B t v) (hv1:Boxed w1 B t v) (hsz:W.heap.size<=w1.heap.size) (hblk:∀k,k<W.heap.size->some k≠v.ownBlock->w1.heap[k]? = W.heap[k]?)
  (hat:v.ownBlock=some g\/W.heap.size<=g) (hlt:g<w1.heap.size):Io B W (w1.setCell ⟨B,0,none⟩ (.slice (some ⟨g,0,none⟩) n cap)):=by
 have hp:ptr (w1.setCell ⟨B,0,none⟩ (.slice (some ⟨g,0,none⟩) n cap)) B=some g:=by rw[dx (hv1.set _)];rfl
 refine⟨by rw[World.size_setCell];exact hsz,fun k cs t fr hk hq hc=>?_,?_,fun _ g' hg'=>?_⟩
 ·rw[heap_setCell_other w1 ⟨B,0,none⟩ k _ hk,hblk k (Array.getElem?_eq_some_iff.1 hc).1 (fun e=>hq ((dx hv).trans e.symm))]
  exact hc
 ·rcases hat with h | h
  ·exact .inl (hp.trans ((dx hv).trans h).symm)
  ·exact .inr ⟨g,hp,h⟩
 ·rw[hp]at hg'
  injection hg' with hg';subst hg';rw[World.size_setCell];exact hlt
end Go.Proofs.YtbdmcibcenhpnaaGreatDoor.Sp
