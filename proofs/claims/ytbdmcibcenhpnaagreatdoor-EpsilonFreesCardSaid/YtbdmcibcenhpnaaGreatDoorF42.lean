import Derived.Test.YtbdmcibcenhpnaaGreatDoorF0
import Derived.Test.YtbdmcibcenhpnaaGreatDoorF00
import Derived.Test.YtbdmcibcenhpnaaGreatDoorF41
set_option maxRecDepth 100000
namespace Go.Proofs.YtbdmcibcenhpnaaGreatDoor.Ep
set_option maxHeartbeats 64000000
open Go Go.RowKit Sp Pa Te Mi De Tr
theorem FE:(Tryz.prog.info? 51).map (fun i=>(i.zero,i.size,i.bytes))=some (some (.agg #[.int .i64 0,.int .i64 0,.int .i64 0,.int .i64 0,.int .i64 0,.slice none 0 0]),6,64):=by kernel_rfl
structure OE (X:Nat->Prop) (bs x:Nat) (ru fi:Value) (i o n s:Int) (a:Acc) (v vf wv wv2:Value) (ts out:List TmL) (nW tn:Nat) (vs us:List Value) (w0 wR wF:World) (gR gF:Nat) (W wA:World):Prop where
 hg:W.grownBy wA wv.ownBlock
 hat:wv2.ownBlock=wv.ownBlock\/wv2.ownBlock=some W.heap.size
 ho:rG wA bs wv nW vs
 ho2:rG wA bs wv2 (nW+tn) (vs++us)
 buf:jl x bs wv2 (ts++out) (vs++us) wA
 fs:FS (XX X wv2) bs x ru fi i o n s a.1 a.2 v vf wA
 low:In0 w0 wR wF gR gF wA
theorem eY {X:Nat->Prop} {bs x:Nat} {ru fi:Value} {i o n s:Int} {a:Acc} {v vf wv:Value} {ts out:List TmL} {nW tn tc:Nat} {TA:Option Addr} {vs:List Value} {w0 wR wF W:World} {gR gF N:Nat} {P:List (RuL×bZ)} {PF:List (FiL×gu)}
  (hF:FS X bs x ru fi i o n s a.1 a.2 v vf W) (hB:jl x bs wv ts vs W) (hX:∀g,wv.ownBlock=some g->X g) (hXb:∀b,X b->bs<=b) (hS:Src w0 wR wF x bs gR gF N P PF) (h0:In0 w0 wR wF gR gF W) (hnW:ts.length=nW) (hout:RTm w0 TA tn out) (htn:out.length=tn) (hnil:TA=none->tc=0) (hbd:nW+tn<=200000) (hbs:bs<=W.heap.size)
  {op:Oper} {ac:Act} {K:Act->World->Prop} {Q:Exit->Act->World->Prop} (s1 s2:Operand) (hop:op.op = .call { callee:=.builtin .append,args:=#[s1,s2],argTypes:=#[41,41] }) (hs1:ac.eval s1=wv) (hs2:ac.eval s2 = .slice TA tn tc)
  (hK:∀wv2 wA us,OE X bs x ru fi i o n s a v vf wv wv2 ts out nW tn vs us w0 wR wF gR gF W wA->K (ac.put op.dst wv2) wA):Oper.wp Tryz.prog op ac W K Q:=by
 subst hnW;subst htn;obtain⟨i0,hi0,hz0,hz1,hz2⟩:=info_parts FE;obtain⟨us,hul,hone,huc,hur⟩:=iJ hout;have hlow:=hF.low;have hxl:x<W.heap.size:=hF.box.lt;have jC:=hS.top;rcases TA with _ | ad
 ·have e0:out=[]:=by
   rcases out with _ | ⟨t,out⟩
   ·rfl
   ·obtain⟨b,off,e,_⟩:=hout.2 (by simp)
    cases e
  have e1:=hnil rfl;subst e0 e1;have hus:us=[]:=List.eq_nil_of_length_eq_zero (by simpa using hul);subst hus;have hrun:=run_append_owned_none (P:=Tryz.prog) (w:=W) bs 41 op.type 51 i0 6 Tryz.underlying41 hi0 wv ts.length vs hB.1;unfold Oper.wp;simp only[List.length_nil]at hs2;simp[execOp,hop,resolve,invoke,builtin,hs1,hs2,hrun,Result.andThen];refine hK wv W [] ⟨⟨rfl,rfl,rfl,Nat.le_refl _,fun _ _ _=>rfl⟩,.inl rfl,hB.1,by rw[List.append_nil];exact hB.1,by rw[List.append_nil,List.append_nil];exact hB,?_,h0⟩;exact hF.grown (w':=W) (wv:=wv) (wv2:=wv) ⟨rfl,rfl,rfl,Nat.le_refl _,fun _ _ _=>rfl⟩ hX hXb (.inl rfl) (fun g e=>(World.ownsRow.lt hB.1 g e).2)
 ·have hb0:Below w0.heap.size w0 W:=h0.b0
  have hnews:∀j u,us[j]? = some u->W.cell? (ad.add j)=some u:=fun j u hu=>by
   have hj:j<us.length:=(List.getElem?_eq_some_iff.1 hu).1;obtain⟨b,off,hA,hbb,hc⟩:=huc (by omega);injection hA with hA;subst hA;rw[Go.WideShapes.add_plain,hb0.cell (p:=⟨b,off+j,none⟩) hbb,hc j (by omega),hu]
  refine fL s1 s2 41 hop bs 51 i0 _ 6 64 Tryz.underlying41 hi0 hz0 hz1 hz2 rfl (by decide) wv ts.length vs hs1 hB.1 ad out.length tc us hs2 hul hnews hone (by simp only[maxLen];omega) (by omega) (by omega) fun wv2 wA h1 h2 h3 h4=>?_
  have hwv:∀g,wv.ownBlock=some g->bs<=g:=fun g e=>(World.ownsRow.lt hB.1 g e).1
  have hlA:Below x W wA:=⟨h2.os,h2.tape,h2.output,h2.size,fun b hb=>h2.block b (by omega) (fun e=>by have:=hwv b e.symm;omega)⟩;have hl0:In0 w0 wR wF gR gF wA:=hS.next h0 hlA fun b hb _=>h2.block b (by omega) (fun e=>by have:=hwv b e.symm;omega)
  refine hK wv2 wA us ⟨h2,h3,h4,h1,hB.more hlA (by rw[List.length_append];exact h1) (fun j hj=>?_),hF.grown h2 hX hXb h3 (fun g e=>(World.ownsRow.lt h1 g e).2),hl0⟩;obtain⟨A,c,q1,q2,q3,q4⟩:=hur j hj;refine⟨A,c,q1,⟨q2.ah hl0.b0,fun hp b off e=>?_⟩,q3,q4⟩;obtain⟨b',off',e',hb',_⟩:=q2.2 hp;rw[e]at e';injection e' with e';injection e' with e';omega
end Go.Proofs.YtbdmcibcenhpnaaGreatDoor.Ep
namespace Go.Proofs.YtbdmcibcenhpnaaGreatDoor.Ep
set_option maxHeartbeats 64000000
open Go Go.RowKit Sp Pa Te Mi De Tr
open Go.Lib (hid)
theorem iC {w:World} {base:Nat} {e:TypeId} {size:Nat} {A:Option Addr} {n c:Nat} {xs:List Value} (h:w.ownsRow base e size (.slice A n c) n xs):A=none->c=0:=fun e=>by
 rcases h.2 with⟨hv,_⟩ | ⟨g,cap,cur,hv,_⟩
 ·injection hv with _ _ e3
 ·injection hv with e1 _ _
  rw[e]at e1
  cases e1
def ro (P:List (RuL×bZ)) (q:Nat):List RuL:=(pq P q).map (·.1)
def fo (PF:List (FiL×gu)) (q:Nat):List FiL:=(pqF PF q).map (·.1)
theorem Gg (bs x gR gF N p:Nat) (i o n s:Int) (w0 wR wF:World) (P:List (RuL×bZ)) (PF:List (FiL×gu)) (rk:Nat->Nat) (hS:Src w0 wR wF x bs gR gF N P PF) (hrk:∀q,q<N->∀pr∈pq P q,pr.1.gs.length=0->rk pr.1.to_.toNat<rk q) :
  ∀(m q:Nat) (X:Nat->Prop) (ts:List TmL) (vs:List Value) (wv:Value) (L:List RuL) (F:List FiL) (v vf:Value) (w:World),rk q<m->q<N->In0 w0 wR wF gR gF w->FS X bs x (.slice (some ⟨gR,0,none⟩) N N) (.slice (some ⟨gF,0,none⟩) N N) i o n s L F v vf w->bs<=w.heap.size->L.length<=4096->F.length<=4096 ->
   jl x bs wv ts vs w->(∀g,wv.ownBlock=some g->X g)->(∀b,X b->bs<=b)->ts.length+64*rk q<=80000->(∀t∈ts,t.ps.length<=4) ->
   Calls Tryz.prog 24 #[.pointer (some ⟨x,0,none⟩),.int .i64 (p:Int),.int .i64 (q:Int),wv] w (rE X bs x (.slice (some ⟨gR,0,none⟩) N N) (.slice (some ⟨gF,0,none⟩) N N) i o n s (pz (ro P) (fo PF) (p:Int) m q ts (L,F)) v vf wv ts.length vs w):=by
 intro m
 induction m with
 | zero=>intro q X ts vs wv L F v vf w h;omega
 | succ m ih=>
  intro q X ts vs wv L F v vf w hm hq hb0 hF hbs hL hFl hB hX hXb hlen hps;have IH:=hid ih;have HS:=hid hS;have HRK:=hid hrk;obtain⟨AW,cW,hwv⟩:=ct hB.1;subst hwv;have hTn:=iC hB.1;have hT:=hB.rtp hX;have HLR:=hid (D5 X bs x gR gF N p q (.slice (some ⟨gF,0,none⟩) N N) i o n s L F v vf w0 wR wF w P PF AW cW ts hS hb0 hF hbs hq hL hT hTn (by omega) hps hXb);have HLF:=hid (fun(L1:List RuL) (v1:Value) (w1:World) (h1:FR X bs x (.slice (some ⟨gR,0,none⟩) N N) (.slice (some ⟨gF,0,none⟩) N N) i o n s L1 F v vf v1 vf w w1)=>show Calls Tryz.prog 37 _ w1 _ from by
   have hB1:jl x bs (.slice AW ts.length cW) ts vs w1:=hB.parts h1.low (au hB.1 fun g e=>h1.kd.2 g (World.ownsRow.lt hB.1 g e).2 (fun q=>by have:=(World.ownsRow.lt hB.1 g e).1;have:=hF.low;omega) (fun q=>hF.vx g q (hX g e)) (fun q=>hF.vfx g q (hX g e)));exact D7 X bs x gR gF N p q (.slice (some ⟨gR,0,none⟩) N N) i o n s L1 F v1 vf w0 wR wF w1 P PF AW cW ts hS (hS.next hb0 h1.low (h1.FB hF hbs)) h1.fs (Nat.le_trans hbs h1.kd.1) hq hFl (hB1.rtp hX) hTn (by omega) hps hXb)
  have HB:=hid hB;have HX:=hid hX;have HXB:=hid hXb;have HF:=hid hF;have HB0:=hid hb0;have HPS:=hid hps;have HBS:=hid hbs;obtain⟨nW,hnW⟩:∃nW,ts.length=nW:=⟨_,rfl⟩;have HNW:=hid hnW;have HWB:=hid (show∀g,(Value.slice AW nW cW).ownBlock=some g->bs<=g from by rw[<- hnW];exact fun g e=>(World.ownsRow.lt hB.1 g e).1);have HRQ:=hid (show ro P q=(pq P q).map (·.1)from rfl);rw[hnW]at HLR HLF hlen ⊢;obtain⟨res,hres⟩:∃res,pz (ro P) (fo PF) (p:Int) (m+1) q ts (L,F)=res:=⟨_,rfl⟩;have yK:=hid hres;rw[hres];clear ih hS hrk hb0 hF hbs hB hX hXb hps hT hTn hnW hres;go_enter Tryz.func24,Tryz.ntmps24;go_wp2_with (fail);refine HLR.out.mono ?_;rintro e w1 (⟨hn1,rfl,hlow1⟩ | ⟨L1,v1,hn1,hl1,rfl,hfr1⟩)
  ·have HFI:=hid (show rE X bs x (.slice (some ⟨gR,0,none⟩) N N) (.slice (some ⟨gF,0,none⟩) N N) i o n s res v vf (.slice AW nW cW) nW vs w (.returned (.bool false)) w1 from .inl ⟨by rw[<- yK.out];show(dZ (p:Int) ts (ro P q) L).bind _=none;rw[HRQ.out,hn1];rfl,rfl,hlow1⟩)
   clear hn1 hlow1;go_wp2_with (fail);go_ret;exact HFI.out
  have HN1:=hid hn1;have M0:=hid hfr1;have HL1:=hid hl1;clear hn1 hfr1;go_wp2_with (fail);refine(HLF.out L1 v1 w1 M0.out).mono ?_;rintro e w2 (⟨hn2,rfl,hlow2⟩ | ⟨F2,vf2,hn2,hl2,rfl,hfr2⟩)
  ·have HFI:=hid (show rE X bs x (.slice (some ⟨gR,0,none⟩) N N) (.slice (some ⟨gF,0,none⟩) N N) i o n s res v vf (.slice AW nW cW) nW vs w (.returned (.bool false)) w2 from .inl ⟨by
    rw[<- yK.out];show(dZ (p:Int) ts (ro P q) L).bind _=none;rw[HRQ.out,HN1.out];show(fI (p:Int) ts (fo PF q) F).bind _=none;rw[show fo PF q=(pqF PF q).map (·.1)from rfl,hn2];rfl,rfl,M0.out.low.trans hlow2⟩)
   clear hn2 hlow2;go_wp2_with (fail);go_ret;exact HFI.out
  have HBW:=hid (show jl x bs (.slice AW nW cW) ts vs w from by rw[<- HNW.out];exact HB.out);have HXW:=hid (show∀g,(Value.slice AW nW cW).ownBlock=some g->X g from by rw[<- HNW.out];exact HX.out);have hwr0:=WR.first (a:=(L1,F2)) M0.out hfr2 ⟨HL1.out,hl2⟩ HBW.out HXW.out HF.out;have hres2:goW (pz (ro P) (fo PF) (p:Int) m) ts (ro P q) (L1,F2)=res:=by
   rw[<- yK.out]
   symm
   show(dZ (p:Int) ts (ro P q) L).bind _=_;rw[HRQ.out,HN1.out];show(fI (p:Int) ts (fo PF q) F).bind _=_;rw[show fo PF q=(pqF PF q).map (·.1)from rfl,hn2];rfl
  have HST:=hid (show EW (pz (ro P) (fo PF) (p:Int) m) X bs x (.slice (some ⟨gR,0,none⟩) N N) (.slice (some ⟨gF,0,none⟩) N N) i o n s ts (ro P q) res v vf (.slice AW nW cW) vs w (.int .i64 0) w2 from⟨0,(L1,F2),v1,vf2,Nat.zero_le _,rfl,by rw[List.drop_zero];exact hres2,hwr0⟩);obtain⟨Aq,cq,pE,_,hgl,hown⟩:=HS.out.rows.at_ hq;rw[Fz]at pE hown;obtain⟨k0,hk0⟩:∃k0,(pq P q).length=k0:=⟨_,rfl⟩;have hkb:k0<=4096:=by
   have h1:=List.length_filter_le (fun z:RuL×bZ=>z.2.frm == q) P;have h2:=HS.out.pl;unfold pq at hk0;omega
  rw[List.length_map,hk0]at pE hown;have hb02:In0 w0 wR wF gR gF w2:=HS.out.next HB0.out hwr0.low (hwr0.FB HF.out HBS.out HWB.out);have hcq:w2.cell? ⟨gR,q,none⟩=some (.slice Aq k0 cq):=(hb02.J6 hgl).trans pE;have hx0:=hwr0.fs.box.at0;have HM:=hid hk0;have jS:=hid hown;have i1:(0:Int)<=(q:Int):=Int.natCast_nonneg _;have i2:(q:Int)<(N:Int):=by omega
  clear hwr0 hres2 pE hgl hown hk0 hb02 hn2 hfr2 hl2;go_wp2_with (fail);clear hcq hx0
  go_loopw [33] (fun iv wr=>EW (pz (ro P) (fo PF) (p:Int) m) X bs x (.slice (some ⟨gR,0,none⟩) N N) (.slice (some ⟨gF,0,none⟩) N N) i o n s ts (ro P q) res v vf (.slice AW nW cW) vs w iv wr) (fun iv _=>k0-(intOf iv).toNat)
  case atStart=>exact HST.out
  case round=>
   obtain⟨k,a,v',vf',hk,rfl,hgo,hwr⟩:=hrel;rw[HRQ.out,List.length_map,HM.out]at hk;have Ov:=hid hgo;have HWR:=hid hwr;by_cases hlt:k<k0
   case neg=>
    obtain rfl:k=k0:=by omega
    have HFI:=hid (show rE X bs x (.slice (some ⟨gR,0,none⟩) N N) (.slice (some ⟨gF,0,none⟩) N N) i o n s res v vf (.slice AW nW cW) nW vs w (.returned (.bool true)) wr from by
     rw[HRQ.out,List.drop_eq_nil_of_le (by rw[List.length_map,HM.out];exact Nat.le_refl _)]at hgo;rw[HNW.out]at hwr;exact .inr ⟨a,v',vf',hgo.symm,rfl,hwr⟩)
    clear hgo hwr;go_wp2_with (fail);go_ret;exact HFI.out
   have hkl:k<(pq P q).length:=by rw[HM.out];exact hlt
   have hkm:k<(ro P q).length:=by rw[HRQ.out,List.length_map];exact hkl
   have uV:In0 w0 wR wF gR gF wr:=HS.out.next HB0.out hwr.low (hwr.FB HF.out HBS.out HWB.out);have lV:=au jS.out (fun z e=>uV.r z (by have:=(World.ownsRow.lt jS.out z e).1;omega) (World.ownsRow.lt jS.out z e).2);obtain⟨g,cap,hA,_⟩:=World.ownsRow.form lV (by omega);injection hA with hA1 _ hA2;subst hA1 hA2;obtain⟨pr,hpr⟩:∃pr,(pq P q)[k]=pr:=⟨_,rfl⟩;have hmq:pr∈pq P q:=by rw[<- hpr];exact List.getElem_mem hkl
   have hmem:pr∈P:=(List.mem_filter.1 hmq).1;have hir:=HS.out.ir pr hmem;obtain⟨b0,b1,b2,b3,b4,b5⟩:=HS.out.br pr hmem;have hnr:=HS.out.nr pr hmem;have Er:=HRK.out q hq pr hmq;have hcell:∀j,j<5->wr.cell? ⟨g,k*5+j,none⟩=(mD pr.2)[j]?:=fun j hj=>by
    rw[World.ownsRow.cellAt lV (k*5+j) (by omega),cZ kI ((pq P q).map (·.2)) k j (by rw[List.length_map];exact hkl) hj,List.getElem_map,hpr]
   have hrk:(ro P q)[k]'hkm=pr.1:=by
    simp only[ro,List.getElem_map];rw[hpr]
   obtain⟨r,a9,t,GA,gn,gc,ea,TA,tn,tc⟩:=pr;obtain⟨ie0,ie1,ie2,ie3,ie4,ig,ig2,io,io2⟩:=hir;simp only at hrk ie1 ie2 ie3 ie4 ig io b0 b1 b2 b3 b4 b5 hnr Er;have d0:wr.cell? ⟨g,k*5,none⟩=some (.int .i64 (a9:Int)):=hcell 0 (by omega);have d1:wr.cell? ⟨g,k*5+1,none⟩=some (.int .i64 t):=hcell 1 (by omega);have d2:wr.cell? ⟨g,k*5+2,none⟩=some (.slice GA gn gc):=hcell 2 (by omega);have d3:wr.cell? ⟨g,k*5+3,none⟩=some (.int .i64 ea):=hcell 3 (by omega);have d4:wr.cell? ⟨g,k*5+4,none⟩=some (.slice TA tn tc):=hcell 4 (by omega);obtain⟨tt,htt⟩:∃tt:Nat,t=(tt:Int):=⟨t.toNat,by omega⟩;subst htt;rw[<- ie4]at io;have htN:tt<N:=by omega
   have LH:r.to_.toNat=tt:=by omega
   rw[LH]at Er;have HTT:=hid LH;have HIO:=hid io;have HOL:=hid ie4;have HNR:=hid hnr;have HGL:=hid ie3;have HKM:=hid hkm;have Oo:=hid hrk;have MN:=hid Er;have HB5:=hid b5;have Nx:tn<=64:=by omega
   obtain⟨wb,hwb⟩:∃wb,wr.alloc (.cells #[.int .i64 (a9:Int),.int .i64 (tt:Int),.slice GA gn gc,.int .i64 ea,.slice TA tn tc] 43)=wb:=⟨_,rfl⟩;have HBR:=hid (show Below wr.heap.size wr wb by rw[<- hwb];exact(Below.refl _ _).alloc (Nat.le_refl _) _);have HQ:=hid (show Blk wb wr.heap.size 43 #[.int .i64 (a9:Int),.int .i64 (tt:Int),.slice GA gn gc,.int .i64 ea,.slice TA tn tc]by rw[<- hwb];exact heap_alloc_new wr _);have HSZ:=hid (Nat.le_of_lt HQ.out.lt);have HWY:=hid (fun W (hW:Below wb.heap.size wb W)=>HWR.out.keep (HBR.out.trans (hW.mono HSZ.out)));have HBF:=hid (fun W (hW:Below wb.heap.size wb W)=>show jl x bs (.slice AW nW cW) ts vs W from HBW.out.parts (HWY.out W hW).low (HWY.out W hW).own);have Jd:=hid (show some wr.heap.size≠(Value.slice AW nW cW).ownBlock from fun e=>by
    have h1:=(World.ownsRow.lt HWR.out.own wr.heap.size e.symm).2;omega)
   have HIN:=hid (fun W (hW:Below wb.heap.size wb W)=>show In0 w0 wR wF gR gF W from HS.out.next HB0.out (HWY.out W hW).low ((HWY.out W hW).FB HF.out HBS.out HWB.out));have HGN:=hid (fun(h0:gn≠0) W (hW:Below wb.heap.size wb W)=>show EW (pz (ro P) (fo PF) (p:Int) m) X bs x (.slice (some ⟨gR,0,none⟩) N N) (.slice (some ⟨gF,0,none⟩) N N) i o n s ts (ro P q) res v vf (.slice AW nW cW) vs w (.int .i64 ((k:Int)+1)) W from⟨k+1,a,v',vf',HKM.out,by go_num,by rw[<- Ov.out,JV HKM.out Oo.out (by rw[<- HGL.out];exact h0)],HWY.out W hW⟩);have HCL:=hid (fun(h0:gn=0) W (hW:Below wb.heap.size wb W) wv2 wA us (hgw:OE X bs x (.slice (some ⟨gR,0,none⟩) N N) (.slice (some ⟨gF,0,none⟩) N N) i o n s a v' vf' (.slice AW nW cW) wv2 ts r.out nW tn vs us w0 wR wF gR gF W wA)=>show Calls Tryz.prog 24 #[.pointer (some ⟨x,0,none⟩),.int .i64 (p:Int),.int .i64 (tt:Int),wv2] wA (fun e w'=>∃bb:Bool,e = .returned (.bool bb)/\((bb=false/\rE X bs x (.slice (some ⟨gR,0,none⟩) N N) (.slice (some ⟨gF,0,none⟩) N N) i o n s res v vf (.slice AW nW cW) nW vs w (.returned (.bool false)) w')\/(bb=true/\EW (pz (ro P) (fo PF) (p:Int) m) X bs x (.slice (some ⟨gR,0,none⟩) N N) (.slice (some ⟨gF,0,none⟩) N N) i o n s ts (ro P q) res v vf (.slice AW nW cW) vs w (.int .i64 ((k:Int)+1)) w')))from by
    have hg0:r.gs.length=0:=by rw[<- HGL.out];exact h0
    have hrr:=MN.out hg0;have hbl:=HWR.out.bl;have hnw:=HNW.out;have hol:=HOL.out;have hyes:=G7 (f:=pz (ro P) (fo PF) (p:Int) m) (ts:=ts) (a:=a) HKM.out Oo.out hg0;rw[Ov.out,HTT.out]at hyes;refine(IH.out tt (XX X wv2) (ts++r.out) (vs++us) wv2 a.1 a.2 v' vf' wA (by omega) htN hgw.low hgw.fs (by have:=HBS.out;have:=(HWY.out W hW).kd.1;have:=hgw.hg.size;omega) hbl.1 hbl.2 hgw.buf (fun g e=>.inr e) (fun b hb=>?_) (by rw[List.length_append];omega) (fun t ht=>?_)).mono ?_
    ·rcases hb with z | z
     ·exact HXB.out b z
     ·exact(World.ownsRow.lt hgw.ho2 b z).1
    ·rcases List.mem_append.1 ht with z | z
     ·exact HPS.out t z
     ·exact HB5.out t z
    ·rintro e w' (⟨hn,rfl,hlow⟩ | ⟨a2,v2,vf3,hn,rfl,hw⟩)
     ·refine⟨false,rfl,.inl ⟨rfl,.inl ⟨?_,rfl,?_⟩⟩⟩
      ·rw[hyes]
       show(pz (ro P) (fo PF) (p:Int) m tt (ts++r.out) (a.1,a.2)).bind _=none;rw[hn];rfl
      ·have hl1:=(HWY.out W hW).low
       have hx:=(HWY.out W hW).fs.box.lt;have hlo:=(HWY.out W hW).fs.low;have hlA:Below x W wA:=⟨hgw.hg.os,hgw.hg.tape,hgw.hg.output,hgw.hg.size,fun b hb=>hgw.hg.block b (by omega) (fun e=>by have:=(World.ownsRow.lt (HWY.out W hW).own b e.symm).1;omega)⟩;exact(hl1.trans hlA).trans hlow
     ·refine⟨true,rfl,.inr ⟨rfl,k+1,a2,v2,vf3,HKM.out,by go_num,?_,?_⟩⟩
      ·rw[hyes]
       symm
       show(pz (ro P) (fo PF) (p:Int) m tt (ts++r.out) (a.1,a.2)).bind _=_;rw[hn];rfl
      ·rw[List.length_append,hnw,<- hol]at hw
       rw[hnw];have hh:=HWY.out W hW;rw[hnw]at hh;exact hh.next hgw.hg HXW.out hgw.hat hgw.ho hgw.ho2 hw)
   have j1:(0:Int)<=(k:Int):=Int.natCast_nonneg _;have j2:(k:Int)<(k0:Int):=by omega
   clear hgo hwr lV hcell hpr hmem hmq hrk uV io b0 b1 b2 b3 b5 b4 hnr Er ie0 ie1 ie2 ie3 ie4 ig ig2 io2 LH;go_upto_region 6 with(fail);clear d0 d1 d2 d3 d4;obtain⟨wd,hwd⟩:∃wd,wb.drew=wd:=⟨_,rfl⟩;have HBD:=hid (show Below wb.heap.size wb wd by rw[<- hwd];exact(Below.refl _ _).drew);have hqd:Blk wd wr.heap.size 43 #[.int .i64 (a9:Int),.int .i64 (tt:Int),.slice GA gn gc,.int .i64 ea,.slice TA tn tc]:=HQ.out.below HBD.out HQ.out.lt;refine wp_region_held_drew (S:=fun _=>True) (by kernel_rfl) trivial (fun hHeld=>?_);rw[hwd];have l0:=hqd.cell 0;have l1:=hqd.cell 1;have l2:=hqd.cell 2;have l3:=hqd.cell 3;have l4:=hqd.cell 4;simp only[sD,sE,sF]at l0 l1 l2 l3 l4;refine wpAnyH_ready (rs:=[0]) (by kernel_rfl) (by simp) ?_;refine(AllReadyH.cons (o:=⟨some 37,.load 43 (.tmp 10),_,_,_,none⟩) rfl (fun K hK=>?_) AllReadyH.nil);go_simp;refine hK.out _ _ trivial (fun hHeld=>?_);clear hK K;try simp only[Act.put,sA,sB,sC]
   refine wpAnyH_ready (rs:=[1]) (by kernel_rfl) (by simp) ?_;refine(AllReadyH.cons (o:=⟨some 38,.call { callee:=.value (.func 19),args:=#[.tmp 37],argTypes:=#[43] },_,_,_,none⟩) rfl (fun K hK=>?_) AllReadyH.nil);go_simp;go_wp2_with (go_at_call 19;(refine(kH a9 (tt:Int) GA gn gc ea TA tn tc wd).mono ?_);rintro ee we ⟨rfl,hbe⟩);by_cases hg0:gn=0
   case neg=>
    have HBE:=hid (HBD.out.trans (hbe.mono HBD.out.size));have HF:=hid (HGN.out hg0 we HBE.out);rw[beq_eq_false_iff_ne.2 hg0];clear l0 l1 l2 l3 l4 hqd hbe;refine hK.out _ _ trivial (fun hHeld=>?_);clear hK K;try simp only[Act.put,sA,sB,sC]
    refine tk 2 ⟨some 39,.move (.tmp 38),_,_,_,none⟩ ?_ rfl ?_ ?_;rotate_left
    ·intro w' hSw
     (try dsimp only at hSw)
     go_simp;all_goals with_reducible rfl
    try simp only[Act.put,sA,sB,sC]
    refine wpAnyH_take (i:=3) (oi:=⟨some 40,.move (.tmp 0),_,_,_,some (2,true)⟩) (v:=undef) rfl (by kernel_rfl) (by kernel_rfl) (by kernel_rfl) (fun _ _ _ h=>h) (Or.inr ⟨by rfl,rfl⟩) (by assumption) ?_;try simp only[Act.put,sA,sB,sC]
    refine wpAnyH_take (i:=4) (oi:=⟨some 41,.move (.tmp 1),_,_,_,some (2,true)⟩) (v:=undef) rfl (by kernel_rfl) (by kernel_rfl) (by kernel_rfl) (fun _ _ _ h=>h) (Or.inr ⟨by rfl,rfl⟩) (by assumption) ?_;try simp only[Act.put,sA,sB,sC]
    refine wpAnyH_take (i:=5) (oi:=⟨some 42,.fieldAddr 43 (.tmp 10) 1,_,_,_,some (2,true)⟩) (v:=undef) rfl (by kernel_rfl) (by kernel_rfl) (by kernel_rfl) (fun _ _ _ h=>h) (Or.inr ⟨by rfl,rfl⟩) (by assumption) ?_;try simp only[Act.put,sA,sB,sC]
    refine wpAnyH_take (i:=6) (oi:=⟨some 43,.load 3 (.tmp 42),_,_,_,some (2,true)⟩) (v:=undef) rfl (by kernel_rfl) (by kernel_rfl) (by kernel_rfl) (fun _ _ _ h=>h) (Or.inr ⟨by rfl,rfl⟩) (by assumption) ?_;try simp only[Act.put,sA,sB,sC]
    refine wpAnyH_take (i:=7) (oi:=⟨some 44,.move (.tmp 3),_,_,_,some (2,true)⟩) (v:=undef) rfl (by kernel_rfl) (by kernel_rfl) (by kernel_rfl) (fun _ _ _ h=>h) (Or.inr ⟨by rfl,rfl⟩) (by assumption) ?_;try simp only[Act.put,sA,sB,sC]
    refine wpAnyH_take (i:=8) (oi:=⟨some 45,.fieldAddr 43 (.tmp 10) 4,_,_,_,some (2,true)⟩) (v:=undef) rfl (by kernel_rfl) (by kernel_rfl) (by kernel_rfl) (fun _ _ _ h=>h) (Or.inr ⟨by rfl,rfl⟩) (by assumption) ?_;try simp only[Act.put,sA,sB,sC]
    refine wpAnyH_take (i:=9) (oi:=⟨some 46,.load 41 (.tmp 45),_,_,_,some (2,true)⟩) (v:=undef) rfl (by kernel_rfl) (by kernel_rfl) (by kernel_rfl) (fun _ _ _ h=>h) (Or.inr ⟨by rfl,rfl⟩) (by assumption) ?_;try simp only[Act.put,sA,sB,sC]
    refine wpAnyH_ready (rs:=[10]) (by kernel_rfl) (by simp) ?_;refine(AllReadyH.cons (o:=⟨some 47,.call { callee:=.builtin .append,args:=#[.tmp 44,.tmp 46],argTypes:=#[41,41] },_,_,_,some (2,true)⟩) rfl (fun K hK=>?_) AllReadyH.nil);rw[if_neg (by intro hh;cases hh)];refine hK.out _ _ trivial (fun hHeld=>?_);clear hK K;try simp only[Act.put,sA,sB,sC]
    refine wpAnyH_ready (rs:=[11]) (by kernel_rfl) (by simp) ?_;refine(AllReadyH.cons (o:=⟨some 48,.call { callee:=.value (.func 24),args:=#[.tmp 40,.tmp 41,.tmp 43,.tmp 47],argTypes:=#[81,3,3,41] },_,_,_,some (2,true)⟩) rfl (fun K hK=>?_) AllReadyH.nil);rw[if_neg (by intro hh;cases hh)];refine hK.out _ _ trivial (fun hHeld=>?_);clear hK K;try simp only[Act.put,sA,sB,sC]
    refine wpAnyH_take (i:=12) (oi:=⟨some 49,.unOp .not 4 (.tmp 48),_,_,_,some (2,true)⟩) (v:=undef) rfl (by kernel_rfl) (by kernel_rfl) (by kernel_rfl) (fun _ _ _ h=>h) (Or.inr ⟨by rfl,rfl⟩) (by assumption) ?_;try simp only[Act.put,sA,sB,sC]
    refine tk 13 ⟨some 50,.pick (.tmp 39) (.tmp 49) (.const (Go.Value.bool false)),_,_,_,none⟩ ?_ rfl ?_ ?_;rotate_left
    ·intro w' hSw
     (try dsimp only at hSw)
     go_simp;all_goals with_reducible rfl
    try simp only[Act.put,sA,sB,sC]
    refine wpAnyH_done (by kernel_rfl) ?_ _;go_wp2_with (fail)
    go_roundw
    case rel=>exact HF.out
    case measure=>simp[intOf];omega
   case pos=>
    have HBE:=hid (HBD.out.trans (hbe.mono HBD.out.size));have hqe:=hqd.below hbe hqd.lt;have l1:=hqe.cell 1;have l4:=hqe.cell 4;simp only[sD,sE,sF]at l1 l4;subst hg0;clear l0 l2 l3 hqd hbe;refine hK.out _ _ trivial (fun hHeld=>?_);clear hK K;try simp only[Act.put,sA,sB,sC]
    refine tk 2 ⟨some 39,.move (.tmp 38),_,_,_,none⟩ ?_ rfl ?_ ?_;rotate_left
    ·intro w' hSw
     (try dsimp only at hSw)
     go_simp;all_goals with_reducible rfl
    try simp only[Act.put,sA,sB,sC]
    refine tk 3 ⟨some 40,.move (.tmp 0),_,_,_,some (2,true)⟩ ?_ rfl ?_ ?_;rotate_left
    ·intro w' hSw
     (try dsimp only at hSw)
     go_simp;all_goals with_reducible rfl
    try simp only[Act.put,sA,sB,sC]
    refine tk 4 ⟨some 41,.move (.tmp 1),_,_,_,some (2,true)⟩ ?_ rfl ?_ ?_;rotate_left
    ·intro w' hSw
     (try dsimp only at hSw)
     go_simp;all_goals with_reducible rfl
    try simp only[Act.put,sA,sB,sC]
    refine tk 5 ⟨some 42,.fieldAddr 43 (.tmp 10) 1,_,_,_,some (2,true)⟩ ?_ rfl ?_ ?_;rotate_left
    ·intro w' hSw
     (try dsimp only at hSw)
     go_simp;all_goals with_reducible rfl
    try simp only[Act.put,sA,sB,sC]
    refine tk 7 ⟨some 44,.move (.tmp 3),_,_,_,some (2,true)⟩ ?_ rfl ?_ ?_;rotate_left
    ·intro w' hSw
     (try dsimp only at hSw)
     go_simp;all_goals with_reducible rfl
    try simp only[Act.put,sA,sB,sC]
    refine tk 8 ⟨some 45,.fieldAddr 43 (.tmp 10) 4,_,_,_,some (2,true)⟩ ?_ rfl ?_ ?_;rotate_left
    ·intro w' hSw
     (try dsimp only at hSw)
     go_simp;all_goals with_reducible rfl
    try simp only[Act.put,sA,sB,sC]
    refine wpAnyH_ready (rs:=[6,9]) (by kernel_rfl) (by simp) ?_;refine(AllReadyH.cons (o:=⟨some 43,.load 3 (.tmp 42),_,_,_,some (2,true)⟩) rfl (fun K hK=>?_) (AllReadyH.cons (o:=⟨some 46,.load 41 (.tmp 45),_,_,_,some (2,true)⟩) rfl (fun K hK=>?_) AllReadyH.nil))
    focus
     rw[if_pos (by rfl)];go_simp;refine hK.out _ _ trivial (fun hHeld=>?_);clear hK K;try simp only[Act.put,sA,sB,sC]
     refine wpAnyH_ready (rs:=[9]) (by kernel_rfl) (by simp) ?_;refine(AllReadyH.cons (o:=⟨some 46,.load 41 (.tmp 45),_,_,_,some (2,true)⟩) rfl (fun K hK=>?_) AllReadyH.nil);rw[if_pos (by rfl)];go_simp;refine hK.out _ _ trivial (fun hHeld=>?_);clear hK K;try simp only[Act.put,sA,sB,sC]
     refine wpAnyH_ready (rs:=[10]) (by kernel_rfl) (by simp) ?_;refine(AllReadyH.cons (o:=⟨some 47,.call { callee:=.builtin .append,args:=#[.tmp 44,.tmp 46],argTypes:=#[41,41] },_,_,_,some (2,true)⟩) rfl (fun K hK=>?_) AllReadyH.nil);rw[if_pos (by rfl)];refine eY (ts:=ts) (out:=r.out) (HWY.out we HBE.out).fs (HBF.out we HBE.out) HXW.out HXB.out HS.out (HIN.out we HBE.out) HNW.out HIO.out HOL.out.symm HNR.out (by omega) (by have:=HBS.out;have:=(HWY.out we HBE.out).kd.1;omega) _ _ (by rfl) (by rfl) (by rfl) (fun wv2 wA us hgw=>?_);have hqa:=aM hqe (hgw.hg.block wr.heap.size hqe.lt Jd.out);have l1:=hqa.cell 1;simp only[sD,sE,sF]at l1;refine hK.out _ _ trivial (fun hHeld=>?_);clear hK K;try simp only[Act.put,sA,sB,sC]
    rotate_left 1
    focus
     rw[if_pos (by rfl)];go_simp;refine hK.out _ _ trivial (fun hHeld=>?_);clear hK K;try simp only[Act.put,sA,sB,sC]
     refine wpAnyH_ready (rs:=[6,10]) (by kernel_rfl) (by simp) ?_;refine(AllReadyH.cons (o:=⟨some 43,.load 3 (.tmp 42),_,_,_,some (2,true)⟩) rfl (fun K hK=>?_) (AllReadyH.cons (o:=⟨some 47,.call { callee:=.builtin .append,args:=#[.tmp 44,.tmp 46],argTypes:=#[41,41] },_,_,_,some (2,true)⟩) rfl (fun K hK=>?_) AllReadyH.nil))
     focus
      rw[if_pos (by rfl)];go_simp;refine hK.out _ _ trivial (fun hHeld=>?_);clear hK K;try simp only[Act.put,sA,sB,sC]
      refine wpAnyH_ready (rs:=[10]) (by kernel_rfl) (by simp) ?_;refine(AllReadyH.cons (o:=⟨some 47,.call { callee:=.builtin .append,args:=#[.tmp 44,.tmp 46],argTypes:=#[41,41] },_,_,_,some (2,true)⟩) rfl (fun K hK=>?_) AllReadyH.nil);rw[if_pos (by rfl)];refine eY (ts:=ts) (out:=r.out) (HWY.out we HBE.out).fs (HBF.out we HBE.out) HXW.out HXB.out HS.out (HIN.out we HBE.out) HNW.out HIO.out HOL.out.symm HNR.out (by omega) (by have:=HBS.out;have:=(HWY.out we HBE.out).kd.1;omega) _ _ (by rfl) (by rfl) (by rfl) (fun wv2 wA us hgw=>?_);have hqa:=aM hqe (hgw.hg.block wr.heap.size hqe.lt Jd.out);have l1:=hqa.cell 1;simp only[sD,sE,sF]at l1;refine hK.out _ _ trivial (fun hHeld=>?_);clear hK K;try simp only[Act.put,sA,sB,sC]
     rotate_left 1
     focus
      rw[if_pos (by rfl)];refine eY (ts:=ts) (out:=r.out) (HWY.out we HBE.out).fs (HBF.out we HBE.out) HXW.out HXB.out HS.out (HIN.out we HBE.out) HNW.out HIO.out HOL.out.symm HNR.out (by omega) (by have:=HBS.out;have:=(HWY.out we HBE.out).kd.1;omega) _ _ (by rfl) (by rfl) (by rfl) (fun wv2 wA us hgw=>?_);have hqa:=aM hqe (hgw.hg.block wr.heap.size hqe.lt Jd.out);have l1:=hqa.cell 1;simp only[sD,sE,sF]at l1;refine hK.out _ _ trivial (fun hHeld=>?_);clear hK K;try simp only[Act.put,sA,sB,sC]
      refine wpAnyH_ready (rs:=[6]) (by kernel_rfl) (by simp) ?_;refine(AllReadyH.cons (o:=⟨some 43,.load 3 (.tmp 42),_,_,_,some (2,true)⟩) rfl (fun K hK=>?_) AllReadyH.nil);rw[if_pos (by rfl)];go_simp;refine hK.out _ _ trivial (fun hHeld=>?_);clear hK K;try simp only[Act.put,sA,sB,sC]
    all_goals
     refine wpAnyH_ready (rs:=[11]) (by kernel_rfl) (by simp) ?_;refine(AllReadyH.cons (o:=⟨some 48,.call { callee:=.value (.func 24),args:=#[.tmp 40,.tmp 41,.tmp 43,.tmp 47],argTypes:=#[81,3,3,41] },_,_,_,some (2,true)⟩) rfl (fun K hK=>?_) AllReadyH.nil);rw[if_pos (by rfl)];have HCC:=hid (HCL.out rfl we HBE.out wv2 wA us hgw);clear hgw hqa hqe;go_simp;go_wp2_with (go_at_call 24;(refine HCC.out.mono ?_);rintro ew wf ⟨bb,rfl,hcase⟩);rcases hcase with⟨rfl,hf⟩ | ⟨rfl,hf⟩
     ·skip
      refine hK.out _ _ trivial (fun hHeld=>?_);clear hK K;try simp only[Act.put,sA,sB,sC]
      refine tk 12 ⟨some 49,.unOp .not 4 (.tmp 48),_,_,_,some (2,true)⟩ ?_ rfl ?_ ?_;rotate_left
      ·intro w' hSw
       (try dsimp only at hSw)
       go_simp;all_goals with_reducible rfl
      try simp only[Act.put,sA,sB,sC]
      refine tk 13 ⟨some 50,.pick (.tmp 39) (.tmp 49) (.const (Go.Value.bool false)),_,_,_,none⟩ ?_ rfl ?_ ?_;rotate_left
      ·intro w' hSw
       (try dsimp only at hSw)
       go_simp;all_goals with_reducible rfl
      try simp only[Act.put,sA,sB,sC]
      refine wpAnyH_done (by kernel_rfl) ?_ _;have HF:=hid hf;clear hf;go_wp2_with (fail);go_ret;exact HF.out
     ·skip
      refine hK.out _ _ trivial (fun hHeld=>?_);clear hK K;try simp only[Act.put,sA,sB,sC]
      refine tk 12 ⟨some 49,.unOp .not 4 (.tmp 48),_,_,_,some (2,true)⟩ ?_ rfl ?_ ?_;rotate_left
      ·intro w' hSw
       (try dsimp only at hSw)
       go_simp;all_goals with_reducible rfl
      try simp only[Act.put,sA,sB,sC]
      refine tk 13 ⟨some 50,.pick (.tmp 39) (.tmp 49) (.const (Go.Value.bool false)),_,_,_,none⟩ ?_ rfl ?_ ?_;rotate_left
      ·intro w' hSw
       (try dsimp only at hSw)
       go_simp;all_goals with_reducible rfl
      try simp only[Act.put,sA,sB,sC]
      refine wpAnyH_done (by kernel_rfl) ?_ _;have HF:=hid hf;clear hf;go_wp2_with (fail)
      go_roundw
      case rel=>exact HF.out
      case measure=>simp[intOf];omega
end Go.Proofs.YtbdmcibcenhpnaaGreatDoor.Ep
namespace Go.Proofs.YtbdmcibcenhpnaaGreatDoor.Ep
open Go Sp Te De Lt
def chk (a:Acc) (R:List RuL) (F:List FiL):Option Acc:=
 if a.1.length+R.length<=4096/\a.2.length+F.length<=4096/\(∀r∈R,r.out.length<=64)/\(∀f∈F,f.out.length<=64)then some (a.1++R,a.2++F)else none
theorem BZ {a:Acc} (h1:a.1.length<=4096) (h2:a.2.length<=4096):chk a [] []=some a:=by
 unfold chk;rw[if_pos ⟨by simpa using h1,by simpa using h2,fun _ h=>(by cases h),fun _ h=>(by cases h)⟩];simp
theorem tE (a:Acc) (R R':List RuL) (F F':List FiL):((chk a R F).bind fun b=>chk b R' F')=chk a (R++R') (F++F'):=by
 unfold chk;by_cases h:a.1.length+R.length<=4096/\a.2.length+F.length<=4096/\(∀r∈R,r.out.length<=64)/\(∀f∈F,f.out.length<=64)
 ·rw[if_pos h]
  obtain⟨h1,h2,h3,h4⟩:=h;show(if _ then _ else _)=_;by_cases k:(a.1++R).length+R'.length<=4096/\(a.2++F).length+F'.length<=4096/\(∀r∈R',r.out.length<=64)/\(∀f∈F',f.out.length<=64)
  ·rw[if_pos k]
   obtain⟨k1,k2,k3,k4⟩:=k;simp only[List.length_append]at k1 k2;rw[if_pos ⟨by rw[List.length_append];omega,by rw[List.length_append];omega,fun r hr=>(List.mem_append.1 hr).elim (h3 r) (k3 r),fun r hr=>(List.mem_append.1 hr).elim (h4 r) (k4 r)⟩,List.append_assoc,List.append_assoc]
  ·rw[if_neg k,if_neg]
   rintro⟨q1,q2,q3,q4⟩;simp only[List.length_append]at q1 q2 k;exact k ⟨by omega,by omega,fun r hr=>q3 r (List.mem_append_right _ hr),fun r hr=>q4 r (List.mem_append_right _ hr)⟩
 ·rw[if_neg h]
  show none=_;rw[if_neg];rintro⟨q1,q2,q3,q4⟩;simp only[List.length_append]at q1 q2;exact h ⟨by omega,by omega,fun r hr=>q3 r (List.mem_append_left _ hr),fun r hr=>q4 r (List.mem_append_left _ hr)⟩
theorem mh {a b:Acc} {R:List RuL} {F:List FiL} (h:chk a R F=some b):b.1.length<=4096/\b.2.length<=4096:=by
 unfold chk at h
 split at h
 ·rename_i hc
  injection h with h;subst h;simp only[List.length_append];omega
 ·cases h
def J4 (acc R:List RuL):Option (List RuL):=if acc.length+R.length<=4096/\∀r∈R,r.out.length<=64 then some (acc++R)else none
def J5 (acc R:List FiL):Option (List FiL):=if acc.length+R.length<=4096/\∀r∈R,r.out.length<=64 then some (acc++R)else none
def bN (p:Int) (ts:List TmL) (l:List RuL):List RuL:=(l.filter fun r=>!(r.gs.length == 0)).map (jY p ts)
def cB (p:Int) (ts:List TmL) (l:List FiL):List FiL:=l.map (mC p ts)
theorem Am (p:Int) (ts:List TmL):∀(l acc:List RuL),acc.length<=4096->dZ p ts l acc=J4 acc (bN p ts l):=by
 intro l
 induction l with
 | nil=>
  intro acc h;unfold J4;rw[if_pos ⟨by simpa[bN]using h,fun r hr=>by simp[bN]at hr⟩];simp[dZ,bN]
 | cons r l ih=>
  intro acc h;simp only[dZ];by_cases h0:r.gs.length=0
  ·rw[if_pos h0,ih acc h]
   have:bN p ts (r::l)=bN p ts l:=by
    unfold bN;rw[List.filter_cons,if_neg (by simp[h0])]
   rw[this]
  ·have e:bN p ts (r::l)=jY p ts r::bN p ts l:=by
    unfold bN;rw[List.filter_cons,if_pos (by simpa using h0),List.map_cons]
   rw[if_neg h0,e];by_cases hb:acc.length=4096\/64<ts.length+r.out.length
   ·rw[if_pos hb]
    unfold J4;rw[if_neg];rintro⟨q1,q2⟩;have q3:=q2 _ (List.mem_cons_self);simp only[jY,List.length_append]at q3;simp only[List.length_cons]at q1;omega
   ·rw[if_neg hb,ih _ (by simp only[List.length_append,List.length_singleton];omega)]
    unfold J4;by_cases hc:(acc++[jY p ts r]).length+(bN p ts l).length<=4096/\∀x∈bN p ts l,x.out.length<=64
    ·rw[if_pos hc,if_pos]
     ·rw[List.append_assoc];rfl
     ·obtain⟨q1,q2⟩:=hc
      simp only[List.length_append,List.length_singleton]at q1;refine⟨by simp only[List.length_cons];omega,fun x hx=>?_⟩;rcases List.mem_cons.1 hx with rfl | hx
      ·simp only[jY,List.length_append];omega
      ·exact q2 x hx
    ·rw[if_neg hc,if_neg]
     rintro⟨q1,q2⟩;refine hc ⟨?_,fun x hx=>q2 x (List.mem_cons_of_mem _ hx)⟩;simp only[List.length_cons]at q1;simp only[List.length_append,List.length_singleton];omega
theorem Aw (p:Int) (ts:List TmL):∀(l acc:List FiL),acc.length<=4096->fI p ts l acc=J5 acc (cB p ts l):=by
 intro l
 induction l with
 | nil=>
  intro acc h;unfold J5;rw[if_pos ⟨by simpa[cB]using h,fun r hr=>by simp[cB]at hr⟩];simp[fI,cB]
 | cons r l ih=>
  intro acc h;simp only[fI];have e:cB p ts (r::l)=mC p ts r::cB p ts l:=rfl;rw[e];by_cases hb:acc.length=4096\/64<ts.length+r.out.length
  ·rw[if_pos hb]
   unfold J5;rw[if_neg];rintro⟨q1,q2⟩;have q3:=q2 _ (List.mem_cons_self);simp only[mC,List.length_append]at q3;simp only[List.length_cons]at q1;omega
  ·rw[if_neg hb,ih _ (by simp only[List.length_append,List.length_singleton];omega)]
   unfold J5;by_cases hc:(acc++[mC p ts r]).length+(cB p ts l).length<=4096/\∀x∈cB p ts l,x.out.length<=64
   ·rw[if_pos hc,if_pos]
    ·rw[List.append_assoc];rfl
    ·obtain⟨q1,q2⟩:=hc
     simp only[List.length_append,List.length_singleton]at q1;refine⟨by simp only[List.length_cons];omega,fun x hx=>?_⟩;rcases List.mem_cons.1 hx with rfl | hx
     ·simp only[mC,List.length_append];omega
     ·exact q2 x hx
   ·rw[if_neg hc,if_neg]
    rintro⟨q1,q2⟩;refine hc ⟨?_,fun x hx=>q2 x (List.mem_cons_of_mem _ hx)⟩;simp only[List.length_cons]at q1;simp only[List.length_append,List.length_singleton];omega
theorem D4 (p:Int) (ts:List TmL) (l:List RuL) (k:List FiL) (a:Acc) (h1:a.1.length<=4096) (h2:a.2.length<=4096):((dZ p ts l a.1).bind fun L=>(fI p ts k a.2).bind fun F=>some (L,F))=chk a (bN p ts l) (cB p ts k):=by
 rw[Am p ts l a.1 h1,Aw p ts k a.2 h2];unfold J4 J5 chk;by_cases c1:a.1.length+(bN p ts l).length<=4096/\∀r∈bN p ts l,r.out.length<=64
 ·rw[if_pos c1]
  by_cases c2:a.2.length+(cB p ts k).length<=4096/\∀r∈cB p ts k,r.out.length<=64
  ·rw[if_pos c2,if_pos ⟨c1.1,c2.1,c1.2,c2.2⟩]
   rfl
  ·rw[if_neg c2,if_neg fun q=>c2 ⟨q.2.1,q.2.2.2⟩]
   rfl
 ·rw[if_neg c1]
  show none=_;rw[if_neg fun q=>c1 ⟨q.1,q.2.2.1⟩]
section
variable {RO:Nat->List RuL} {FO:Nat->List FiL} {rk:Nat->Nat} {p:Int}
def eZ (RO:Nat->List RuL):Nat->Nat->List TmL->List (Nat×List TmL)
 | 0,_,_=>[]
 | m+1,q,ts=>(q,ts)::((RO q).filter fun r=>r.gs.length == 0).flatMap fun r=>eZ RO m r.to_.toNat (ts++r.out)
def gT (RO:Nat->List RuL) (p:Int) (l:List (Nat×List TmL)):List RuL:=l.flatMap fun z=>bN p z.2 (RO z.1)
def gU (FO:Nat->List FiL) (p:Int) (l:List (Nat×List TmL)):List FiL:=l.flatMap fun z=>cB p z.2 (FO z.1)
theorem G8 {f:Nat->List TmL->Acc->Option Acc} {g:Nat->List TmL->List (Nat×List TmL)} {ts:List TmL} : ∀(l:List RuL),(∀r∈l,r.gs.length=0->∀a:Acc,a.1.length<=4096->a.2.length<=4096->f r.to_.toNat (ts++r.out) a=chk a (gT RO p (g r.to_.toNat (ts++r.out))) (gU FO p (g r.to_.toNat (ts++r.out)))) ->
  ∀a:Acc,a.1.length<=4096->a.2.length<=4096->goW f ts l a=chk a (gT RO p ((l.filter fun r=>r.gs.length == 0).flatMap fun r=>g r.to_.toNat (ts++r.out))) (gU FO p ((l.filter fun r=>r.gs.length == 0).flatMap fun r=>g r.to_.toNat (ts++r.out))):=by
 intro l
 induction l with
 | nil=>
  intro _ a h1 h2;simp only[goW,List.filter_nil,List.flatMap_nil,gT,gU];exact(BZ h1 h2).symm
 | cons r l ih=>
  intro hf a h1 h2;simp only[goW];have ih':=ih fun x hx=>hf x (List.mem_cons_of_mem _ hx)
  by_cases h0:r.gs.length=0
  ·rw[if_pos h0,hf r (List.mem_cons_self) h0 a h1 h2,List.filter_cons,if_pos (by simp[h0]),List.flatMap_cons]
   have e1:∀x y,gT RO p (x++y)=gT RO p x++gT RO p y:=fun x y=>List.flatMap_append
   have e2:∀x y,gU FO p (x++y)=gU FO p x++gU FO p y:=fun x y=>List.flatMap_append
   rw[e1,e2,<- tE]
   cases hc:chk a (gT RO p (g r.to_.toNat (ts++r.out))) (gU FO p (g r.to_.toNat (ts++r.out)))with
   | none=>rfl
   | some b=>
    obtain⟨b1,b2⟩:=mh hc;exact ih' b b1 b2
  ·rw[if_neg h0,ih' a h1 h2,List.filter_cons,if_neg (by simpa using h0)]
theorem CX (hrk:∀q,∀r∈RO q,r.gs.length=0->rk r.to_.toNat<rk q):∀(m q:Nat) (ts:List TmL) (a:Acc),rk q<m->a.1.length<=4096->a.2.length<=4096->pz RO FO p m q ts a=chk a (gT RO p (eZ RO m q ts)) (gU FO p (eZ RO m q ts)):=by
 intro m
 induction m with
 | zero=>intro q ts a h;omega
 | succ m ih=>
  intro q ts a h h1 h2;have hb:=D4 p ts (RO q) (FO q) a h1 h2;have e1:gT RO p (eZ RO (m+1) q ts)=bN p ts (RO q)++gT RO p (((RO q).filter fun r=>r.gs.length == 0).flatMap fun r=>eZ RO m r.to_.toNat (ts++r.out)):=by
   unfold gT;simp only[eZ,List.flatMap_cons]
  have e2:gU FO p (eZ RO (m+1) q ts)=cB p ts (FO q)++gU FO p (((RO q).filter fun r=>r.gs.length == 0).flatMap fun r=>eZ RO m r.to_.toNat (ts++r.out)):=by
   unfold gU;simp only[eZ,List.flatMap_cons]
  rw[e1,e2,<- tE,<- hb];simp only[pz]
  cases c1:dZ p ts (RO q) a.1 with
  | none=>rfl
  | some L=>
   show((fI p ts (FO q) a.2).bind fun F=>goW (pz RO FO p m) ts (RO q) (L,F))=(((fI p ts (FO q) a.2).bind fun F=>some (L,F)).bind _)
   cases c2:fI p ts (FO q) a.2 with
   | none=>rfl
   | some F=>
    rw[c1,c2]at hb;obtain⟨b1,b2⟩:=mh (b:=(L,F)) hb.symm;show goW (pz RO FO p m) ts (RO q) (L,F)=chk (L,F) _ _;exact G8 (g:=fun q ts=>eZ RO m q ts) (RO q) (fun r hr h0 a' k1 k2=>ih r.to_.toNat (ts++r.out) a' (by have:=hrk q r hr h0;omega) k1 k2) (L,F) b1 b2
def l5 (RO:Nat->List RuL) (FO:Nat->List FiL) (M:Nat):List Nat->Acc->Option Acc
 | [],a=>some a
 | q::l,a=>(pz RO FO (q:Int) M q [] a).bind (l5 RO FO M l)
def I9 (RO:Nat->List RuL) (M:Nat) (l:List Nat):List RuL:=l.flatMap fun(q:Nat)=>gT RO (q:Int) (eZ RO M q [])
def Ja (RO:Nat->List RuL) (FO:Nat->List FiL) (M:Nat) (l:List Nat):List FiL:=l.flatMap fun(q:Nat)=>gU FO (q:Int) (eZ RO M q [])
theorem Br (hrk:∀q,∀r∈RO q,r.gs.length=0->rk r.to_.toNat<rk q) {M:Nat} (hM:∀q,rk q<M):∀(l:List Nat) (a:Acc),a.1.length<=4096->a.2.length<=4096->l5 RO FO M l a=chk a (I9 RO M l) (Ja RO FO M l):=by
 intro l
 induction l with
 | nil=>
  intro a h1 h2;exact(BZ h1 h2).symm
 | cons q l ih=>
  intro a h1 h2;simp only[l5];rw[CX hrk M q [] a (hM q) h1 h2];have e1:I9 RO M (q::l)=gT RO (q:Int) (eZ RO M q [])++I9 RO M l:=List.flatMap_cons;have e2:Ja RO FO M (q::l)=gU FO (q:Int) (eZ RO M q [])++Ja RO FO M l:=List.flatMap_cons;rw[e1,e2,<- tE]
  cases hc:chk a (gT RO (q:Int) (eZ RO M q [])) (gU FO (q:Int) (eZ RO M q []))with
  | none=>rfl
  | some b=>
   obtain⟨b1,b2⟩:=mh hc;exact ih b b1 b2
end
end Go.Proofs.YtbdmcibcenhpnaaGreatDoor.Ep
namespace Go.Proofs.YtbdmcibcenhpnaaGreatDoor.Ep
set_option maxHeartbeats 64000000
open Go Go.RowKit Go.Deep Sp Pa Te Mi De Tr Lt
theorem lq {i o:Int} {N:Nat} {s:Int} {rs:List RuL} {fs:List FiL} (h:(aW i o (N:Int) s rs fs).1=0):jo (bF rs) N=false:=by
 unfold aW dO at h
 split at h
 ·split at h
  ·simp at h
  ·split at h
   ·simp at h
   ·split at h
    ·simp at h
    ·rename_i z
     simpa using z
 ·simp at h
noncomputable def gQ (rs:List RuL) (N:Nat):Nat:=iy (cnt (fN rs) (rkE (bF rs) N)) (List.range N)
noncomputable def jU (i o n s:Int) (rs:List RuL) (fs:List FiL):Int×Int:=
 if(aW i o n s rs fs).1=0 then(if gQ rs n.toNat<=4096 then((gQ rs n.toNat:Int),0)else(0,4))else(0,2)
def Hx (v:Int×Int) (w:World) (e:Ending) (w':World):Prop:=e = .returned (.tuple #[.int .i64 v.1,.int .i64 v.2])/\Below w.heap.size w w'
theorem oq (i o n s:Int) (A:Option Addr) (cr:Nat) (B:Option Addr) (cf:Nat) (rs:List RuL) (fs:List FiL) (w:World) (hd:DM w ⟨i,o,n,s,A,cr,B,cf,rs,fs⟩) (hT:Fi.jh w) :
  Calls Tryz.prog 8 #[dsc i o n s A rs.length cr B fs.length cf] w (Hx (jU i o n s rs fs) w):=by
 have hC:∀W,Below w.heap.size w W->Calls Tryz.prog 15 #[dsc i o n s A rs.length cr B fs.length cf] W (Kj (if(aW i o n s rs fs).1=0 then 0 else 2) W):=fun W hW=>
  yt i o n s A cr B cf rs fs W (hd.below hW).rules hd.rl (hd.below hW).finals hd.fl (hT.next hW)
 by_cases hw:(aW i o n s rs fs).1=0
 ·have hR:mz ⟨i,o,n,s,A,cr,B,cf,rs,fs⟩:=DV.right.qg (d:=⟨i,o,n,s,A,cr,B,cf,rs,fs⟩) hw
  have hn:=hR.n;simp only at hn;obtain⟨N,rfl⟩:=Int.eq_ofNat_of_zero_le (show 0<=n by omega);simp only[if_pos hw]at hC;have hrs:∀r∈rs,0<=r.frm/\r.frm<(N:Int)/\0<=r.to_/\r.to_<(N:Int):=fun r hr=>by
   obtain⟨h1,h2,h3,h4,_⟩:=hR.rs r hr;exact⟨h1,h2,h3,h4⟩
  obtain⟨P,hP,hK,hI⟩:=qm hd.rules fun r hr=>(hrs r hr).1
  refine(Gf i o N s A cr B fs.length cf rs P w hP hK hI hR.r hrs (lq hw) (by omega) hC).mono ?_;rintro e w' ⟨hb,h⟩;refine⟨?_,hb⟩;unfold jU gQ;rw[if_pos hw];simp only[Int.toNat_natCast];rcases h with⟨h1,rfl⟩ | ⟨h1,rfl⟩
  ·rw[if_pos h1]
  ·rw[if_neg (by omega)]
 ·have HC:=Lib.hid hC
  have hv:jU i o n s rs fs=(0,2):=by unfold jU;rw[if_neg hw]
  rw[hv];obtain⟨w1,hw1⟩:∃w1,w.alloc (.cells #[.int .i64 i,.int .i64 o,.int .i64 n,.int .i64 s,.slice A rs.length cr,.slice B fs.length cf] 26)=w1:=⟨_,rfl⟩;have hb1:Below w.heap.size w w1:=by rw[<- hw1];exact(Below.refl _ _).alloc (Nat.le_refl _) _
  have hq1:Blk w1 w.heap.size 26 #[.int .i64 i,.int .i64 o,.int .i64 n,.int .i64 s,.slice A rs.length cr,.slice B fs.length cf]:=by rw[<- hw1];exact heap_alloc_new w _
  have k0:=hq1.cell 0;have k1:=hq1.cell 1;have k2:=hq1.cell 2;have k3:=hq1.cell 3;have k4:=hq1.cell 4;have k5:=hq1.cell 5;simp only[sD,sE,sF]at k0 k1 k2 k3 k4 k5;have HCK:=Lib.hid (hC w1 hb1);rw[if_neg hw]at HCK;have HB1:=Lib.hid hb1;clear hd hT hC hw hv hq1 hb1;go_enter Tryz.func8,Tryz.ntmps8;go_wp2_with (fail);refine HCK.out.mono ?_;rintro e w2 ⟨rfl,hb2⟩;have HFI:=Lib.hid (show Hx (0,2) w (.returned (.tuple #[.int .i64 0,.int .i64 2])) w2 from⟨rfl,HB1.out.trans (hb2.mono HB1.out.size)⟩);clear hb2;go_wp2_with (fail);go_ret2;exact HFI.out
end Go.Proofs.YtbdmcibcenhpnaaGreatDoor.Ep
namespace Go.Proofs.YtbdmcibcenhpnaaGreatDoor.Ep
open Go Go.RowKit Sp Pa Te Mi De Tr Lt
def roD (rs:List RuL) (q:Nat):List RuL:=rs.filter fun r=>decide (r.frm=(q:Int))
def foD (fs:List FiL) (q:Nat):List FiL:=fs.filter fun r=>decide (r.frm=(q:Int))
def cU (rs:List RuL) (N:Nat):List RuL:=I9 (roD rs) (N+2) (List.range N)
def cV (rs:List RuL) (fs:List FiL) (N:Nat):List FiL:=Ja (roD rs) (foD fs) (N+2) (List.range N)
def dI (rs:List RuL) (fs:List FiL) (N:Nat):Prop:=(cU rs N).length<=4096/\(cV rs fs N).length<=4096/\(∀r∈cU rs N,r.out.length<=64)/\∀f∈cV rs fs N,f.out.length<=64
theorem zH {rs:List RuL} {q:Nat} {r:RuL} (h:r∈roD rs q):r∈rs/\r.frm=(q:Int):=by
 obtain⟨h1,h2⟩:=List.mem_filter.1 h;exact⟨h1,by simpa using h2⟩
theorem He {rs:List FiL} {q:Nat} {r:FiL} (h:r∈foD rs q):r∈rs/\r.frm=(q:Int):=by
 obtain⟨h1,h2⟩:=List.mem_filter.1 h;exact⟨h1,by simpa using h2⟩
theorem lY {rs:List RuL} {N:Nat} {r:RuL} (h:r∈cU rs N):∃r0∈rs,r0.gs.length≠0/\∃(q:Nat) (ts:List TmL),q<N/\r=jY (q:Int) ts r0:=by
 unfold cU I9 at h;obtain⟨q,hq,h⟩:=List.mem_flatMap.1 h;unfold gT at h;obtain⟨z,_,h⟩:=List.mem_flatMap.1 h;unfold bN at h;obtain⟨r0,h0,rfl⟩:=List.mem_map.1 h;obtain⟨h1,h2⟩:=List.mem_filter.1 h0;exact⟨r0,(zH h1).1,by simpa using h2,q,z.2,List.mem_range.1 hq,rfl⟩
theorem lZ {rs:List RuL} {fs:List FiL} {N:Nat} {r:FiL} (h:r∈cV rs fs N):∃r0∈fs,∃(q:Nat) (ts:List TmL),q<N/\r=mC (q:Int) ts r0:=by
 unfold cV Ja at h;obtain⟨q,hq,h⟩:=List.mem_flatMap.1 h;unfold gU at h;obtain⟨z,_,h⟩:=List.mem_flatMap.1 h;unfold cB at h;obtain⟨r0,h0,rfl⟩:=List.mem_map.1 h;exact⟨r0,(He h0).1,q,z.2,List.mem_range.1 hq,rfl⟩
theorem oB {rs:List RuL} {N:Nat} (hc:jo (bF rs) N=false) (_:∀r∈rs,0<=r.frm/\0<=r.to_) (q:Nat) (r:RuL) (h:r∈roD rs q) (h0:r.gs.length=0):rkE (bF rs) N r.to_.toNat<rkE (bF rs) N q:=by
 obtain⟨h1,h2⟩:=zH h;refine j9 hc (iL (rs:=rs) (x:=q) (t:=r.to_.toNat) ?_);unfold fN;exact List.mem_map.2 ⟨r,List.mem_filter.2 ⟨h1,by simp[h0,h2]⟩,rfl⟩
theorem mZ (E:List Eg) (N q:Nat):rkE E N q<=N+1:=by
 unfold rkE;omega
theorem vh {rs:List RuL} {fs:List FiL} {N:Nat} (hc:jo (bF rs) N=false) (hr:∀r∈rs,0<=r.frm/\0<=r.to_):l5 (roD rs) (foD fs) (N+2) (List.range N) ([],[])=chk ([],[]) (cU rs N) (cV rs fs N):=
 Br (rk:=rkE (bF rs) N) (oB hc hr) (fun q=>by have:=mZ (bF rs) N q;omega) (List.range N) ([],[]) (by simp) (by simp)
theorem vg {rs:List RuL} {fs:List FiL} {N:Nat} (hc:jo (bF rs) N=false) (hr:∀r∈rs,0<=r.frm/\0<=r.to_) (h:dI rs fs N):l5 (roD rs) (foD fs) (N+2) (List.range N) ([],[])=some (cU rs N,cV rs fs N):=by
 obtain⟨h1,h2,h3,h4⟩:=h;rw[vh hc hr];unfold chk;rw[if_pos ⟨by simpa using h1,by simpa using h2,h3,h4⟩];simp
theorem EF {rs:List RuL} {fs:List FiL} {N:Nat} (hc:jo (bF rs) N=false) (hr:∀r∈rs,0<=r.frm/\0<=r.to_) (h : ¬ dI rs fs N):l5 (roD rs) (foD fs) (N+2) (List.range N) ([],[])=none:=by
 rw[vh hc hr];unfold chk;rw[if_neg];rintro⟨h1,h2,h3,h4⟩;exact h ⟨by simpa using h1,by simpa using h2,h3,h4⟩
structure Jb (w0:World) (N:Nat) (P:List (RuL×bZ)) (PF:List (FiL×gu)):Prop where
 ir:∀p∈P,jQ w0 p.1 p.2
 ifn:∀p∈PF,rI w0 p.1 p.2
 num:N<=1024
 pl:P.length<=4096
 fl:PF.length<=4096
 br:∀p∈P,0<=p.1.to_/\p.1.to_<N/\p.1.gs.length<=4/\(∀g∈p.1.gs,g.length<=64)/\p.1.out.length<=64/\∀t∈p.1.out,t.ps.length<=4
 bf:∀p∈PF,p.1.gs.length<=4/\(∀g∈p.1.gs,g.length<=64)/\p.1.out.length<=64/\∀t∈p.1.out,t.ps.length<=4
 nr:∀p∈P,p.2.TA=none->p.2.tc=0
 nf:∀p∈PF,p.2.TA=none->p.2.tc=0
 kr:∀x∈P.map (·.2),x.frm<N
 kf:∀x∈PF.map (·.2),x.frm<N
theorem Jb.src {w0 wR wF:World} {x bs gR gF N:Nat} {P:List (RuL×bZ)} {PF:List (FiL×gu)} (h:Jb w0 N P PF) (h1:cI 5 mD 23 43 wR gR (gR+1) N (byL bZ.frm (P.map (·.2)))) (h2:cI 3 sU 24 45 wF gF (gF+1) N (byL gu.frm (PF.map (·.2)))) (h3:x<gR\/wR.heap.size<=x) (h4:x<gF\/wF.heap.size<=x) (h5:wR.heap.size<=bs) (h6:wF.heap.size<=bs) (h7:w0.heap.size<=x):Src w0 wR wF x bs gR gF N P PF:=
 ⟨h1,h2,h3,h4,h5,h6,h.ir,h.ifn,h7,h.num,h.pl,h.fl,h.br,h.bf,h.nr,h.nf⟩
theorem zN {α:Type} {k m:Nat} {enc:α->List Value} {w:World} {A:Option Addr} {l:List α} (hk:RK m enc w A l) (hn:rM w A l.length m k) (hkm:k<m) {x:α} (hx:x∈l) {ln c:Nat} (he:(enc x)[k]? = some (.slice none ln c)):c=0:=by
 obtain⟨j,hj,rfl⟩:=List.mem_iff_getElem.1 hx;obtain⟨b,off,hA,_,hc⟩:=hk (by omega);exact hn b off hA j hj ln c ((hc j hj k hkm).trans he)
theorem Jk {i o s:Int} {N:Nat} {A:Option Addr} {cr:Nat} {B:Option Addr} {cf:Nat} {rs:List RuL} {fs:List FiL} {w:World} (hd:DM w ⟨i,o,(N:Int),s,A,cr,B,cf,rs,fs⟩) (hR:mz ⟨i,o,(N:Int),s,A,cr,B,cf,rs,fs⟩) :
  ∃P PF,P.map (·.1)=rs/\PF.map (·.1)=fs/\RK 5 mD w A (P.map (·.2))/\RK 3 sU w B (PF.map (·.2))/\Jb w N P PF:=by
 obtain⟨P,hP,hK,hI⟩:=qm hd.rules fun r hr=>(hR.rs r hr).1
 obtain⟨PF,hPF,hKF,hIF⟩:=wT hd.finals fun r hr=>(hR.fs r hr).1
 replace hP:P.map (·.1)=rs:=hP;replace hPF:PF.map (·.1)=fs:=hPF;have hmr:∀p∈P,p.1∈rs:=fun p hp=>by rw[<- hP];exact List.mem_map.2 ⟨p,hp,rfl⟩
 have hmf:∀p∈PF,p.1∈fs:=fun p hp=>by rw[<- hPF];exact List.mem_map.2 ⟨p,hp,rfl⟩
 have hN:=hR.n;have hlr:P.length=rs.length:=by rw[<- hP,List.length_map]
 have hlf:PF.length=fs.length:=by rw[<- hPF,List.length_map]
 have h4096:=hR.r;have h4097:=hR.f;dsimp only at hN h4096 h4097;refine⟨P,PF,hP,hPF,hK,hKF,hI,hIF,by omega,by omega,by omega,fun p hp=>?_,fun p hp=>?_,fun p hp he=>?_,fun p hp he=>?_,fun x hx=>?_,fun x hx=>?_⟩
 ·obtain⟨_,_,h3,h4,h5,h6,h7,h8,_⟩:=hR.rs p.1 (hmr p hp)
  exact⟨h3,h4,h5,h6,h7,h8⟩
 ·obtain⟨_,_,h5,h6,h7,h8⟩:=hR.fs p.1 (hmf p hp)
  exact⟨h5,h6,h7,h8⟩
 ·refine zN (k:=4) (ln:=p.2.tn) hK (by rw[List.length_map,hlr];exact hd.nr) (by omega) (List.mem_map.2 ⟨p,hp,rfl⟩) ?_
  show some (Value.slice p.2.TA p.2.tn p.2.tc)=_;rw[he]
 ·refine zN (k:=2) (ln:=p.2.tn) hKF (by rw[List.length_map,hlf];exact hd.nf) (by omega) (List.mem_map.2 ⟨p,hp,rfl⟩) ?_
  show some (Value.slice p.2.TA p.2.tn p.2.tc)=_;rw[he]
 ·obtain⟨p,hp,rfl⟩:=List.mem_map.1 hx
  have h1:=(hI p hp).frm;have h2:=(hR.rs p.1 (hmr p hp)).2.1;dsimp only at h2;omega
 ·obtain⟨p,hp,rfl⟩:=List.mem_map.1 hx
  have h1:=(hIF p hp).frm;have h2:=(hR.fs p.1 (hmf p hp)).2.1;dsimp only at h2;omega
theorem Jq {w:World} {N:Nat} {P:List (RuL×bZ)} {PF:List (FiL×gu)} {rs:List RuL} (h:Jb w N P PF) (hP:P.map (·.1)=rs):ro P=roD rs:=by
 funext q
 unfold ro pq roD;rw[<- hP,List.filter_map]
 congr 1
 refine List.filter_congr fun p hp=>?_
 have:=(h.ir p hp).frm;show(p.2.frm == q)=decide (p.1.frm=(q:Int));by_cases e:p.2.frm=q
 ·rw[beq_iff_eq.2 e,decide_eq_true (by omega)]
 ·rw[beq_eq_false_iff_ne.2 e,decide_eq_false (by omega)]
theorem Me {w:World} {N:Nat} {P:List (RuL×bZ)} {PF:List (FiL×gu)} {fs:List FiL} (h:Jb w N P PF) (hP:PF.map (·.1)=fs):fo PF=foD fs:=by
 funext q
 unfold fo pqF foD;rw[<- hP,List.filter_map]
 congr 1
 refine List.filter_congr fun p hp=>?_
 have:=(h.ifn p hp).frm;show(p.2.frm == q)=decide (p.1.frm=(q:Int));by_cases e:p.2.frm=q
 ·rw[beq_iff_eq.2 e,decide_eq_true (by omega)]
 ·rw[beq_eq_false_iff_ne.2 e,decide_eq_false (by omega)]
def IV (w0 wR wF:World) (bs x gR gF N:Nat) (i o n s:Int) (RO:Nat->List RuL) (FO:Nat->List FiL) (res:Option Acc) (wz:World) (iv:Value) (wr:World):Prop:=
 ∃(k:Nat) (a:Acc) (v vf:Value),k<=N/\iv = .int .i64 (k:Int)/\l5 RO FO (N+2) ((List.range N).drop k) a=res/\a.1.length<=4096/\a.2.length<=4096/\FS (fun _=>False) bs x (.slice (some ⟨gR,0,none⟩) N N) (.slice (some ⟨gF,0,none⟩) N N) i o n s a.1 a.2 v vf wr/\In0 w0 wR wF gR gF wr/\Below x wz wr/\bs<=wr.heap.size
theorem nS {RO:Nat->List RuL} {FO:Nat->List FiL} {M N k:Nat} {a:Acc} (hk:k<N):l5 RO FO M ((List.range N).drop k) a=(pz RO FO (k:Int) M k [] a).bind (l5 RO FO M ((List.range N).drop (k+1))):=by
 rw[List.drop_eq_getElem_cons (by simpa using hk),List.getElem_range];rfl
end Go.Proofs.YtbdmcibcenhpnaaGreatDoor.Ep
namespace Go.Proofs.YtbdmcibcenhpnaaGreatDoor.Ep
set_option maxHeartbeats 64000000
open Go Go.RowKit Sp Pa Te Mi De Tr Lt
open Go.Lib (hid)
structure KU (w1 w:World) (g:Nat):Prop where
 size:w1.heap.size<=w.heap.size
 eq:∀b,g<=b->b<w1.heap.size->w.heap[b]? = w1.heap[b]?
theorem KU.refl (w:World) (g:Nat):KU w w g:=⟨Nat.le_refl _,fun _ _ _=>rfl⟩
theorem KU.up {w1 w w':World} {g:Nat} (h:KU w1 w g) (hb:Below w.heap.size w w'):KU w1 w' g:=⟨Nat.le_trans h.size hb.size,fun b h1 h2=>(hb.block b (by have:=h.size;omega)).trans (h.eq b h1 h2)⟩
def vM (E:Int) (w:World) (e:Ending) (w':World):Prop:=e = .returned (.tuple #[dsc 0 0 0 0 none 0 0 none 0 0,.int .i64 E])/\Below w.heap.size w w'
def jK (i o:Int) (N:Nat) (s:Int) (rs:List RuL) (fs:List FiL) (w:World) (e:Ending) (w':World):Prop:=Below w.heap.size w w' /\
 ((¬ dI rs fs N/\e = .returned (.tuple #[dsc 0 0 0 0 none 0 0 none 0 0,.int .i64 4])) \/
  (dI rs fs N/\∃A' cr' B' cf',e = .returned (.tuple #[dsc i o (N:Int) s A' (cU rs N).length cr' B' (cV rs fs N).length cf',.int .i64 0])/\DM w' ⟨i,o,(N:Int),s,A',cr',B',cf',cU rs N,cV rs fs N⟩))
def KE (w0 w2:World) (N:Nat) (i o s:Int) (P:List (RuL×bZ)) (PF:List (FiL×gu)) (v:Value) (wz:World):Prop:=
 ∃(x gR gF bs:Nat) (wR wF:World),v = .pointer (some ⟨x,0,none⟩)/\Src w0 wR wF x bs gR gF N P PF/\In0 w0 wR wF gR gF wz/\FS (fun _=>False) bs x (.slice (some ⟨gR,0,none⟩) N N) (.slice (some ⟨gF,0,none⟩) N N) i o (N:Int) s [] [] (.slice none 0 0) (.slice none 0 0) wz/\Below w2.heap.size w2 wz/\bs<=wz.heap.size/\w2.heap.size<=x
theorem JY {w0 w2 wR wF wz:World} {x gR gF N:Nat} {i o s:Int} {P:List (RuL×bZ)} {PF:List (FiL×gu)} (h:Jb w0 N P PF) (hR:cI 5 mD 23 43 wR gR (gR+1) N (byL bZ.frm (P.map (·.2)))) (hF:cI 3 sU 24 45 wF gF (gF+1) N (byL gu.frm (PF.map (·.2))))
  (hrx:x<gR\/wR.heap.size<=x) (hfx:x<gF\/wF.heap.size<=x) (hrs:wR.heap.size<=wz.heap.size) (hfs:wF.heap.size<=wz.heap.size) (hkr:∀b,gR<=b->b<wR.heap.size->wz.heap[b]? = wR.heap[b]?) (hkf:∀b,gF<=b->b<wF.heap.size->wz.heap[b]? = wF.heap[b]?)
  (hb:Below w2.heap.size w2 wz) (h0:w0.heap.size<=w2.heap.size) (h02:Below w0.heap.size w0 w2) (hx:w2.heap.size<=x) (JO:kN wz x (.slice (some ⟨gR,0,none⟩) N N) (.slice (some ⟨gF,0,none⟩) N N) i o (N:Int) s (.slice none 0 0) (.slice none 0 0)) :
  KE w0 w2 N i o s P PF (.pointer (some ⟨x,0,none⟩)) wz:=
 ⟨x,gR,gF,wz.heap.size,wR,wF,rfl,h.src hR hF hrx hfx hrs hfs (by omega),⟨h02.trans (hb.mono h0),hkr,hkf⟩,⟨JO,fP.dS _ _ _,fQ.dS _ _ _,fun g e=>by simp[Value.ownBlock]at e,JO.lt,fun g e=>by simp[Value.ownBlock]at e,fun g e=>by simp[Value.ownBlock]at e,fun b hb=>hb.elim,tL.dS _ _ _ _ _,tL.dS _ _ _ _ _⟩,hb,Nat.le_refl _,hx⟩
theorem EG {wr wE:World} {bs x b1:Nat} {ru fi:Value} {i o n s:Int} {L:List RuL} {F:List FiL} {A B:Option Addr} {cr cf:Nat} (h:FS (fun _=>False) bs x ru fi i o n s L F (.slice A L.length cr) (.slice B F.length cf) wr) (hk:∀g,g≠b1->wE.heap[g]? = wr.heap[g]?) (hs:wE.heap.size=wr.heap.size) (hb:b1<bs)
  (hl:∀r∈L,r.gs.length<=maxLen/\(∀g∈r.gs,g.length<=maxLen)/\r.out.length<=maxLen/\rN r.eat) (hf:∀r∈F,r.gs.length<=maxLen/\(∀g∈r.gs,g.length<=maxLen)/\r.out.length<=maxLen):DM wE ⟨i,o,n,s,A,cr,B,cf,L,F⟩:=by
 have ho1:∀g,(Value.slice A L.length cr).ownBlock=some g->bs<=g:=fun g e=>by
  obtain⟨vs0,q0,_⟩:=h.rules;exact(World.ownsRow.lt q0 g e).1
 have ho2:∀g,(Value.slice B F.length cf).ownBlock=some g->bs<=g:=fun g e=>by
  obtain⟨vs0,q0,_⟩:=h.finals;exact(World.ownsRow.lt q0 g e).1
 have hr:=(h.rules.keep (w':=wE) (by omega) (fun g e=>hk g (by have:=ho1 g e;omega)) (fun b hb2 _ _=>hk b (by have:=hb2.1.1;omega)) (fun _ hp _=>hp)).reads hl;have hfi:=(h.finals.keep (w':=wE) (by omega) (fun g e=>hk g (by have:=ho2 g e;omega)) (fun b hb2 _ _=>hk b (by have:=hb2.1.1;omega)) (fun _ hp _=>hp)).reads hf;obtain⟨A1,c1,e1,r1,_,r2⟩:=hr;obtain⟨A2,c2,e2,f1,_,f2⟩:=hfi;injection e1 with e1 _ e1c;injection e2 with e2 _ e2c;subst e1 e2;exact⟨r1,r2,f1,f2,(h.nr.keep (w':=wE) (fun g e=>hk g (by have:=ho1 g e;omega))).Nn (by omega),(h.nf.keep (w':=wE) (fun g e=>hk g (by have:=ho2 g e;omega))).Nn (by omega)⟩
theorem uZ (i o n s:Int) (A:Option Addr) (cr:Nat) (B:Option Addr) (cf:Nat) (rs:List RuL) (fs:List FiL) (w:World) (hd:DM w ⟨i,o,n,s,A,cr,B,cf,rs,fs⟩) (hT:Fi.jh w) (E:Int) (hE:E=2\/E=4) (hv:(jU i o n s rs fs).2=E) :
  Calls Tryz.prog 11 #[dsc i o n s A rs.length cr B fs.length cf] w (vM E w):=by
 obtain⟨w2,hw2⟩:∃w2,(w.alloc (.cells #[.int .i64 i,.int .i64 o,.int .i64 n,.int .i64 s,.slice A rs.length cr,.slice B fs.length cf] 26)).alloc (.cells #[.int .i64 0,.int .i64 0,.int .i64 0,.int .i64 0,.slice none 0 0,.slice none 0 0] 26)=w2:=⟨_,rfl⟩;have hs2:w2.heap.size=w.heap.size+2:=by rw[<- hw2];simp
 have hb2:Below w.heap.size w w2:=by rw[<- hw2];exact((Below.refl _ _).alloc (Nat.le_refl _) _).alloc (by simp) _
 have hqd:Blk w2 w.heap.size 26 #[.int .i64 i,.int .i64 o,.int .i64 n,.int .i64 s,.slice A rs.length cr,.slice B fs.length cf]:=by
  rw[<- hw2];exact(show Blk _ _ _ _ from heap_alloc_new w _).alloc _
 have hqz:Blk w2 (w.heap.size+1) 26 #[.int .i64 0,.int .i64 0,.int .i64 0,.int .i64 0,.slice none 0 0,.slice none 0 0]:=by
  rw[<- hw2];have h:=heap_alloc_new (w.alloc (.cells #[.int .i64 i,.int .i64 o,.int .i64 n,.int .i64 s,.slice A rs.length cr,.slice B fs.length cf] 26)) (.cells #[.int .i64 0,.int .i64 0,.int .i64 0,.int .i64 0,.slice none 0 0,.slice none 0 0] 26);rw[World.size_alloc]at h;exact h
 have H2:=hid (show w.heap.size<=w2.heap.size/\w2.heap.size=w.heap.size+2 from⟨by omega,hs2⟩);have HBW:=hid (fun W (h:Below w2.heap.size w2 W)=>show Below w.heap.size w W from hb2.trans (h.mono H2.out.1));have HDB:=hid (fun W (h:Below w2.heap.size w2 W)=>show DB W w.heap.size i o n s A rs.length cr B fs.length cf from by
  have h1:=hqd.below h (by omega);exact⟨h1.cell 0,h1.cell 1,h1.cell 2,h1.cell 3,h1.cell 4,h1.cell 5⟩)
 have HQD:=hid (fun W (h:Below w2.heap.size w2 W)=>show Blk W w.heap.size 26 #[.int .i64 i,.int .i64 o,.int .i64 n,.int .i64 s,.slice A rs.length cr,.slice B fs.length cf]from hqd.below h (by omega));have HZ:=hid (fun W (h:Below w2.heap.size w2 W)=>show Blk W (w.heap.size+1) 26 #[.int .i64 0,.int .i64 0,.int .i64 0,.int .i64 0,.slice none 0 0,.slice none 0 0]from hqz.below h (by omega));clear hs2;have hC:=oq i o n s A cr B cf rs fs w2 (hd.below hb2) (hT.next hb2);obtain⟨V,hV⟩:∃V,jU i o n s rs fs=V:=⟨_,rfl⟩;rw[hV]at hC hv;obtain⟨V1,V2⟩:=V;simp only at hv;subst hv;have HC:=hid hC;obtain⟨p0,p1,p2,p3,p4,p5⟩:=HDB.out w2 (Below.refl _ _);clear hd hT hb2 hqd hqz hC hV;go_enter Tryz.func11,Tryz.ntmps11;go_wp2_with (fail);refine HC.out.mono ?_;rintro e w3 ⟨rfl,hb3⟩;have oZ:=hid hb3;clear hb3 p0 p1 p2 p3 p4 p5;have HZE:=hid (HZ.out w3 oZ.out);have z0:=HZE.out.cell 0;have y0:=HZE.out.frozen 0;have z1:=HZE.out.cell 1;have y1:=HZE.out.frozen 1;have z2:=HZE.out.cell 2;have y2:=HZE.out.frozen 2;have z3:=HZE.out.cell 3;have y3:=HZE.out.frozen 3;have z4:=HZE.out.cell 4;have y4:=HZE.out.frozen 4;have z5:=HZE.out.cell 5;have y5:=HZE.out.frozen 5;simp only[sD,sE,sF]at z0 z1 z2 z3 z4 z5;rcases hE with rfl | rfl
 ·go_wp2_with (fail)
  obtain⟨wE,hwE⟩:∃wE,(((((w3.setCell ⟨w.heap.size+1,0,none⟩ (.int .i64 0)).setCell ⟨w.heap.size+1,1,none⟩ (.int .i64 0)).setCell ⟨w.heap.size+1,2,none⟩ (.int .i64 0)).setCell ⟨w.heap.size+1,3,none⟩ (.int .i64 0)).setCell ⟨w.heap.size+1,4,none⟩ (.slice none 0 0)).setCell ⟨w.heap.size+1,5,none⟩ (.slice none 0 0)=wE:=⟨_,rfl⟩;have hqE:Blk wE (w.heap.size+1) 26 #[.int .i64 0,.int .i64 0,.int .i64 0,.int .i64 0,.slice none 0 0,.slice none 0 0]:=by
   rw[<- hwE];exact((((((HZE.out.aV 0 _).aV 1 _).aV 2 _).aV 3 _).aV 4 _).aV 5 _)
  have hbE:Below w.heap.size w wE:=by
   rw[<- hwE];exact(((((((HBW.out w3 oZ.out).setCell (by simp) _).setCell (by simp) _).setCell (by simp) _).setCell (by simp) _).setCell (by simp) _).setCell (by simp) _)
  have iq:∀g,g≠w.heap.size+1->wE.heap[g]? = w3.heap[g]?:=fun g hg=>by
   rw[<- hwE];rw[heap_setCell_other _ ⟨w.heap.size+1,5,none⟩ g _ hg,heap_setCell_other _ ⟨w.heap.size+1,4,none⟩ g _ hg,heap_setCell_other _ ⟨w.heap.size+1,3,none⟩ g _ hg,heap_setCell_other _ ⟨w.heap.size+1,2,none⟩ g _ hg,heap_setCell_other _ ⟨w.heap.size+1,1,none⟩ g _ hg,heap_setCell_other _ ⟨w.heap.size+1,0,none⟩ g _ hg]
  have hsE:wE.heap.size=w3.heap.size:=by rw[<- hwE];simp
  have k0:=hqE.cell 0;have k1:=hqE.cell 1;have k2:=hqE.cell 2;have k3:=hqE.cell 3;have k4:=hqE.cell 4;have k5:=hqE.cell 5;simp only[sD,sE,sF]at k0 k1 k2 k3 k4 k5;try rw[hwE]
  have gD:vM 2 w (.returned (.tuple #[dsc 0 0 0 0 none 0 0 none 0 0,.int .i64 2])) wE:=⟨rfl,hbE⟩;exact bodyPost_ret (v:=.tuple #[dsc 0 0 0 0 none 0 0 none 0 0,.int .i64 2]) (by simp[results,Tryz.results11,go_sem,k0,k1,k2,k3,k4,k5]) rfl gD
 ·go_wp2_with (fail)
  obtain⟨wE,hwE⟩:∃wE,(((((w3.setCell ⟨w.heap.size+1,0,none⟩ (.int .i64 0)).setCell ⟨w.heap.size+1,1,none⟩ (.int .i64 0)).setCell ⟨w.heap.size+1,2,none⟩ (.int .i64 0)).setCell ⟨w.heap.size+1,3,none⟩ (.int .i64 0)).setCell ⟨w.heap.size+1,4,none⟩ (.slice none 0 0)).setCell ⟨w.heap.size+1,5,none⟩ (.slice none 0 0)=wE:=⟨_,rfl⟩;have hqE:Blk wE (w.heap.size+1) 26 #[.int .i64 0,.int .i64 0,.int .i64 0,.int .i64 0,.slice none 0 0,.slice none 0 0]:=by
   rw[<- hwE];exact((((((HZE.out.aV 0 _).aV 1 _).aV 2 _).aV 3 _).aV 4 _).aV 5 _)
  have hbE:Below w.heap.size w wE:=by
   rw[<- hwE];exact(((((((HBW.out w3 oZ.out).setCell (by simp) _).setCell (by simp) _).setCell (by simp) _).setCell (by simp) _).setCell (by simp) _).setCell (by simp) _)
  have iq:∀g,g≠w.heap.size+1->wE.heap[g]? = w3.heap[g]?:=fun g hg=>by
   rw[<- hwE];rw[heap_setCell_other _ ⟨w.heap.size+1,5,none⟩ g _ hg,heap_setCell_other _ ⟨w.heap.size+1,4,none⟩ g _ hg,heap_setCell_other _ ⟨w.heap.size+1,3,none⟩ g _ hg,heap_setCell_other _ ⟨w.heap.size+1,2,none⟩ g _ hg,heap_setCell_other _ ⟨w.heap.size+1,1,none⟩ g _ hg,heap_setCell_other _ ⟨w.heap.size+1,0,none⟩ g _ hg]
  have hsE:wE.heap.size=w3.heap.size:=by rw[<- hwE];simp
  have k0:=hqE.cell 0;have k1:=hqE.cell 1;have k2:=hqE.cell 2;have k3:=hqE.cell 3;have k4:=hqE.cell 4;have k5:=hqE.cell 5;simp only[sD,sE,sF]at k0 k1 k2 k3 k4 k5;try rw[hwE]
  have gD:vM 4 w (.returned (.tuple #[dsc 0 0 0 0 none 0 0 none 0 0,.int .i64 4])) wE:=⟨rfl,hbE⟩;exact bodyPost_ret (v:=.tuple #[dsc 0 0 0 0 none 0 0 none 0 0,.int .i64 4]) (by simp[results,Tryz.results11,go_sem,k0,k1,k2,k3,k4,k5]) rfl gD
theorem sQ (i o:Int) (N:Nat) (s:Int) (A:Option Addr) (cr:Nat) (B:Option Addr) (cf:Nat) (rs:List RuL) (fs:List FiL) (w:World) (hd:DM w ⟨i,o,(N:Int),s,A,cr,B,cf,rs,fs⟩) (hT:Fi.jh w) (hw:(aW i o (N:Int) s rs fs).1=0) (hn:gQ rs N<=4096) :
  Calls Tryz.prog 11 #[dsc i o (N:Int) s A rs.length cr B fs.length cf] w (jK i o N s rs fs w):=by
 obtain⟨w2,hw2⟩:∃w2,(w.alloc (.cells #[.int .i64 i,.int .i64 o,.int .i64 (N:Int),.int .i64 s,.slice A rs.length cr,.slice B fs.length cf] 26)).alloc (.cells #[.int .i64 0,.int .i64 0,.int .i64 0,.int .i64 0,.slice none 0 0,.slice none 0 0] 26)=w2:=⟨_,rfl⟩;have hs2:w2.heap.size=w.heap.size+2:=by rw[<- hw2];simp
 have hb2:Below w.heap.size w w2:=by rw[<- hw2];exact((Below.refl _ _).alloc (Nat.le_refl _) _).alloc (by simp) _
 have hqd:Blk w2 w.heap.size 26 #[.int .i64 i,.int .i64 o,.int .i64 (N:Int),.int .i64 s,.slice A rs.length cr,.slice B fs.length cf]:=by
  rw[<- hw2];exact(show Blk _ _ _ _ from heap_alloc_new w _).alloc _
 have hqz:Blk w2 (w.heap.size+1) 26 #[.int .i64 0,.int .i64 0,.int .i64 0,.int .i64 0,.slice none 0 0,.slice none 0 0]:=by
  rw[<- hw2];have h:=heap_alloc_new (w.alloc (.cells #[.int .i64 i,.int .i64 o,.int .i64 (N:Int),.int .i64 s,.slice A rs.length cr,.slice B fs.length cf] 26)) (.cells #[.int .i64 0,.int .i64 0,.int .i64 0,.int .i64 0,.slice none 0 0,.slice none 0 0] 26);rw[World.size_alloc]at h;exact h
 have H2:=hid (show w.heap.size<=w2.heap.size/\w2.heap.size=w.heap.size+2 from⟨by omega,hs2⟩);have HBW:=hid (fun W (h:Below w2.heap.size w2 W)=>show Below w.heap.size w W from hb2.trans (h.mono H2.out.1));have HDB:=hid (fun W (h:Below w2.heap.size w2 W)=>show DB W w.heap.size i o (N:Int) s A rs.length cr B fs.length cf from by
  have h1:=hqd.below h (by omega);exact⟨h1.cell 0,h1.cell 1,h1.cell 2,h1.cell 3,h1.cell 4,h1.cell 5⟩)
 have HQD:=hid (fun W (h:Below w2.heap.size w2 W)=>show Blk W w.heap.size 26 #[.int .i64 i,.int .i64 o,.int .i64 (N:Int),.int .i64 s,.slice A rs.length cr,.slice B fs.length cf]from hqd.below h (by omega));have HZ:=hid (fun W (h:Below w2.heap.size w2 W)=>show Blk W (w.heap.size+1) 26 #[.int .i64 0,.int .i64 0,.int .i64 0,.int .i64 0,.slice none 0 0,.slice none 0 0]from hqz.below h (by omega));clear hs2;have hR:mz ⟨i,o,(N:Int),s,A,cr,B,cf,rs,fs⟩:=DV.right.qg (d:=⟨i,o,(N:Int),s,A,cr,B,cf,rs,fs⟩) hw;have hNN:1<=N/\N<=1024:=by have h1:=hR.n;dsimp only at h1;omega
 have Bh:=lq hw;have hrp:∀r∈rs,0<=r.frm/\0<=r.to_:=fun r hr=>⟨(hR.rs r hr).1,(hR.rs r hr).2.2.1⟩
 have hC:=oq i o (N:Int) s A cr B cf rs fs w2 (hd.below hb2) (hT.next hb2);have hv:jU i o (N:Int) s rs fs=((gQ rs N:Int),0):=by
  unfold jU;rw[if_pos hw,Int.toNat_natCast,if_pos hn]
 rw[hv]at hC;obtain⟨k0,hk0⟩:∃k0,gQ rs N=k0:=⟨_,rfl⟩;rw[hk0]at hC;have HC:=hid hC;obtain⟨P,PF,hP,hPF,hK,hKF,hSP⟩:=Jk hd hR;obtain⟨res,hres⟩:∃res,l5 (roD rs) (foD fs) (N+2) (List.range N) ([],[])=res:=⟨_,rfl⟩;have yK:=hid (show l5 (ro P) (fo PF) (N+2) (List.range N) ([],[])=res from by rw[Jq hSP hP (PF:=PF),Me hSP hPF];exact hres);have Pu:=hid (show∀a,res=some a->dI rs fs N/\a=(cU rs N,cV rs fs N)from fun a ha=>by
  by_cases hok:dI rs fs N
  ·rw[vg Bh hrp hok]at hres
   rw[ha]at hres;injection hres with hres;exact⟨hok,hres.symm⟩
  ·rw[EF Bh hrp hok]at hres
   rw[ha]at hres
   cases hres)
 have Pv:=hid (show res=none->¬ dI rs fs N from fun ha hok=>by
  rw[vg Bh hrp hok,ha]at hres
  cases hres)
 have HRK:=hid (show∀q,q<N->∀pr∈pq P q,pr.1.gs.length=0->rkE (bF rs) N pr.1.to_.toNat<rkE (bF rs) N q from fun q _ pr hpr h0=>oB Bh hrp q pr.1 (by
  rw[<- Jq hSP hP (PF:=PF)];exact List.mem_map.2 ⟨pr,hpr,rfl⟩) h0)
 have hPl:rs.length=(P.map (·.2)).length:=by rw[<- hP,List.length_map,List.length_map]
 have Ob:fs.length=(PF.map (·.2)).length:=by rw[<- hPF,List.length_map,List.length_map]
 have HBR:=hid (fun W (h:Below w2.heap.size w2 W)=>show Calls Tryz.prog 16 #[.slice A rs.length cr,.int .i64 N,.func (.func 17) #[] #[]] W (F8 (P.map (·.2)) N W)from by
  rw[hPl];exact Ch A cr (P.map (·.2)) N W (hK.below (HBW.out W h)) (by have:=hSP.pl;rw[List.length_map];omega) ⟨hNN.1,by omega⟩ hSP.kr)
 have HBF:=hid (fun W (h:Below w2.heap.size w2 W)=>show Calls Tryz.prog 22 #[.slice B fs.length cf,.int .i64 N,.func (.func 23) #[] #[]] W (Ga (PF.map (·.2)) N W)from by
  rw[Ob];exact Hr B cf (PF.map (·.2)) N W (hKF.below (HBW.out W h)) (by have:=hSP.fl;rw[List.length_map];omega) ⟨hNN.1,by omega⟩ hSP.kf)
 have HSP:=hid hSP;have HRL:=hid (show dI rs fs N->(∀r∈cU rs N,r.gs.length<=maxLen/\(∀g∈r.gs,g.length<=maxLen)/\r.out.length<=maxLen/\rN r.eat)/\(∀r∈cV rs fs N,r.gs.length<=maxLen/\(∀g∈r.gs,g.length<=maxLen)/\r.out.length<=maxLen)from fun hok=>⟨fun r hr=>by
  obtain⟨r0,h0,_,q,ts,_,rfl⟩:=lY hr;have h1:=hok.2.2.1 _ hr;obtain⟨_,_,_,_,h5,h6,_,_,h9,h10⟩:=hR.rs r0 h0;refine⟨by simp only[jY,maxLen];omega,fun g hg=>?_,by simp only[maxLen];omega,by simp only[jY,rN];omega⟩;have:=h6 g hg;simp only[maxLen];omega,fun r hr=>by
  obtain⟨r0,h0,q,ts,_,rfl⟩:=lZ hr;have h1:=hok.2.2.2 _ hr;obtain⟨_,_,h5,h6,_⟩:=hR.fs r0 h0;refine⟨by simp only[mC,maxLen];omega,fun g hg=>?_,by simp only[maxLen];omega⟩;have:=h6 g hg;simp only[maxLen];omega⟩)
 have HN:=hid hNN;have H02:=hid hb2;obtain⟨p0,p1,p2,p3,p4,p5⟩:=HDB.out w2 (Below.refl _ _);clear hd hT hw hv hb2 hqd hqz hR Bh hrp hres hP hPF hK hKF hSP hPl Ob hC hk0 hn hNN;go_enter Tryz.func11,Tryz.ntmps11;go_wp2_with (fail);refine HC.out.mono ?_;rintro e w3 ⟨rfl,hb3⟩;have H3:=hid hb3;clear hb3 p0 p1 p2 p3 p4 p5;go_upto_region 4 with(fail)
 go_cut [6] (fun v wx=>KE w w2 N i o s P PF v wx)
 case first=>
  obtain⟨wd,hwd⟩:∃wd,w3.drew=wd:=⟨_,rfl⟩;have hB:Below w2.heap.size w2 wd:=by rw[<- hwd];exact H3.out.drew
  refine wp_region_held_drew (S:=fun W=>Blk W w.heap.size 26 #[.int .i64 i,.int .i64 o,.int .i64 (N:Int),.int .i64 s,.slice A rs.length cr,.slice B fs.length cf]) (by kernel_rfl) (by rw[hwd];exact HQD.out wd hB) (fun hHeld=>?_);rw[hwd]at hHeld ⊢;refine tk 0 ⟨some 17,.fieldAddr 26 (.tmp 1) 4,_,_,_,none⟩ ?_ rfl ?_ ?_;rotate_left
  ·intro w' hSw
   (try dsimp only at hSw)
   have p0:=hSw.cell 0;have p1:=hSw.cell 1;have p2:=hSw.cell 2;have p3:=hSw.cell 3;have p4:=hSw.cell 4;have p5:=hSw.cell 5;simp only[sD,sE,sF]at p0 p1 p2 p3 p4 p5;go_simp;all_goals with_reducible rfl
  try simp only[Act.put,sA,sB,sC]
  refine tk 1 ⟨some 18,.load 23 (.tmp 17),_,_,_,none⟩ ?_ rfl ?_ ?_;rotate_left
  ·intro w' hSw
   (try dsimp only at hSw)
   have p0:=hSw.cell 0;have p1:=hSw.cell 1;have p2:=hSw.cell 2;have p3:=hSw.cell 3;have p4:=hSw.cell 4;have p5:=hSw.cell 5;simp only[sD,sE,sF]at p0 p1 p2 p3 p4 p5;go_simp;all_goals with_reducible rfl
  try simp only[Act.put,sA,sB,sC]
  refine tk 2 ⟨some 19,.fieldAddr 26 (.tmp 1) 2,_,_,_,none⟩ ?_ rfl ?_ ?_;rotate_left
  ·intro w' hSw
   (try dsimp only at hSw)
   have p0:=hSw.cell 0;have p1:=hSw.cell 1;have p2:=hSw.cell 2;have p3:=hSw.cell 3;have p4:=hSw.cell 4;have p5:=hSw.cell 5;simp only[sD,sE,sF]at p0 p1 p2 p3 p4 p5;go_simp;all_goals with_reducible rfl
  try simp only[Act.put,sA,sB,sC]
  refine tk 3 ⟨some 20,.load 3 (.tmp 19),_,_,_,none⟩ ?_ rfl ?_ ?_;rotate_left
  ·intro w' hSw
   (try dsimp only at hSw)
   have p0:=hSw.cell 0;have p1:=hSw.cell 1;have p2:=hSw.cell 2;have p3:=hSw.cell 3;have p4:=hSw.cell 4;have p5:=hSw.cell 5;simp only[sD,sE,sF]at p0 p1 p2 p3 p4 p5;go_simp;all_goals with_reducible rfl
  try simp only[Act.put,sA,sB,sC]
  refine tk 5 ⟨some 22,.fieldAddr 26 (.tmp 1) 5,_,_,_,none⟩ ?_ rfl ?_ ?_;rotate_left
  ·intro w' hSw
   (try dsimp only at hSw)
   have p0:=hSw.cell 0;have p1:=hSw.cell 1;have p2:=hSw.cell 2;have p3:=hSw.cell 3;have p4:=hSw.cell 4;have p5:=hSw.cell 5;simp only[sD,sE,sF]at p0 p1 p2 p3 p4 p5;go_simp;all_goals with_reducible rfl
  try simp only[Act.put,sA,sB,sC]
  refine tk 6 ⟨some 23,.load 24 (.tmp 22),_,_,_,none⟩ ?_ rfl ?_ ?_;rotate_left
  ·intro w' hSw
   (try dsimp only at hSw)
   have p0:=hSw.cell 0;have p1:=hSw.cell 1;have p2:=hSw.cell 2;have p3:=hSw.cell 3;have p4:=hSw.cell 4;have p5:=hSw.cell 5;simp only[sD,sE,sF]at p0 p1 p2 p3 p4 p5;go_simp;all_goals with_reducible rfl
  try simp only[Act.put,sA,sB,sC]
  refine tk 7 ⟨some 24,.fieldAddr 26 (.tmp 1) 2,_,_,_,none⟩ ?_ rfl ?_ ?_;rotate_left
  ·intro w' hSw
   (try dsimp only at hSw)
   have p0:=hSw.cell 0;have p1:=hSw.cell 1;have p2:=hSw.cell 2;have p3:=hSw.cell 3;have p4:=hSw.cell 4;have p5:=hSw.cell 5;simp only[sD,sE,sF]at p0 p1 p2 p3 p4 p5;go_simp;all_goals with_reducible rfl
  try simp only[Act.put,sA,sB,sC]
  refine tk 8 ⟨some 25,.load 3 (.tmp 24),_,_,_,none⟩ ?_ rfl ?_ ?_;rotate_left
  ·intro w' hSw
   (try dsimp only at hSw)
   have p0:=hSw.cell 0;have p1:=hSw.cell 1;have p2:=hSw.cell 2;have p3:=hSw.cell 3;have p4:=hSw.cell 4;have p5:=hSw.cell 5;simp only[sD,sE,sF]at p0 p1 p2 p3 p4 p5;go_simp;all_goals with_reducible rfl
  try simp only[Act.put,sA,sB,sC]
  refine tk 10 ⟨some 27,.fieldAddr 26 (.tmp 1) 0,_,_,_,none⟩ ?_ rfl ?_ ?_;rotate_left
  ·intro w' hSw
   (try dsimp only at hSw)
   have p0:=hSw.cell 0;have p1:=hSw.cell 1;have p2:=hSw.cell 2;have p3:=hSw.cell 3;have p4:=hSw.cell 4;have p5:=hSw.cell 5;simp only[sD,sE,sF]at p0 p1 p2 p3 p4 p5;go_simp;all_goals with_reducible rfl
  try simp only[Act.put,sA,sB,sC]
  refine tk 11 ⟨some 28,.load 22 (.tmp 27),_,_,_,none⟩ ?_ rfl ?_ ?_;rotate_left
  ·intro w' hSw
   (try dsimp only at hSw)
   have p0:=hSw.cell 0;have p1:=hSw.cell 1;have p2:=hSw.cell 2;have p3:=hSw.cell 3;have p4:=hSw.cell 4;have p5:=hSw.cell 5;simp only[sD,sE,sF]at p0 p1 p2 p3 p4 p5;go_simp;all_goals with_reducible rfl
  try simp only[Act.put,sA,sB,sC]
  refine tk 12 ⟨some 29,.fieldAddr 26 (.tmp 1) 1,_,_,_,none⟩ ?_ rfl ?_ ?_;rotate_left
  ·intro w' hSw
   (try dsimp only at hSw)
   have p0:=hSw.cell 0;have p1:=hSw.cell 1;have p2:=hSw.cell 2;have p3:=hSw.cell 3;have p4:=hSw.cell 4;have p5:=hSw.cell 5;simp only[sD,sE,sF]at p0 p1 p2 p3 p4 p5;go_simp;all_goals with_reducible rfl
  try simp only[Act.put,sA,sB,sC]
  refine tk 13 ⟨some 30,.load 22 (.tmp 29),_,_,_,none⟩ ?_ rfl ?_ ?_;rotate_left
  ·intro w' hSw
   (try dsimp only at hSw)
   have p0:=hSw.cell 0;have p1:=hSw.cell 1;have p2:=hSw.cell 2;have p3:=hSw.cell 3;have p4:=hSw.cell 4;have p5:=hSw.cell 5;simp only[sD,sE,sF]at p0 p1 p2 p3 p4 p5;go_simp;all_goals with_reducible rfl
  try simp only[Act.put,sA,sB,sC]
  refine tk 14 ⟨some 31,.fieldAddr 26 (.tmp 1) 2,_,_,_,none⟩ ?_ rfl ?_ ?_;rotate_left
  ·intro w' hSw
   (try dsimp only at hSw)
   have p0:=hSw.cell 0;have p1:=hSw.cell 1;have p2:=hSw.cell 2;have p3:=hSw.cell 3;have p4:=hSw.cell 4;have p5:=hSw.cell 5;simp only[sD,sE,sF]at p0 p1 p2 p3 p4 p5;go_simp;all_goals with_reducible rfl
  try simp only[Act.put,sA,sB,sC]
  refine tk 15 ⟨some 32,.load 3 (.tmp 31),_,_,_,none⟩ ?_ rfl ?_ ?_;rotate_left
  ·intro w' hSw
   (try dsimp only at hSw)
   have p0:=hSw.cell 0;have p1:=hSw.cell 1;have p2:=hSw.cell 2;have p3:=hSw.cell 3;have p4:=hSw.cell 4;have p5:=hSw.cell 5;simp only[sD,sE,sF]at p0 p1 p2 p3 p4 p5;go_simp;all_goals with_reducible rfl
  try simp only[Act.put,sA,sB,sC]
  refine tk 16 ⟨some 33,.fieldAddr 26 (.tmp 1) 3,_,_,_,none⟩ ?_ rfl ?_ ?_;rotate_left
  ·intro w' hSw
   (try dsimp only at hSw)
   have p0:=hSw.cell 0;have p1:=hSw.cell 1;have p2:=hSw.cell 2;have p3:=hSw.cell 3;have p4:=hSw.cell 4;have p5:=hSw.cell 5;simp only[sD,sE,sF]at p0 p1 p2 p3 p4 p5;go_simp;all_goals with_reducible rfl
  try simp only[Act.put,sA,sB,sC]
  refine tk 17 ⟨some 34,.load 3 (.tmp 33),_,_,_,none⟩ ?_ rfl ?_ ?_;rotate_left
  ·intro w' hSw
   (try dsimp only at hSw)
   have p0:=hSw.cell 0;have p1:=hSw.cell 1;have p2:=hSw.cell 2;have p3:=hSw.cell 3;have p4:=hSw.cell 4;have p5:=hSw.cell 5;simp only[sD,sE,sF]at p0 p1 p2 p3 p4 p5;go_simp;all_goals with_reducible rfl
  try simp only[Act.put,sA,sB,sC]
  refine tk 18 ⟨some 35,.build 26 #[(0,.tmp 28),(1,.tmp 30),(2,.tmp 32),(3,.tmp 34)],_,_,_,none⟩ ?_ rfl ?_ ?_;rotate_left
  ·intro w' hSw
   (try dsimp only at hSw)
   have p0:=hSw.cell 0;have p1:=hSw.cell 1;have p2:=hSw.cell 2;have p3:=hSw.cell 3;have p4:=hSw.cell 4;have p5:=hSw.cell 5;simp only[sD,sE,sF]at p0 p1 p2 p3 p4 p5;go_simp;all_goals with_reducible rfl
  try simp only[Act.put,sA,sB,sC]
  refine wpAnyH_ready (rs:=[4,20]) (by kernel_rfl) (by simp) ?_;refine(AllReadyH.cons (o:=⟨some 21,.call { callee:=.value (.func 16),args:=#[.tmp 18,.tmp 20,.func 17],argTypes:=#[23,3,55] },_,_,_,none⟩) rfl (fun K hK=>?_) (AllReadyH.cons (o:=⟨some 6,.alloc 67,_,_,_,none⟩) rfl (fun K hK=>?_) AllReadyH.nil))
  focus
   go_simp;go_wp2_with (go_at_call 16;(with_reducible refine(HBR.out _ hB).mono ?_);rintro er wr ⟨rfl,hRy,hbR⟩);have hB:=ak hB hbR;obtain⟨gR,hgR⟩:∃gR,wd.heap.size=gR:=⟨_,rfl⟩;have hkr:=KU.refl wr gR;rw[hgR]at hRy;try rw[hgR]
   refine hK.out _ _ ?_ (fun hHeld=>?_)
   ·exact HQD.out _ hB
   clear hK K;try simp only[Act.put,sA,sB,sC]
   refine wpAnyH_ready (rs:=[9,20]) (by kernel_rfl) (by simp) ?_;refine(AllReadyH.cons (o:=⟨some 26,.call { callee:=.value (.func 22),args:=#[.tmp 23,.tmp 25,.func 23],argTypes:=#[24,3,65] },_,_,_,none⟩) rfl (fun K hK=>?_) (AllReadyH.cons (o:=⟨some 6,.alloc 67,_,_,_,none⟩) rfl (fun K hK=>?_) AllReadyH.nil))
   focus
    go_simp;go_wp2_with (go_at_call 22;(with_reducible refine(HBF.out _ hB).mono ?_);rintro ef wf ⟨rfl,hFy,hbF⟩);have hB:=ak hB hbF;obtain⟨gF,hgF⟩:∃gF,wr.heap.size=gF:=⟨_,rfl⟩;have hkf:=KU.refl wf gF;have hkr:=hkr.up hbF;rw[hgF]at hFy;try rw[hgF]
    refine hK.out _ _ ?_ (fun hHeld=>?_)
    ·exact HQD.out _ hB
    clear hK K;try simp only[Act.put,sA,sB,sC]
    refine tk 19 ⟨some 36,.build 67 #[(0,.tmp 21),(1,.tmp 26),(2,.tmp 35)],_,_,_,none⟩ ?_ rfl ?_ ?_;rotate_left
    ·intro w' hSw
     (try dsimp only at hSw)
     have p0:=hSw.cell 0;have p1:=hSw.cell 1;have p2:=hSw.cell 2;have p3:=hSw.cell 3;have p4:=hSw.cell 4;have p5:=hSw.cell 5;simp only[sD,sE,sF]at p0 p1 p2 p3 p4 p5;go_simp;all_goals with_reducible rfl
    try simp only[Act.put,sA,sB,sC]
    refine wpAnyH_ready (rs:=[20]) (by kernel_rfl) (by simp) ?_;refine(AllReadyH.cons (o:=⟨some 6,.alloc 67,_,_,_,none⟩) rfl (fun K hK=>?_) AllReadyH.nil);obtain⟨ws,hws,hX,hls,hbS⟩:=ay wf #[.slice none 0 0,.slice none 0 0,.int .i64 0,.int .i64 0,.int .i64 0,.int .i64 0,.slice none 0 0,.slice none 0 0] 67;have hxz:=hB.size;obtain⟨x,hx⟩:∃x,wf.heap.size=x:=⟨_,rfl⟩;have hB:=ak hB hbS;have hkr0:=hkr;have OT:=hkf;have hkr:=hkr.up hbS;have hkf:=hkf.up hbS;have hrx:x<gR\/wr.heap.size<=x:=.inr (by rw[<- hx];exact hkr0.size);have hfx:x<gF\/wf.heap.size<=x:=.inr (by rw[<- hx];exact OT.size);go_simp;try rw[hws]
    rw[hx]at hX hxz;try rw[hx]
    refine hK.out _ _ ?_ (fun hHeld=>?_)
    ·exact HQD.out _ hB
    clear hK K;try simp only[Act.put,sA,sB,sC]
    obtain⟨wl,rfl⟩:∃wl:World,wl=ws:=⟨_,rfl⟩
   rotate_left 1
   focus
    obtain⟨ws,hws,hX,hls,hbS⟩:=ay wr #[.slice none 0 0,.slice none 0 0,.int .i64 0,.int .i64 0,.int .i64 0,.int .i64 0,.slice none 0 0,.slice none 0 0] 67;have hxz:=hB.size;obtain⟨x,hx⟩:∃x,wr.heap.size=x:=⟨_,rfl⟩;have hB:=ak hB hbS;have hkr0:=hkr;have hkr:=hkr.up hbS;have hrx:x<gR\/wr.heap.size<=x:=.inr (by rw[<- hx];exact hkr0.size);go_simp;try rw[hws]
    rw[hx]at hX hxz;try rw[hx]
    refine hK.out _ _ ?_ (fun hHeld=>?_)
    ·exact HQD.out _ hB
    clear hK K;try simp only[Act.put,sA,sB,sC]
    refine wpAnyH_ready (rs:=[9]) (by kernel_rfl) (by simp) ?_;refine(AllReadyH.cons (o:=⟨some 26,.call { callee:=.value (.func 22),args:=#[.tmp 23,.tmp 25,.func 23],argTypes:=#[24,3,65] },_,_,_,none⟩) rfl (fun K hK=>?_) AllReadyH.nil);go_simp;go_wp2_with (go_at_call 22;(with_reducible refine(HBF.out _ hB).mono ?_);rintro ef wf ⟨rfl,hFy,hbF⟩);have hB:=ak hB hbF;obtain⟨gF,hgF⟩:∃gF,ws.heap.size=gF:=⟨_,rfl⟩;have hkf:=KU.refl wf gF;have hfx:x<gF\/wf.heap.size<=x:=.inl (by rw[<- hgF];exact hX.lt);have hX:=hX.below hbF hX.lt;have hkr:=hkr.up hbF;rw[hgF]at hFy;try rw[hgF]
    refine hK.out _ _ ?_ (fun hHeld=>?_)
    ·exact HQD.out _ hB
    clear hK K;try simp only[Act.put,sA,sB,sC]
    refine tk 19 ⟨some 36,.build 67 #[(0,.tmp 21),(1,.tmp 26),(2,.tmp 35)],_,_,_,none⟩ ?_ rfl ?_ ?_;rotate_left
    ·intro w' hSw
     (try dsimp only at hSw)
     have p0:=hSw.cell 0;have p1:=hSw.cell 1;have p2:=hSw.cell 2;have p3:=hSw.cell 3;have p4:=hSw.cell 4;have p5:=hSw.cell 5;simp only[sD,sE,sF]at p0 p1 p2 p3 p4 p5;go_simp;all_goals with_reducible rfl
    try simp only[Act.put,sA,sB,sC]
    obtain⟨wl,rfl⟩:∃wl:World,wl=wf:=⟨_,rfl⟩
  rotate_left 2
  focus
   obtain⟨ws,hws,hX,hls,hbS⟩:=ay wd #[.slice none 0 0,.slice none 0 0,.int .i64 0,.int .i64 0,.int .i64 0,.int .i64 0,.slice none 0 0,.slice none 0 0] 67;have hxz:=hB.size;obtain⟨x,hx⟩:∃x,wd.heap.size=x:=⟨_,rfl⟩;have hB:=ak hB hbS;go_simp;try rw[hws]
   rw[hx]at hX hxz;try rw[hx]
   refine hK.out _ _ ?_ (fun hHeld=>?_)
   ·exact HQD.out _ hB
   clear hK K;try simp only[Act.put,sA,sB,sC]
   refine wpAnyH_ready (rs:=[4]) (by kernel_rfl) (by simp) ?_;refine(AllReadyH.cons (o:=⟨some 21,.call { callee:=.value (.func 16),args:=#[.tmp 18,.tmp 20,.func 17],argTypes:=#[23,3,55] },_,_,_,none⟩) rfl (fun K hK=>?_) AllReadyH.nil);go_simp;go_wp2_with (go_at_call 16;(with_reducible refine(HBR.out _ hB).mono ?_);rintro er wr ⟨rfl,hRy,hbR⟩);have hB:=ak hB hbR;obtain⟨gR,hgR⟩:∃gR,ws.heap.size=gR:=⟨_,rfl⟩;have hkr:=KU.refl wr gR;have hX:=hX.below hbR hX.lt;have hrx:x<gR\/wr.heap.size<=x:=.inl (by rw[<- hgR,<- hx];exact hls);rw[hgR]at hRy;try rw[hgR]
   refine hK.out _ _ ?_ (fun hHeld=>?_)
   ·exact HQD.out _ hB
   clear hK K;try simp only[Act.put,sA,sB,sC]
   refine wpAnyH_ready (rs:=[9]) (by kernel_rfl) (by simp) ?_;refine(AllReadyH.cons (o:=⟨some 26,.call { callee:=.value (.func 22),args:=#[.tmp 23,.tmp 25,.func 23],argTypes:=#[24,3,65] },_,_,_,none⟩) rfl (fun K hK=>?_) AllReadyH.nil);go_simp;go_wp2_with (go_at_call 22;(with_reducible refine(HBF.out _ hB).mono ?_);rintro ef wf ⟨rfl,hFy,hbF⟩);have hB:=ak hB hbF;obtain⟨gF,hgF⟩:∃gF,wr.heap.size=gF:=⟨_,rfl⟩;have hkf:=KU.refl wf gF;have hfx:x<gF\/wf.heap.size<=x:=.inl (by rw[<- hgF];exact hX.lt);have hX:=hX.below hbF hX.lt;have hkr:=hkr.up hbF;rw[hgF]at hFy;try rw[hgF]
   refine hK.out _ _ ?_ (fun hHeld=>?_)
   ·exact HQD.out _ hB
   clear hK K;try simp only[Act.put,sA,sB,sC]
   refine tk 19 ⟨some 36,.build 67 #[(0,.tmp 21),(1,.tmp 26),(2,.tmp 35)],_,_,_,none⟩ ?_ rfl ?_ ?_;rotate_left
   ·intro w' hSw
    (try dsimp only at hSw)
    have p0:=hSw.cell 0;have p1:=hSw.cell 1;have p2:=hSw.cell 2;have p3:=hSw.cell 3;have p4:=hSw.cell 4;have p5:=hSw.cell 5;simp only[sD,sE,sF]at p0 p1 p2 p3 p4 p5;go_simp;all_goals with_reducible rfl
   try simp only[Act.put,sA,sB,sC]
   obtain⟨wl,rfl⟩:∃wl:World,wl=wf:=⟨_,rfl⟩
  all_goals
   have z0:=hX.cell 0;have y0:=hX.frozen 0;have z1:=hX.cell 1;have y1:=hX.frozen 1;have z2:=hX.cell 2;have y2:=hX.frozen 2;have z3:=hX.cell 3;have y3:=hX.frozen 3;have z4:=hX.cell 4;have y4:=hX.frozen 4;have z5:=hX.cell 5;have y5:=hX.frozen 5;have z6:=hX.cell 6;have y6:=hX.frozen 6;have z7:=hX.cell 7;have y7:=hX.frozen 7;simp only[sD,sE,sF]at z0 z1 z2 z3 z4 z5 z6 z7;obtain⟨wz,hwz⟩:∃wz,(((((((wl.setCell ⟨x,0,none⟩ (.slice (some ⟨gR,0,none⟩) N N)).setCell ⟨x,1,none⟩ (.slice (some ⟨gF,0,none⟩) N N)).setCell ⟨x,2,none⟩ (.int .i64 i)).setCell ⟨x,3,none⟩ (.int .i64 o)).setCell ⟨x,4,none⟩ (.int .i64 (N:Int))).setCell ⟨x,5,none⟩ (.int .i64 s)).setCell ⟨x,6,none⟩ (.slice none 0 0)).setCell ⟨x,7,none⟩ (.slice none 0 0)=wz:=⟨_,rfl⟩;have JO:kN wz x (.slice (some ⟨gR,0,none⟩) N N) (.slice (some ⟨gF,0,none⟩) N N) i o (N:Int) s (.slice none 0 0) (.slice none 0 0):=by
    rw[<- hwz];exact((((((((hX.aV 0 _).aV 1 _).aV 2 _).aV 3 _).aV 4 _).aV 5 _).aV 6 _).aV 7 _)
   have hoth:∀g,g≠x->wz.heap[g]? = wl.heap[g]?:=fun g hg=>by
    rw[<- hwz];rw[heap_setCell_other _ ⟨x,7,none⟩ g _ hg,heap_setCell_other _ ⟨x,6,none⟩ g _ hg,heap_setCell_other _ ⟨x,5,none⟩ g _ hg,heap_setCell_other _ ⟨x,4,none⟩ g _ hg,heap_setCell_other _ ⟨x,3,none⟩ g _ hg,heap_setCell_other _ ⟨x,2,none⟩ g _ hg,heap_setCell_other _ ⟨x,1,none⟩ g _ hg,heap_setCell_other _ ⟨x,0,none⟩ g _ hg]
   have hsz:wz.heap.size=wl.heap.size:=by rw[<- hwz];simp
   have hbz:Below w2.heap.size w2 wz:=by
    rw[<- hwz];exact((((((((hB.setCell hxz _).setCell hxz _).setCell hxz _).setCell hxz _).setCell hxz _).setCell hxz _).setCell hxz _).setCell hxz _)
   have Ky:=hid (JY HSP.out hRy hFy hrx hfx (by rw[hsz];exact hkr.size) (by rw[hsz];exact hkf.size) (fun b h1 h2=>(hoth b (fun e=>by omega)).trans (hkr.eq b h1 h2)) (fun b h1 h2=>(hoth b (fun e=>by omega)).trans (hkf.eq b h1 h2)) hbz H2.out.1 H02.out hxz JO);clear JO hoth hsz hkr hkf hRy hFy hrx hfx hX;refine wpAnyH_ready (rs:=[21]) (by kernel_rfl) (by simp) ?_;refine(AllReadyH.cons (o:=⟨none,.store 67 (.tmp 6) (.tmp 36),_,_,_,none⟩) rfl (fun K hK=>?_) AllReadyH.nil);go_wp2_with (fail);try rw[hwz]
   have hB:=hbz;refine hK.out _ _ ?_ (fun hHeld=>?_)
   ·exact HQD.out _ hB
   clear hK K;try simp only[Act.put,sA,sB,sC]
   refine wpAnyH_done (by kernel_rfl) ?_ _;go_wp2_with (fail);go_meet;exact Ky.out
 case rest=>
  obtain⟨x,gR,gF,bs,wR,wF,rfl,Oa,hIn,hFS,hbz,hbs,hxx⟩:=hcut;have Ol:=hid Oa;have HST:=hid (show IV w wR wF bs x gR gF N i o (N:Int) s (ro P) (fo PF) res wc (.int .i64 0) wc from⟨0,([],[]),_,_,Nat.zero_le _,rfl,by rw[List.drop_zero];exact yK.out,by simp,by simp,hFS,hIn,Below.refl _ _,hbs⟩);have HZC:=hid hbz;have HXX:=hid hxx;have HXB:=hid hFS.low;obtain⟨p0,p1,p2,p3,p4,p5⟩:=HDB.out wc hbz;clear Oa hIn hFS hbz hbs hxx;go_upto_region 5 with(fail);go_wp2_with (fail);clear p0 p1 p2 p3 p4 p5
  go_loopw [39] (fun iv wr=>IV w wR wF bs x gR gF N i o (N:Int) s (ro P) (fo PF) res wc iv wr) (fun iv _=>N-(intOf iv).toNat)
  case atStart=>exact HST.out
  case round=>
   obtain⟨k,a,v,vf,hk,rfl,hgo,hl1,hl2,hfs,hin,hlow,hbs⟩:=hrel;by_cases hlt:k<N
   case neg=>
    obtain rfl:k=N:=by omega
    rw[List.drop_eq_nil_of_le (by simp)]at hgo;obtain⟨hok,ha⟩:=Pu.out a hgo.symm;obtain⟨hb1,hb2⟩:=HRL.out hok;subst ha;simp only at hfs hl1 hl2;obtain⟨vs1,ho1,_⟩:=hfs.rules;obtain⟨vs2,ho2,_⟩:=hfs.finals;obtain⟨A1,c1,hv1⟩:=ct ho1;obtain⟨A2,c2,hv2⟩:=ct ho2;subst hv1 hv2;have oZ:=hid (show Below w2.heap.size w2 wr from HZC.out.trans (hlow.mono HXX.out));have HZE:=hid (HZ.out wr oZ.out);have P5:=hid (fun(wE:World) (h1:∀g,g≠w.heap.size+1->wE.heap[g]? = wr.heap[g]?) (h2:wE.heap.size=wr.heap.size)=>EG hfs h1 h2 (by have:=HXX.out;have:=HXB.out;have:=H2.out;omega) hb1 hb2);have HOK:=hid hok;have hq:Blk wr x 67 _:=hfs.box;obtain⟨L1,hL1⟩:∃L1,(cU rs k).length=L1:=⟨_,rfl⟩;obtain⟨L2,hL2⟩:∃L2,(cV rs fs k).length=L2:=⟨_,rfl⟩;have HLL:=hid (And.intro hL1 hL2);rw[hL1,hL2]at hq;have k2:=hq.cell 2;have k3:=hq.cell 3;have k4:=hq.cell 4;have k5:=hq.cell 5;have k6:=hq.cell 6;have k7:=hq.cell 7;have z0:=HZE.out.cell 0;have y0:=HZE.out.frozen 0;have z1:=HZE.out.cell 1;have y1:=HZE.out.frozen 1;have z2:=HZE.out.cell 2;have y2:=HZE.out.frozen 2;have z3:=HZE.out.cell 3;have y3:=HZE.out.frozen 3;have z4:=HZE.out.cell 4;have y4:=HZE.out.frozen 4;have z5:=HZE.out.cell 5;have y5:=HZE.out.frozen 5;simp only[sD,sE,sF]at k2 k3 k4 k5 k6 k7 z0 z1 z2 z3 z4 z5;clear hgo hfs hin hlow hbs hok hb1 hb2 ho1 ho2 hq hL1 hL2 hl1 hl2;go_wp2_with (fail);obtain⟨wE,hwE⟩:∃wE,(((((wr.setCell ⟨w.heap.size+1,0,none⟩ (.int .i64 i)).setCell ⟨w.heap.size+1,1,none⟩ (.int .i64 o)).setCell ⟨w.heap.size+1,2,none⟩ (.int .i64 (k:Int))).setCell ⟨w.heap.size+1,3,none⟩ (.int .i64 s)).setCell ⟨w.heap.size+1,4,none⟩ (.slice A1 L1 c1)).setCell ⟨w.heap.size+1,5,none⟩ (.slice A2 L2 c2)=wE:=⟨_,rfl⟩;have hqE:Blk wE (w.heap.size+1) 26 #[.int .i64 i,.int .i64 o,.int .i64 (k:Int),.int .i64 s,.slice A1 L1 c1,.slice A2 L2 c2]:=by
     rw[<- hwE];exact((((((HZE.out.aV 0 _).aV 1 _).aV 2 _).aV 3 _).aV 4 _).aV 5 _)
    have hbE:Below w.heap.size w wE:=by
     rw[<- hwE];exact(((((((HBW.out wr oZ.out).setCell (by simp) _).setCell (by simp) _).setCell (by simp) _).setCell (by simp) _).setCell (by simp) _).setCell (by simp) _)
    have iq:∀g,g≠w.heap.size+1->wE.heap[g]? = wr.heap[g]?:=fun g hg=>by
     rw[<- hwE];rw[heap_setCell_other _ ⟨w.heap.size+1,5,none⟩ g _ hg,heap_setCell_other _ ⟨w.heap.size+1,4,none⟩ g _ hg,heap_setCell_other _ ⟨w.heap.size+1,3,none⟩ g _ hg,heap_setCell_other _ ⟨w.heap.size+1,2,none⟩ g _ hg,heap_setCell_other _ ⟨w.heap.size+1,1,none⟩ g _ hg,heap_setCell_other _ ⟨w.heap.size+1,0,none⟩ g _ hg]
    have hsE:wE.heap.size=wr.heap.size:=by rw[<- hwE];simp
    have k0:=hqE.cell 0;have k1:=hqE.cell 1;have k2:=hqE.cell 2;have k3:=hqE.cell 3;have k4:=hqE.cell 4;have k5:=hqE.cell 5;simp only[sD,sE,sF]at k0 k1 k2 k3 k4 k5;try rw[hwE]
    have gD:jK i o k s rs fs w (.returned (.tuple #[dsc i o (k:Int) s A1 L1 c1 A2 L2 c2,.int .i64 0])) wE:=⟨hbE,.inr ⟨HOK.out,A1,c1,A2,c2,by rw[HLL.out.1,HLL.out.2],P5.out wE iq hsE⟩⟩;exact bodyPost_ret (v:=.tuple #[dsc i o (k:Int) s A1 L1 c1 A2 L2 c2,.int .i64 0]) (by simp[results,Tryz.results11,go_sem,k0,k1,k2,k3,k4,k5]) rfl gD
   have i1:(0:Int)<=(k:Int):=Int.natCast_nonneg _;have i2:(k:Int)<1024:=by have:=HN.out;omega
   have HIN:=hid hin;have HGO:=hid hgo;have HFS:=hid hfs;have jJ:=hid hlow;have HBS:=hid hbs;have HWY:=hid (Gg bs x gR gF N k i o (N:Int) s w wR wF P PF (rkE (bF rs) N) Ol.out HRK.out (N+2) k (fun _=>False) [] [] (.slice none 0 0) a.1 a.2 v vf wr (by have:=mZ (bF rs) N k;omega) hlt hin hfs hbs hl1 hl2 ⟨World.ownsRow_nil _ _ _ _,fun j hj=>absurd hj (Nat.not_lt_zero _)⟩ (fun g e=>by simp[Value.ownBlock]at e) (fun b h=>h.elim) (by have:=mZ (bF rs) N k;have:=HN.out;simp only[List.length_nil];omega) (fun t ht=>by cases ht));clear hgo hfs hin hlow hbs hl1 hl2;go_wp2_with (fail);refine HWY.out.mono ?_;rintro e w5 (⟨hn5,rfl,hlow5⟩ | ⟨a5,v5,vf5,hn5,rfl,hwr5⟩)
   ·have HNO:=hid (Pv.out (by rw[<- HGO.out,nS hlt,hn5];rfl))
    have HB5:=hid (show Below w2.heap.size w2 w5 from HZC.out.trans ((jJ.out.trans hlow5).mono HXX.out));have HZE:=hid (HZ.out w5 HB5.out);have oZ:=HB5;have z0:=HZE.out.cell 0;have y0:=HZE.out.frozen 0;have z1:=HZE.out.cell 1;have y1:=HZE.out.frozen 1;have z2:=HZE.out.cell 2;have y2:=HZE.out.frozen 2;have z3:=HZE.out.cell 3;have y3:=HZE.out.frozen 3;have z4:=HZE.out.cell 4;have y4:=HZE.out.frozen 4;have z5:=HZE.out.cell 5;have y5:=HZE.out.frozen 5;simp only[sD,sE,sF]at z0 z1 z2 z3 z4 z5;clear hn5 hlow5;go_wp2_with (fail);obtain⟨wE,hwE⟩:∃wE,(((((w5.setCell ⟨w.heap.size+1,0,none⟩ (.int .i64 0)).setCell ⟨w.heap.size+1,1,none⟩ (.int .i64 0)).setCell ⟨w.heap.size+1,2,none⟩ (.int .i64 0)).setCell ⟨w.heap.size+1,3,none⟩ (.int .i64 0)).setCell ⟨w.heap.size+1,4,none⟩ (.slice none 0 0)).setCell ⟨w.heap.size+1,5,none⟩ (.slice none 0 0)=wE:=⟨_,rfl⟩;have hqE:Blk wE (w.heap.size+1) 26 #[.int .i64 0,.int .i64 0,.int .i64 0,.int .i64 0,.slice none 0 0,.slice none 0 0]:=by
     rw[<- hwE];exact((((((HZE.out.aV 0 _).aV 1 _).aV 2 _).aV 3 _).aV 4 _).aV 5 _)
    have hbE:Below w.heap.size w wE:=by
     rw[<- hwE];exact(((((((HBW.out w5 oZ.out).setCell (by simp) _).setCell (by simp) _).setCell (by simp) _).setCell (by simp) _).setCell (by simp) _).setCell (by simp) _)
    have iq:∀g,g≠w.heap.size+1->wE.heap[g]? = w5.heap[g]?:=fun g hg=>by
     rw[<- hwE];rw[heap_setCell_other _ ⟨w.heap.size+1,5,none⟩ g _ hg,heap_setCell_other _ ⟨w.heap.size+1,4,none⟩ g _ hg,heap_setCell_other _ ⟨w.heap.size+1,3,none⟩ g _ hg,heap_setCell_other _ ⟨w.heap.size+1,2,none⟩ g _ hg,heap_setCell_other _ ⟨w.heap.size+1,1,none⟩ g _ hg,heap_setCell_other _ ⟨w.heap.size+1,0,none⟩ g _ hg]
    have hsE:wE.heap.size=w5.heap.size:=by rw[<- hwE];simp
    have k0:=hqE.cell 0;have k1:=hqE.cell 1;have k2:=hqE.cell 2;have k3:=hqE.cell 3;have k4:=hqE.cell 4;have k5:=hqE.cell 5;simp only[sD,sE,sF]at k0 k1 k2 k3 k4 k5;try rw[hwE]
    have gD:jK i o N s rs fs w (.returned (.tuple #[dsc 0 0 0 0 none 0 0 none 0 0,.int .i64 4])) wE:=⟨hbE,.inl ⟨HNO.out,rfl⟩⟩;exact bodyPost_ret (v:=.tuple #[dsc 0 0 0 0 none 0 0 none 0 0,.int .i64 4]) (by simp[results,Tryz.results11,go_sem,k0,k1,k2,k3,k4,k5]) rfl gD
   ·have yB:=hid (show IV w wR wF bs x gR gF N i o (N:Int) s (ro P) (fo PF) res wc (.int .i64 ((k:Int)+1)) w5 from⟨k+1,a5,v5,vf5,hlt,by go_num,by
     rw[<- HGO.out,nS hlt]
     symm
     show(pz (ro P) (fo PF) (k:Int) (N+2) k [] (a.1,a.2)).bind _=_;rw[hn5];rfl,hwr5.bl.1,hwr5.bl.2,hwr5.fs,Ol.out.next HIN.out hwr5.low (hwr5.FB HFS.out HBS.out (fun g e=>by simp[Value.ownBlock]at e)),jJ.out.trans hwr5.low,Nat.le_trans HBS.out hwr5.kd.1⟩)
    clear hn5 hwr5;go_wp2_with (fail)
    go_roundw
    case rel=>exact yB.out
    case measure=>simp[intOf];omega
end Go.Proofs.YtbdmcibcenhpnaaGreatDoor.Ep
namespace Go.Proofs.YtbdmcibcenhpnaaGreatDoor.Ep
set_option maxHeartbeats 64000000
open Go Go.RowKit Sp Pa Te Mi De Tr Lt
open Go.Lib (hid)
def cT (x:Int):TmL:=⟨0,0,21,0,x,[]⟩
def jW:List RuL:=[⟨0,1,[],0,[cT 120]⟩,⟨1,1,[[(97,97)]],1,[cT 121]⟩]
def CO:List FiL:=[⟨1,[],[]⟩]
theorem Ju {x:Int} (hx:0<=x/\x<=255):iE 0 0 21 0 x []=true:=by
 unfold iE;have hr:qc []=true:=jv (k:=0) (fun i h1 h2=>by omega) (Nat.le_refl _);rw[hr];have h1:Sm x:=by unfold Sm;omega
 rw[decide_eq_true h1];decide
theorem FN {x:Int} (hx:0<=x/\x<=255) {gs:List (List Span)} (hg:gs.length<=4) (hs:∀xs,Fi.om gs xs->∀y∈xs,Sy y):eB 1 1 gs (cT x)=true:=by
 rw[kF];refine⟨hg,?_,fun xs hw _=>?_⟩
 ·unfold aK
  simp only[cT];rw[Ju hx];unfold cC;simp only[List.all_nil];decide
 ·have hsx:Sy x:=by unfold Sy;omega
  have hv:mP 0 0 21 0 x [] xs=(x,true):=by
   rw[Fi.gG (Ju hx) rfl];have hi:Fi.jm xs x []=x:=by unfold Fi.jm;simp
   rw[hi,if_pos ⟨hs xs hw,hsx⟩,ou hsx,Int.zero_add]
  unfold Fi.mB;simp only[cT];rw[hv];refine⟨rfl,by unfold Rng;simp only;omega,(0,255),by simp[Fi.dK],?_,?_⟩ <;> simp only <;> omega
theorem guard8:aG 1 [[(97,97)]]=true:=by
 unfold aG bp;have h2:dP [(97,97)]=true:=iA ⟨List.pairwise_singleton _ _,fun p hp=>by obtain rfl:=List.mem_singleton.1 hp;unfold Ok;simp only;omega⟩;have h3:CK 1 [(97,97)]=true:=by
  unfold CK;refine @decide_eq_true _ (Classical.propDecidable _) fun y h=>?_
  obtain⟨hy,p,hp,k1,k2⟩:=h.1;obtain rfl:=List.mem_singleton.1 hp;simp only at k1 k2;exact h.2 ⟨hy,(0,255),by simp[De.dK],by simp only;omega,by simp only;omega⟩
 simp only[List.all_cons,List.all_nil,h2,h3];simp
theorem BA:bF jW=[(0,1)]:=by decide
theorem BD:jo (bF jW) 2=false:=J2 fun q hq=>by
 rw[BA]at hq;obtain⟨e,he,_,hw⟩:=hq;obtain rfl:=List.mem_singleton.1 he;obtain⟨e2,he2,h2,_⟩:=hw;obtain rfl:=List.mem_singleton.1 he2;simp at h2
theorem qU:aW 1 1 ((2:Nat):Int) 0 jW CO=(0,0):=
 vQ (by unfold bn;rw[Di (.inl rfl)];decide) (fun r hr=>by
  rcases (show r=⟨0,1,[],0,[cT 120]⟩\/r=⟨1,1,[[(97,97)]],1,[cT 121]⟩by simpa[jW]using hr)with rfl | rfl
  ·unfold dw oP bH
   dsimp only;rw[nN,show stB ((2:Nat):Int) 0=true from rfl,show stB ((2:Nat):Int) 1=true from rfl,List.all_cons,FN (gs:=[]) ⟨by omega,by omega⟩ (by simp) (fun xs hw y hy=>by
    have h0:=List.eq_nil_of_length_eq_zero hw.1;rw[h0]at hy
    cases hy)]
   decide
  ·unfold dw oP bH
   dsimp only;rw[guard8,show stB ((2:Nat):Int) 1=true from rfl,List.all_cons,FN (gs:=[[(97,97)]]) ⟨by omega,by omega⟩ (by simp) (fun xs hw y hy=>by
    obtain⟨hl,hm⟩:=hw;obtain⟨x,rfl⟩:=List.length_eq_one_iff.1 hl;have hx:=hm 0 (by simp) (by simp);simp only[List.getElem_cons_zero]at hx;obtain rfl:=List.mem_singleton.1 hy;obtain⟨_,p,hp,h1,h2⟩:=hx;obtain rfl:=List.mem_singleton.1 hp;simp only at h1 h2;unfold Sy;omega)]
   decide) (fun f hf=>by
  obtain rfl:=List.mem_singleton.1 hf;exact sV ⟨by omega,by omega⟩) BD
theorem vq:fN jW 0=[1]/\fN jW 1=[]:=by decide
theorem vp:gQ jW 2=3:=by
 have hr:∀x,∀t∈fN jW x,rkE (bF jW) 2 t<rkE (bF jW) 2 x:=fun x t ht=>j9 BD (iL ht)
 have h1:Lt.cnt (fN jW) (rkE (bF jW) 2) 1=1:=by rw[BW hr,vq.2];rfl
 have h0:Lt.cnt (fN jW) (rkE (bF jW) 2) 0=2:=by rw[BW hr,vq.1];simp[h1]
 unfold gQ iy;rw[show List.range 2=[0,1]from rfl];simp[h0,h1]
theorem kG:cU jW 2=[⟨0,1,[[(97,97)]],1,[cT 120,cT 121]⟩,⟨1,1,[[(97,97)]],1,[cT 121]⟩]/\cV jW CO 2=[⟨0,[],[cT 120]⟩,⟨1,[],[]⟩]:=⟨rfl,rfl⟩
theorem JZ:dI jW CO 2:=by
 unfold dI;rw[kG.1,kG.2];refine⟨by decide,by decide,fun r hr=>?_,fun r hr=>?_⟩;all_goals
  simp only[List.mem_cons,List.not_mem_nil,or_false]at hr;rcases hr with rfl | rfl <;> decide
theorem Jv {W:World} {b:Nat} {x:Int} (h:Blk W b 51 #[.int .i64 0,.int .i64 0,.int .i64 21,.int .i64 0,.int .i64 x,.slice none 0 0]):RTm W (some ⟨b,0,none⟩) 1 [cT x]:=
 ⟨rfl,fun _=>⟨b,0,rfl,h.lt,fun j hj=>by
  obtain rfl:j=0:=by simp at hj;omega
  exact⟨h.cell 0,h.cell 1,h.cell 2,h.cell 3,h.cell 4,none,0,h.cell 5,⟨rfl,fun h=>absurd h (Nat.not_lt_zero _)⟩,Nat.le_refl _,Nat.zero_le _⟩⟩⟩
theorem Lw {W:World} {b g:Nat} {x:Int} (h:Blk W b 47 #[.int .i64 x,.int .i64 x]) (hg:Blk W g 48 #[.slice (some ⟨b,0,none⟩) 1 1]):RGs W (some ⟨g,0,none⟩) 1 [[(x,x)]]:=
 ⟨rfl,fun _=>⟨g,0,rfl,hg.lt,fun j hj=>by
  obtain rfl:j=0:=by simp at hj;omega
  exact⟨some ⟨b,0,none⟩,1,hg.cell 0,⟨rfl,fun _=>⟨b,0,rfl,h.lt,fun j hj=>by
   obtain rfl:j=0:=by simp at hj;omega
   exact⟨h.cell 0,h.cell 1⟩⟩⟩,Nat.le_refl _,fun e=>by cases e⟩⟩⟩
theorem DY {W:World} {b1 g1 c1 c2 r:Nat} (h1:Blk W b1 47 #[.int .i64 97,.int .i64 97]) (k1:Blk W g1 48 #[.slice (some ⟨b1,0,none⟩) 1 1]) (h2:Blk W c1 51 #[.int .i64 0,.int .i64 0,.int .i64 21,.int .i64 0,.int .i64 120,.slice none 0 0]) (k2:Blk W c2 51 #[.int .i64 0,.int .i64 0,.int .i64 21,.int .i64 0,.int .i64 121,.slice none 0 0])
  (hr:Blk W r 43 #[.int .i64 0,.int .i64 1,.slice none 0 0,.int .i64 0,.slice (some ⟨c1,0,none⟩) 1 1,.int .i64 1,.int .i64 1,.slice (some ⟨g1,0,none⟩) 1 1,.int .i64 1,.slice (some ⟨c2,0,none⟩) 1 1]):RRu W (some ⟨r,0,none⟩) 2 jW:=
 ⟨rfl,fun _=>⟨r,0,rfl,hr.lt,fun j hj=>by
  have hm:(1:Nat)<=maxLen:=by simp only[maxLen];decide
  rcases (show j=0\/j=1 by simp[jW]at hj;omega)with rfl | rfl
  ·exact⟨hr.cell 0,hr.cell 1,hr.cell 3,⟨none,0,hr.cell 2,RGs.dS _ _,Nat.le_refl _,Nat.zero_le _,fun g hg=>by cases hg⟩,some ⟨c1,0,none⟩,1,hr.cell 4,Jv h2,Nat.le_refl _,hm,by show rN 0;unfold rN;omega⟩
  ·exact⟨hr.cell 5,hr.cell 6,hr.cell 8,⟨some ⟨g1,0,none⟩,1,hr.cell 7,Lw h1 k1,Nat.le_refl _,hm,fun g hg=>by
    obtain rfl:g=[(97,97)]:=by simpa[jW]using hg
    exact hm⟩,some ⟨c2,0,none⟩,1,hr.cell 9,Jv k2,Nat.le_refl _,hm,by show rN 1;unfold rN;omega⟩⟩⟩
theorem DZ {W:World} {bf:Nat} (hf:Blk W bf 45 #[.int .i64 1,.slice none 0 0,.slice none 0 0]):RFi W (some ⟨bf,0,none⟩) 1 CO:=
 ⟨rfl,fun _=>⟨bf,0,rfl,hf.lt,fun j hj=>by
  obtain rfl:j=0:=by simp[CO]at hj;omega
  exact⟨hf.cell 0,⟨none,0,hf.cell 1,RGs.dS _ _,Nat.le_refl _,Nat.zero_le _,fun g hg=>by cases hg⟩,none,0,hf.cell 2,RTm.dS _ _,Nat.le_refl _,Nat.zero_le _⟩⟩⟩
theorem z8 {W:World} {g m k n:Nat} {t:TypeId} {cs:Array Value} (h:Blk W g t cs) (hc:∀j,j<n->∀l c,cs[j*m+k]? = some (.slice none l c)->c=0):rM W (some ⟨g,0,none⟩) n m k:=fun b off e j hj l c hjc=>by
 injection e with e;injection e with e1 e2;subst e1 e2;refine hc j hj l c ?_;rw[<- hjc,Nat.zero_add];exact(h.cell (j*m+k)).symm
theorem mq (w:World) (hT:Fi.jh w):Calls Tryz.prog 7 #[] w (dY true w):=by
 obtain⟨u1,hu1,qu1,lu1,bu1⟩:=ay w #[.int .i64 97,.int .i64 97] 47;have su1:u1.heap.size=w.heap.size+1:=by rw[<- hu1,World.size_alloc]
 obtain⟨u2,hu2,qu2,lu2,bu2⟩:=ay u1 #[.slice (some ⟨w.heap.size,0,none⟩) 1 1] 48;have su2:u2.heap.size=w.heap.size+1+1:=by rw[<- hu2,World.size_alloc,su1]
 rw[su1]at qu2;obtain⟨u3,hu3,qu3,lu3,bu3⟩:=ay u2 #[.int .i64 1,.slice none 0 0,.slice none 0 0] 45;have su3:u3.heap.size=w.heap.size+1+1+1:=by rw[<- hu3,World.size_alloc,su2]
 rw[su2]at qu3;obtain⟨u4,hu4,qu4,lu4,bu4⟩:=ay u3 #[.int .i64 0,.int .i64 0,.int .i64 21,.int .i64 0,.int .i64 120,.slice none 0 0] 51;have su4:u4.heap.size=w.heap.size+1+1+1+1:=by rw[<- hu4,World.size_alloc,su3]
 rw[su3]at qu4;obtain⟨u5,hu5,qu5,lu5,bu5⟩:=ay u4 #[.int .i64 0,.int .i64 0,.int .i64 21,.int .i64 0,.int .i64 121,.slice none 0 0] 51;have su5:u5.heap.size=w.heap.size+1+1+1+1+1:=by rw[<- hu5,World.size_alloc,su4]
 rw[su4]at qu5;obtain⟨u6,hu6,qu6,lu6,bu6⟩:=ay u5 #[.int .i64 0,.int .i64 1,.slice none 0 0,.int .i64 0,.slice (some ⟨w.heap.size+1+1+1,0,none⟩) 1 1,.int .i64 1,.int .i64 1,.slice (some ⟨w.heap.size+1,0,none⟩) 1 1,.int .i64 1,.slice (some ⟨w.heap.size+1+1+1+1,0,none⟩) 1 1] 43;have su6:u6.heap.size=w.heap.size+1+1+1+1+1+1:=by rw[<- hu6,World.size_alloc,su5]
 rw[su5]at qu6;obtain⟨u7,hu7,qu7,lu7,bu7⟩:=ay u6 #[.int .i64 1,.int .i64 1,.int .i64 2,.int .i64 0,.slice (some ⟨w.heap.size+1+1+1+1+1,0,none⟩) 2 2,.slice (some ⟨w.heap.size+1+1,0,none⟩) 1 1] 26;have su7:u7.heap.size=w.heap.size+1+1+1+1+1+1+1:=by rw[<- hu7,World.size_alloc,su6]
 rw[su6]at qu7;have qu1:=qu1.below bu2 (by omega);have qu1:=qu1.below bu3 (by omega);have qu1:=qu1.below bu4 (by omega);have qu1:=qu1.below bu5 (by omega);have qu1:=qu1.below bu6 (by omega);have qu1:=qu1.below bu7 (by omega);have qu2:=qu2.below bu3 (by omega);have qu2:=qu2.below bu4 (by omega);have qu2:=qu2.below bu5 (by omega);have qu2:=qu2.below bu6 (by omega);have qu2:=qu2.below bu7 (by omega);have qu3:=qu3.below bu4 (by omega);have qu3:=qu3.below bu5 (by omega);have qu3:=qu3.below bu6 (by omega);have qu3:=qu3.below bu7 (by omega);have qu4:=qu4.below bu5 (by omega);have qu4:=qu4.below bu6 (by omega);have qu4:=qu4.below bu7 (by omega);have qu5:=qu5.below bu6 (by omega);have qu5:=qu5.below bu7 (by omega);have qu6:=qu6.below bu7 (by omega);have B1:=bu1;have B1:=B1.trans (bu2.mono (by omega));have B1:=B1.trans (bu3.mono (by omega));have B1:=B1.trans (bu4.mono (by omega));have B1:=B1.trans (bu5.mono (by omega));have B1:=B1.trans (bu6.mono (by omega));have B1:=B1.trans (bu7.mono (by omega));have HRW:=hid (DY qu1 qu2 qu4 qu5 qu6);have HFW:=hid (DZ qu3);have HNR:=hid (z8 (m:=5) (k:=4) (n:=2) qu6 (fun j hj l c e=>by
  rcases (show j=0\/j=1 by omega)with rfl | rfl <;> simp at e))
 have HNF:=hid (z8 (m:=3) (k:=2) (n:=1) qu3 (fun j hj l c e=>by
  obtain rfl:j=0:=by omega
  simp at e;exact e.2.symm))
 have HQD:=hid (fun W (h:Below u7.heap.size u7 W)=>show DB W (w.heap.size+1+1+1+1+1+1) 1 1 2 0 (some ⟨w.heap.size+1+1+1+1+1,0,none⟩) 2 2 (some ⟨w.heap.size+1+1,0,none⟩) 1 1 from by
  have h1:=qu7.below h (by omega);exact⟨h1.cell 0,h1.cell 1,h1.cell 2,h1.cell 3,h1.cell 4,h1.cell 5⟩)
 have hsu:=su7;have HB:=hid (fun W (h:Below u7.heap.size u7 W)=>show Below w.heap.size w W from B1.trans (h.mono (by omega)));have HTB:=hid (fun W (h:Below u7.heap.size u7 W)=>show Fi.jh W from hT.next (B1.trans (h.mono (by omega))));have hmx:(2:Nat)<=maxLen:=by simp only[maxLen];decide
 have NK:(1:Nat)<=maxLen:=by simp only[maxLen];decide
 have HDM:=hid (fun W (h:Below u7.heap.size u7 W)=>show DM W ⟨1,1,((2:Nat):Int),0,some ⟨w.heap.size+1+1+1+1+1,0,none⟩,2,some ⟨w.heap.size+1+1,0,none⟩,1,jW,CO⟩from DM.below (w:=u7) ⟨HRW.out,hmx,HFW.out,NK,HNR.out,HNF.out⟩ h);have Hu1:=hid hu1;have Hu2:=hid hu2;have Hu3:=hid hu3;have Hu4:=hid hu4;have Hu5:=hid hu5;have Hu6:=hid hu6;have Hu7:=hid hu7;clear hT hmx NK B1 hu1 qu1 lu1 bu1 hu2 qu2 lu2 bu2 hu3 qu3 lu3 bu3 hu4 qu4 lu4 bu4 hu5 qu5 lu5 bu5 hu6 qu6 lu6 bu6 hu7 qu7 lu7 bu7;clear su1 su2 su3 su4 su5 su6 su7;have HFR:=hid (fun W (h:Below u7.heap.size u7 W)=>show Calls Tryz.prog 11 #[dsc 1 1 2 0 (some ⟨w.heap.size+1+1+1+1+1,0,none⟩) 2 2 (some ⟨w.heap.size+1+1,0,none⟩) 1 1] W (jK 1 1 2 0 jW CO W)from
  sQ 1 1 2 0 (some ⟨w.heap.size+1+1+1+1+1,0,none⟩) 2 (some ⟨w.heap.size+1+1,0,none⟩) 1 jW CO W (HDM.out W h) (HTB.out W h) (by rw[qU]) (by rw[vp];omega))
 have HWY:=hid (fun W (h:Below u7.heap.size u7 W)=>show Calls Tryz.prog 8 #[dsc 1 1 2 0 (some ⟨w.heap.size+1+1+1+1+1,0,none⟩) 2 2 (some ⟨w.heap.size+1+1,0,none⟩) 1 1] W (Hx (3,0) W)from by
  have h1:=oq 1 1 ((2:Nat):Int) 0 (some ⟨w.heap.size+1+1+1+1+1,0,none⟩) 2 (some ⟨w.heap.size+1+1,0,none⟩) 1 jW CO W (HDM.out W h) (HTB.out W h);have h2:jU 1 1 ((2:Nat):Int) 0 jW CO=(3,0):=by
   unfold jU;rw[if_pos (by rw[qU]),Int.toNat_natCast,vp,if_pos (by omega)];rfl
  rw[h2]at h1;exact h1)
 go_enter Tryz.func7,Tryz.ntmps7;go_upto_region 3 with(fail);rw[Hu1.out,Hu2.out,Hu3.out,Hu4.out,Hu5.out,Hu6.out,Hu7.out];obtain⟨p0,p1,p2,p3,p4,p5⟩:=HQD.out u7 (Below.refl _ _);go_wp2_with (fail);refine(HFR.out u7 (Below.refl _ _)).mono ?_;rintro e w1 ⟨hb1,hto⟩;rcases hto with⟨h,_⟩ | ⟨_,A3,c3,B3,d3,rfl,hdm⟩
 ·exact absurd JZ h
 rw[kG.1,kG.2]at hdm ⊢;have H1:=hid hb1;have P9:=hid hdm;clear hb1 hdm p0 p1 p2 p3 p4 p5;obtain⟨w4,hw4,hq4,hl4,hb4⟩:=ay w1 #[.int .i64 1,.int .i64 1,.int .i64 2,.int .i64 0,.slice A3 2 c3,.slice B3 2 d3] 26;have HQ4:=hid hq4;have HL4:=hid hl4;have HW4:=hid hw4;have HB4:=hid hb4;have H4:=hid (ak H1.out hb4);clear hw4 hq4 hl4 hb4;go_upto_region 4 with(fail);try rw[HW4.out]
 obtain⟨p0,p1,p2,p3,p4,p5⟩:=HQD.out w4 H4.out;go_wp2_with (fail);refine(HWY.out w4 H4.out).mono ?_;rintro e w5 ⟨rfl,hb5⟩;have hrr:=((P9.out.below HB4.out).below hb5).rules;have hq5:=HQ4.out.below hb5 HL4.out;obtain⟨b,off,G,gc,T,tc,hA,_,_,_,_,_,d4,_,hrt,_⟩:=hrr.at_ (k:=0) (by simp);simp only[List.getElem_cons_zero]at d4 hrt;obtain⟨b2,off2,hA2,_,hc2⟩:=hrt.2 (by decide);have d5:=(hc2 1 (by decide)).2.2.2.2.1;simp only[List.getElem_cons_succ,List.getElem_cons_zero,cT]at d5;subst hA hA2;have z4:=hq5.cell 4;have z5:=hq5.cell 5;simp only[sD,sE,sF]at z4 z5;have HE:=hid (HB.out w5 (ak H4.out hb5));clear hrr hq5 hrt hc2 hb5 p0 p1 p2 p3 p4 p5;go_wp2_with (fail);go_ret;exact⟨rfl,HE.out⟩
end Go.Proofs.YtbdmcibcenhpnaaGreatDoor.Ep
