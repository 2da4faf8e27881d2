import Derived.Test.YtbdmcibcenhpnaaGreatDoorF0
import Derived.Test.YtbdmcibcenhpnaaGreatDoorF00
import Derived.Test.YtbdmcibcenhpnaaGreatDoorF42
import Derived.Test.YtbdmcibcenhpnaaGreatDoorF47
import Derived.Test.YtbdmcibcenhpnaaGreatDoorF48
set_option maxRecDepth 100000
namespace Go.Proofs.YtbdmcibcenhpnaaGreatDoor.Ep
set_option maxHeartbeats 64000000
open Go Go.RowKit Sp Pa Te Mi De Tr Lt
open Go.Lib (hid)
theorem iI {x bs:Nat} {wv:Value} {ts out:List TmL} {nW tn tc:Nat} {TA:Option Addr} {vs:List Value} {w0 W:World}
  (hB:jl x bs wv ts vs W) (hxb:x<=bs) (h0:Below w0.heap.size w0 W) (jC:w0.heap.size<=x) (hnW:ts.length=nW) (hout:RTm w0 TA tn out) (htn:out.length=tn) (hnil:TA=none->tc=0) (hbd:nW+tn<=1000000) (hbs:bs<=W.heap.size)
  {op:Oper} {ac:Act} {K:Act->World->Prop} {Q:Exit->Act->World->Prop} (s1 s2:Operand) (hop:op.op = .call { callee:=.builtin .append,args:=#[s1,s2],argTypes:=#[41,41] }) (hs1:ac.eval s1=wv) (hs2:ac.eval s2 = .slice TA tn tc)
  (hK:∀wv2 wA us,jl x bs wv2 (ts++out) (vs++us) wA->Below bs W wA->K (ac.put op.dst wv2) wA):Oper.wp Tryz.prog op ac W K Q:=by
 subst hnW;subst htn;obtain⟨i0,hi0,hz0,hz1,hz2⟩:=info_parts FE;obtain⟨us,hul,hone,huc,hur⟩:=iJ hout;rcases TA with _ | ad
 ·have e0:out=[]:=by
   rcases out with _ | ⟨t,out⟩
   ·rfl
   ·obtain⟨b,off,e,_⟩:=hout.2 (by simp)
    cases e
  have e1:=hnil rfl;subst e0 e1;have hus:us=[]:=List.eq_nil_of_length_eq_zero (by simpa using hul);subst hus;have hrun:=run_append_owned_none (P:=Tryz.prog) (w:=W) bs 41 op.type 51 i0 6 Tryz.underlying41 hi0 wv ts.length vs hB.1;unfold Oper.wp;simp only[List.length_nil]at hs2;simp[execOp,hop,resolve,invoke,builtin,hs1,hs2,hrun,Result.andThen];exact hK wv W [] (by rw[List.append_nil,List.append_nil];exact hB) (Below.refl _ _)
 ·have hnews:∀j u,us[j]? = some u->W.cell? (ad.add j)=some u:=fun j u hu=>by
   have hj:j<us.length:=(List.getElem?_eq_some_iff.1 hu).1;obtain⟨b,off,hA,hbb,hc⟩:=huc (by omega);injection hA with hA;subst hA;rw[Go.WideShapes.add_plain,h0.cell (p:=⟨b,off+j,none⟩) hbb,hc j (by omega),hu]
  refine fL s1 s2 41 hop bs 51 i0 _ 6 64 Tryz.underlying41 hi0 hz0 hz1 hz2 rfl (by decide) wv ts.length vs hs1 hB.1 ad out.length tc us hs2 hul hnews hone (by simp only[maxLen];omega) (by omega) (by omega) fun wv2 wA h1 h2 h3 h4=>?_
  have hwv:∀g,wv.ownBlock=some g->bs<=g:=fun g e=>(World.ownsRow.lt hB.1 g e).1
  have hlA:Below bs W wA:=⟨h2.os,h2.tape,h2.output,h2.size,fun b hb=>h2.block b (by omega) (fun e=>by have:=hwv b e.symm;omega)⟩;refine hK wv2 wA us (hB.more (hlA.mono hxb) (by rw[List.length_append];exact h1) (fun j hj=>?_)) hlA;obtain⟨A,c,q1,q2,q3,q4⟩:=hur j hj;refine⟨A,c,q1,⟨q2.ah (h0.trans (hlA.mono (by omega))),fun hp b off e=>?_⟩,q3,q4⟩;obtain⟨b',off',e',hb',_⟩:=q2.2 hp;rw[e]at e';injection e' with e';injection e' with e';omega
theorem jq {x bs:Nat} {wv:Value} {ts out:List TmL} {nW tn tc:Nat} {TA:Option Addr} {vs:List Value} {w0 W:World} {ops:Array Oper} {rest:List Oper} {op:Oper} {ac:Act} {Q:Exit->Act->World->Prop} (hgd:op.guard=none) (s1 s2:Operand) (hop:op.op = .call { callee:=.builtin .append,args:=#[s1,s2],argTypes:=#[41,41] })
  (hB:jl x bs wv ts vs W) (hxb:x<=bs) (h0:Below w0.heap.size w0 W) (jC:w0.heap.size<=x) (hnW:ts.length=nW) (hout:RTm w0 TA tn out) (htn:out.length=tn) (hnil:TA=none->tc=0) (hbd:nW+tn<=1000000) (hbs:bs<=W.heap.size)
  (hs1:ac.eval s1=wv) (hs2:ac.eval s2 = .slice TA tn tc)
  (hK:∀wv2 wA us,jl x bs wv2 (ts++out) (vs++us) wA->Below bs W wA->wpList Tryz.prog ops Q rest (ac.put op.dst wv2) wA):wpList Tryz.prog ops Q (op::rest) ac W:=by
 show(if Region.wanted op _ then _ else _);rw[if_pos (by simp[Region.wanted,hgd])];exact .inl (iI hB hxb h0 jC hnW hout htn hnil hbd hbs s1 s2 hop hs1 hs2 hK)
def wrL (rs:List RuL) (l:List Nat):List TmL:=l.flatMap fun i=>(rs.getD i d0R).out
theorem CV {rs:List RuL} {l:List Nat} {k:Nat} (h:k<l.length):wrL rs (l.take (k+1))=wrL rs (l.take k)++(rs.getD l[k] d0R).out:=by
 unfold wrL;rw[List.take_succ_eq_append_getElem h,List.flatMap_append];simp
theorem yO {rs:List RuL} (hb:∀r∈rs,r.out.length<=64):∀l:List Nat,(wrL rs l).length<=64*l.length:=by
 intro l
 induction l with
 | nil=>simp[wrL]
 | cons a l ih=>
  have h1:((rs.getD a d0R).out).length<=64:=by
   by_cases h:a<rs.length
   ·rw[jE h];exact hb _ (List.getElem_mem h)
   ·rw[List.getD_eq_getElem?_getD,List.getElem?_eq_none (by omega)]
    simp[d0R]
  unfold wrL at ih ⊢;rw[List.flatMap_cons,List.length_append,List.length_cons];omega
def yw (x:Nat) (ts:List TmL) (w:World) (e:Ending) (w':World):Prop:=∃(A':Option Addr) (c':Nat) (vs:List Value),e = .returned (.slice A' ts.length c')/\jl x w.heap.size (.slice A' ts.length c') ts vs w'/\Below w.heap.size w w'
theorem jl.mono {x bs bs':Nat} {wv:Value} {ts:List TmL} {vs:List Value} {w:World} (h:jl x bs wv ts vs w) (hb:bs'<=bs):jl x bs' wv ts vs w:=by
 obtain⟨h1,h2⟩:=h;refine⟨⟨h1.1,?_⟩,h2⟩;rcases h1.2 with q | ⟨g,cap,cur,e,hg,hr⟩
 ·exact .inl q
 ·exact .inr ⟨g,cap,cur,e,by omega,hr⟩
theorem vP (i o n s:Int) (A:Option Addr) (cr:Nat) (B:Option Addr) (m cf:Nat) (rs:List RuL) (g c:Nat) (l:List Nat) (TA:Option Addr) (tc:Nat) (out:List TmL) (wB w:World) (h:RRu wB A rs.length rs) (hn:rM wB A rs.length 5 4) (hbB:Below wB.heap.size wB w) (hb:∀r∈rs,r.out.length<=64) (hg:RW w g l) (hi:∀x∈l,x<rs.length) (hll:l.length<=5000) (hout:RTm wB TA out.length out) (hnil:TA=none->tc=0) (hob:out.length<=64) :
  Calls Tryz.prog 29 #[dsc i o n s A rs.length cr B m cf,.slice (some ⟨g,0,none⟩) l.length c,.slice TA out.length tc] w (yw wB.heap.size (wrL rs l++out) w):=by
 obtain⟨w0,hw0⟩:∃w0,w.alloc (.cells #[.int .i64 i,.int .i64 o,.int .i64 n,.int .i64 s,.slice A rs.length cr,.slice B m cf] 26)=w0:=⟨_,rfl⟩;have hs0:w0.heap.size=w.heap.size+1:=by rw[<- hw0];simp
 have hb0:Below w.heap.size w w0:=by rw[<- hw0];exact(Below.refl _ _).alloc (Nat.le_refl _) _
 have p4:w0.cell? ⟨w.heap.size,4,none⟩=some (.slice A rs.length cr):=by rw[<- hw0];simp
 have HS0:=hid (show w.heap.size<w0.heap.size by omega);have HP4:=hid (fun W (hb:Below w0.heap.size w0 W)=>show W.cell? ⟨w.heap.size,4,none⟩=some (.slice A rs.length cr)from(hb.cell (p:=⟨w.heap.size,4,none⟩) HS0.out).trans p4);have HBW:=hid (fun W (hb:Below w0.heap.size w0 W)=>show Below w.heap.size w W from hb0.trans (hb.mono (Nat.le_of_lt HS0.out)));have HG:=hid (fun W (hb:Below w0.heap.size w0 W)=>show RW W g l from hg.below (HBW.out W hb));have HBB:=hid (fun W (hb:Below w0.heap.size w0 W)=>show Below wB.heap.size wB W from hbB.trans ((HBW.out W hb).mono hbB.size));have HXB:=hid (show wB.heap.size<=w0.heap.size by have:=hbB.size;omega);have HR:=hid h;have HN:=hid hn;have HI:=hid hi;have HBO:=hid hb;have Le:=hid hout;have CD:=hid hnil;obtain⟨R,hR⟩:∃R,rs.length=R:=⟨_,rfl⟩;have HRR:=hid hR;rw[hR]at hw0 p4 HP4 HI ⊢;obtain⟨nl,hnl⟩:∃nl,l.length=nl:=⟨_,rfl⟩;have HNL:=hid hnl;rw[hnl]at hll ⊢;obtain⟨no,hno⟩:∃no,out.length=no:=⟨_,rfl⟩;have HNO:=hid hno;rw[hno]at Le hob ⊢;have HST:=hid (show jl wB.heap.size w0.heap.size (.slice none 0 0) [] [] w0 from⟨World.ownsRow_nil _ _ _ _,fun j hj=>absurd hj (Nat.not_lt_zero _)⟩);clear h hn hb hg hi hout hnil hbB hb0 hs0 hR hnl hno;go_enter Tryz.func29,Tryz.ntmps29;go_wp2_with (fail);clear p4
 go_loopw [7,8] (fun vl vi wr=>∃(k:Nat) (ws:List TmL) (vs:List Value) (A':Option Addr) (c':Nat),k<=nl/\vl = .slice A' ws.length c'/\vi = .int .i64 (k:Int)/\ws=wrL rs (l.take k)/\jl wB.heap.size w0.heap.size (.slice A' ws.length c') ws vs wr/\Below w0.heap.size w0 wr) (fun _ vi _=>nl-(intOf vi).toNat)
 case atStart=>exact⟨0,[],[],none,0,Nat.zero_le _,rfl,rfl,rfl,HST.out,Below.refl _ _⟩
 case round=>
  obtain⟨k,ws,vs,A',c',hk,rfl,rfl,hws,hbf,hb⟩:=hrel;have HB:=hid hb;have HBF:=hid hbf;have HWS:=hid hws;obtain⟨nW,hnW⟩:∃nW,ws.length=nW:=⟨_,rfl⟩;have HNW:=hid hnW;have hwl:nW<=64*k:=by
   have:=yO (rs:=rs) HBO.out (l.take k);rw[<- hws,List.length_take,hnW,HNL.out]at this;omega
  rw[hnW]at HBF ⊢;by_cases hlt:k<nl
  case neg=>
   obtain rfl:k=nl:=by omega
   have he:wrL rs l=ws:=by
    rw[hws,List.take_of_length_le (by rw[HNL.out];exact Nat.le_refl _)]
   have HE:=hid he;clear hws hbf hb hnW he;go_wp2_with (at_builtin;go_must (refine jq (x:=wB.heap.size) (bs:=w0.heap.size) (wv:=.slice A' nW c') (ts:=ws) (out:=out) (nW:=nW) (tn:=no) (tc:=tc) (TA:=TA) (vs:=vs) (w0:=wB) rfl _ _ rfl HBF.out HXB.out (HBB.out wr HB.out) (Nat.le_refl _) HNW.out Le.out HNO.out CD.out (by omega) HB.out.size rfl rfl ?_));intro wv2 wA us hbA hlA;obtain⟨A2,c2,hv2⟩:=ct hbA.1;subst hv2;have HF:=hid (show yw wB.heap.size (wrL rs l++out) w (.returned (.slice A2 (ws++out).length c2)) wA from by
    rw[HE.out];exact⟨A2,c2,_,rfl,hbA.mono (Nat.le_of_lt HS0.out),HBW.out wA (HB.out.trans hlA)⟩)
   clear hbA hlA;go_wp2_with (fail);go_ret;exact HF.out
  have hkl:k<l.length:=by rw[HNL.out];exact hlt
  obtain⟨j,hj⟩:∃j,l[k]=j:=⟨_,rfl⟩;have hjR:j<R:=HI.out j (by rw[<- hj];exact List.getElem_mem hkl);have hjl:j<rs.length:=by rw[HRR.out];exact hjR
  obtain⟨b,off,G',gc',T,tc',hA,hlB,_,_,_,_,d4,_,hrt,hrc,_⟩:=HR.out.at_ hjl;have hro:rs[j].out.length<=64:=HBO.out _ (List.getElem_mem hjl);obtain⟨ro,LJ⟩:∃ro,rs[j].out=ro:=⟨_,rfl⟩;rw[LJ]at d4 hrt hro;have hnn:=HN.out b off hA j hjl;have HNT:=hid (show T=none->tc'=0 from fun e=>by
   subst e;exact hnn _ _ d4)
  obtain⟨tn,htn⟩:∃tn,ro.length=tn:=⟨_,rfl⟩;have HTN:=hid htn;rw[htn]at d4 hrt hro;have HRT:=hid hrt;subst hA;have HCC:=hid (fun W (hb:Below w0.heap.size w0 W)=>show W.cell? ⟨w.heap.size,4,none⟩=some (.slice (some ⟨b,off,none⟩) R cr)/\W.cell? ⟨g,k,none⟩=some (.int .i64 (j:Int))/\W.cell? ⟨b,off+j*5+4,none⟩=some (.slice T tn tc')from by
   refine⟨HP4.out W hb,?_,((HBB.out W hb).cell (p:=⟨b,off+j*5+4,none⟩) hlB).trans d4⟩;have:=(HG.out W hb).2 k hkl;rw[hj]at this;exact this)
  have HWN:=hid (show wrL rs (l.take (k+1))=ws++ro by rw[CV hkl,hj,jE hjl,LJ,HWS.out]);have i1:(0:Int)<=(j:Int):=Int.natCast_nonneg _;have i2:(j:Int)<(R:Int):=by omega
  have i3:(0:Int)<=(k:Int):=Int.natCast_nonneg _;have i4:(k:Int)<(nl:Int):=by omega
  have HWB:=hid (show nW+tn<=1000000 by omega);clear hws hbf hb hnW d4 hrt hnn LJ htn hj hrc;go_wp2_with (fail);obtain⟨wd,hwd⟩:∃wd,wr.drew=wd:=⟨_,rfl⟩;have hbd:Below w0.heap.size w0 wd:=by rw[<- hwd];exact HB.out.drew
  have hfd:jl wB.heap.size w0.heap.size (.slice A' nW c') ws vs wd:=by
   rw[<- hwd];exact HBF.out.parts ((Below.refl _ _).drew) (au HBF.out.1 fun _ _=>rfl)
  refine wp_region_held_drew (S:=fun W=>W.cell? ⟨w.heap.size,4,none⟩=some (.slice (some ⟨b,off,none⟩) R cr)/\W.cell? ⟨g,k,none⟩=some (.int .i64 (j:Int))/\W.cell? ⟨b,off+j*5+4,none⟩=some (.slice T tn tc')) (by kernel_rfl) (by rw[hwd];exact HCC.out wd hbd) (fun hHeld=>?_);rw[hwd]at hHeld ⊢;refine tk 0 ⟨some 15,.move (.tmp 7),_,_,_,none⟩ ?_ rfl ?_ ?_;rotate_left
  ·intro w' hSw
   (try dsimp only at hSw)
   obtain⟨p4,q1,q2⟩:=hSw;go_simp;all_goals with_reducible rfl
  try simp only[Act.put,sA,sB,sC]
  refine tk 1 ⟨some 16,.fieldAddr 26 (.tmp 3) 4,_,_,_,none⟩ ?_ rfl ?_ ?_;rotate_left
  ·intro w' hSw
   (try dsimp only at hSw)
   obtain⟨p4,q1,q2⟩:=hSw;go_simp;all_goals with_reducible rfl
  try simp only[Act.put,sA,sB,sC]
  refine tk 2 ⟨some 17,.load 23 (.tmp 16),_,_,_,none⟩ ?_ rfl ?_ ?_;rotate_left
  ·intro w' hSw
   (try dsimp only at hSw)
   obtain⟨p4,q1,q2⟩:=hSw;go_simp;all_goals with_reducible rfl
  try simp only[Act.put,sA,sB,sC]
  refine tk 3 ⟨some 18,.move (.tmp 1),_,_,_,none⟩ ?_ rfl ?_ ?_;rotate_left
  ·intro w' hSw
   (try dsimp only at hSw)
   obtain⟨p4,q1,q2⟩:=hSw;go_simp;all_goals with_reducible rfl
  try simp only[Act.put,sA,sB,sC]
  refine tk 4 ⟨some 19,.move (.tmp 8),_,_,_,none⟩ ?_ rfl ?_ ?_;rotate_left
  ·intro w' hSw
   (try dsimp only at hSw)
   obtain⟨p4,q1,q2⟩:=hSw;go_simp;all_goals with_reducible rfl
  try simp only[Act.put,sA,sB,sC]
  refine tk 5 ⟨some 20,.indexAddr 73 (.tmp 18) (.tmp 19),_,_,_,none⟩ ?_ rfl ?_ ?_;rotate_left
  ·intro w' hSw
   (try dsimp only at hSw)
   obtain⟨p4,q1,q2⟩:=hSw;go_simp;all_goals with_reducible rfl
  try simp only[Act.put,sA,sB,sC]
  refine tk 6 ⟨some 21,.load 3 (.tmp 20),_,_,_,none⟩ ?_ rfl ?_ ?_;rotate_left
  ·intro w' hSw
   (try dsimp only at hSw)
   obtain⟨p4,q1,q2⟩:=hSw;go_simp;all_goals with_reducible rfl
  try simp only[Act.put,sA,sB,sC]
  refine tk 7 ⟨some 22,.indexAddr 23 (.tmp 17) (.tmp 21),_,_,_,none⟩ ?_ rfl ?_ ?_;rotate_left
  ·intro w' hSw
   (try dsimp only at hSw)
   obtain⟨p4,q1,q2⟩:=hSw;go_simp;all_goals with_reducible rfl
  try simp only[Act.put,sA,sB,sC]
  refine tk 8 ⟨some 23,.fieldAddr 43 (.tmp 22) 4,_,_,_,none⟩ ?_ rfl ?_ ?_;rotate_left
  ·intro w' hSw
   (try dsimp only at hSw)
   obtain⟨p4,q1,q2⟩:=hSw;go_simp;all_goals with_reducible rfl
  try simp only[Act.put,sA,sB,sC]
  refine tk 9 ⟨some 24,.load 41 (.tmp 23),_,_,_,none⟩ ?_ rfl ?_ ?_;rotate_left
  ·intro w' hSw
   (try dsimp only at hSw)
   obtain⟨p4,q1,q2⟩:=hSw;go_simp;all_goals with_reducible rfl
  try simp only[Act.put,sA,sB,sC]
  refine wpAnyH_ready (rs:=[10]) (by kernel_rfl) (by simp) ?_;refine AllReadyH.cons (o:=⟨some 25,.call { callee:=.builtin .append,args:=#[.tmp 15,.tmp 24],argTypes:=#[41,41] },_,_,_,none⟩) rfl (fun K hK=>?_) AllReadyH.nil;refine iI (x:=wB.heap.size) (bs:=w0.heap.size) (wv:=.slice A' nW c') (ts:=ws) (out:=ro) (nW:=nW) (tn:=tn) (tc:=tc') (TA:=T) (vs:=vs) (w0:=wB) hfd HXB.out (HBB.out wd hbd) (Nat.le_refl _) HNW.out HRT.out HTN.out HNT.out HWB.out hbd.size _ _ (by rfl) (by rfl) (by rfl) (fun wv2 wA us hbA hlA=>?_);have Mb:Below w0.heap.size w0 wA:=hbd.trans hlA;obtain⟨A2,c2,hv2⟩:=ct hbA.1;subst hv2;refine hK.out _ _ ?_ (fun hHeld=>?_)
  ·exact HCC.out wA Mb
  clear hK K;try simp only[Act.put,sA,sB,sC]
  refine tk 11 ⟨some 7,.assign (.tmp 25),_,_,_,none⟩ ?_ rfl ?_ ?_;rotate_left
  ·intro w' hSw
   (try dsimp only at hSw)
   obtain⟨p4,q1,q2⟩:=hSw;go_simp;all_goals with_reducible rfl
  try simp only[Act.put,sA,sB,sC]
  refine wpAnyH_done (by kernel_rfl) ?_ _;have yB:=hid (show∃(k2:Nat) (ws2:List TmL) (vs2:List Value) (A3:Option Addr) (c3:Nat),k2<=nl/\Value.slice A2 (ws.length+ro.length) c2 = .slice A3 ws2.length c3/\Value.int .i64 ((k:Int)+1) = .int .i64 (k2:Int)/\ws2=wrL rs (l.take k2)/\jl wB.heap.size w0.heap.size (.slice A3 ws2.length c3) ws2 vs2 wA/\Below w0.heap.size w0 wA from⟨k+1,ws++ro,_,A2,c2,hlt,by rw[List.length_append],by go_num,HWN.out.symm,hbA,Mb⟩);clear hbA Mb hlA hfd hbd;go_wp2_with (fail)
  go_roundw
  case rel=>exact yB.out
  case measure=>simp[intOf];omega
end Go.Proofs.YtbdmcibcenhpnaaGreatDoor.Ep
namespace Go.Proofs.YtbdmcibcenhpnaaGreatDoor.Ep
open Go Sp Te De Lt
theorem qo {α:Type} (d:α) (l:List α) (p:α->Bool):((List.range l.length).filter fun i=>p (l.getD i d)).map (fun i=>l.getD i d)=l.filter p:=by
 have h:(List.range l.length).map (fun i=>l.getD i d)=l:=List.ext_getElem (by simp) fun j h1 h2=>by
  simp only[List.getElem_map,List.getElem_range];rw[List.getD_eq_getElem?_getD,List.getElem?_eq_getElem h2];rfl
 conv=>rhs;rw[<- h]
 rw[List.filter_map];rfl
theorem nK (rs:List RuL) (a:Nat):(kids rs.length (okR rs) a 0).map (fun i=>rs.getD i d0R)=(roD rs a).filter fun r=>r.gs.length == 0:=by
 have h1:kids rs.length (okR rs) a 0=(List.range rs.length).filter fun i=>(fun r:RuL=>(r.gs.length == 0) && decide (r.frm=(a:Int))) (rs.getD i d0R):=by
  unfold kids;refine List.filter_congr fun i _=>?_
  simp[okR]
 rw[h1,qo d0R rs (fun r:RuL=>(r.gs.length == 0) && decide (r.frm=(a:Int)))];unfold roD;rw[List.filter_filter]
theorem ko {rs:List RuL} {N:Nat} (hc:jo (bF rs) N=false) (hr:∀r∈rs,0<=r.frm/\0<=r.to_) (a i:Nat) (h:okR rs a i=true) (hi:i<rs.length):rkE (bF rs) N (toR rs i)<rkE (bF rs) N a:=by
 unfold okR at h;rw[jE hi,Bool.and_eq_true,decide_eq_true_eq]at h;unfold toR;rw[jE hi];exact oB hc hr a rs[i] (List.mem_filter.2 ⟨List.getElem_mem hi,by simp[h.2]⟩) (by simpa using h.1)
section
variable {rs:List RuL} {rk:Nat->Nat} (hr:∀a i,okR rs a i=true->i<rs.length->rk (toR rs i)<rk a)
def xZ (rs:List RuL) (q:Nat) (u:List Nat):Nat×List TmL:=(jP (toR rs) q u,wrL rs u)
theorem CU (rs:List RuL) (u:List Nat) (i:Nat):wrL rs (u++[i])=wrL rs u++(rs.getD i d0R).out:=by
 unfold wrL;rw[List.flatMap_append];simp
include hr in
theorem zo (q:Nat):∀(m a:Nat) (u:List Nat),rk a<m->jP (toR rs) q u=a->xZ rs q u::(sub rs.length (okR rs) (toR rs) rk a u 0).map (xZ rs q)=eZ (roD rs) m a (wrL rs u):=by
 intro m
 induction m with
 | zero=>intro a u h;omega
 | succ m ih=>
  intro a u h ha;simp only[eZ];have e1:xZ rs q u=(a,wrL rs u):=by unfold xZ;rw[ha]
  rw[e1,sub_eq hr a u 0,List.map_flatMap,<- nK rs a,List.flatMap_map]
  congr 1
  refine bU fun i hi=>?_
  obtain⟨h1,_,h3⟩:=dh.1 hi;have hrk:=hr a i h3 h1;have:=ih (toR rs i) (u++[i]) (by omega) (l9 q u i);rw[List.map_cons,this,CU];rfl
include hr in
theorem oh (q m:Nat) (hm:rk q<m):(dF rs rk q).map (xZ rs q)=eZ (roD rs) m q []:=by
 have:=zo hr q m q [] hm rfl;rw[<- show wrL rs []=[]from rfl,<- this];show([]::rest rs.length (okR rs) (toR rs) rk q []).map (xZ rs q)=_;unfold rest;rw[yT,List.append_nil];rfl
include hr in
theorem Gp:∀(m a:Nat) (u:List Nat),rk a<m->1+(sub rs.length (okR rs) (toR rs) rk a u 0).length=yH (fN rs) m a:=by
 intro m
 induction m with
 | zero=>intro a u h;omega
 | succ m ih=>
  intro a u h;simp only[yH];have e1:fN rs a=(kids rs.length (okR rs) a 0).map (toR rs):=by
   have h2:=congrArg (List.map fun r:RuL=>r.to_.toNat) (nK rs a);rw[List.map_map]at h2;unfold fN;have h3:(roD rs a).filter (fun r=>r.gs.length == 0)=rs.filter fun r=>(r.gs.length == 0) && decide (r.frm=(a:Int)):=by
    unfold roD;rw[List.filter_filter]
   rw[h3]at h2;rw[<- h2];rfl
  rw[e1,List.map_map,sub_eq hr a u 0,List.length_flatMap]
  congr 1
  refine congrArg List.sum (List.map_congr_left fun i hi=>?_);obtain⟨h1,_,h3⟩:=dh.1 hi;have hrk:=hr a i h3 h1;show(_::_:List (List Nat)).length=yH (fN rs) m (toR rs i);rw[List.length_cons,<- ih (toR rs i) (u++[i]) (by omega)];omega
include hr in
theorem Gc (N:Nat):vO rs rk (List.range N)=iy (Lt.cnt (fN rs) rk) (List.range N):=by
 unfold vO iy;refine congrArg List.sum (List.map_congr_left fun q _=>?_);unfold Lt.cnt;rw[<- Gp hr (rk q+1) q [] (Nat.lt_succ_self _)];show([]::rest rs.length (okR rs) (toR rs) rk q []).length=_;unfold rest;rw[yT,List.append_nil,List.length_cons];show _+1=1+_;exact Nat.add_comm _ _
end
def r8R (rs:List RuL) (p:Nat) (u:List Nat):List RuL:=bN (p:Int) (wrL rs u) (roD rs (jP (toR rs) p u))
def r8F (rs:List RuL) (fs:List FiL) (p:Nat) (u:List Nat):List FiL:=cB (p:Int) (wrL rs u) (foD fs (jP (toR rs) p u))
def iQ (rs:List RuL) (rk:Nat->Nat) (l:List Nat):List RuL:=l.flatMap fun p=>(dF rs rk p).flatMap (r8R rs p)
def iR (rs:List RuL) (fs:List FiL) (rk:Nat->Nat) (l:List Nat):List FiL:=l.flatMap fun p=>(dF rs rk p).flatMap (r8F rs fs p)
theorem Dx {rs:List RuL} {N:Nat} (hc:jo (bF rs) N=false) (hr:∀r∈rs,0<=r.frm/\0<=r.to_):iQ rs (rkE (bF rs) N) (List.range N)=cU rs N:=by
 unfold iQ cU I9;refine bU fun p _=>?_
 unfold gT;rw[<- oh (ko hc hr) p (N+2) (by have:=mZ (bF rs) N p;omega),List.flatMap_map];rfl
theorem Dy {rs:List RuL} {fs:List FiL} {N:Nat} (hc:jo (bF rs) N=false) (hr:∀r∈rs,0<=r.frm/\0<=r.to_):iR rs fs (rkE (bF rs) N) (List.range N)=cV rs fs N:=by
 unfold iR cV Ja;refine bU fun p _=>?_
 unfold gU;rw[<- oh (ko hc hr) p (N+2) (by have:=mZ (bF rs) N p;omega),List.flatMap_map];rfl
theorem yM {rs:List RuL} {N:Nat} (hc:jo (bF rs) N=false) (hr:∀r∈rs,0<=r.frm/\0<=r.to_):vO rs (rkE (bF rs) N) (List.range N)=gQ rs N:=Gc (ko hc hr) N
open Go.RowKit Pa Mi Tr
open Fi
structure RJN (B0 bs x:Nat) (i o n s:Int) (L:List RuL) (F:List FiL) (v vf:Value) (w:World):Prop where
 box:oo w x i o n s v vf
 rules:fP (fun b=>(b<B0\/x<b)/\vf.ownBlock≠some b) w bs v L
 finals:fQ (fun b=>(b<B0\/x<b)/\v.ownBlock≠some b) w bs vf F
 apart:∀g,v.ownBlock=some g->vf.ownBlock≠some g
 low:x<bs
 old:B0<=x
section
variable {w w':World} {B0 bs x:Nat} {i o n s:Int} {L:List RuL} {F:List FiL} {v vf v':Value}
theorem RJN.keep (h:RJN B0 bs x i o n s L F v vf w) (hb:Below w.heap.size w w'):RJN B0 bs x i o n s L F v vf w' where
 box:=h.box.keep (hb.block x h.box.lt)
 rules:=h.rules.keep hb.size (fun g e=>hb.block g (by obtain⟨vs,h1,_⟩:=h.rules;exact(World.ownsRow.lt h1 g e).2)) (fun b _ _ hlt=>hb.block b hlt) (fun _ hp _=>hp)
 finals:=h.finals.keep hb.size (fun g e=>hb.block g (by obtain⟨vs,h1,_⟩:=h.finals;exact(World.ownsRow.lt h1 g e).2)) (fun b _ _ hlt=>hb.block b hlt) (fun _ hp _=>hp)
 apart:=h.apart
 low:=h.low
 old:=h.old
theorem RJN.rule {vs:List Value} {r:RuL} {G T:Option Addr} {gc tc H:Nat} (h:RJN B0 bs x i o n s L F v vf w) (hvs:w.ownsRow bs 43 5 v L.length vs)
  (hg:RGp (fun b=>((b<B0\/x<b)/\vf.ownBlock≠some b)/\v.ownBlock≠some b) w G r.gs) (hgc:r.gs.length<=gc) (ht:RTp (fun b=>((b<B0\/x<b)/\vf.ownBlock≠some b)/\v.ownBlock≠some b) w T r.out) (htc:r.out.length<=tc)
  (hgr:w.grownBy w' v.ownBlock) (ho:w'.ownsRow bs 43 5 v' (L.length+1) (vs++[.int .i64 r.frm,.int .i64 r.to_,.slice G r.gs.length gc,.int .i64 r.eat,.slice T r.out.length tc])) (hat:v'.ownBlock=v.ownBlock\/v'.ownBlock=some H) (hH:w.heap.size<=H) :
  RJN B0 bs x i o n s (L++[r]) F v' vf (w'.setCell ⟨x,4,none⟩ v'):=by
 have hxl:=h.box.lt;have hlo:=h.low;have hol:=h.old;have hnx:∀g,bs<=g->g≠x:=fun g hg e=>by omega
 have hvx:v.ownBlock≠some x:=fun e=>by have:=(World.ownsRow.lt hvs x e).1;omega
 have hset:∀g,g≠x->(w'.setCell ⟨x,4,none⟩ v').heap[g]? = w'.heap[g]?:=fun g hg=>heap_setCell_other w' ⟨x,4,none⟩ g v' hg
 have hsz:w'.heap.size=(w'.setCell ⟨x,4,none⟩ v').heap.size:=by simp
 have hru:=h.rules.more hvs hg hgc ht htc hgr ho hat hH;obtain⟨fs',hf1,hf2⟩:=h.finals;have hfb:∀g,vf.ownBlock=some g->bs<=g/\g<w.heap.size:=fun g e=>World.ownsRow.lt hf1 g e
 refine⟨(h.box.keep (hgr.block x hxl (fun e=>hvx e.symm))).set4 v',hru.keep (by omega) (fun g e=>hset g (hnx g (World.ownsRow.lt ho g e).1)) (fun b hb _ _=>hset b (by have h9:=hb.1;omega)) (fun _ hp _=>hp),?_,fun g e q=>?_,hlo,hol⟩
 ·refine fQ.keep (w:=w) ⟨fs',hf1,hf2⟩ (by have:=hgr.size;omega) (fun g e=>?_) (fun b hb _ hlt=>?_) (fun b hb hlt=>⟨hb.1,fun e=>by
   rcases hat with k | k
   ·exact hb.2 (by rw[<- k];exact e)
   ·rw[k]at e
    injection e with e;omega⟩)
  ·rw[hset g (hnx g (hfb g e).1)]
   exact hgr.block g (hfb g e).2 (fun q=>h.apart g q.symm e)
  ·rw[hset b (by have h9:=hb.1;omega)]
   exact hgr.block b hlt (fun q=>hb.2 q.symm)
 ·have h1:=(hfb g q).2
  rcases hat with k | k
  ·exact h.apart g (by rw[<- k,e]) q
  ·rw[k]at e
   injection e with e;omega
theorem RJN.final {vs:List Value} {r:FiL} {G T:Option Addr} {gc tc H:Nat} (h:RJN B0 bs x i o n s L F v vf w) (hvs:w.ownsRow bs 45 3 vf F.length vs)
  (hg:RGp (fun b=>((b<B0\/x<b)/\v.ownBlock≠some b)/\vf.ownBlock≠some b) w G r.gs) (hgc:r.gs.length<=gc) (ht:RTp (fun b=>((b<B0\/x<b)/\v.ownBlock≠some b)/\vf.ownBlock≠some b) w T r.out) (htc:r.out.length<=tc)
  (hgr:w.grownBy w' vf.ownBlock) (ho:w'.ownsRow bs 45 3 v' (F.length+1) (vs++[.int .i64 r.frm,.slice G r.gs.length gc,.slice T r.out.length tc])) (hat:v'.ownBlock=vf.ownBlock\/v'.ownBlock=some H) (hH:w.heap.size<=H) :
  RJN B0 bs x i o n s L (F++[r]) v v' (w'.setCell ⟨x,5,none⟩ v'):=by
 have hxl:=h.box.lt;have hlo:=h.low;have hol:=h.old;have hnx:∀g,bs<=g->g≠x:=fun g hg e=>by omega
 have hvx:vf.ownBlock≠some x:=fun e=>by have:=(World.ownsRow.lt hvs x e).1;omega
 have hset:∀g,g≠x->(w'.setCell ⟨x,5,none⟩ v').heap[g]? = w'.heap[g]?:=fun g hg=>heap_setCell_other w' ⟨x,5,none⟩ g v' hg
 have hsz:w'.heap.size=(w'.setCell ⟨x,5,none⟩ v').heap.size:=by simp
 have hru:=h.finals.more hvs hg hgc ht htc hgr ho hat hH;obtain⟨fs',hf1,hf2⟩:=h.rules;have hfb:∀g,v.ownBlock=some g->bs<=g/\g<w.heap.size:=fun g e=>World.ownsRow.lt hf1 g e
 refine⟨(h.box.keep (hgr.block x hxl (fun e=>hvx e.symm))).set5 v',?_,hru.keep (by omega) (fun g e=>hset g (hnx g (World.ownsRow.lt ho g e).1)) (fun b hb _ _=>hset b (by have h9:=hb.1;omega)) (fun _ hp _=>hp),fun g e q=>?_,hlo,hol⟩
 ·refine fP.keep (w:=w) ⟨fs',hf1,hf2⟩ (by have:=hgr.size;omega) (fun g e=>?_) (fun b hb _ hlt=>?_) (fun b hb hlt=>⟨hb.1,fun e=>by
   rcases hat with k | k
   ·exact hb.2 (by rw[<- k];exact e)
   ·rw[k]at e
    injection e with e;omega⟩)
  ·rw[hset g (hnx g (hfb g e).1)]
   exact hgr.block g (hfb g e).2 (fun q=>h.apart g e q.symm)
  ·rw[hset b (by have h9:=hb.1;omega)]
   exact hgr.block b hlt (fun q=>hb.2 q.symm)
 ·have h1:=(hfb g e).2
  rcases hat with k | k
  ·exact h.apart g e (by rw[<- k,q])
  ·rw[k]at q
   injection q with q;omega
end
end Go.Proofs.YtbdmcibcenhpnaaGreatDoor.Ep
namespace Go.Proofs.YtbdmcibcenhpnaaGreatDoor.Ep
open Go Go.RowKit Sp Pa Te Mi De Tr Lt
def Lg (lo:Nat) (L:List RuL) (F:List FiL):Prop := (∀r∈L, r.out.length<=lo)/\(∀f∈F, f.out.length<=lo)/\(64<lo->(∃r∈L, 64<r.out.length)\/∃f∈F, 64<f.out.length)
theorem Lg.nil:Lg 0 [] [] := ⟨fun _ h => (by cases h), fun _ h => (by cases h), fun h => by omega⟩
theorem Lg.rule {lo:Nat} {L:List RuL} {F:List FiL} (h:Lg lo L F) (r:RuL):Lg (max lo r.out.length) (L++[r]) F := by
  obtain⟨h1, h2, h3⟩ := h;refine⟨fun x hx => ?_, fun f hf => Nat.le_trans (h2 f hf) (Nat.le_max_left _ _), fun hm => ?_⟩
  · rcases List.mem_append.1 hx with k | k
    · exact Nat.le_trans (h1 x k) (Nat.le_max_left _ _)
    · rw[List.mem_singleton.1 k]; exact Nat.le_max_right _ _
  · by_cases h4:64<lo
    · rcases h3 h4 with⟨x, hx, hq⟩ | hq
      · exact .inl ⟨x, List.mem_append_left _ hx, hq⟩
      · exact .inr hq
    · exact .inl ⟨r, by simp, by omega⟩
theorem Lg.final {lo:Nat} {L:List RuL} {F:List FiL} (h:Lg lo L F) (r:FiL):Lg (max lo r.out.length) L (F++[r]) := by
  obtain⟨h1, h2, h3⟩ := h;refine⟨fun x hx => Nat.le_trans (h1 x hx) (Nat.le_max_left _ _), fun f hf => ?_, fun hm => ?_⟩
  · rcases List.mem_append.1 hf with k | k
    · exact Nat.le_trans (h2 f k) (Nat.le_max_left _ _)
    · rw[List.mem_singleton.1 k]; exact Nat.le_max_right _ _
  · by_cases h4:64<lo
    · rcases h3 h4 with hq | ⟨x, hx, hq⟩
      · exact .inl hq
      · exact .inr ⟨x, List.mem_append_left _ hx, hq⟩
    · exact .inr ⟨r, by simp, by omega⟩
def CG (B0 x:Nat) (i o n s:Int) (lo:Nat) (L:List RuL) (F:List FiL) (v vf:Value) (wz wr:World):Prop := RJN B0 (x+1) x i o n s L F v vf wr/\Below x wz wr/\Lg lo L F
theorem CG.keep {B0 x:Nat} {i o n s:Int} {lo:Nat} {L:List RuL} {F:List FiL} {v vf:Value} {wz wr W:World} (h:CG B0 x i o n s lo L F v vf wz wr) (hb:Below wr.heap.size wr W):CG B0 x i o n s lo L F v vf wz W :=
  ⟨h.1.keep hb, h.2.1.trans (hb.mono (Nat.le_of_lt h.1.box.lt)), h.2.2⟩
structure Fx (x:Nat) (v0 vf0 v vf:Value) (w5 wr:World):Prop where
  kd:tM x v0 vf0 w5 wr
  gr:∀g, v.ownBlock=some g->v0.ownBlock=some g\/w5.heap.size<=g
  gf:∀g, vf.ownBlock=some g->vf0.ownBlock=some g\/w5.heap.size<=g
theorem Fx.refl (x:Nat) (v vf:Value) (w:World):Fx x v vf v vf w w := ⟨⟨Nat.le_refl _, fun _ _ _ _ _ => rfl⟩, fun _ e => .inl e, fun _ e => .inl e⟩
theorem Fx.keep {x:Nat} {v0 vf0 v vf:Value} {w5 wr W:World} (h:Fx x v0 vf0 v vf w5 wr) (hb:Below wr.heap.size wr W):Fx x v0 vf0 v vf w5 W :=
  ⟨⟨Nat.le_trans h.kd.1 hb.size, fun b h1 h2 h3 h4 => (hb.block b (Nat.lt_of_lt_of_le h1 h.kd.1)).trans (h.kd.2 b h1 h2 h3 h4)⟩, h.gr, h.gf⟩
theorem Fx.rule {x q H:Nat} {v0 vf0 v vf v':Value} {w5 wr W:World} (h:Fx x v0 vf0 v vf w5 wr) (hg:wr.grownBy W v.ownBlock) (hat:v'.ownBlock=v.ownBlock\/v'.ownBlock=some H) (hH:wr.heap.size<=H) (u:Value):Fx x v0 vf0 v' vf w5 (W.setCell ⟨x, q, none⟩ u) :=
  ⟨⟨by have := h.kd.1; have := hg.size; simp; omega, fun b h1 h2 h3 h4 => by
    rw[heap_setCell_other W ⟨x, q, none⟩ b _ h2, hg.block b (by have := h.kd.1; omega) (fun e => by
      rcases h.gr b e.symm with k | k
      · exact h3 k
      · omega)]
    exact h.kd.2 b h1 h2 h3 h4⟩, fun g e => by
    rcases hat with k | k
    · exact h.gr g (k.symm.trans e)
    · rw[k]at e
      injection e with e;have := h.kd.1;exact .inr (by omega), h.gf⟩
theorem Fx.final {x q H:Nat} {v0 vf0 v vf v':Value} {w5 wr W:World} (h:Fx x v0 vf0 v vf w5 wr) (hg:wr.grownBy W vf.ownBlock) (hat:v'.ownBlock=vf.ownBlock\/v'.ownBlock=some H) (hH:wr.heap.size<=H) (u:Value):Fx x v0 vf0 v v' w5 (W.setCell ⟨x, q, none⟩ u) :=
  ⟨⟨by have := h.kd.1; have := hg.size; simp; omega, fun b h1 h2 h3 h4 => by
    rw[heap_setCell_other W ⟨x, q, none⟩ b _ h2, hg.block b (by have := h.kd.1; omega) (fun e => by
      rcases h.gf b e.symm with k | k
      · exact h4 k
      · omega)]
    exact h.kd.2 b h1 h2 h3 h4⟩, h.gr, fun g e => by
    rcases hat with k | k
    · exact h.gf g (k.symm.trans e)
    · rw[k]at e
      injection e with e;have := h.kd.1;exact .inr (by omega)⟩
theorem FP {w W:World} {b:Nat} {e:TypeId} {z:Nat} {v:Value} {n:Nat} {vs:List Value} (h:w.ownsRow b e z v n vs) (hb:Below w.heap.size w W):W.ownsRow b e z v n vs := au h fun g e => hb.block g (World.ownsRow.lt h g e).2
theorem zL {α β:Type} {f:Nat->List α} {g:Nat->α->List β} {N k kk:Nat} (hk:k<N):((List.range k).flatMap (fun p => (f p).flatMap (g p))++((f k).take kk).flatMap (g k)).length<=((List.range N).flatMap fun p => (f p).flatMap (g p)).length := by
  have h1:List.range N=List.range k++(k::(List.range N).drop (k+1)) := by
    have h2 := List.take_append_drop k (List.range N);rw[List.take_range, Nat.min_eq_left (by omega), List.drop_eq_getElem_cons (by simpa using hk), List.getElem_range]at h2;exact h2.symm
  have h3:((f k).take kk).flatMap (g k)++((f k).drop kk).flatMap (g k)=(f k).flatMap (g k) := by rw[<- List.flatMap_append, List.take_append_drop]
  have h4 := congrArg List.length h3;rw[h1, List.flatMap_append, List.flatMap_cons, List.length_append, List.length_append, List.length_append, <- h4, List.length_append];omega
theorem Gq {w W:World} {A:Option Addr} {n:Nat} {L:List RuL} (h:RRu w A n L) (hn:rM w A n 5 4) (hb:Below w.heap.size w W) {k:Nat} (hk:k<L.length):∃b off G gc T tc, A=some ⟨b, off, none⟩ /\
    W.cell? ⟨b, off+k*5, none⟩=some (.int .i64 L[k].frm)/\W.cell? ⟨b, off+k*5+1, none⟩=some (.int .i64 L[k].to_)/\W.cell? ⟨b, off+k*5+2, none⟩=some (.slice G L[k].gs.length gc)/\W.cell? ⟨b, off+k*5+3, none⟩=some (.int .i64 L[k].eat)/\W.cell? ⟨b, off+k*5+4, none⟩=some (.slice T L[k].out.length tc) /\
    RGp (fun b => b<w.heap.size) W G L[k].gs/\L[k].gs.length<=gc/\RTm w T L[k].out.length L[k].out/\(T=none->tc=0) := by
  have hl := h.1;obtain⟨b, off, e, hlt, hc⟩ := h.2 (by omega);obtain⟨h0, h1, h3, ⟨G, gc, h2, hg, hgc, _⟩, T, tc, h4, ht, htc, _⟩ := hc k hk;exact⟨b, off, G, gc, T, tc, e, (hb.cell hlt).trans h0, (hb.cell hlt).trans h1, (hb.cell hlt).trans h2, (hb.cell hlt).trans h3, (hb.cell hlt).trans h4,
    (zK hg).keep ⟨hb.size, fun q hq _ => hb.block q hq⟩ (fun _ hq _ => hq), hgc, ht, fun e0 => by
    subst e0;exact hn b off e k (by omega) _ _ h4⟩
theorem Hf {w W:World} {A:Option Addr} {n:Nat} {L:List FiL} (h:RFi w A n L) (hn:rM w A n 3 2) (hb:Below w.heap.size w W) {k:Nat} (hk:k<L.length):∃b off G gc T tc, A=some ⟨b, off, none⟩ /\
    W.cell? ⟨b, off+k*3, none⟩=some (.int .i64 L[k].frm)/\W.cell? ⟨b, off+k*3+1, none⟩=some (.slice G L[k].gs.length gc)/\W.cell? ⟨b, off+k*3+2, none⟩=some (.slice T L[k].out.length tc) /\
    RGp (fun b => b<w.heap.size) W G L[k].gs/\L[k].gs.length<=gc/\RTm w T L[k].out.length L[k].out/\(T=none->tc=0) := by
  have hl := h.1;obtain⟨b, off, e, hlt, hc⟩ := h.2 (by omega);obtain⟨h0, ⟨G, gc, h2, hg, hgc, _⟩, T, tc, h4, ht, htc, _⟩ := hc k hk;exact⟨b, off, G, gc, T, tc, e, (hb.cell hlt).trans h0, (hb.cell hlt).trans h2, (hb.cell hlt).trans h4,
    (zK hg).keep ⟨hb.size, fun q hq _ => hb.block q hq⟩ (fun _ hq _ => hq), hgc, ht, fun e0 => by
    subst e0;exact hn b off e k (by omega) _ _ h4⟩
theorem xD {p:Int} {ts:List TmL} {e j:Nat} {rs:List RuL} (hj:j<rs.length):bN p ts (roD (rs.take (j+1)) e)=if rs[j].frm=(e:Int)/\rs[j].gs.length≠0 then bN p ts (roD (rs.take j) e)++[jY p ts rs[j]]else bN p ts (roD (rs.take j) e) := by
  unfold roD bN;rw[List.take_succ_eq_append_getElem hj, List.filter_append, List.filter_append, List.map_append];by_cases h1:rs[j].frm=(e:Int)
  · by_cases h2:rs[j].gs.length=0
    · rw[if_neg fun q => q.2 h2]
      simp[h1, h2]
    · rw[if_pos ⟨h1, h2⟩]
      simp[h1, h2]
  · rw[if_neg fun q => h1 q.1]
    simp[h1]
theorem xE {p:Int} {ts:List TmL} {e j:Nat} {fs:List FiL} (hj:j<fs.length):cB p ts (foD (fs.take (j+1)) e)=if fs[j].frm=(e:Int)then cB p ts (foD (fs.take j) e)++[mC p ts fs[j]]else cB p ts (foD (fs.take j) e) := by
  unfold foD cB;rw[List.take_succ_eq_append_getElem hj, List.filter_append, List.map_append];by_cases h1:fs[j].frm=(e:Int)
  · rw[if_pos h1]
    simp[h1]
  · rw[if_neg h1]
    simp[h1]
section
variable (B0 x:Nat) (i o n s:Int)
def Kh (rs:List RuL) (fs:List FiL) (rk:Nat->Nat) (N:Nat) (wz:World) (vlo vs:Value) (wr:World):Prop :=
  ∃(k lo:Nat) (v vf:Value), k<=N/\vs = .int .i64 (k:Int)/\vlo = .int .i64 (lo:Int)/\(iQ rs rk (List.range k)).length<=4096/\(iR rs fs rk (List.range k)).length<=4096/\CG B0 x i o n s lo (iQ rs rk (List.range k)) (iR rs fs rk (List.range k)) v vf wz wr
def MB (rs:List RuL) (fs:List FiL) (k:Nat) (ls:List (List Nat)) (Lk:List RuL) (Fk:List FiL) (v0 vf0:Value) (w5 wz:World) (vlo vk:Value) (wr:World):Prop :=
  ∃(kk lo:Nat) (v vf:Value), kk<=ls.length/\vk = .int .i64 (kk:Int)/\vlo = .int .i64 (lo:Int)/\(Lk++(ls.take kk).flatMap (r8R rs k)).length<=4096/\(Fk++(ls.take kk).flatMap (r8F rs fs k)).length<=4096/\CG B0 x i o n s lo (Lk++(ls.take kk).flatMap (r8R rs k)) (Fk++(ls.take kk).flatMap (r8F rs fs k)) v vf wz wr/\Fx x v0 vf0 v vf w5 wr
def K8 (p:Int) (ts:List TmL) (e:Nat) (rs:List RuL) (L1:List RuL) (F1:List FiL) (vf1 v0 vf0:Value) (w5 wz:World) (vlo vi:Value) (wr:World):Prop :=
  ∃(j lo:Nat) (v:Value), j<=rs.length/\vlo = .int .i64 (lo:Int)/\vi = .int .i64 (j:Int)/\(L1++bN p ts (roD (rs.take j) e)).length<=4096+j/\CG B0 x i o n s lo (L1++bN p ts (roD (rs.take j) e)) F1 v vf1 wz wr/\Fx x v0 vf0 v vf1 w5 wr
def K6 (p:Int) (ts:List TmL) (e:Nat) (fs:List FiL) (L2:List RuL) (F1:List FiL) (v2 v0 vf0:Value) (w5 wz:World) (vlo vi:Value) (wr:World):Prop :=
  ∃(j lo:Nat) (v:Value), j<=fs.length/\vlo = .int .i64 (lo:Int)/\vi = .int .i64 (j:Int)/\(F1++cB p ts (foD (fs.take j) e)).length<=4096+j/\CG B0 x i o n s lo L2 (F1++cB p ts (foD (fs.take j) e)) v2 v wz wr/\Fx x v0 vf0 v2 v w5 wr
end
theorem wO (rs:List RuL) (rk:Nat->Nat) (k:Nat):iQ rs rk (List.range (k+1))=iQ rs rk (List.range k)++(dF rs rk k).flatMap (r8R rs k) := by
  unfold iQ;rw[List.range_succ, List.flatMap_append];simp
theorem wP (rs:List RuL) (fs:List FiL) (rk:Nat->Nat) (k:Nat):iR rs fs rk (List.range (k+1))=iR rs fs rk (List.range k)++(dF rs rk k).flatMap (r8F rs fs k) := by
  unfold iR;rw[List.range_succ, List.flatMap_append];simp
def gP (i o:Int) (N:Nat) (s:Int) (rs:List RuL) (fs:List FiL) (w:World) (e:Ending) (w':World):Prop := Below w.heap.size w w' /\
  ((¬ (gQ rs N<=4096/\dI rs fs N)/\∃i' o' n' s' A' r cr' B' f cf', e = .returned (.tuple #[dsc i' o' n' s' A' r cr' B' f cf', .bool false])) \/
   ((gQ rs N<=4096/\dI rs fs N)/\∃A' cr' B' cf', e = .returned (.tuple #[dsc i o (N:Int) s A' (cU rs N).length cr' B' (cV rs fs N).length cf', .bool true])/\RRu w' A' (cU rs N).length (cU rs N)/\RFi w' B' (cV rs fs N).length (cV rs fs N)))
theorem JW {B0 x gc tc lo:Nat} {i o n s:Int} {L:List RuL} {F:List FiL} {v vf v0 vf0 v':Value} {w5 wz wr wA wB:World} {r:RuL} {G T:Option Addr} {vs:List Value} (hinv:CG B0 x i o n s lo L F v vf wz wr) (hfx:Fx x v0 vf0 v vf w5 wr) (hbr:Below wr.heap.size wr wA)
    (hvs:wA.ownsRow (x+1) 43 5 v L.length vs) (hG:RGp (fun b => b<B0) wA G r.gs) (hgc:r.gs.length<=gc) (hT:RTp (fun b => b<B0\/wr.heap.size<=b) wA T r.out) (htc:r.out.length<=tc) (hg:wA.grownBy wB v.ownBlock)
    (ho:wB.ownsRow (x+1) 43 5 v' (L.length+1) (vs++[.int .i64 r.frm, .int .i64 r.to_, .slice G r.gs.length gc, .int .i64 r.eat, .slice T r.out.length tc])) (hat:v'.ownBlock=v.ownBlock\/v'.ownBlock=some wA.heap.size) :
    CG B0 x i o n s (max lo r.out.length) (L++[r]) F v' vf wz (wB.setCell ⟨x, 4, none⟩ v')/\Fx x v0 vf0 v' vf w5 (wB.setCell ⟨x, 4, none⟩ v') := by
  have hxr := hinv.1.box.lt;have hww := hinv.1.old;have hsz := hbr.size;have hvx:∀g, v.ownBlock=some g->x+1<=g/\g<wr.heap.size := fun g e0 => by
    obtain⟨vs0, q0, _⟩ := hinv.1.rules;exact World.ownsRow.lt q0 g e0
  have hox:∀g, vf.ownBlock=some g->x+1<=g/\g<wr.heap.size := fun g e0 => by
    obtain⟨vs0, q0, _⟩ := hinv.1.finals;exact World.ownsRow.lt q0 g e0
  have hq:∀b, (b<B0\/wr.heap.size<=b)->((b<B0\/x<b)/\vf.ownBlock≠some b)/\v.ownBlock≠some b := fun b hb => by
    rcases hb with q | q
    · exact⟨⟨.inl q, fun e0 => by have := (hox b e0).1; omega⟩, fun e0 => by have := (hvx b e0).1; omega⟩
    · exact⟨⟨.inr (by omega), fun e0 => by have := (hox b e0).2; omega⟩, fun e0 => by have := (hvx b e0).2; omega⟩
  have hru := RJN.rule (H := wA.heap.size) (hinv.1.keep hbr) hvs (hG.keep ⟨Nat.le_refl _, fun _ _ _ => rfl⟩ (fun b hb _ => hq b (.inl hb))) hgc (hT.keep ⟨Nat.le_refl _, fun _ _ _ => rfl⟩ (fun b hb _ => hq b hb)) htc hg ho hat (Nat.le_refl _);refine⟨⟨hru, ?_, hinv.2.2.rule r⟩, (hfx.keep hbr).rule hg hat (Nat.le_refl _) v'⟩;exact((hinv.2.1.trans (hbr.mono (Nat.le_of_lt hxr))).grown hg (by omega) (fun q e0 => by have := (hvx q e0).1; omega)).setCell (p := ⟨x, 4, none⟩) (Nat.le_refl x) _
theorem G9 {B0 x gc tc lo:Nat} {i o n s:Int} {L:List RuL} {F:List FiL} {v vf v0 vf0 v':Value} {w5 wz wr wA wB:World} {r:FiL} {G T:Option Addr} {vs:List Value} (hinv:CG B0 x i o n s lo L F v vf wz wr) (hfx:Fx x v0 vf0 v vf w5 wr) (hbr:Below wr.heap.size wr wA)
    (hvs:wA.ownsRow (x+1) 45 3 vf F.length vs) (hG:RGp (fun b => b<B0) wA G r.gs) (hgc:r.gs.length<=gc) (hT:RTp (fun b => b<B0\/wr.heap.size<=b) wA T r.out) (htc:r.out.length<=tc) (hg:wA.grownBy wB vf.ownBlock)
    (ho:wB.ownsRow (x+1) 45 3 v' (F.length+1) (vs++[.int .i64 r.frm, .slice G r.gs.length gc, .slice T r.out.length tc])) (hat:v'.ownBlock=vf.ownBlock\/v'.ownBlock=some wA.heap.size) :
    CG B0 x i o n s (max lo r.out.length) L (F++[r]) v v' wz (wB.setCell ⟨x, 5, none⟩ v')/\Fx x v0 vf0 v v' w5 (wB.setCell ⟨x, 5, none⟩ v') := by
  have hxr := hinv.1.box.lt;have hww := hinv.1.old;have hsz := hbr.size;have hvx:∀g, vf.ownBlock=some g->x+1<=g/\g<wr.heap.size := fun g e0 => by
    obtain⟨vs0, q0, _⟩ := hinv.1.finals;exact World.ownsRow.lt q0 g e0
  have hox:∀g, v.ownBlock=some g->x+1<=g/\g<wr.heap.size := fun g e0 => by
    obtain⟨vs0, q0, _⟩ := hinv.1.rules;exact World.ownsRow.lt q0 g e0
  have hq:∀b, (b<B0\/wr.heap.size<=b)->((b<B0\/x<b)/\v.ownBlock≠some b)/\vf.ownBlock≠some b := fun b hb => by
    rcases hb with q | q
    · exact⟨⟨.inl q, fun e0 => by have := (hox b e0).1; omega⟩, fun e0 => by have := (hvx b e0).1; omega⟩
    · exact⟨⟨.inr (by omega), fun e0 => by have := (hox b e0).2; omega⟩, fun e0 => by have := (hvx b e0).2; omega⟩
  have hru := RJN.final (H := wA.heap.size) (hinv.1.keep hbr) hvs (hG.keep ⟨Nat.le_refl _, fun _ _ _ => rfl⟩ (fun b hb _ => hq b (.inl hb))) hgc (hT.keep ⟨Nat.le_refl _, fun _ _ _ => rfl⟩ (fun b hb _ => hq b hb)) htc hg ho hat (Nat.le_refl _);refine⟨⟨hru, ?_, hinv.2.2.final r⟩, (hfx.keep hbr).final hg hat (Nat.le_refl _) v'⟩;exact((hinv.2.1.trans (hbr.mono (Nat.le_of_lt hxr))).grown hg (by omega) (fun q e0 => by have := (hvx q e0).1; omega)).setCell (p := ⟨x, 5, none⟩) (Nat.le_refl x) _
end Go.Proofs.YtbdmcibcenhpnaaGreatDoor.Ep
namespace Go.Proofs.YtbdmcibcenhpnaaGreatDoor.Ep
set_option maxHeartbeats 64000000
open Go Go.RowKit Sp Pa Te Mi De Tr Lt
open Go.Lib (hid)
theorem qh (i o:Int) (N:Nat) (s:Int) (A:Option Addr) (cr:Nat) (B:Option Addr) (cf:Nat) (rs:List RuL) (fs:List FiL) (w:World) (hd:DM w ⟨i,o,(N:Int),s,A,cr,B,cf,rs,fs⟩) (hw:(aW i o (N:Int) s rs fs).1=0) :
  Calls Tryz.prog 13 #[dsc i o (N:Int) s A rs.length cr B fs.length cf] w (gP i o N s rs fs w):=by
 obtain⟨w2,hw2⟩:∃w2,(w.alloc (.cells #[.int .i64 i,.int .i64 o,.int .i64 (N:Int),.int .i64 s,.slice A rs.length cr,.slice B fs.length cf] 26)).alloc (.cells #[.int .i64 0,.int .i64 0,.int .i64 0,.int .i64 0,.slice none 0 0,.slice none 0 0] 26)=w2:=⟨_,rfl⟩;have hs2:w2.heap.size=w.heap.size+2:=by rw[<- hw2];simp
 have hb2:Below w.heap.size w w2:=by rw[<- hw2];exact((Below.refl _ _).alloc (Nat.le_refl _) _).alloc (by simp) _
 have hqd:Blk w2 w.heap.size 26 #[.int .i64 i,.int .i64 o,.int .i64 (N:Int),.int .i64 s,.slice A rs.length cr,.slice B fs.length cf]:=by
  rw[<- hw2];exact(show Blk _ _ _ _ from heap_alloc_new w _).alloc _
 have hqz:Blk w2 (w.heap.size+1) 26 #[.int .i64 0,.int .i64 0,.int .i64 0,.int .i64 0,.slice none 0 0,.slice none 0 0]:=by
  rw[<- hw2];have h:=heap_alloc_new (w.alloc (.cells #[.int .i64 i,.int .i64 o,.int .i64 (N:Int),.int .i64 s,.slice A rs.length cr,.slice B fs.length cf] 26)) (.cells #[.int .i64 0,.int .i64 0,.int .i64 0,.int .i64 0,.slice none 0 0,.slice none 0 0] 26);rw[World.size_alloc]at h;exact h
 have H2:=hid (show w.heap.size<=w2.heap.size/\w2.heap.size=w.heap.size+2 from⟨by omega,hs2⟩);have HBW:=hid (fun W (h:Below w2.heap.size w2 W)=>show Below w.heap.size w W from hb2.trans (h.mono H2.out.1));have HDB:=hid (fun W (h:Below w2.heap.size w2 W)=>show DB W w.heap.size i o (N:Int) s A rs.length cr B fs.length cf from by
  have h1:=hqd.below h (by omega);exact⟨h1.cell 0,h1.cell 1,h1.cell 2,h1.cell 3,h1.cell 4,h1.cell 5⟩)
 have HQD:=hid (fun W (h:Below w2.heap.size w2 W)=>show Blk W w.heap.size 26 #[.int .i64 i,.int .i64 o,.int .i64 (N:Int),.int .i64 s,.slice A rs.length cr,.slice B fs.length cf]from hqd.below h (by omega));have HZ:=hid (fun W (h:Below w2.heap.size w2 W)=>show Blk W (w.heap.size+1) 26 #[.int .i64 0,.int .i64 0,.int .i64 0,.int .i64 0,.slice none 0 0,.slice none 0 0]from hqz.below h (by omega));clear hs2;have hR:mz ⟨i,o,(N:Int),s,A,cr,B,cf,rs,fs⟩:=DV.right.qg (d:=⟨i,o,(N:Int),s,A,cr,B,cf,rs,fs⟩) hw;have hNN:1<=N/\N<=1024:=by have h1:=hR.n;dsimp only at h1;omega
 have Bh:=lq hw;have hrp:∀r∈rs,0<=r.frm/\0<=r.to_:=fun r hr=>⟨(hR.rs r hr).1,(hR.rs r hr).2.2.1⟩
 have hto:∀r∈rs,0<=r.to_:=fun r hr=>(hrp r hr).2
 have hl4:rs.length<=4096:=hR.r;have hl5:fs.length<=4096:=hR.f;obtain⟨rk,hrk⟩:∃rk,rkE (bF rs) N=rk:=⟨_,rfl⟩;have I6:∀a,rk a<=5000:=fun a=>by rw[<- hrk];have:=mZ (bF rs) N a;omega
 have hrr:∀a i,okR rs a i=true->i<rs.length->rk (toR rs i)<rk a:=fun a i h1 h2=>by rw[<- hrk];exact ko Bh hrp a i h1 h2
 obtain⟨T0,hT0⟩:∃T0,gQ rs N=T0:=⟨_,rfl⟩;have LD:vO rs rk (List.range N)=T0:=by rw[<- hT0,<- hrk];exact yM Bh hrp
 have hall:∀k,k<N->(dF rs rk k).length<=T0:=fun k hk=>by
  have:=pG rs rk N (k+1) hk;rw[List.range_succ,iH,LD]at this;omega
 have vL:=hid hall;have HFR:=hid (show iQ rs rk (List.range N)=cU rs N by rw[<- hrk];exact Dx Bh hrp);have HFF:=hid (show iR rs fs rk (List.range N)=cV rs fs N by rw[<- hrk];exact Dy Bh hrp);have Iw:=hid (show Calls Tryz.prog 10 #[dsc i o (N:Int) s A rs.length cr B fs.length cf] w2 (EX T0 w2)from by
  rw[<- LD];exact vS i o s N A cr B fs.length cf rs rk w2 (hd.below hb2).rules hl4 hto hrr I6 hNN.2)
 have HW8:=hid (fun W (h:Below w2.heap.size w2 W) (q:Nat)=>show Calls Tryz.prog 21 #[dsc i o (N:Int) s A rs.length cr B fs.length cf,.int .i64 (q:Int),.int .i64 4096] W (Cl (dF rs rk q) 4096 W)from
  pH i o N s A cr B fs.length cf rs q 4096 rk W (hd.below (HBW.out W h)).rules hl4 hto hrr I6 (by omega))
 have IE:=hid (fun W (h:Below w2.heap.size w2 W) (q:Nat) u g c (hg:RW W g u) (hm:u∈dF rs rk q)=>show Calls Tryz.prog 28 #[dsc i o (N:Int) s A rs.length cr B fs.length cf,.int .i64 (q:Int),.slice (some ⟨g,0,none⟩) u.length c] W (Jc (jP (toR rs) q u:Int) W)from
  BI i o N s A cr B fs.length cf rs q g c u W (hd.below (HBW.out W h)).rules hto hg (fG hm).1 (by have:=(fG hm).2;have:=I6 q;omega))
 have MF:=hid (fun W (h:Below w2.heap.size w2 W) (q:Nat) u g c (hg:RW W g u) (hm:u∈dF rs rk q) (T:Option Addr) (tc:Nat) (out:List TmL) (hout:RTm w T out.length out) (hnil:T=none->tc=0) (hob:out.length<=64)=>show Calls Tryz.prog 29 #[dsc i o (N:Int) s A rs.length cr B fs.length cf,.slice (some ⟨g,0,none⟩) u.length c,.slice T out.length tc] W (yw w.heap.size (wrL rs u++out) W)from
  vP i o N s A cr B fs.length cf rs g c u T tc out w W hd.rules hd.nr (HBW.out W h) (fun r hr=>(hR.rs r hr).2.2.2.2.2.2.1) hg (fG hm).1 (by have:=(fG hm).2;have:=I6 q;omega) hout hnil hob)
 have HUL:=hid (fun(q:Nat) u (hm:u∈dF rs rk q)=>show(wrL rs u).length<=64*u.length/\u.length<=5000 from⟨yO (fun r hr=>(hR.rs r hr).2.2.2.2.2.2.1) u,by have:=(fG hm).2;have:=I6 q;omega⟩);have HRB:=hid (fun r (hr:r∈rs)=>show r.out.length<=64 from(hR.rs r hr).2.2.2.2.2.2.1);have HFB:=hid (fun r (hr:r∈fs)=>show r.out.length<=64 from(hR.fs r hr).2.2.2.2.1);have HRU:=hid (show RRu w A rs.length rs/\rM w A rs.length 5 4 from⟨hd.rules,hd.nr⟩);have HFI:=hid (show RFi w B fs.length fs/\rM w B fs.length 3 2 from⟨hd.finals,hd.nf⟩);have OA:=hid (show(∀r∈cU rs N,r.out.length<=64->r.gs.length<=maxLen/\(∀g∈r.gs,g.length<=maxLen)/\r.out.length<=maxLen/\rN r.eat)/\(∀r∈cV rs fs N,r.out.length<=64->r.gs.length<=maxLen/\(∀g∈r.gs,g.length<=maxLen)/\r.out.length<=maxLen)from⟨fun r hr h1=>by
  obtain⟨r0,h0,_,q,ts,_,rfl⟩:=lY hr;obtain⟨_,_,_,_,h5,h6,_,_,h9,h10⟩:=hR.rs r0 h0;refine⟨by simp only[jY,maxLen];omega,fun g hg=>?_,by simp only[maxLen];omega,by simp only[jY,rN];omega⟩;have:=h6 g hg;simp only[maxLen];omega,fun r hr h1=>by
  obtain⟨r0,h0,q,ts,_,rfl⟩:=lZ hr;obtain⟨_,_,h5,h6,_⟩:=hR.fs r0 h0;refine⟨by simp only[mC,maxLen];omega,fun g hg=>?_,by simp only[maxLen];omega⟩;have:=h6 g hg;simp only[maxLen];omega⟩)
 have HT0:=hid hT0;obtain⟨R,hRL⟩:∃R,rs.length=R:=⟨_,rfl⟩;obtain⟨Q,hQL⟩:∃Q,fs.length=Q:=⟨_,rfl⟩;have HRR:=hid hRL;have HQQ:=hid hQL;rw[hRL]at hw2 HDB HQD Iw HW8 IE MF hl4 ⊢;rw[hQL]at hw2 HDB HQD Iw HW8 IE MF hl5 ⊢;obtain⟨hN1,hN2⟩:=hNN;obtain⟨i0,hi0,hz0,hz1,hz2⟩:=info_parts uP;obtain⟨iF,hiF,hy0,hy1,hy2⟩:=info_parts qH;obtain⟨p0,p1,p2,p3,p4,p5⟩:=HDB.out w2 (Below.refl _ _);clear hd hw hb2 hqd hqz hR Bh hrp hto hrk I6 hrr hT0 LD hall hRL hQL;go_enter Tryz.func13,Tryz.ntmps13;go_wp2_with (fail);refine Iw.out.mono ?_;rintro e w3 ⟨hb3,hcase⟩;have H3:=hid hb3;have HZ3:=hid (HZ.out w3 hb3);clear p0 p1 p2 p3 p4 p5;rcases hcase with⟨hT1,rfl⟩ | ⟨hT1,rfl⟩
 case inr=>as_aux_lemma=>
  clear hb3;have z0:=HZ3.out.cell 0;have y0:=HZ3.out.frozen 0;have z1:=HZ3.out.cell 1;have y1:=HZ3.out.frozen 1;have z2:=HZ3.out.cell 2;have y2:=HZ3.out.frozen 2;have z3:=HZ3.out.cell 3;have y3:=HZ3.out.frozen 3;have z4:=HZ3.out.cell 4;have y4:=HZ3.out.frozen 4;have z5:=HZ3.out.cell 5;have y5:=HZ3.out.frozen 5;simp only[sD,sE,sF]at z0 z1 z2 z3 z4 z5;go_wp2_with (fail);obtain⟨wE,hwE⟩:∃wE,(((((w3.setCell ⟨w.heap.size+1,0,none⟩ (.int .i64 0)).setCell ⟨w.heap.size+1,1,none⟩ (.int .i64 0)).setCell ⟨w.heap.size+1,2,none⟩ (.int .i64 0)).setCell ⟨w.heap.size+1,3,none⟩ (.int .i64 0)).setCell ⟨w.heap.size+1,4,none⟩ (.slice none 0 0)).setCell ⟨w.heap.size+1,5,none⟩ (.slice none 0 0)=wE:=⟨_,rfl⟩;have hqE:Blk wE (w.heap.size+1) 26 #[.int .i64 0,.int .i64 0,.int .i64 0,.int .i64 0,.slice none 0 0,.slice none 0 0]:=by
   rw[<- hwE];exact((((((HZ3.out.aV 0 _).aV 1 _).aV 2 _).aV 3 _).aV 4 _).aV 5 _)
  have hbE:Below w.heap.size w wE:=by
   rw[<- hwE];exact(((((((HBW.out w3 H3.out).setCell (by simp) _).setCell (by simp) _).setCell (by simp) _).setCell (by simp) _).setCell (by simp) _).setCell (by simp) _)
  have iq:∀g,g≠w.heap.size+1->wE.heap[g]? = w3.heap[g]?:=fun g hg=>by
   rw[<- hwE];rw[heap_setCell_other _ ⟨w.heap.size+1,5,none⟩ g _ hg,heap_setCell_other _ ⟨w.heap.size+1,4,none⟩ g _ hg,heap_setCell_other _ ⟨w.heap.size+1,3,none⟩ g _ hg,heap_setCell_other _ ⟨w.heap.size+1,2,none⟩ g _ hg,heap_setCell_other _ ⟨w.heap.size+1,1,none⟩ g _ hg,heap_setCell_other _ ⟨w.heap.size+1,0,none⟩ g _ hg]
  have hsE:wE.heap.size=w3.heap.size:=by rw[<- hwE];simp
  have k0:=hqE.cell 0;have k1:=hqE.cell 1;have k2:=hqE.cell 2;have k3:=hqE.cell 3;have k4:=hqE.cell 4;have k5:=hqE.cell 5;simp only[sD,sE,sF]at k0 k1 k2 k3 k4 k5;try rw[hwE]
  have gD:gP i o N s rs fs w (.returned (.tuple #[dsc 0 0 0 0 none 0 0 none 0 0,.bool false])) wE:=⟨hbE,.inl ⟨fun q=>by have:=q.1;rw[HT0.out]at this;omega,_,_,_,_,_,_,_,_,_,_,rfl⟩⟩;exact bodyPost_ret (v:=.tuple #[dsc 0 0 0 0 none 0 0 none 0 0,.bool false]) (by simp[results,Tryz.results13,go_sem,k0,k1,k2,k3,k4,k5]) rfl gD
 obtain⟨p0,p1,p2,p3,p4,p5⟩:=HDB.out w3 hb3;obtain⟨wz,hwz⟩:∃wz,w3.alloc (.cells #[.int .i64 i,.int .i64 o,.int .i64 (N:Int),.int .i64 s,.slice none 0 0,.slice none 0 0] 26)=wz:=⟨_,rfl⟩;obtain⟨x,hx⟩:∃x,w3.heap.size=x:=⟨_,rfl⟩;have hbz:Below w3.heap.size w3 wz:=by rw[<- hwz];exact(Below.refl _ _).alloc (Nat.le_refl _) _
 have hqz:Blk wz x 26 #[.int .i64 i,.int .i64 o,.int .i64 (N:Int),.int .i64 s,.slice none 0 0,.slice none 0 0]:=by rw[<- hwz,<- hx];exact heap_alloc_new w3 _
 have HWZ:=hid hwz;have HXE:=hid hx;have HBZ:=hid (show Below w2.heap.size w2 wz from hb3.trans (hbz.mono hb3.size));have HXX:=hid (show w2.heap.size<=x by have:=hb3.size;omega);have HST:=hid (show Kh w.heap.size x i o (N:Int) s rs fs rk N wz (.int .i64 0) (.int .i64 0) wz from⟨0,0,.slice none 0 0,.slice none 0 0,Nat.zero_le _,rfl,rfl,by simp[iQ],by simp[iR],⟨⟨hqz,fP.dS _ _ _,fQ.dS _ _ _,fun g e=>by simp[Value.ownBlock]at e,Nat.lt_succ_self _,by have:=HXX.out;have:=H2.out.1;omega⟩,Below.refl _ _,Lg.nil⟩⟩);clear hb3 hwz hbz hqz hx;go_upto_region 5 with(fail);try rw[HWZ.out]
 try rw[HXE.out]
 clear p0 p1 p2 p3 p4 p5;go_wp2_with (fail)
 go_loopw [7,8] (fun vlo vs wr=>Kh w.heap.size x i o (N:Int) s rs fs rk N wz vlo vs wr) (fun _ vs _=>N-(intOf vs).toNat)
 case atStart=>exact HST.out
 case round=>
  obtain⟨k,lo,v,vf,hk,rfl,rfl,hlR,hlF,hinv⟩:=hrel;have E9:=hid hinv;have JN:Below w2.heap.size w2 wr:=HBZ.out.trans (hinv.2.1.mono HXX.out);have M6:=hid JN;obtain⟨p0,p1,p2,p3,p4,p5⟩:=HDB.out wr JN;by_cases hlt:k<N
  case neg=>as_aux_lemma=>
   obtain rfl:k=N:=by omega
   rw[HFR.out,HFF.out]at hinv;rw[HFR.out]at hlR;rw[HFF.out]at hlF;obtain⟨hrj,hlow,hlg⟩:=hinv;obtain⟨vs1,ho1,_⟩:=hrj.rules;obtain⟨vs2,ho2,_⟩:=hrj.finals;obtain⟨A1,c1,hv1⟩:=ct ho1;obtain⟨A2,c2,hv2⟩:=ct ho2;subst hv1 hv2;obtain⟨L1,hL1⟩:∃L1,(cU rs k).length=L1:=⟨_,rfl⟩;obtain⟨L2,hL2⟩:∃L2,(cV rs fs k).length=L2:=⟨_,rfl⟩;have hxw:w.heap.size+2<=x:=by have:=HXX.out;have:=H2.out.2;omega
   have ML:=hid (fun(wE:World) (h1:∀g,g≠w.heap.size+1->wE.heap[g]? = wr.heap[g]?) (h2:wE.heap.size=wr.heap.size) (h3:∀r∈cU rs k,r.out.length<=64) (h4:∀f∈cV rs fs k,f.out.length<=64)=>show RRu wE A1 (cU rs k).length (cU rs k)/\RFi wE A2 (cV rs fs k).length (cV rs fs k)from by
    have a1:=(hrj.rules.keep (w':=wE) (by omega) (fun g e=>h1 g (by have:=(World.ownsRow.lt ho1 g e).1;omega)) (fun b hb _ _=>h1 b (by have h9:=hb.1;omega)) (fun _ hp _=>hp)).reads (fun r hr=>OA.out.1 r hr (h3 r hr));have a2:=(hrj.finals.keep (w':=wE) (by omega) (fun g e=>h1 g (by have:=(World.ownsRow.lt ho2 g e).1;omega)) (fun b hb _ _=>h1 b (by have h9:=hb.1;omega)) (fun _ hp _=>hp)).reads (fun r hr=>OA.out.2 r hr (h4 r hr));obtain⟨B1,d1,e1,r1,_⟩:=a1;obtain⟨B2,d2,e2,r2,_⟩:=a2;injection e1 with e1 _ _;injection e2 with e2 _ _;subst e1 e2;exact⟨r1,r2⟩)
   have HLG:=hid hlg;have PJ:=hid hlR;have PO:=hid hlF;have HLL:=hid (And.intro hL1 hL2);have oZ:=M6;have HZE:=hid (HZ.out wr oZ.out);have hq:Blk wr x 26 _:=hrj.box;rw[hL1,hL2]at hq;have q0:=hq.cell 0;have q1:=hq.cell 1;have q2:=hq.cell 2;have q3:=hq.cell 3;have q4:=hq.cell 4;have q5:=hq.cell 5;simp only[sD,sE,sF]at q0 q1 q2 q3 q4 q5;have z0:=HZE.out.cell 0;have y0:=HZE.out.frozen 0;have z1:=HZE.out.cell 1;have y1:=HZE.out.frozen 1;have z2:=HZE.out.cell 2;have y2:=HZE.out.frozen 2;have z3:=HZE.out.cell 3;have y3:=HZE.out.frozen 3;have z4:=HZE.out.cell 4;have y4:=HZE.out.frozen 4;have z5:=HZE.out.cell 5;have y5:=HZE.out.frozen 5;simp only[sD,sE,sF]at z0 z1 z2 z3 z4 z5;clear hrj hlow hlg hlR hlF ho1 ho2 hq hL1 hL2 JN;by_cases h64:lo<=64
   ·have tt:decide ((lo:Int)<=64)=true:=decide_eq_true (by omega)
    go_wp2_with (fail);obtain⟨wE,hwE⟩:∃wE,(((((wr.setCell ⟨w.heap.size+1,0,none⟩ (.int .i64 i)).setCell ⟨w.heap.size+1,1,none⟩ (.int .i64 o)).setCell ⟨w.heap.size+1,2,none⟩ (.int .i64 (k:Int))).setCell ⟨w.heap.size+1,3,none⟩ (.int .i64 s)).setCell ⟨w.heap.size+1,4,none⟩ (.slice A1 L1 c1)).setCell ⟨w.heap.size+1,5,none⟩ (.slice A2 L2 c2)=wE:=⟨_,rfl⟩;have hqE:Blk wE (w.heap.size+1) 26 #[.int .i64 i,.int .i64 o,.int .i64 (k:Int),.int .i64 s,.slice A1 L1 c1,.slice A2 L2 c2]:=by
     rw[<- hwE];exact((((((HZE.out.aV 0 _).aV 1 _).aV 2 _).aV 3 _).aV 4 _).aV 5 _)
    have hbE:Below w.heap.size w wE:=by
     rw[<- hwE];exact(((((((HBW.out wr oZ.out).setCell (by simp) _).setCell (by simp) _).setCell (by simp) _).setCell (by simp) _).setCell (by simp) _).setCell (by simp) _)
    have iq:∀g,g≠w.heap.size+1->wE.heap[g]? = wr.heap[g]?:=fun g hg=>by
     rw[<- hwE];rw[heap_setCell_other _ ⟨w.heap.size+1,5,none⟩ g _ hg,heap_setCell_other _ ⟨w.heap.size+1,4,none⟩ g _ hg,heap_setCell_other _ ⟨w.heap.size+1,3,none⟩ g _ hg,heap_setCell_other _ ⟨w.heap.size+1,2,none⟩ g _ hg,heap_setCell_other _ ⟨w.heap.size+1,1,none⟩ g _ hg,heap_setCell_other _ ⟨w.heap.size+1,0,none⟩ g _ hg]
    have hsE:wE.heap.size=wr.heap.size:=by rw[<- hwE];simp
    have k0:=hqE.cell 0;have k1:=hqE.cell 1;have k2:=hqE.cell 2;have k3:=hqE.cell 3;have k4:=hqE.cell 4;have k5:=hqE.cell 5;simp only[sD,sE,sF]at k0 k1 k2 k3 k4 k5;try rw[hwE]
    have gD:gP i o k s rs fs w (.returned (.tuple #[dsc i o (k:Int) s A1 L1 c1 A2 L2 c2,.bool true])) wE:=by
     have hok:dI rs fs k:=⟨PJ.out,PO.out,fun r hr=>Nat.le_trans (HLG.out.1 r hr) h64,fun r hr=>Nat.le_trans (HLG.out.2.1 r hr) h64⟩;obtain⟨r1,r2⟩:=ML.out wE iq hsE hok.2.2.1 hok.2.2.2;exact⟨hbE,.inr ⟨⟨by rw[HT0.out];exact hT1,hok⟩,A1,c1,A2,c2,by rw[HLL.out.1,HLL.out.2],r1,r2⟩⟩
    exact bodyPost_ret (v:=.tuple #[dsc i o (k:Int) s A1 L1 c1 A2 L2 c2,.bool true]) (by simp[results,Tryz.results13,go_sem,k0,k1,k2,k3,k4,k5]) rfl gD
   ·have tt:decide ((lo:Int)<=64)=false:=decide_eq_false (by omega)
    go_wp2_with (fail);obtain⟨wE,hwE⟩:∃wE,(((((wr.setCell ⟨w.heap.size+1,0,none⟩ (.int .i64 i)).setCell ⟨w.heap.size+1,1,none⟩ (.int .i64 o)).setCell ⟨w.heap.size+1,2,none⟩ (.int .i64 (k:Int))).setCell ⟨w.heap.size+1,3,none⟩ (.int .i64 s)).setCell ⟨w.heap.size+1,4,none⟩ (.slice A1 L1 c1)).setCell ⟨w.heap.size+1,5,none⟩ (.slice A2 L2 c2)=wE:=⟨_,rfl⟩;have hqE:Blk wE (w.heap.size+1) 26 #[.int .i64 i,.int .i64 o,.int .i64 (k:Int),.int .i64 s,.slice A1 L1 c1,.slice A2 L2 c2]:=by
     rw[<- hwE];exact((((((HZE.out.aV 0 _).aV 1 _).aV 2 _).aV 3 _).aV 4 _).aV 5 _)
    have hbE:Below w.heap.size w wE:=by
     rw[<- hwE];exact(((((((HBW.out wr oZ.out).setCell (by simp) _).setCell (by simp) _).setCell (by simp) _).setCell (by simp) _).setCell (by simp) _).setCell (by simp) _)
    have iq:∀g,g≠w.heap.size+1->wE.heap[g]? = wr.heap[g]?:=fun g hg=>by
     rw[<- hwE];rw[heap_setCell_other _ ⟨w.heap.size+1,5,none⟩ g _ hg,heap_setCell_other _ ⟨w.heap.size+1,4,none⟩ g _ hg,heap_setCell_other _ ⟨w.heap.size+1,3,none⟩ g _ hg,heap_setCell_other _ ⟨w.heap.size+1,2,none⟩ g _ hg,heap_setCell_other _ ⟨w.heap.size+1,1,none⟩ g _ hg,heap_setCell_other _ ⟨w.heap.size+1,0,none⟩ g _ hg]
    have hsE:wE.heap.size=wr.heap.size:=by rw[<- hwE];simp
    have k0:=hqE.cell 0;have k1:=hqE.cell 1;have k2:=hqE.cell 2;have k3:=hqE.cell 3;have k4:=hqE.cell 4;have k5:=hqE.cell 5;simp only[sD,sE,sF]at k0 k1 k2 k3 k4 k5;try rw[hwE]
    have gD:gP i o k s rs fs w (.returned (.tuple #[dsc i o (k:Int) s A1 L1 c1 A2 L2 c2,.bool false])) wE:=by
     refine⟨hbE,.inl ⟨fun q=>?_,_,_,_,_,_,_,_,_,_,_,rfl⟩⟩;obtain⟨_,_,h3,h4⟩:=q.2;rcases HLG.out.2.2 (by omega)with⟨r,hr,hh⟩ | ⟨r,hr,hh⟩
     ·have:=h3 r hr
      omega
     ·have:=h4 r hr
      omega
    exact bodyPost_ret (v:=.tuple #[dsc i o (k:Int) s A1 L1 c1 A2 L2 c2,.bool false]) (by simp[results,Tryz.results13,go_sem,k0,k1,k2,k3,k4,k5]) rfl gD
  obtain⟨wS,rfl⟩:∃wS:World,wS=wr:=⟨_,rfl⟩;have HC:=hid (HW8.out wS JN k);have i0k:(0:Int)<=(k:Int):=Int.natCast_nonneg _;have i1k:(k:Int)<(N:Int):=by omega
  have hak:=vL.out k hlt;have HLR:=hid hlR;have HLF:=hid hlF;clear hinv JN hlR hlF;go_wp2_with (fail);refine HC.out.mono ?_;rintro e w5 ⟨AL,cL,rfl,hws,hb5⟩;obtain⟨ls,hls⟩:∃ls,dF rs rk k=ls:=⟨_,rfl⟩;have htk:(dF rs rk k).take (4096+1)=ls:=by rw[List.take_of_length_le (by omega),hls]
  rw[htk]at hws ⊢;rw[hls]at hak;obtain⟨vs,hvs,hlk⟩:=hws;have hne:0<ls.length:=by rw[<- hls];exact Nat.succ_pos _
  obtain⟨gL,QC,hA,_⟩:=World.ownsRow.form hvs hne;injection hA with hA1 _ hA2;subst hA1 hA2;obtain⟨nls,KV⟩:∃nls,ls.length=nls:=⟨_,rfl⟩;have HLS:=hid hls;have Lh:=hid KV;have MS:=hid (E9.out.keep hb5);have QJ:=hid (show Below w2.heap.size w2 w5 from M6.out.trans (hb5.mono M6.out.size));have HGL:=hid (World.ownsRow.lt hvs gL rfl);have Pp:=hid (show x<wS.heap.size from E9.out.1.box.lt);have PN:=hid (fun kk (hkk:kk<ls.length)=>show∃gk ck,w5.cell? ⟨gL,kk,none⟩=some (.slice (some ⟨gk,0,none⟩) ls[kk].length ck)/\RW w5 gk ls[kk]/\wS.heap.size<=gk from by
   obtain⟨gk,ck,h1,h2,_,h4⟩:=hlk kk hkk;refine⟨gk,ck,?_,h2,h4⟩;rw[World.ownsRow.cellAt hvs kk (by omega),h1])
  have hown1:∀g,v.ownBlock=some g->g<wS.heap.size:=fun g e=>by
   obtain⟨vs0,q0,_⟩:=E9.out.1.rules;exact(World.ownsRow.lt q0 g e).2
  have hown2:∀g,vf.ownBlock=some g->g<wS.heap.size:=fun g e=>by
   obtain⟨vs0,q0,_⟩:=E9.out.1.finals;exact(World.ownsRow.lt q0 g e).2
  have HKB:=hid (fun W v9 vf9 (h:Fx x v vf v9 vf9 w5 W) b (h1:wS.heap.size<=b) (h2:b<w5.heap.size)=>show W.heap[b]? = w5.heap[b]? from h.kd.2 b h2 (by have:=Pp.out;omega) (fun e=>by have:=hown1 b e;omega) (fun e=>by have:=hown2 b e;omega));have HK0:=hid (show MB w.heap.size x i o (N:Int) s rs fs k ls (iQ rs rk (List.range k)) (iR rs fs rk (List.range k)) v vf w5 wz (.int .i64 (lo:Int)) (.int .i64 0) w5 from⟨0,lo,v,vf,Nat.zero_le _,rfl,rfl,by simpa using HLR.out,by simpa using HLF.out,by simpa using MS.out,Fx.refl _ _ _ _⟩);have HSU:=hid (show iQ rs rk (List.range (k+1))=iQ rs rk (List.range k)++ls.flatMap (r8R rs k)/\iR rs fs rk (List.range (k+1))=iR rs fs rk (List.range k)++ls.flatMap (r8F rs fs k)from by
   rw[wO,wP,hls];exact⟨rfl,rfl⟩)
  have HLE:=hid (fun kk=>show(iQ rs rk (List.range k)++(ls.take kk).flatMap (r8R rs k)).length<=(cU rs N).length/\(iR rs fs rk (List.range k)++(ls.take kk).flatMap (r8F rs fs k)).length<=(cV rs fs N).length from by
   rw[<- HFR.out,<- HFF.out,<- hls];exact⟨zL (f:=dF rs rk) (g:=r8R rs) hlt,zL (f:=dF rs rk) (g:=r8F rs fs) hlt⟩)
  obtain⟨Lk,hLk⟩:∃Lk,iQ rs rk (List.range k)=Lk:=⟨_,rfl⟩;obtain⟨Fk,hFk⟩:∃Fk,iR rs fs rk (List.range k)=Fk:=⟨_,rfl⟩;rw[hLk,hFk]at HK0 HSU HLE;have hn4:(nls:Int)<=4096:=by rw[<- KV];omega
  rw[KV];clear hak htk hvs hlk hne hls KV hb5 hLk hFk hown1 hown2 p0 p1 p2 p3 p4 p5;go_wp2_with (fail)
  go_loopw [7,10] (fun vlo vk wr=>MB w.heap.size x i o (N:Int) s rs fs k ls Lk Fk v vf w5 wz vlo vk wr) (fun _ vk _=>nls-(intOf vk).toNat)
  case atStart=>exact HK0.out
  case round=>
   obtain⟨kk,lo,v1,vf1,hkk,rfl,rfl,hlR,hlF,hinv,hfx⟩:=hrel;rw[Lh.out]at hkk;have IC:=hid hinv;have MX:=hid hfx;have K0:Below w2.heap.size w2 wr:=HBZ.out.trans (hinv.2.1.mono HXX.out);have oZ:=hid K0;by_cases hkt:kk<nls
   case neg=>as_aux_lemma=>
    have HF:=hid (show Kh w.heap.size x i o (N:Int) s rs fs rk N wz (.int .i64 (lo:Int)) (.int .i64 ((k:Int)+1)) wr from by
     rw[List.take_of_length_le (by rw[Lh.out];omega)]at hlR hlF hinv;rw[<- HSU.out.1]at hlR hinv;rw[<- HSU.out.2]at hlF hinv;exact⟨k+1,lo,v1,vf1,hlt,by go_num,rfl,hlR,hlF,hinv⟩)
    clear hinv hfx hlR hlF K0;go_wp2_with (fail)
    go_roundw
    case rel=>exact HF.out
    case measure=>simp[intOf];omega
   have hkl:kk<ls.length:=by rw[Lh.out];exact hkt
   obtain⟨wK,rfl⟩:∃wK:World,wK=wr:=⟨_,rfl⟩;obtain⟨gk,ck,hck,JF,hgk⟩:=PN.out kk hkl;obtain⟨u,hu⟩:∃u,ls[kk]=u:=⟨_,rfl⟩;rw[hu]at hck JF;have hum:u∈dF rs rk k:=by rw[HLS.out,<- hu];exact List.getElem_mem hkl
   obtain⟨nu,hnu⟩:∃nu,u.length=nu:=⟨_,rfl⟩;have HNU:=hid hnu;have HUM:=hid hum;have hul:=HUL.out k u hum;have PX:=hid (show wS.heap.size<=gL from HGL.out.1);have Jf:=hid (fun W v9 vf9 (h:Fx x v vf v9 vf9 w5 W)=>show W.cell? ⟨gL,kk,none⟩=some (.slice (some ⟨gk,0,none⟩) nu ck)/\RW W gk u from by
    have a1:=HKB.out W v9 vf9 h gL PX.out HGL.out.2;have a2:=HKB.out W v9 vf9 h gk hgk JF.1;refine⟨?_,Nat.lt_of_lt_of_le JF.1 h.kd.1,fun q hq=>?_⟩
    ·have h3:=hck
     simp only[World.cell?]at h3 ⊢;rw[a1];rw[hnu]at h3;exact h3
    ·have h3:=JF.2 q hq
     simp only[World.cell?]at h3 ⊢;rw[a2];exact h3)
   obtain⟨e,he⟩:∃e,jP (toR rs) k u=e:=⟨_,rfl⟩;have HE:=hid he;have PZ:=hid (fun W (h:Below w2.heap.size w2 W) (hg:RW W gk u)=>show Calls Tryz.prog 28 #[.agg #[.int .i64 i,.int .i64 o,.int .i64 (N:Int),.int .i64 s,.slice A R cr,.slice B Q cf],.int .i64 (k:Int),.slice (some ⟨gk,0,none⟩) nu ck] W (Jc (e:Int) W)from by
    have:=IE.out W h k u gk ck hg HUM.out;rw[he,hnu]at this;exact this)
   obtain⟨ts,hts⟩:∃ts,wrL rs u=ts:=⟨_,rfl⟩;have QF:=hid hts;have HTS:=hid (show ts.length<=320000 by rw[<- hts];omega);have HWR:=hid (fun W (h:Below w2.heap.size w2 W) (hg:RW W gk u) (T:Option Addr) (tc:Nat) (out:List TmL) (tn:Nat) (htn:out.length=tn) (hout:RTm w T tn out) (hnil:T=none->tc=0) (hob:tn<=64)=>show Calls Tryz.prog 29 #[.agg #[.int .i64 i,.int .i64 o,.int .i64 (N:Int),.int .i64 s,.slice A R cr,.slice B Q cf],.slice (some ⟨gk,0,none⟩) nu ck,.slice T tn tc] W (yw w.heap.size (ts++out) W)from by
    subst htn;have:=MF.out W h k u gk ck hg HUM.out T tc out hout hnil hob;rw[hts,hnu]at this;exact this)
   have Lf:=hid (show Lk++(ls.take (kk+1)).flatMap (r8R rs k)=(Lk++(ls.take kk).flatMap (r8R rs k))++bN (k:Int) ts (roD rs e)/\Fk++(ls.take (kk+1)).flatMap (r8F rs fs k)=(Fk++(ls.take kk).flatMap (r8F rs fs k))++cB (k:Int) ts (foD fs e)from by
    rw[List.take_succ_eq_append_getElem hkl,hu,List.flatMap_append,List.flatMap_append,<- hts,<- he];simp[r8R,r8F])
   obtain⟨L1,hL1⟩:∃L1,Lk++(ls.take kk).flatMap (r8R rs k)=L1:=⟨_,rfl⟩;obtain⟨F1,hF1⟩:∃F1,Fk++(ls.take kk).flatMap (r8F rs fs k)=F1:=⟨_,rfl⟩;rw[hL1]at Lf IC hlR;rw[hF1]at Lf IC hlF;have QH:=hid hlR;have PS:=hid hlF;have HDL:=hid (fun W v9 vf9 (h:Fx x v vf v9 vf9 w5 W) (hb:Below w2.heap.size w2 W)=>show(W.cell? ⟨w.heap.size,0,none⟩=some (.int .i64 i)/\W.cell? ⟨w.heap.size,1,none⟩=some (.int .i64 o)/\W.cell? ⟨w.heap.size,2,none⟩=some (.int .i64 (N:Int))/\W.cell? ⟨w.heap.size,3,none⟩=some (.int .i64 s)/\W.cell? ⟨w.heap.size,4,none⟩=some (.slice A R cr)/\W.cell? ⟨w.heap.size,5,none⟩=some (.slice B Q cf))/\W.cell? ⟨gL,kk,none⟩=some (.slice (some ⟨gk,0,none⟩) nu ck)from⟨HDB.out W hb,(Jf.out W v9 vf9 h).1⟩);have HIN:=hid (fun W (hb:Below wK.heap.size wK W)=>show K8 w.heap.size x i o (N:Int) s (k:Int) ts e rs L1 F1 vf1 v vf w5 wz (.int .i64 (lo:Int)) (.int .i64 0) W from⟨0,lo,v1,Nat.zero_le _,rfl,rfl,by simpa[bN,roD]using hlR,by simpa[bN,roD]using IC.out.keep hb,MX.out.keep hb⟩);have j1:(0:Int)<=(kk:Int):=Int.natCast_nonneg _;have j2:(kk:Int)<(nls:Int):=by omega
   obtain⟨p0,p1,p2,p3,p4,p5⟩:=HDB.out wK K0;clear hinv hfx hlR hlF K0 hck JF hgk hu hum hnu hul he hts hL1 hF1 hkl;go_upto_region 13 with(fail);clear p0 p1 p2 p3 p4 p5
   go_cut [11] (fun ve wx=>ve = .int .i64 (e:Int)/\Below wK.heap.size wK wx)
   case first=>as_aux_lemma=>
    obtain⟨wd,hwd⟩:∃wd,wK.drew=wd:=⟨_,rfl⟩;have hbd:Below wK.heap.size wK wd:=by rw[<- hwd];exact(Below.refl _ _).drew
    have HBD:=hid (fun W (h:Below wK.heap.size wK W)=>HDL.out W v1 vf1 (MX.out.keep h) (oZ.out.trans (h.mono oZ.out.size)));refine wp_region_held_drew (S:=fun W=>(W.cell? ⟨w.heap.size,0,none⟩=some (.int .i64 i)/\W.cell? ⟨w.heap.size,1,none⟩=some (.int .i64 o)/\W.cell? ⟨w.heap.size,2,none⟩=some (.int .i64 (N:Int))/\W.cell? ⟨w.heap.size,3,none⟩=some (.int .i64 s)/\W.cell? ⟨w.heap.size,4,none⟩=some (.slice A R cr)/\W.cell? ⟨w.heap.size,5,none⟩=some (.slice B Q cf))/\W.cell? ⟨gL,kk,none⟩=some (.slice (some ⟨gk,0,none⟩) nu ck)) (by kernel_rfl) (by rw[hwd];exact HBD.out wd hbd) (fun hHeld=>?_);rw[hwd]at hHeld ⊢;refine tk 0 ⟨some 50,.load 26 (.tmp 1),_,_,_,none⟩ ?_ rfl ?_ ?_;rotate_left
    ·intro w' hSw
     (try dsimp only at hSw)
     obtain⟨⟨p0,p1,p2,p3,p4,p5⟩,q1⟩:=hSw;go_simp;all_goals with_reducible rfl
    try simp only[Act.put,sA,sB,sC]
    refine tk 1 ⟨some 51,.move (.tmp 8),_,_,_,none⟩ ?_ rfl ?_ ?_;rotate_left
    ·intro w' hSw
     (try dsimp only at hSw)
     obtain⟨⟨p0,p1,p2,p3,p4,p5⟩,q1⟩:=hSw;go_simp;all_goals with_reducible rfl
    try simp only[Act.put,sA,sB,sC]
    refine tk 2 ⟨some 52,.move (.tmp 9),_,_,_,none⟩ ?_ rfl ?_ ?_;rotate_left
    ·intro w' hSw
     (try dsimp only at hSw)
     obtain⟨⟨p0,p1,p2,p3,p4,p5⟩,q1⟩:=hSw;go_simp;all_goals with_reducible rfl
    try simp only[Act.put,sA,sB,sC]
    refine tk 3 ⟨some 53,.move (.tmp 10),_,_,_,none⟩ ?_ rfl ?_ ?_;rotate_left
    ·intro w' hSw
     (try dsimp only at hSw)
     obtain⟨⟨p0,p1,p2,p3,p4,p5⟩,q1⟩:=hSw;go_simp;all_goals with_reducible rfl
    try simp only[Act.put,sA,sB,sC]
    refine tk 4 ⟨some 54,.indexAddr 61 (.tmp 52) (.tmp 53),_,_,_,none⟩ ?_ rfl ?_ ?_;rotate_left
    ·intro w' hSw
     (try dsimp only at hSw)
     obtain⟨⟨p0,p1,p2,p3,p4,p5⟩,q1⟩:=hSw;go_simp;all_goals with_reducible rfl
    try simp only[Act.put,sA,sB,sC]
    refine tk 5 ⟨some 55,.load 73 (.tmp 54),_,_,_,none⟩ ?_ rfl ?_ ?_;rotate_left
    ·intro w' hSw
     (try dsimp only at hSw)
     obtain⟨⟨p0,p1,p2,p3,p4,p5⟩,q1⟩:=hSw;go_simp;all_goals with_reducible rfl
    try simp only[Act.put,sA,sB,sC]
    refine wpAnyH_ready (rs:=[6]) (by kernel_rfl) (by simp) ?_;refine AllReadyH.cons (o:=⟨some 56,.call { callee:=.value (.func 28),args:=#[.tmp 50,.tmp 51,.tmp 55],argTypes:=#[26,3,73] },_,_,_,none⟩) rfl (fun K hK=>?_) AllReadyH.nil;go_simp;go_wp2_with (go_at_call 28;(with_reducible refine(PZ.out wd (oZ.out.trans (hbd.mono oZ.out.size)) (Jf.out wd v1 vf1 (MX.out.keep hbd)).2).mono ?_);rintro e9 w9 ⟨rfl,hb9⟩);have hb9:Below wK.heap.size wK w9:=hbd.trans (hb9.mono hbd.size);refine hK.out _ _ ?_ (fun hHeld=>?_)
    ·exact HBD.out w9 hb9
    clear hK K;try simp only[Act.put,sA,sB,sC]
    refine tk 7 ⟨some 11,.assign (.tmp 56),_,_,_,none⟩ ?_ rfl ?_ ?_;rotate_left
    ·intro w' hSw
     (try dsimp only at hSw)
     obtain⟨⟨p0,p1,p2,p3,p4,p5⟩,q1⟩:=hSw;go_simp;all_goals with_reducible rfl
    try simp only[Act.put,sA,sB,sC]
    refine wpAnyH_done (by kernel_rfl) ?_ _;go_wp2_with (fail);go_meet;exact⟨rfl,hb9⟩
   case rest=>
   obtain⟨wx,rfl⟩:∃wx:World,wx=wc:=⟨_,rfl⟩;obtain⟨rfl,hbx⟩:=hcut;have HI0:=hid (HIN.out wx hbx);have NY:Below w2.heap.size w2 wx:=oZ.out.trans (hbx.mono oZ.out.size);obtain⟨p0,p1,p2,p3,p4,p5⟩:=HDB.out wx NY;clear hbx NY;go_wp2_with (fail);clear p0 p1 p2 p3 p4 p5
   go_loopw [7,12] (fun vlo vi wr=>K8 w.heap.size x i o (N:Int) s (k:Int) ts e rs L1 F1 vf1 v vf w5 wz vlo vi wr) (fun _ vi _=>R-(intOf vi).toNat)
   case atStart=>exact HI0.out
   case round=>
    obtain⟨j,lo,v2,hj,rfl,rfl,hlen,hinv,hfx⟩:=hrel;have Fa:=hid hinv;have HFX:=hid hfx;rw[HRR.out]at hj;have hbw:Below w2.heap.size w2 wr:=HBZ.out.trans (hinv.2.1.mono HXX.out);have HBR:=hid hbw;obtain⟨p0,p1,p2,p3,p4,p5⟩:=HDB.out wr hbw;by_cases hlt:j<R
    case neg=>as_aux_lemma=>
     obtain rfl:R=j:=by omega
     rw[List.take_of_length_le (by rw[HRR.out];exact Nat.le_refl _),<- Lf.out.1]at hlen hinv;obtain⟨L2,hL2⟩:∃L2,Lk++(ls.take (kk+1)).flatMap (r8R rs k)=L2:=⟨_,rfl⟩;have HL2:=hid hL2;rw[hL2]at hlen hinv;have PL:=hid hlen;have HJ0:=hid (show K6 w.heap.size x i o (N:Int) s (k:Int) ts e fs L2 F1 v2 v vf w5 wz (.int .i64 (lo:Int)) (.int .i64 0) wr from⟨0,lo,vf1,Nat.zero_le _,rfl,rfl,by simpa[cB,foD]using PS.out,by simpa[cB,foD]using hinv,hfx⟩);clear hinv hfx hlen hbw hL2;go_wp2_with (fail);clear p0 p1 p2 p3 p4 p5
     go_loopw [7,15] (fun vlo vi wr=>K6 w.heap.size x i o (N:Int) s (k:Int) ts e fs L2 F1 v2 v vf w5 wz vlo vi wr) (fun _ vi _=>Q-(intOf vi).toNat)
     case atStart=>exact HJ0.out
     case round=>
      obtain⟨j,lo,v9,hj,rfl,rfl,hlen,hinv,hfx⟩:=hrel;have Fa:=hid hinv;have HFX:=hid hfx;rw[HQQ.out]at hj;have hbw:Below w2.heap.size w2 wr:=HBZ.out.trans (hinv.2.1.mono HXX.out);have HBR:=hid hbw;obtain⟨p0,p1,p2,p3,p4,p5⟩:=HDB.out wr hbw;by_cases hlt:j<Q
      case neg=>as_aux_lemma=>
       obtain rfl:Q=j:=by omega
       rw[List.take_of_length_le (by rw[HQQ.out];exact Nat.le_refl _),<- Lf.out.2]at hlen hinv;rw[<- HL2.out]at hinv;have hl2:=PL.out;rw[<- HL2.out]at hl2;obtain⟨vs1,ho1,_⟩:=hinv.1.rules;obtain⟨vs2,ho2,_⟩:=hinv.1.finals;obtain⟨Ax,cx1,hv1⟩:=ct ho1;obtain⟨Bx,cx2,hv2⟩:=ct ho2;subst hv1 hv2;have hle:=HLE.out (kk+1);have hx4:=hinv.1.box.at4;have hx5:=hinv.1.box.at5;obtain⟨nA,hnA⟩:∃nA,(Lk++(ls.take (kk+1)).flatMap (r8R rs k)).length=nA:=⟨_,rfl⟩;obtain⟨nB,hnB⟩:∃nB,(Fk++(ls.take (kk+1)).flatMap (r8F rs fs k)).length=nB:=⟨_,rfl⟩;rw[hnA]at hx4 hl2 hle;rw[hnB]at hx5 hlen hle;have HNO:=hid (fun(h:4096<nA\/4096<nB)=>show ¬ dI rs fs N from fun q=>by
        obtain⟨q1,q2,_⟩:=q;omega)
       have PW:=hid (fun(h1:nA<=4096) (h2:nB<=4096)=>show MB w.heap.size x i o (N:Int) s rs fs k ls Lk Fk v vf w5 wz (.int .i64 (lo:Int)) (.int .i64 ((kk:Int)+1)) wr from⟨kk+1,lo,_,_,by rw[Lh.out];exact hkt,by go_num,rfl,by rw[hnA];exact h1,by rw[hnB];exact h2,hinv,hfx⟩);have HZE:=hid (HZ.out wr hbw);have Oz:=hid hbw;have t9:(nA:Int)<=10000:=by omega
       have t8:(nB:Int)<=10000:=by omega
       clear hinv hfx hlen hl2 ho1 ho2 hle hnA hnB hbw;by_cases g1:4096<nA
       ·have tt:decide ((4096:Int)<(nA:Int))=true:=decide_eq_true (by omega)
        have HNO:=hid (HNO.out (.inl g1));have z0:=HZE.out.cell 0;have y0:=HZE.out.frozen 0;have z1:=HZE.out.cell 1;have y1:=HZE.out.frozen 1;have z2:=HZE.out.cell 2;have y2:=HZE.out.frozen 2;have z3:=HZE.out.cell 3;have y3:=HZE.out.frozen 3;have z4:=HZE.out.cell 4;have y4:=HZE.out.frozen 4;have z5:=HZE.out.cell 5;have y5:=HZE.out.frozen 5;simp only[sD,sE,sF]at z0 z1 z2 z3 z4 z5;go_wp2_with (fail);obtain⟨wE,hwE⟩:∃wE,(((((wr.setCell ⟨w.heap.size+1,0,none⟩ (.int .i64 0)).setCell ⟨w.heap.size+1,1,none⟩ (.int .i64 0)).setCell ⟨w.heap.size+1,2,none⟩ (.int .i64 0)).setCell ⟨w.heap.size+1,3,none⟩ (.int .i64 0)).setCell ⟨w.heap.size+1,4,none⟩ (.slice none 0 0)).setCell ⟨w.heap.size+1,5,none⟩ (.slice none 0 0)=wE:=⟨_,rfl⟩;have hqE:Blk wE (w.heap.size+1) 26 #[.int .i64 0,.int .i64 0,.int .i64 0,.int .i64 0,.slice none 0 0,.slice none 0 0]:=by
         rw[<- hwE];exact((((((HZE.out.aV 0 _).aV 1 _).aV 2 _).aV 3 _).aV 4 _).aV 5 _)
        have hbE:Below w.heap.size w wE:=by
         rw[<- hwE];exact(((((((HBW.out wr Oz.out).setCell (by simp) _).setCell (by simp) _).setCell (by simp) _).setCell (by simp) _).setCell (by simp) _).setCell (by simp) _)
        have iq:∀g,g≠w.heap.size+1->wE.heap[g]? = wr.heap[g]?:=fun g hg=>by
         rw[<- hwE];rw[heap_setCell_other _ ⟨w.heap.size+1,5,none⟩ g _ hg,heap_setCell_other _ ⟨w.heap.size+1,4,none⟩ g _ hg,heap_setCell_other _ ⟨w.heap.size+1,3,none⟩ g _ hg,heap_setCell_other _ ⟨w.heap.size+1,2,none⟩ g _ hg,heap_setCell_other _ ⟨w.heap.size+1,1,none⟩ g _ hg,heap_setCell_other _ ⟨w.heap.size+1,0,none⟩ g _ hg]
        have hsE:wE.heap.size=wr.heap.size:=by rw[<- hwE];simp
        have k0:=hqE.cell 0;have k1:=hqE.cell 1;have k2:=hqE.cell 2;have k3:=hqE.cell 3;have k4:=hqE.cell 4;have k5:=hqE.cell 5;simp only[sD,sE,sF]at k0 k1 k2 k3 k4 k5;try rw[hwE]
        have gD:gP i o N s rs fs w (.returned (.tuple #[dsc 0 0 0 0 none 0 0 none 0 0,.bool false])) wE:=⟨hbE,.inl ⟨fun q=>HNO.out q.2,_,_,_,_,_,_,_,_,_,_,rfl⟩⟩;exact bodyPost_ret (v:=.tuple #[dsc 0 0 0 0 none 0 0 none 0 0,.bool false]) (by simp[results,Tryz.results13,go_sem,k0,k1,k2,k3,k4,k5]) rfl gD
       by_cases g2:4096<nB
       ·have tt:decide ((4096:Int)<(nA:Int))=false:=decide_eq_false (by omega)
        have tu:decide ((4096:Int)<(nB:Int))=true:=decide_eq_true (by omega);have HNO:=hid (HNO.out (.inr g2));have z0:=HZE.out.cell 0;have y0:=HZE.out.frozen 0;have z1:=HZE.out.cell 1;have y1:=HZE.out.frozen 1;have z2:=HZE.out.cell 2;have y2:=HZE.out.frozen 2;have z3:=HZE.out.cell 3;have y3:=HZE.out.frozen 3;have z4:=HZE.out.cell 4;have y4:=HZE.out.frozen 4;have z5:=HZE.out.cell 5;have y5:=HZE.out.frozen 5;simp only[sD,sE,sF]at z0 z1 z2 z3 z4 z5;go_wp2_with (fail);obtain⟨wE,hwE⟩:∃wE,(((((wr.setCell ⟨w.heap.size+1,0,none⟩ (.int .i64 0)).setCell ⟨w.heap.size+1,1,none⟩ (.int .i64 0)).setCell ⟨w.heap.size+1,2,none⟩ (.int .i64 0)).setCell ⟨w.heap.size+1,3,none⟩ (.int .i64 0)).setCell ⟨w.heap.size+1,4,none⟩ (.slice none 0 0)).setCell ⟨w.heap.size+1,5,none⟩ (.slice none 0 0)=wE:=⟨_,rfl⟩;have hqE:Blk wE (w.heap.size+1) 26 #[.int .i64 0,.int .i64 0,.int .i64 0,.int .i64 0,.slice none 0 0,.slice none 0 0]:=by
         rw[<- hwE];exact((((((HZE.out.aV 0 _).aV 1 _).aV 2 _).aV 3 _).aV 4 _).aV 5 _)
        have hbE:Below w.heap.size w wE:=by
         rw[<- hwE];exact(((((((HBW.out wr Oz.out).setCell (by simp) _).setCell (by simp) _).setCell (by simp) _).setCell (by simp) _).setCell (by simp) _).setCell (by simp) _)
        have iq:∀g,g≠w.heap.size+1->wE.heap[g]? = wr.heap[g]?:=fun g hg=>by
         rw[<- hwE];rw[heap_setCell_other _ ⟨w.heap.size+1,5,none⟩ g _ hg,heap_setCell_other _ ⟨w.heap.size+1,4,none⟩ g _ hg,heap_setCell_other _ ⟨w.heap.size+1,3,none⟩ g _ hg,heap_setCell_other _ ⟨w.heap.size+1,2,none⟩ g _ hg,heap_setCell_other _ ⟨w.heap.size+1,1,none⟩ g _ hg,heap_setCell_other _ ⟨w.heap.size+1,0,none⟩ g _ hg]
        have hsE:wE.heap.size=wr.heap.size:=by rw[<- hwE];simp
        have k0:=hqE.cell 0;have k1:=hqE.cell 1;have k2:=hqE.cell 2;have k3:=hqE.cell 3;have k4:=hqE.cell 4;have k5:=hqE.cell 5;simp only[sD,sE,sF]at k0 k1 k2 k3 k4 k5;try rw[hwE]
        have gD:gP i o N s rs fs w (.returned (.tuple #[dsc 0 0 0 0 none 0 0 none 0 0,.bool false])) wE:=⟨hbE,.inl ⟨fun q=>HNO.out q.2,_,_,_,_,_,_,_,_,_,_,rfl⟩⟩;exact bodyPost_ret (v:=.tuple #[dsc 0 0 0 0 none 0 0 none 0 0,.bool false]) (by simp[results,Tryz.results13,go_sem,k0,k1,k2,k3,k4,k5]) rfl gD
       have tt:decide ((4096:Int)<(nA:Int))=false:=decide_eq_false (by omega);have tu:decide ((4096:Int)<(nB:Int))=false:=decide_eq_false (by omega);have HF:=hid (PW.out (by omega) (by omega));go_wp2_with (fail)
       go_roundw
       case rel=>exact HF.out
       case measure=>simp[intOf];omega
      have hkl:j<fs.length:=by rw[HQQ.out];exact hlt
      obtain⟨b,off,G,gc,T,tc,eA,c0,c2,c4,hG,hgc,hrt,hnt⟩:=Hf HFI.out.1 HFI.out.2 (HBW.out wr hbw) hkl;have Ev:=HFB.out fs[j] (List.getElem_mem hkl);obtain⟨r,hr⟩:∃r,fs[j]=r:=⟨_,rfl⟩;rw[hr]at c0 c2 c4 hG hgc hrt Ev;have HNT:=hid hnt;have HLN:=hid (show cB (k:Int) ts (foD (fs.take (j+1)) e)=if r.frm=(e:Int)then cB (k:Int) ts (foD (fs.take j) e)++[mC (k:Int) ts r]else cB (k:Int) ts (foD (fs.take j) e)from by rw[<- hr];exact xE hkl);obtain⟨fr,hfr⟩:∃fr,r.frm=fr:=⟨_,rfl⟩;obtain⟨gn,hgn⟩:∃gn,r.gs.length=gn:=⟨_,rfl⟩;obtain⟨tn,htn⟩:∃tn,r.out.length=tn:=⟨_,rfl⟩;rw[hfr]at c0 HLN;rw[hgn]at c2 hgc;rw[htn]at c4 Ev hrt;have HRT:=hid hrt;rw[eA]at p5;clear eA;have HRV:=hid (And.intro hfr (And.intro hgn htn));have HG:=hid hG;have HGC:=hid hgc;obtain⟨wb,hwb⟩:∃wb,wr.alloc (.cells #[.int .i64 fr,.slice G gn gc,.slice T tn tc] 45)=wb:=⟨_,rfl⟩;have hbb:Below wr.heap.size wr wb:=by rw[<- hwb];exact(Below.refl _ _).alloc (Nat.le_refl _) _
      have hqb:Blk wb wr.heap.size 45 #[.int .i64 fr,.slice G gn gc,.slice T tn tc]:=by rw[<- hwb];exact heap_alloc_new wr _
      have HWB:=hid hwb;have HBB:=hid hbb;have HQB:=hid hqb;have i1:(0:Int)<=(j:Int):=Int.natCast_nonneg _;have i2:(j:Int)<(Q:Int):=by omega
      have HSK:=hid (fun(h0 : ¬ (fr=(e:Int))) W (hW:Below wr.heap.size wr W)=>show K6 w.heap.size x i o (N:Int) s (k:Int) ts e fs L2 F1 v2 v vf w5 wz (.int .i64 (lo:Int)) (.int .i64 ((j:Int)+1)) W from⟨j+1,lo,v9,by rw[HQQ.out];exact hlt,rfl,by go_num,by rw[HLN.out,if_neg h0];omega,by rw[HLN.out,if_neg h0];exact Fa.out.keep hW,HFX.out.keep hW⟩);clear hinv hfx hbw hG hgc hrt hnt hr hfr hgn htn hwb hbb hqb;go_upto_region 26 with(fail);try rw[HWB.out]
      have e0:=HQB.out.cell 0;have e1:=HQB.out.cell 1;have e2:=HQB.out.cell 2;simp only[sD,sE,sF]at e0 e1 e2;clear c0 c2 c4 p0 p1 p2 p3 p4 p5;by_cases t1:fr=(e:Int)
      case neg=>as_aux_lemma=>
       have HF:=hid (HSK.out (fun q=>t1 q) wb HBB.out);have t2:(fr == (e:Int))=false:=beq_eq_false_iff_ne.2 t1;go_wp2_with (fail)
       go_roundw
       case rel=>exact HF.out
       case measure=>simp[intOf];omega
      subst t1;have HLP:=hid (show cB (k:Int) ts (foD (fs.take (j+1)) e)=cB (k:Int) ts (foD (fs.take j) e)++[(mC (k:Int) ts r)]from by rw[HLN.out,if_pos rfl]);have Kz:=hid (fun W (h:Below wb.heap.size wb W)=>show Below w2.heap.size w2 W from HBR.out.trans ((HBB.out.trans (h.mono (Nat.le_of_lt HQB.out.lt))).mono HBR.out.size));have HFW:=hid (fun W (h:Below wb.heap.size wb W)=>HFX.out.keep (HBB.out.trans (h.mono (Nat.le_of_lt HQB.out.lt))));have HWI:=hid (fun W (h:Below wb.heap.size wb W)=>show Calls Tryz.prog 29 #[.agg #[.int .i64 i,.int .i64 o,.int .i64 (N:Int),.int .i64 s,.slice A R cr,.slice B Q cf],.slice (some ⟨gk,0,none⟩) nu ck,.slice T tn tc] W (yw w.heap.size (ts++r.out) W)from
       by
        have q1:=Kz.out W h;have q2:=(Jf.out W v2 v9 (HFW.out W h)).2;have q3:=HWR.out W q1 q2 T tc r.out tn
        
        
        have q4:=q3 HRV.out.2.2;have q5:=q4 HRT.out;have q6:=q5 HNT.out Ev;with_reducible exact q6)
      have HCC:=hid (fun W (h:Below wb.heap.size wb W)=>show(W.cell? ⟨w.heap.size,0,none⟩=some (.int .i64 i)/\W.cell? ⟨w.heap.size,1,none⟩=some (.int .i64 o)/\W.cell? ⟨w.heap.size,2,none⟩=some (.int .i64 (N:Int))/\W.cell? ⟨w.heap.size,3,none⟩=some (.int .i64 s)/\W.cell? ⟨w.heap.size,4,none⟩=some (.slice A R cr)/\W.cell? ⟨w.heap.size,5,none⟩=some (.slice B Q cf))/\W.cell? ⟨gL,kk,none⟩=some (.slice (some ⟨gk,0,none⟩) nu ck)/\W.cell? ⟨wr.heap.size,2,none⟩=some (.slice T tn tc)from⟨HDB.out W (Kz.out W h),(Jf.out W v2 v9 (HFW.out W h)).1,(HQB.out.below h HQB.out.lt).cell 2⟩);go_upto_region 27 with(fail);clear e0 e1 e2
      go_cut [17] (fun vx wx=>∃AX cx vs' X',vx = .slice AX (ts++r.out).length cx/\jl w.heap.size X' (.slice AX (ts++r.out).length cx) (ts++r.out) vs' wx/\wb.heap.size<=X'/\Below wb.heap.size wb wx)
      case first=>as_aux_lemma=>
       obtain⟨wd,hwd⟩:∃wd,wb.drew=wd:=⟨_,rfl⟩;have hbd:Below wb.heap.size wb wd:=by rw[<- hwd];exact(Below.refl _ _).drew
       refine wp_region_held_drew (S:=fun W=>(W.cell? ⟨w.heap.size,0,none⟩=some (.int .i64 i)/\W.cell? ⟨w.heap.size,1,none⟩=some (.int .i64 o)/\W.cell? ⟨w.heap.size,2,none⟩=some (.int .i64 (N:Int))/\W.cell? ⟨w.heap.size,3,none⟩=some (.int .i64 s)/\W.cell? ⟨w.heap.size,4,none⟩=some (.slice A R cr)/\W.cell? ⟨w.heap.size,5,none⟩=some (.slice B Q cf))/\W.cell? ⟨gL,kk,none⟩=some (.slice (some ⟨gk,0,none⟩) nu ck)/\W.cell? ⟨wr.heap.size,2,none⟩=some (.slice T tn tc)) (by kernel_rfl) (by rw[hwd];exact HCC.out wd hbd) (fun hHeld=>?_);rw[hwd]at hHeld ⊢;refine tk 0 ⟨some 121,.load 26 (.tmp 1),_,_,_,none⟩ ?_ rfl ?_ ?_;rotate_left
       ·intro w' hSw
        (try dsimp only at hSw)
        obtain⟨⟨p0,p1,p2,p3,p4,p5⟩,q1,q2⟩:=hSw;go_simp;all_goals with_reducible rfl
       try simp only[Act.put,sA,sB,sC]
       refine tk 1 ⟨some 122,.move (.tmp 9),_,_,_,none⟩ ?_ rfl ?_ ?_;rotate_left
       ·intro w' hSw
        (try dsimp only at hSw)
        obtain⟨⟨p0,p1,p2,p3,p4,p5⟩,q1,q2⟩:=hSw;go_simp;all_goals with_reducible rfl
       try simp only[Act.put,sA,sB,sC]
       refine tk 2 ⟨some 123,.move (.tmp 10),_,_,_,none⟩ ?_ rfl ?_ ?_;rotate_left
       ·intro w' hSw
        (try dsimp only at hSw)
        obtain⟨⟨p0,p1,p2,p3,p4,p5⟩,q1,q2⟩:=hSw;go_simp;all_goals with_reducible rfl
       try simp only[Act.put,sA,sB,sC]
       refine tk 3 ⟨some 124,.indexAddr 61 (.tmp 122) (.tmp 123),_,_,_,none⟩ ?_ rfl ?_ ?_;rotate_left
       ·intro w' hSw
        (try dsimp only at hSw)
        obtain⟨⟨p0,p1,p2,p3,p4,p5⟩,q1,q2⟩:=hSw;go_simp;all_goals with_reducible rfl
       try simp only[Act.put,sA,sB,sC]
       refine tk 4 ⟨some 125,.load 73 (.tmp 124),_,_,_,none⟩ ?_ rfl ?_ ?_;rotate_left
       ·intro w' hSw
        (try dsimp only at hSw)
        obtain⟨⟨p0,p1,p2,p3,p4,p5⟩,q1,q2⟩:=hSw;go_simp;all_goals with_reducible rfl
       try simp only[Act.put,sA,sB,sC]
       refine tk 5 ⟨some 126,.fieldAddr 45 (.tmp 16) 2,_,_,_,none⟩ ?_ rfl ?_ ?_;rotate_left
       ·intro w' hSw
        (try dsimp only at hSw)
        obtain⟨⟨p0,p1,p2,p3,p4,p5⟩,q1,q2⟩:=hSw;go_simp;all_goals with_reducible rfl
       try simp only[Act.put,sA,sB,sC]
       refine tk 6 ⟨some 127,.load 41 (.tmp 126),_,_,_,none⟩ ?_ rfl ?_ ?_;rotate_left
       ·intro w' hSw
        (try dsimp only at hSw)
        obtain⟨⟨p0,p1,p2,p3,p4,p5⟩,q1,q2⟩:=hSw;go_simp;all_goals with_reducible rfl
       try simp only[Act.put,sA,sB,sC]
       refine wpAnyH_ready (rs:=[7]) (by kernel_rfl) (by simp) ?_;refine AllReadyH.cons (o:=⟨some 128,.call { callee:=.value (.func 29),args:=#[.tmp 121,.tmp 125,.tmp 127],argTypes:=#[26,73,41] },_,_,_,none⟩) rfl (fun K hK=>?_) AllReadyH.nil;go_simp;go_wp2_with (go_at_call 29;(with_reducible refine(HWI.out wd hbd).mono ?_);rintro e9 w9 ⟨AX,cx,vs',rfl,xQ,hb9⟩);have hb9:Below wb.heap.size wb w9:=hbd.trans (hb9.mono hbd.size);refine hK.out _ _ ?_ (fun hHeld=>?_)
       ·exact HCC.out w9 hb9
       clear hK K;try simp only[Act.put,sA,sB,sC]
       refine tk 8 ⟨some 17,.assign (.tmp 128),_,_,_,none⟩ ?_ rfl ?_ ?_;rotate_left
       ·intro w' hSw
        (try dsimp only at hSw)
        obtain⟨⟨p0,p1,p2,p3,p4,p5⟩,q1,q2⟩:=hSw;go_simp;all_goals with_reducible rfl
       try simp only[Act.put,sA,sB,sC]
       refine wpAnyH_done (by kernel_rfl) ?_ _;go_wp2_with (fail);go_meet;exact⟨AX,cx,vs',_,by rw[List.length_append],xQ,hbd.size,hb9⟩
      case rest=>
      obtain⟨wx,rfl⟩:∃wx:World,wx=wc:=⟨_,rfl⟩;obtain⟨AX,cx,vs',X',rfl,xQ,hX',hbx⟩:=hcut;have MI:=hid (show RTp (fun b=>b<w.heap.size\/wr.heap.size<=b) wx AX (mC (k:Int) ts r).out from xQ.rtp (X:=fun b=>wr.heap.size<=b) (fun g e0=>by
       have h8:=(World.ownsRow.lt xQ.1 g e0).1;have h9:=HQB.out.lt;omega))
      have M4:=hid (show(mC (k:Int) ts r).out.length<=cx from sq xQ.1);obtain⟨nx,hnx⟩:∃nx,(ts++r.out).length=nx:=⟨_,rfl⟩;have HNX:=hid hnx;have hnb:nx<=400000:=by
       rw[<- hnx,List.length_append];have:=HTS.out;have h5:=Ev;have h6:=HRV.out.2.2;omega
      rw[hnx];have hrx:=Fa.out.1.keep (HBB.out.trans (hbx.mono (Nat.le_of_lt HQB.out.lt)));obtain⟨vs,hvs,_⟩:=hrx.finals;obtain⟨Av,cv,hv⟩:=ct hvs;subst hv;obtain⟨nL,hnL⟩:∃nL,(F1++cB (k:Int) ts (foD (fs.take j) e)).length=nL:=⟨_,rfl⟩;have HNL:=hid hnL;rw[hnL]at hvs hlen Fa HFX;obtain⟨wA,hwA⟩:∃wA,wx.alloc (.cells #[Value.int .i64 (k:Int),.slice G gn gc,.slice AX nx cx] 45)=wA:=⟨_,rfl⟩;have hbA:Below wx.heap.size wx wA:=by rw[<- hwA];exact(Below.refl _ _).alloc (Nat.le_refl _) _
      have hnA:Blk wA wx.heap.size 45 #[Value.int .i64 (k:Int),.slice G gn gc,.slice AX nx cx]:=by rw[<- hwA];exact heap_alloc_new wx _
      have hsA:wA.heap.size=wx.heap.size+1:=by rw[<- hwA];simp
      have hqx:=HQB.out.below hbx HQB.out.lt;have x4:=hrx.box.at5;rw[hnL]at x4;have f0:=hqx.cell 0;have f1:=hqx.cell 1;have f2:=hqx.cell 2;simp only[sD,sE,sF]at f0 f1 f2;have HRX:=hid hrx;have HVS:=hid (FP hvs hbA);have HNA:=hid (fun(q:Nat) (u:Value) (e:[Value.int .i64 (k:Int),.slice G gn gc,.slice AX nx cx][q]? = some u)=>World.news_of_block (w:=wA) hnA q u e);have HOA:=hid (show∀u∈[Value.int .i64 (k:Int),.slice G gn gc,.slice AX nx cx],u.oneCell'=true from fun u hu=>by
       simp only[List.mem_cons,List.not_mem_nil,or_false]at hu;rcases hu with rfl | rfl | rfl <;> rfl)
      have HBA:=hid hbA;have HBX:=hid hbx;have HSA:=hid hsA;have HXW:=hid (show x+1<=wx.heap.size by have h1:=hrx.box.lt;omega);have hj4:j<=4096:=by omega
      clear xQ hX' hbx hnx hrx hvs hnL hbA hnA hqx hsA;go_upto_region 29 with(fail);go_wp2_with (at_builtin;go_must (refine wpList_append_own_at _ rfl _ _ 24 rfl (x+1) 45 iF _ 3 56 Tryz.underlying24 hiF hy0 hy1 hy2 rfl (by decide) (.slice Av nL cv) nL vs rfl HVS.out ⟨wx.heap.size,0,none⟩ 1 1 [Value.int .i64 (k:Int),.slice G gn gc,.slice AX nx cx] rfl rfl HNA.out HOA.out ?d1 ?d2 ?d3 ?_))
      case d1=>simp only[maxLen];omega
      case d2=>omega
      case d3=>have:=HXW.out;have:=HBA.out.size;omega
      intro v' wB sM hgB _ hat;obtain⟨A3,c3,hv3⟩:=ct sM;subst hv3;have hrA:=HRX.out.keep HBA.out;have hvx:∀g,(Value.slice Av nL cv).ownBlock=some g->x+1<=g:=fun g e0=>(World.ownsRow.lt HVS.out g e0).1
      have hdB:=hrA.box.keep (hgB.block x hrA.box.lt (fun e0=>by have:=hvx x e0.symm;omega));have m4:=hdB.at5;have m4f:=hdB.frozen 5;obtain⟨wC,hwC⟩:∃wC,wB.setCell ⟨x,5,none⟩ (.slice A3 (nL+1) c3)=wC:=⟨_,rfl⟩;have Eu:Below wr.heap.size wr wA:=(HBB.out.trans (HBX.out.mono (Nat.le_of_lt HQB.out.lt))).trans (HBA.out.mono (by have:=HBX.out.size;have:=HQB.out.lt;omega));have HGN:=hid (G9 (r:=(mC (k:Int) ts r)) (gc:=gc) (tc:=cx) (G:=G) (T:=AX) (vs:=vs) (v':=.slice A3 (nL+1) c3) Fa.out HFX.out Eu (by rw[HNL.out];exact HVS.out) (HG.out.keep ⟨Eu.size,fun b hb hl=>Eu.block b hl⟩ (fun b hb _=>hb)) (by simp only[mC];rw[HRV.out.2.1];exact HGC.out) (MI.out.keep ⟨HBA.out.size,fun b hb hl=>HBA.out.block b hl⟩ (fun b hb _=>hb)) M4.out hgB (by
       simp only[mC];rw[HNL.out,HRV.out.2.1,HNX.out];exact sM) hat)
      rw[hwC]at HGN;have yB:=hid (show K6 w.heap.size x i o (N:Int) s (k:Int) ts e fs L2 F1 v2 v vf w5 wz (.int .i64 (max (lo:Int) (nx:Int))) (.int .i64 ((j:Int)+1)) wC from⟨j+1,max lo nx,_,by rw[HQQ.out];exact hlt,by rw[show max (lo:Int) (nx:Int)=((max lo nx:Nat):Int)from by omega],by go_num,by rw[HLP.out,<- List.append_assoc,List.length_append,HNL.out];simp only[List.length_singleton];omega,by
       rw[HLP.out,<- List.append_assoc];have:=HGN.out.1;rw[show(mC (k:Int) ts r).out.length=nx from HNX.out]at this;exact this,HGN.out.2⟩)
      clear HGN sM hgB hat hdB hrA hvx Eu;go_wp2_with (fail)
      go_roundw
      case rel=>exact yB.out
      case measure=>simp[intOf];omega
    have hkl:j<rs.length:=by rw[HRR.out];exact hlt
    obtain⟨b,off,G,gc,T,tc,eA,c0,c1,c2,c3,c4,hG,hgc,hrt,hnt⟩:=Gq HRU.out.1 HRU.out.2 (HBW.out wr hbw) hkl;have Ev:=HRB.out rs[j] (List.getElem_mem hkl);obtain⟨r,hr⟩:∃r,rs[j]=r:=⟨_,rfl⟩;rw[hr]at c0 c1 c2 c3 c4 hG hgc hrt Ev;have HNT:=hid hnt;have HLN:=hid (show bN (k:Int) ts (roD (rs.take (j+1)) e)=if r.frm=(e:Int)/\r.gs.length≠0 then bN (k:Int) ts (roD (rs.take j) e)++[jY (k:Int) ts r]else bN (k:Int) ts (roD (rs.take j) e)from by rw[<- hr];exact xD hkl);obtain⟨fr,hfr⟩:∃fr,r.frm=fr:=⟨_,rfl⟩;obtain⟨gn,hgn⟩:∃gn,r.gs.length=gn:=⟨_,rfl⟩;obtain⟨tn,htn⟩:∃tn,r.out.length=tn:=⟨_,rfl⟩;obtain⟨tz,htz⟩:∃tz,r.to_=tz:=⟨_,rfl⟩;obtain⟨ea,hea⟩:∃ea,r.eat=ea:=⟨_,rfl⟩;rw[htz]at c1;rw[hea]at c3;rw[hfr]at c0 HLN;rw[hgn]at c2 hgc HLN;rw[htn]at c4 Ev hrt;have HRT:=hid hrt;rw[eA]at p4;clear eA;have HRV:=hid (And.intro hfr (And.intro hgn (And.intro htn (And.intro htz hea))));have HG:=hid hG;have HGC:=hid hgc;obtain⟨wb,hwb⟩:∃wb,wr.alloc (.cells #[.int .i64 fr,.int .i64 tz,.slice G gn gc,.int .i64 ea,.slice T tn tc] 43)=wb:=⟨_,rfl⟩;have hbb:Below wr.heap.size wr wb:=by rw[<- hwb];exact(Below.refl _ _).alloc (Nat.le_refl _) _
    have hqb:Blk wb wr.heap.size 43 #[.int .i64 fr,.int .i64 tz,.slice G gn gc,.int .i64 ea,.slice T tn tc]:=by rw[<- hwb];exact heap_alloc_new wr _
    have HWB:=hid hwb;have HBB:=hid hbb;have HQB:=hid hqb;have i1:(0:Int)<=(j:Int):=Int.natCast_nonneg _;have i2:(j:Int)<(R:Int):=by omega
    have HSK:=hid (fun(h0 : ¬ (fr=(e:Int)/\gn≠0)) W (hW:Below wr.heap.size wr W)=>show K8 w.heap.size x i o (N:Int) s (k:Int) ts e rs L1 F1 vf1 v vf w5 wz (.int .i64 (lo:Int)) (.int .i64 ((j:Int)+1)) W from⟨j+1,lo,v2,by rw[HRR.out];exact hlt,rfl,by go_num,by rw[HLN.out,if_neg h0];omega,by rw[HLN.out,if_neg h0];exact Fa.out.keep hW,HFX.out.keep hW⟩);clear hinv hfx hbw hG hgc hrt hnt hr hfr hgn htn htz hea hwb hbb hqb;go_upto_region 18 with(fail);try rw[HWB.out]
    have e0:=HQB.out.cell 0;have e1:=HQB.out.cell 1;have e2:=HQB.out.cell 2;have e3:=HQB.out.cell 3;have e4:=HQB.out.cell 4;simp only[sD,sE,sF]at e0 e1 e2 e3 e4;clear c0 c1 c2 c3 c4 p0 p1 p2 p3 p4 p5;by_cases t1:fr=(e:Int)
    case neg=>as_aux_lemma=>
     have HF:=hid (HSK.out (fun q=>t1 q.1) wb HBB.out);have t2:(fr == (e:Int))=false:=beq_eq_false_iff_ne.2 t1;go_wp2_with (fail)
     go_roundw
     case rel=>exact HF.out
     case measure=>simp[intOf];omega
    by_cases t1g:gn=0
    case pos=>as_aux_lemma=>
     have HF:=hid (HSK.out (fun q=>q.2 t1g) wb HBB.out);subst t1g;subst t1;go_wp2_with (fail)
     go_roundw
     case rel=>exact HF.out
     case measure=>simp[intOf];omega
    have t1p:decide ((0:Int)<(gn:Int))=true:=decide_eq_true (by omega);subst t1;have HLP:=hid (show bN (k:Int) ts (roD (rs.take (j+1)) e)=bN (k:Int) ts (roD (rs.take j) e)++[(jY (k:Int) ts r)]from by rw[HLN.out,if_pos ⟨rfl,t1g⟩]);have Kz:=hid (fun W (h:Below wb.heap.size wb W)=>show Below w2.heap.size w2 W from HBR.out.trans ((HBB.out.trans (h.mono (Nat.le_of_lt HQB.out.lt))).mono HBR.out.size));have HFW:=hid (fun W (h:Below wb.heap.size wb W)=>HFX.out.keep (HBB.out.trans (h.mono (Nat.le_of_lt HQB.out.lt))));have HWI:=hid (fun W (h:Below wb.heap.size wb W)=>show Calls Tryz.prog 29 #[.agg #[.int .i64 i,.int .i64 o,.int .i64 (N:Int),.int .i64 s,.slice A R cr,.slice B Q cf],.slice (some ⟨gk,0,none⟩) nu ck,.slice T tn tc] W (yw w.heap.size (ts++r.out) W)from
     by
      have q1:=Kz.out W h;have q2:=(Jf.out W v2 vf1 (HFW.out W h)).2;have q3:=HWR.out W q1 q2 T tc r.out tn
      
      
      have q4:=q3 HRV.out.2.2.1;have q5:=q4 HRT.out;have q6:=q5 HNT.out Ev;with_reducible exact q6)
    have HCC:=hid (fun W (h:Below wb.heap.size wb W)=>show(W.cell? ⟨w.heap.size,0,none⟩=some (.int .i64 i)/\W.cell? ⟨w.heap.size,1,none⟩=some (.int .i64 o)/\W.cell? ⟨w.heap.size,2,none⟩=some (.int .i64 (N:Int))/\W.cell? ⟨w.heap.size,3,none⟩=some (.int .i64 s)/\W.cell? ⟨w.heap.size,4,none⟩=some (.slice A R cr)/\W.cell? ⟨w.heap.size,5,none⟩=some (.slice B Q cf))/\W.cell? ⟨gL,kk,none⟩=some (.slice (some ⟨gk,0,none⟩) nu ck)/\W.cell? ⟨wr.heap.size,4,none⟩=some (.slice T tn tc)from⟨HDB.out W (Kz.out W h),(Jf.out W v2 vf1 (HFW.out W h)).1,(HQB.out.below h HQB.out.lt).cell 4⟩);go_upto_region 19 with(fail);clear e0 e1 e2 e3 e4
    go_cut [14] (fun vx wx=>∃AX cx vs' X',vx = .slice AX (ts++r.out).length cx/\jl w.heap.size X' (.slice AX (ts++r.out).length cx) (ts++r.out) vs' wx/\wb.heap.size<=X'/\Below wb.heap.size wb wx)
    case first=>as_aux_lemma=>
     obtain⟨wd,hwd⟩:∃wd,wb.drew=wd:=⟨_,rfl⟩;have hbd:Below wb.heap.size wb wd:=by rw[<- hwd];exact(Below.refl _ _).drew
     refine wp_region_held_drew (S:=fun W=>(W.cell? ⟨w.heap.size,0,none⟩=some (.int .i64 i)/\W.cell? ⟨w.heap.size,1,none⟩=some (.int .i64 o)/\W.cell? ⟨w.heap.size,2,none⟩=some (.int .i64 (N:Int))/\W.cell? ⟨w.heap.size,3,none⟩=some (.int .i64 s)/\W.cell? ⟨w.heap.size,4,none⟩=some (.slice A R cr)/\W.cell? ⟨w.heap.size,5,none⟩=some (.slice B Q cf))/\W.cell? ⟨gL,kk,none⟩=some (.slice (some ⟨gk,0,none⟩) nu ck)/\W.cell? ⟨wr.heap.size,4,none⟩=some (.slice T tn tc)) (by kernel_rfl) (by rw[hwd];exact HCC.out wd hbd) (fun hHeld=>?_);rw[hwd]at hHeld ⊢;refine tk 0 ⟨some 79,.load 26 (.tmp 1),_,_,_,none⟩ ?_ rfl ?_ ?_;rotate_left
     ·intro w' hSw
      (try dsimp only at hSw)
      obtain⟨⟨p0,p1,p2,p3,p4,p5⟩,q1,q2⟩:=hSw;go_simp;all_goals with_reducible rfl
     try simp only[Act.put,sA,sB,sC]
     refine tk 1 ⟨some 80,.move (.tmp 9),_,_,_,none⟩ ?_ rfl ?_ ?_;rotate_left
     ·intro w' hSw
      (try dsimp only at hSw)
      obtain⟨⟨p0,p1,p2,p3,p4,p5⟩,q1,q2⟩:=hSw;go_simp;all_goals with_reducible rfl
     try simp only[Act.put,sA,sB,sC]
     refine tk 2 ⟨some 81,.move (.tmp 10),_,_,_,none⟩ ?_ rfl ?_ ?_;rotate_left
     ·intro w' hSw
      (try dsimp only at hSw)
      obtain⟨⟨p0,p1,p2,p3,p4,p5⟩,q1,q2⟩:=hSw;go_simp;all_goals with_reducible rfl
     try simp only[Act.put,sA,sB,sC]
     refine tk 3 ⟨some 82,.indexAddr 61 (.tmp 80) (.tmp 81),_,_,_,none⟩ ?_ rfl ?_ ?_;rotate_left
     ·intro w' hSw
      (try dsimp only at hSw)
      obtain⟨⟨p0,p1,p2,p3,p4,p5⟩,q1,q2⟩:=hSw;go_simp;all_goals with_reducible rfl
     try simp only[Act.put,sA,sB,sC]
     refine tk 4 ⟨some 83,.load 73 (.tmp 82),_,_,_,none⟩ ?_ rfl ?_ ?_;rotate_left
     ·intro w' hSw
      (try dsimp only at hSw)
      obtain⟨⟨p0,p1,p2,p3,p4,p5⟩,q1,q2⟩:=hSw;go_simp;all_goals with_reducible rfl
     try simp only[Act.put,sA,sB,sC]
     refine tk 5 ⟨some 84,.fieldAddr 43 (.tmp 13) 4,_,_,_,none⟩ ?_ rfl ?_ ?_;rotate_left
     ·intro w' hSw
      (try dsimp only at hSw)
      obtain⟨⟨p0,p1,p2,p3,p4,p5⟩,q1,q2⟩:=hSw;go_simp;all_goals with_reducible rfl
     try simp only[Act.put,sA,sB,sC]
     refine tk 6 ⟨some 85,.load 41 (.tmp 84),_,_,_,none⟩ ?_ rfl ?_ ?_;rotate_left
     ·intro w' hSw
      (try dsimp only at hSw)
      obtain⟨⟨p0,p1,p2,p3,p4,p5⟩,q1,q2⟩:=hSw;go_simp;all_goals with_reducible rfl
     try simp only[Act.put,sA,sB,sC]
     refine wpAnyH_ready (rs:=[7]) (by kernel_rfl) (by simp) ?_;refine AllReadyH.cons (o:=⟨some 86,.call { callee:=.value (.func 29),args:=#[.tmp 79,.tmp 83,.tmp 85],argTypes:=#[26,73,41] },_,_,_,none⟩) rfl (fun K hK=>?_) AllReadyH.nil;go_simp;go_wp2_with (go_at_call 29;(with_reducible refine(HWI.out wd hbd).mono ?_);rintro e9 w9 ⟨AX,cx,vs',rfl,xQ,hb9⟩);have hb9:Below wb.heap.size wb w9:=hbd.trans (hb9.mono hbd.size);refine hK.out _ _ ?_ (fun hHeld=>?_)
     ·exact HCC.out w9 hb9
     clear hK K;try simp only[Act.put,sA,sB,sC]
     refine tk 8 ⟨some 14,.assign (.tmp 86),_,_,_,none⟩ ?_ rfl ?_ ?_;rotate_left
     ·intro w' hSw
      (try dsimp only at hSw)
      obtain⟨⟨p0,p1,p2,p3,p4,p5⟩,q1,q2⟩:=hSw;go_simp;all_goals with_reducible rfl
     try simp only[Act.put,sA,sB,sC]
     refine wpAnyH_done (by kernel_rfl) ?_ _;go_wp2_with (fail);go_meet;exact⟨AX,cx,vs',_,by rw[List.length_append],xQ,hbd.size,hb9⟩
    case rest=>
    obtain⟨wx,rfl⟩:∃wx:World,wx=wc:=⟨_,rfl⟩;obtain⟨AX,cx,vs',X',rfl,xQ,hX',hbx⟩:=hcut;have MI:=hid (show RTp (fun b=>b<w.heap.size\/wr.heap.size<=b) wx AX (jY (k:Int) ts r).out from xQ.rtp (X:=fun b=>wr.heap.size<=b) (fun g e0=>by
     have h8:=(World.ownsRow.lt xQ.1 g e0).1;have h9:=HQB.out.lt;omega))
    have M4:=hid (show(jY (k:Int) ts r).out.length<=cx from sq xQ.1);obtain⟨nx,hnx⟩:∃nx,(ts++r.out).length=nx:=⟨_,rfl⟩;have HNX:=hid hnx;have hnb:nx<=400000:=by
     rw[<- hnx,List.length_append];have:=HTS.out;have h5:=Ev;have h6:=HRV.out.2.2.1;omega
    rw[hnx];have hrx:=Fa.out.1.keep (HBB.out.trans (hbx.mono (Nat.le_of_lt HQB.out.lt)));obtain⟨vs,hvs,_⟩:=hrx.rules;obtain⟨Av,cv,hv⟩:=ct hvs;subst hv;obtain⟨nL,hnL⟩:∃nL,(L1++bN (k:Int) ts (roD (rs.take j) e)).length=nL:=⟨_,rfl⟩;have HNL:=hid hnL;rw[hnL]at hvs hlen Fa HFX;obtain⟨wA,hwA⟩:∃wA,wx.alloc (.cells #[Value.int .i64 (k:Int),.int .i64 tz,.slice G gn gc,.int .i64 ea,.slice AX nx cx] 43)=wA:=⟨_,rfl⟩;have hbA:Below wx.heap.size wx wA:=by rw[<- hwA];exact(Below.refl _ _).alloc (Nat.le_refl _) _
    have hnA:Blk wA wx.heap.size 43 #[Value.int .i64 (k:Int),.int .i64 tz,.slice G gn gc,.int .i64 ea,.slice AX nx cx]:=by rw[<- hwA];exact heap_alloc_new wx _
    have hsA:wA.heap.size=wx.heap.size+1:=by rw[<- hwA];simp
    have hqx:=HQB.out.below hbx HQB.out.lt;have x4:=hrx.box.at4;rw[hnL]at x4;have f0:=hqx.cell 0;have f1:=hqx.cell 1;have f2:=hqx.cell 2;have f3:=hqx.cell 3;have f4:=hqx.cell 4;simp only[sD,sE,sF]at f0 f1 f2 f3 f4;have HRX:=hid hrx;have HVS:=hid (FP hvs hbA);have HNA:=hid (fun(q:Nat) (u:Value) (e:[Value.int .i64 (k:Int),.int .i64 tz,.slice G gn gc,.int .i64 ea,.slice AX nx cx][q]? = some u)=>World.news_of_block (w:=wA) hnA q u e);have HOA:=hid (show∀u∈[Value.int .i64 (k:Int),.int .i64 tz,.slice G gn gc,.int .i64 ea,.slice AX nx cx],u.oneCell'=true from fun u hu=>by
     simp only[List.mem_cons,List.not_mem_nil,or_false]at hu;rcases hu with rfl | rfl | rfl | rfl | rfl <;> rfl)
    have HBA:=hid hbA;have HBX:=hid hbx;have HSA:=hid hsA;have HXW:=hid (show x+1<=wx.heap.size by have h1:=hrx.box.lt;omega);have hj4:j<=4096:=by omega
    clear xQ hX' hbx hnx hrx hvs hnL hbA hnA hqx hsA;go_upto_region 21 with(fail);go_wp2_with (at_builtin;go_must (refine wpList_append_own_at _ rfl _ _ 23 rfl (x+1) 43 i0 _ 5 72 Tryz.underlying23 hi0 hz0 hz1 hz2 rfl (by decide) (.slice Av nL cv) nL vs rfl HVS.out ⟨wx.heap.size,0,none⟩ 1 1 [Value.int .i64 (k:Int),.int .i64 tz,.slice G gn gc,.int .i64 ea,.slice AX nx cx] rfl rfl HNA.out HOA.out ?d1 ?d2 ?d3 ?_))
    case d1=>simp only[maxLen];omega
    case d2=>omega
    case d3=>have:=HXW.out;have:=HBA.out.size;omega
    intro v' wB sM hgB _ hat;obtain⟨A3,c3,hv3⟩:=ct sM;subst hv3;have hrA:=HRX.out.keep HBA.out;have hvx:∀g,(Value.slice Av nL cv).ownBlock=some g->x+1<=g:=fun g e0=>(World.ownsRow.lt HVS.out g e0).1
    have hdB:=hrA.box.keep (hgB.block x hrA.box.lt (fun e0=>by have:=hvx x e0.symm;omega));have m4:=hdB.at4;have m4f:=hdB.frozen 4;obtain⟨wC,hwC⟩:∃wC,wB.setCell ⟨x,4,none⟩ (.slice A3 (nL+1) c3)=wC:=⟨_,rfl⟩;have Eu:Below wr.heap.size wr wA:=(HBB.out.trans (HBX.out.mono (Nat.le_of_lt HQB.out.lt))).trans (HBA.out.mono (by have:=HBX.out.size;have:=HQB.out.lt;omega));have HGN:=hid (JW (r:=(jY (k:Int) ts r)) (gc:=gc) (tc:=cx) (G:=G) (T:=AX) (vs:=vs) (v':=.slice A3 (nL+1) c3) Fa.out HFX.out Eu (by rw[HNL.out];exact HVS.out) (HG.out.keep ⟨Eu.size,fun b hb hl=>Eu.block b hl⟩ (fun b hb _=>hb)) (by simp only[jY];rw[HRV.out.2.1];exact HGC.out) (MI.out.keep ⟨HBA.out.size,fun b hb hl=>HBA.out.block b hl⟩ (fun b hb _=>hb)) M4.out hgB (by
     simp only[jY];rw[HNL.out,HRV.out.2.1,HNX.out,HRV.out.2.2.2.1,HRV.out.2.2.2.2];exact sM) hat)
    rw[hwC]at HGN;have yB:=hid (show K8 w.heap.size x i o (N:Int) s (k:Int) ts e rs L1 F1 vf1 v vf w5 wz (.int .i64 (max (lo:Int) (nx:Int))) (.int .i64 ((j:Int)+1)) wC from⟨j+1,max lo nx,_,by rw[HRR.out];exact hlt,by rw[show max (lo:Int) (nx:Int)=((max lo nx:Nat):Int)from by omega],by go_num,by rw[HLP.out,<- List.append_assoc,List.length_append,HNL.out];simp only[List.length_singleton];omega,by
     rw[HLP.out,<- List.append_assoc];have:=HGN.out.1;rw[show(jY (k:Int) ts r).out.length=nx from HNX.out]at this;exact this,HGN.out.2⟩)
    clear HGN sM hgB hat hdB hrA hvx Eu;go_wp2_with (fail)
    go_roundw
    case rel=>exact yB.out
    case measure=>simp[intOf];omega
end Go.Proofs.YtbdmcibcenhpnaaGreatDoor.Ep
