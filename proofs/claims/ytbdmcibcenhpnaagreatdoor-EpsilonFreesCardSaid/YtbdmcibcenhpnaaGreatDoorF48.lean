import Derived.Test.YtbdmcibcenhpnaaGreatDoorF0
import Derived.Test.YtbdmcibcenhpnaaGreatDoorF00
import Derived.Test.YtbdmcibcenhpnaaGreatDoorF4
import Derived.Test.YtbdmcibcenhpnaaGreatDoorF37
set_option maxRecDepth 100000
namespace Go.Proofs.YtbdmcibcenhpnaaGreatDoor.Ep
set_option maxHeartbeats 64000000
open Go Go.RowKit Sp Pa Te Mi De Lt
open Go.Lib (hid)
def Jc (v:Int) (w:World) (e:Ending) (w':World):Prop:=e = .returned (.int .i64 v)/\Below w.heap.size w w'
def uE (l:List Nat):List Value:=l.map fun x:Nat=>Value.int .i64 (x:Int)
def RW (w:World) (g:Nat) (l:List Nat):Prop:=g<w.heap.size/\∀(j:Nat) (h:j<l.length),w.cell? ⟨g,j,none⟩=some (.int .i64 (l[j]:Int))
theorem RW.below {w w':World} {g:Nat} {l:List Nat} (h:RW w g l) (hb:Below w.heap.size w w'):RW w' g l:=⟨Nat.lt_of_lt_of_le h.1 hb.size,fun j hj=>(hb.cell (p:=⟨g,j,none⟩) h.1).trans (h.2 j hj)⟩
theorem RW.take {w:World} {g k:Nat} {l:List Nat} (h:RW w g l):RW w g (l.take k):=⟨h.1,fun j hj=>by
 rw[List.getElem_take];exact h.2 j (by rw[List.length_take]at hj;omega)⟩
theorem Jp {w:World} {b g n c:Nat} {l:List Nat} (h:w.ownsRow b 3 1 (.slice (some ⟨g,0,none⟩) n c) n (uE l)):RW w g l/\b<=g:=by
 have hl:l.length=n:=by have:=h.1;simp only[uE,List.length_map]at this;omega
 have hg:=World.ownsRow.lt h g rfl;refine⟨⟨hg.2,fun j hj=>?_⟩,hg.1⟩;rw[World.ownsRow.cellAt h j (by omega)];simp[uE,hj]
theorem sq {w:World} {b:Nat} {e:TypeId} {z:Nat} {A:Option Addr} {n c:Nat} {xs:List Value} (h:w.ownsRow b e z (.slice A n c) n xs):n<=c:=by
 rcases h.2 with⟨hv,hn⟩ | ⟨g,cap,cur,hv,_,_,hnc,_⟩;all_goals
  injection hv with _ _ e3;omega
def d0R:RuL:=⟨0,0,[],0,[]⟩
def toR (rs:List RuL) (i:Nat):Nat:=(rs.getD i d0R).to_.toNat
def okR (rs:List RuL) (a i:Nat):Bool:=((rs.getD i d0R).gs.length == 0) && decide ((rs.getD i d0R).frm=(a:Int))
theorem jE {rs:List RuL} {k:Nat} (h:k<rs.length):rs.getD k d0R=rs[k]:=by
 rw[List.getD_eq_getElem?_getD,List.getElem?_eq_getElem h];rfl
theorem info8:(Tryz.prog.info? 3).map (fun i=>(i.zero,i.size,i.bytes))=some (some (.int .i64 0),1,8):=by kernel_rfl
theorem BI (i o n s:Int) (A:Option Addr) (cr:Nat) (B:Option Addr) (m cf:Nat) (rs:List RuL) (q g c:Nat) (l:List Nat) (w:World) (h:RRu w A rs.length rs) (hto:∀r∈rs,0<=r.to_) (hg:RW w g l) (hi:∀x∈l,x<rs.length) (hll:l.length<=100000) :
  Calls Tryz.prog 28 #[dsc i o n s A rs.length cr B m cf,.int .i64 (q:Int),.slice (some ⟨g,0,none⟩) l.length c] w (Jc (jP (toR rs) q l:Int) w):=by
 obtain⟨w0,hw0⟩:∃w0,w.alloc (.cells #[.int .i64 i,.int .i64 o,.int .i64 n,.int .i64 s,.slice A rs.length cr,.slice B m cf] 26)=w0:=⟨_,rfl⟩;have hb0:Below w.heap.size w w0:=by rw[<- hw0];exact(Below.refl _ _).alloc (Nat.le_refl _) _
 have p4:w0.cell? ⟨w.heap.size,4,none⟩=some (.slice A rs.length cr):=by rw[<- hw0];simp
 have HB0:=hid hb0;rcases List.eq_nil_or_concat l with rfl | ⟨u,j,rfl⟩
 ·clear h hto hg hi hll hb0
  go_enter Tryz.func28,Tryz.ntmps28;go_wp2_with (fail);go_ret;exact⟨rfl,HB0.out⟩
 ·rw[List.concat_eq_append]at hg hi hll ⊢
  have hj:j<rs.length:=hi j (by simp);obtain⟨b,off,A',c',A2,c2,hA,hbB,d0,d1,_⟩:=(h.ah hb0).at_ hj;subst hA;have hgc:=(hg.below hb0).2 u.length (by simp);rw[List.getElem_append_right (by omega)]at hgc;simp only[Nat.sub_self,List.getElem_cons_zero]at hgc;have hto0:=hto rs[j] (List.getElem_mem hj);obtain⟨t,ht⟩:∃t:Nat,rs[j].to_=(t:Int):=⟨rs[j].to_.toNat,by omega⟩;have hend:jP (toR rs) q (u++[j])=t:=by
   rw[l9];unfold toR;rw[jE hj,ht];simp
  rw[hend];rw[ht]at d1;obtain⟨k,hk⟩:∃k,u.length=k:=⟨_,rfl⟩;have hlen:(u++[j]).length=k+1:=by rw[List.length_append,hk];rfl
  rw[hlen]at hll ⊢;rw[hk]at hgc;obtain⟨R,hR⟩:∃R,rs.length=R:=⟨_,rfl⟩;rw[hR]at hw0 p4 hj ⊢;have i1:(0:Int)<=(j:Int):=Int.natCast_nonneg _;have i2:(j:Int)<(R:Int):=by omega
  have i3:(0:Int)<=(k:Int):=Int.natCast_nonneg _;have i4:(k:Int)<=100000:=by omega
  clear h hto hg hi hb0 d0 hend ht hto0 hk hlen hll hR;go_enter Tryz.func28,Tryz.ntmps28;go_wp2_with (fail);go_quiet (fail);go_wp2_with (fail);go_ret;exact⟨rfl,below_drewN HB0.out _⟩
def mA (rs:List RuL) (q:Nat) (l:List Nat) (f:Nat) (w:World) (e:Ending) (w':World):Prop:=Below w.heap.size w w' /\
 ((kids rs.length (okR rs) (jP (toR rs) q l) f=[]/\e = .returned (.tuple #[.slice none 0 0,.bool false])) \/
  (∃(j:Nat) (t:List Nat) (g c:Nat),kids rs.length (okR rs) (jP (toR rs) q l) f=j::t/\e = .returned (.tuple #[.slice (some ⟨g,0,none⟩) (l.length+1) c,.bool true])/\RW w' g (l++[j])/\w.heap.size<=g/\l.length+1<=c))
theorem xA (i o n s:Int) (A:Option Addr) (cr:Nat) (B:Option Addr) (m cf:Nat) (rs:List RuL) (q g c f:Nat) (l:List Nat) (w:World) (h:RRu w A rs.length rs) (hl:rs.length<=4096) (hto:∀r∈rs,0<=r.to_) (hg:RW w g l) (hi:∀x∈l,x<rs.length) (hll:l.length<=99999) (hf:f<=rs.length) :
  Calls Tryz.prog 35 #[dsc i o n s A rs.length cr B m cf,.int .i64 (q:Int),.slice (some ⟨g,0,none⟩) l.length c,.int .i64 (f:Int)] w (mA rs q l f w):=by
 obtain⟨w0,hw0⟩:∃w0,w.alloc (.cells #[.int .i64 i,.int .i64 o,.int .i64 n,.int .i64 s,.slice A rs.length cr,.slice B m cf] 26)=w0:=⟨_,rfl⟩;have hs0:w0.heap.size=w.heap.size+1:=by rw[<- hw0];simp
 have hb0:Below w.heap.size w w0:=by rw[<- hw0];exact(Below.refl _ _).alloc (Nat.le_refl _) _
 have p0:w0.cell? ⟨w.heap.size,0,none⟩=some (.int .i64 i):=by rw[<- hw0];simp
 have p1:w0.cell? ⟨w.heap.size,1,none⟩=some (.int .i64 o):=by rw[<- hw0];simp
 have p2:w0.cell? ⟨w.heap.size,2,none⟩=some (.int .i64 n):=by rw[<- hw0];simp
 have p3:w0.cell? ⟨w.heap.size,3,none⟩=some (.int .i64 s):=by rw[<- hw0];simp
 have p4:w0.cell? ⟨w.heap.size,4,none⟩=some (.slice A rs.length cr):=by rw[<- hw0];simp
 have p5:w0.cell? ⟨w.heap.size,5,none⟩=some (.slice B m cf):=by rw[<- hw0];simp
 have HS0:=hid (show w.heap.size<w0.heap.size by omega);have HP4:=hid (fun W (hb:Below w0.heap.size w0 W)=>show W.cell? ⟨w.heap.size,4,none⟩=some (.slice A rs.length cr)from(hb.cell (p:=⟨w.heap.size,4,none⟩) HS0.out).trans p4);have HBW:=hid (fun W (hb:Below w0.heap.size w0 W)=>show Below w.heap.size w W from hb0.trans (hb.mono (Nat.le_of_lt HS0.out)));have HR:=hid (fun W (hb:Below w0.heap.size w0 W)=>show RRu W A rs.length rs from h.ah (HBW.out W hb));have HG:=hid (fun W (hb:Below w0.heap.size w0 W)=>show RW W g l from hg.below (HBW.out W hb));have yC:=hid (BI i o n s A cr B m cf rs q g c l w0 (h.ah hb0) hto (hg.below hb0) hi (by omega));obtain⟨a,ha⟩:∃a,jP (toR rs) q l=a:=⟨_,rfl⟩;have HA:=hid ha;rw[ha]at yC;obtain⟨R,hR⟩:∃R,rs.length=R:=⟨_,rfl⟩;have HRR:=hid hR;rw[hR]at hw0 p4 HP4 yC HR hl hf ⊢;obtain⟨nl,hnl⟩:∃nl,l.length=nl:=⟨_,rfl⟩;have HNL:=hid hnl;rw[hnl]at yC hll ⊢;have e1:(nl:Int)<=99999:=by omega
 obtain⟨i0,hi0,hz0,hz1,hz2⟩:=info_parts info8;clear h hto hg hi hb0 ha hR hnl hs0;go_enter Tryz.func35,Tryz.ntmps35;go_wp2_with (fail);refine yC.out.mono ?_;rintro e w1 ⟨rfl,hb1⟩;have HST:=hid hb1;clear p0 p1 p2 p3 p4 p5 hb1 hw0;go_wp2_with (fail)
 go_loopw [11] (fun iv wr=>∃k:Nat,f<=k/\k<=R/\iv = .int .i64 (k:Int)/\(∀j,f<=j->j<k->okR rs a j=false)/\Below w0.heap.size w0 wr) (fun iv _=>R-(intOf iv).toNat)
 case atStart=>exact⟨f,Nat.le_refl _,hf,rfl,fun j h1 h2=>by omega,HST.out⟩
 case round=>
  obtain⟨k,hk1,hk2,rfl,hno,hb⟩:=hrel;have HNO:=hid hno;have HB:=hid hb;have p4:=HP4.out wr hb;by_cases hlt:k<R
  case neg=>
   obtain rfl:k=R:=by omega
   have HF:=hid (show mA rs q l f w (.returned (.tuple #[.slice none 0 0,.bool false])) wr from⟨HBW.out wr hb,.inl ⟨Az fun j h1 h2=>by
    rw[HA.out];exact hno j h1 (by rw[HRR.out]at h2;exact h2),rfl⟩⟩)
   clear hno hb;go_wp2_with (fail);go_ret2;exact HF.out
  have hkl:k<rs.length:=by rw[HRR.out];exact hlt
  have hru:=HR.out wr hb;rw[<- HRR.out]at hru;obtain⟨b,off,A',c',A2,c2,hA,hbB,d0,d1,d2,_⟩:=hru.at_ hkl;subst hA;obtain⟨r,hr⟩:∃r,rs[k]=r:=⟨_,rfl⟩;rw[hr]at d0 d2;have hok:okR rs a k=((r.gs.length == 0) && decide (r.frm=(a:Int))):=by
   unfold okR;rw[jE hkl,hr]
  obtain⟨fr,hfr⟩:∃fr,r.frm=fr:=⟨_,rfl⟩;obtain⟨gn,hgn⟩:∃gn,r.gs.length=gn:=⟨_,rfl⟩;rw[hfr]at d0 hok;rw[hgn]at d2 hok;have i1:(0:Int)<=(k:Int):=Int.natCast_nonneg _;have i2:(k:Int)<(R:Int):=by omega
  have HOK:=hid hok;have HSK:=hid (fun(h0:okR rs a k=false) W (hW:Below w0.heap.size w0 W)=>show∃k2:Nat,f<=k2/\k2<=R/\Value.int .i64 ((k:Int)+1) = .int .i64 (k2:Int)/\(∀j,f<=j->j<k2->okR rs a j=false)/\Below w0.heap.size w0 W from⟨k+1,by omega,hlt,by go_num,fun j h1 h2=>by
   rcases Nat.lt_or_ge j k with z | z
   ·exact HNO.out j h1 z
   ·rw[show j=k by omega];exact h0,hW⟩)
  clear hru hno hb hok hr hfr hgn d1;by_cases t1:fr=(a:Int)
  case neg=>
   have HF:=hid (HSK.out (by rw[HOK.out,decide_eq_false t1,Bool.and_false]));have t2:(fr == (a:Int))=false:=beq_eq_false_iff_ne.2 t1;go_wp2_with (fail)
   go_roundw
   case rel=>exact HF.out _ HB.out
   case measure=>simp[intOf];omega
  subst t1;by_cases t1:gn=0
  case neg=>
   have HF:=hid (HSK.out (by rw[HOK.out,beq_eq_false_iff_ne.2 t1,Bool.false_and]));have t2:((gn:Int) == 0)=false:=beq_eq_false_iff_ne.2 (by omega);go_wp2_with (fail)
   go_roundw
   case rel=>exact HF.out _ HB.out
   case measure=>simp[intOf];omega
  subst t1;obtain⟨t,NP⟩:=xG (n:=R) (f:=f) hlt hk1 (show okR rs a k=true by rw[HOK.out];simp) HNO.out;have HK:=hid NP;clear NP;have hgw:=HG.out wr HB.out;have hnews:∀j u,(uE l)[j]? = some u->wr.cell? ((⟨g,0,none⟩:Addr).add j)=some u:=fun j u hu=>by
   have hj:j<l.length:=by have:=(List.getElem?_eq_some_iff.1 hu).1;simpa[uE]using this
   rw[Go.WideShapes.add_plain,Nat.zero_add,hgw.2 j hj];simp[uE,hj]at hu;rw[hu]
  have hone:∀u∈uE l,u.oneCell'=true:=fun u hu=>by
   obtain⟨x,_,rfl⟩:=List.mem_map.1 hu;rfl
  have HNW:=hid hnews;have HON:=hid hone;have HSW:=hid (show w.heap.size<=wr.heap.size by have:=HB.out.size;have:=HS0.out;omega);have HLN:=hid (show(uE l).length=nl by simp[uE,HNL.out]);clear hnews hone hgw;go_wp2_with (at_builtin;go_must (refine wpList_append_own_at _ rfl _ _ 73 rfl w.heap.size 3 i0 _ 1 8 Tryz.underlying73 hi0 hz0 hz1 hz2 rfl (by decide) (.slice none 0 0) 0 [] rfl (World.ownsRow_nil _ _ _ _) ⟨g,0,none⟩ nl c (uE l) rfl (by rw[HLN.out,Nat.mul_one]) HNW.out HON.out ?c1 ?c2 ?c3 ?_))
  case c1=>simp only[maxLen];omega
  case c2=>omega
  case c3=>exact HSW.out
  intro v5 w5 hown5 hg5 _ hat5;try simp only[Nat.zero_add,List.nil_append]at hown5
  obtain⟨A5,c5,hv5⟩:=aX hown5;subst hv5;have HO5:=hid hown5;have HB5:=hid (show Below w.heap.size w w5 from(HBW.out wr HB.out).trans ⟨hg5.os,hg5.tape,hg5.output,hg5.size,fun b hb=>hg5.block b (by have:=HSW.out;omega) (fun e=>by simp[Value.ownBlock]at e)⟩);clear hown5 hg5 hat5;go_wp2_with (at_builtin;go_must (refine wpList_append_own_at _ rfl _ _ 73 rfl w.heap.size 3 i0 _ 1 8 Tryz.underlying73 hi0 hz0 hz1 hz2 rfl (by decide) (.slice A5 nl c5) nl (uE l) rfl (HO5.out.alloc _) ⟨w5.heap.size,0,none⟩ 1 1 [.int .i64 (k:Int)] rfl rfl ?d1 ?d2 ?d3 ?d4 ?d5 ?_))
  case d1=>exact World.news_of_block (cs:=#[.int .i64 (k:Int)]) (t:=3) (fr:=(0,0)) (heap_alloc_new w5 _)
  case d2=>simp[Value.oneCell']
  case d3=>simp only[maxLen];omega
  case d4=>omega
  case d5=>have:=HB5.out.size;simp;omega
  intro v9 w9 hown9 hg9 _ hat9;obtain⟨g9,c9,hv9,_⟩:=World.ownsRow.form hown9 (by omega);subst hv9;have hcp:=sq hown9;have hrw:=Jp (l:=l++[k]) (by rw[show uE (l++[k])=uE l++[.int .i64 (k:Int)]by simp[uE]];exact hown9);have HF:=hid (show mA rs q l f w (.returned (.tuple #[.slice (some ⟨g9,0,none⟩) (nl+1) c9,.bool true])) w9 from⟨(HB5.out.alloc (by exact HB5.out.size) _).trans ⟨hg9.os,hg9.tape,hg9.output,hg9.size,fun b hb=>hg9.block b (by have:=HB5.out.size;simp;omega) (fun e=>by have:=(World.ownsRow.lt HO5.out b e.symm).1;omega)⟩,.inr ⟨k,t,g9,c9,by rw[HRR.out,HA.out];exact HK.out,by rw[HNL.out],hrw.1,hrw.2,by rw[HNL.out];exact hcp⟩⟩);clear hown9 hg9 hat9 hrw hcp;go_wp2_with (fail);go_ret2;exact HF.out
end Go.Proofs.YtbdmcibcenhpnaaGreatDoor.Ep
namespace Go.Proofs.YtbdmcibcenhpnaaGreatDoor.Ep
set_option maxHeartbeats 64000000
open Go Go.RowKit Sp Pa Te Mi De Lt
open Go.Lib (hid)
theorem GV:(Tryz.prog.info? 73).map (fun i=>(i.zero,i.size,i.bytes))=some (some (.slice none 0 0),1,24):=by kernel_rfl
def WsR (w:World) (b:Nat) (v:Value) (ls:List (List Nat)):Prop:=∃vs,w.ownsRow b 73 1 v ls.length vs/\∀(j:Nat) (h:j<ls.length),∃g c,vs[j]? = some (.slice (some ⟨g,0,none⟩) ls[j].length c)/\RW w g ls[j]/\v.ownBlock≠some g/\b<=g
theorem WsR.below {w w':World} {b:Nat} {v:Value} {ls:List (List Nat)} (h:WsR w b v ls) (hb:Below w.heap.size w w'):WsR w' b v ls:=by
 obtain⟨vs,h1,h2⟩:=h;have hlt:=fun g e=>(World.ownsRow.lt h1 g e).2
 refine⟨vs,?_,fun j hj=>?_⟩
 ·refine⟨h1.1,?_⟩
  rcases h1.2 with q | ⟨g,cap,cur,rfl,hg,hr,hrest⟩
  ·exact .inl q
  ·exact .inr ⟨g,cap,cur,rfl,hg,(hb.block g (hlt g rfl)).trans hr,hrest⟩
 ·obtain⟨g,c,q1,q2,q3⟩:=h2 j hj
  exact⟨g,c,q1,q2.below hb,q3⟩
theorem WsR.more {w w':World} {b g c:Nat} {v v':Value} {ls:List (List Nat)} {l:List Nat} {vs:List Value} (h:WsR w b v ls) (hvs:w.ownsRow b 73 1 v ls.length vs) (ho:w'.ownsRow b 73 1 v' (ls.length+1) (vs++[.slice (some ⟨g,0,none⟩) l.length c])) (hg:w.grownBy w' v.ownBlock) (hat:v'.ownBlock=v.ownBlock\/v'.ownBlock=some w.heap.size) (hl:RW w g l) (hne:v.ownBlock≠some g) (hbg:b<=g):WsR w' b v' (ls++[l]):=by
 obtain⟨vs',h1,h2⟩:=h;have hun:vs'=vs:=by
  have a1:=h1.2;have a2:=hvs.2;rcases a1 with⟨hv,hn⟩ | ⟨g1,cap,cur,hv,_,hr,_,_,_,ht⟩
  ·have e1:vs'=[]:=List.eq_nil_of_length_eq_zero (by have:=h1.1;omega)
   have e2:vs=[]:=List.eq_nil_of_length_eq_zero (by have:=hvs.1;omega);rw[e1,e2]
  ·rcases a2 with⟨hv2,hn2⟩ | ⟨g2,cap2,cur2,hv2,_,hr2,_,_,_,ht2⟩
   ·rw[hv]at hv2;cases hv2
   ·rw[hv]at hv2
    injection hv2 with e1 _ e3;injection e1 with e1;injection e1 with e1;subst e1;rw[hr]at hr2;injection hr2 with e4;injection e4 with e5;rw[<- ht,<- ht2,e5]
 subst hun;have hlen:vs'.length=ls.length:=by have:=h1.1;omega
 have hkeep:∀(x:Nat) (u:List Nat),RW w x u->v.ownBlock≠some x->RW w' x u:=fun x u hx hn=>⟨Nat.lt_of_lt_of_le hx.1 hg.size,fun j hj=>by
  have:=hx.2 j hj;simp only[World.cell?]at this ⊢;rw[hg.block x hx.1 (fun e=>hn e.symm)];exact this⟩
 have hne2:∀x:Nat,x<w.heap.size->v.ownBlock≠some x->v'.ownBlock≠some x:=fun x hx hn e=>by
  rcases hat with k | k
  ·exact hn (by rw[<- k];exact e)
  ·rw[k]at e;injection e with e;omega
 refine⟨_,by rw[List.length_append,List.length_singleton];exact ho,fun j hj=>?_⟩;rw[List.length_append,List.length_singleton]at hj;rcases Nat.lt_or_ge j ls.length with k | k
 ·obtain⟨g1,c1,q1,q2,q3,q4⟩:=h2 j k
  refine⟨g1,c1,?_,?_,hne2 g1 q2.1 q3,q4⟩
  ·rw[List.getElem?_append_left (by omega),q1,List.getElem_append_left k]
  ·rw[List.getElem_append_left k]
   exact hkeep g1 _ q2 q3
 ·obtain rfl:j=ls.length:=by omega
  refine⟨g,c,?_,?_,hne2 g hl.1 hne,hbg⟩
  ·rw[List.getElem?_append_right (by omega),hlen,Nat.sub_self]
   simp
  ·rw[List.getElem_append_right (Nat.le_refl _)]
   simp only[Nat.sub_self,List.getElem_cons_zero];exact hkeep g l hl hne
theorem WsR.mono {w:World} {b b':Nat} {v:Value} {ls:List (List Nat)} (h:WsR w b v ls) (hb:b'<=b):WsR w b' v ls:=by
 obtain⟨vs,h1,h2⟩:=h;refine⟨vs,⟨h1.1,?_⟩,fun j hj=>by obtain⟨g,c,q1,q2,q3,q4⟩:=h2 j hj;exact⟨g,c,q1,q2,q3,Nat.le_trans hb q4⟩⟩;rcases h1.2 with q | ⟨g,cap,cur,e,hg,hr⟩
 ·exact .inl q
 ·exact .inr ⟨g,cap,cur,e,by omega,hr⟩
def I3:Value->Nat
 | .slice _ n _=>n
 | _=>0
def Cl (all:List (List Nat)) (room:Nat) (w:World) (e:Ending) (w':World):Prop:=∃(A':Option Addr) (c':Nat),e = .returned (.slice A' (all.take (room+1)).length c')/\WsR w' w.heap.size (.slice A' (all.take (room+1)).length c') (all.take (room+1))/\Below w.heap.size w w'
section
variable (rs:List RuL) (rk:Nat->Nat) (q:Nat)
abbrev rY (u:List Nat):List (List Nat):=rest rs.length (okR rs) (toR rs) rk q u
abbrev Nk (u:List Nat):List (List Nat):=up rs.length (okR rs) (toR rs) rk q u
abbrev dF:List (List Nat):=Ml rs.length (okR rs) (toR rs) rk q
def WoR (all:List (List Nat)) (room:Nat) (w0:World) (b:Nat) (vo vn:Value) (wr:World):Prop:=
 ∃(ls:List (List Nat)) (now:List Nat) (A':Option Addr) (gn cn c':Nat),vo = .slice A' ls.length c'/\vn = .slice (some ⟨gn,0,none⟩) now.length cn/\all=ls++(now::rY rs rk q now)/\ls.length<=room+1/\WsR wr b (.slice A' ls.length c') ls/\RW wr gn now/\(Value.slice A' ls.length c').ownBlock≠some gn/\now.length<=cn/\b<=gn/\Below w0.heap.size w0 wr
def WiR (now:List Nat) (w6:World) (vx vk vb:Value) (wr:World):Prop:=
 ∃(kk:Nat) (b:Bool),kk<=now.length/\vk = .int .i64 (kk:Int)/\vb = .bool b/\Below w6.heap.size w6 wr /\
  ((b=false/\rY rs rk q now=Nk rs rk q (now.take kk))\/(b=true/\∃(nx:List Nat) (g c:Nat),vx = .slice (some ⟨g,0,none⟩) nx.length c/\RW wr g nx/\rY rs rk q now=nx::rY rs rk q nx/\w6.heap.size<=g/\nx.length<=c))
end
def Il (rs:List RuL) (q:Nat) (l:List Nat) (f:Nat) (w:World) (e:Ending) (w':World):Prop:=
 ∃(b:Bool) (nv:Value),Below w.heap.size w w'/\e = .returned (.tuple #[nv,.bool b])/\((b=false/\kids rs.length (okR rs) (jP (toR rs) q l) f=[])\/(b=true/\∃(j:Nat) (t:List Nat) (g c:Nat),kids rs.length (okR rs) (jP (toR rs) q l) f=j::t/\nv = .slice (some ⟨g,0,none⟩) (l++[j]).length c/\RW w' g (l++[j])/\w.heap.size<=g/\(l++[j]).length<=c))
theorem mA.e {rs:List RuL} {q:Nat} {l:List Nat} {f:Nat} {w w':World} {e:Ending} (h:mA rs q l f w e w'):Il rs q l f w e w':=by
 obtain⟨h1,⟨h2,rfl⟩ | ⟨j,t,g,c,h2,rfl,h3,h4,h5⟩⟩:=h
 ·exact⟨false,_,h1,rfl,.inl ⟨rfl,h2⟩⟩
 ·exact⟨true,_,h1,rfl,.inr ⟨rfl,j,t,g,c,h2,by rw[List.length_append];rfl,h3,h4,by rw[List.length_append];exact h5⟩⟩
theorem pH (i o n s:Int) (A:Option Addr) (cr:Nat) (B:Option Addr) (m cf:Nat) (rs:List RuL) (q room:Nat) (rk:Nat->Nat) (w:World) (h:RRu w A rs.length rs) (hl:rs.length<=4096) (hto:∀r∈rs,0<=r.to_) (hr:∀a i,okR rs a i=true->i<rs.length->rk (toR rs i)<rk a) (hrb:∀a,rk a<=5000) (hroom:room<=100000) :
  Calls Tryz.prog 21 #[dsc i o n s A rs.length cr B m cf,.int .i64 (q:Int),.int .i64 (room:Int)] w (Cl (dF rs rk q) room w):=by
 obtain⟨w0,hw0⟩:∃w0,w.alloc (.cells #[.int .i64 i,.int .i64 o,.int .i64 n,.int .i64 s,.slice A rs.length cr,.slice B m cf] 26)=w0:=⟨_,rfl⟩;have hs0:w0.heap.size=w.heap.size+1:=by rw[<- hw0];simp
 have hb0:Below w.heap.size w w0:=by rw[<- hw0];exact(Below.refl _ _).alloc (Nat.le_refl _) _
 have p0:w0.cell? ⟨w.heap.size,0,none⟩=some (.int .i64 i):=by rw[<- hw0];simp
 have p1:w0.cell? ⟨w.heap.size,1,none⟩=some (.int .i64 o):=by rw[<- hw0];simp
 have p2:w0.cell? ⟨w.heap.size,2,none⟩=some (.int .i64 n):=by rw[<- hw0];simp
 have p3:w0.cell? ⟨w.heap.size,3,none⟩=some (.int .i64 s):=by rw[<- hw0];simp
 have p4:w0.cell? ⟨w.heap.size,4,none⟩=some (.slice A rs.length cr):=by rw[<- hw0];simp
 have p5:w0.cell? ⟨w.heap.size,5,none⟩=some (.slice B m cf):=by rw[<- hw0];simp
 have HS0:=hid (show w.heap.size<w0.heap.size by omega);have HD:=hid (fun W (hb:Below w0.heap.size w0 W)=>show W.cell? ⟨w.heap.size,0,none⟩=some (.int .i64 i)/\W.cell? ⟨w.heap.size,1,none⟩=some (.int .i64 o)/\W.cell? ⟨w.heap.size,2,none⟩=some (.int .i64 n)/\W.cell? ⟨w.heap.size,3,none⟩=some (.int .i64 s)/\W.cell? ⟨w.heap.size,4,none⟩=some (.slice A rs.length cr)/\W.cell? ⟨w.heap.size,5,none⟩=some (.slice B m cf)from
  ⟨(hb.cell (p:=⟨w.heap.size,0,none⟩) HS0.out).trans p0,(hb.cell (p:=⟨w.heap.size,1,none⟩) HS0.out).trans p1,(hb.cell (p:=⟨w.heap.size,2,none⟩) HS0.out).trans p2,(hb.cell (p:=⟨w.heap.size,3,none⟩) HS0.out).trans p3,(hb.cell (p:=⟨w.heap.size,4,none⟩) HS0.out).trans p4,(hb.cell (p:=⟨w.heap.size,5,none⟩) HS0.out).trans p5⟩)
 have HBW:=hid (fun W (hb:Below w0.heap.size w0 W)=>show Below w.heap.size w W from hb0.trans (hb.mono (Nat.le_of_lt HS0.out)));have HLO:=hid (fun W (hb:Below w0.heap.size w0 W) g c l f (hg:RW W g l) (hm:l∈dF rs rk q) k (hk:k<=l.length) (hf:f<=rs.length)=>show Calls Tryz.prog 35 #[dsc i o n s A rs.length cr B m cf,.int .i64 (q:Int),.slice (some ⟨g,0,none⟩) k c,.int .i64 (f:Int)] W (Il rs q (l.take k) f W)from by
  obtain⟨m1,m2⟩:=fG hm;have hlk:(l.take k).length=k:=by rw[List.length_take];omega
  have:=xA i o n s A cr B m cf rs q g c f (l.take k) W (h.ah (HBW.out W hb)) hl hto hg.take (fun x hx=>m1 x (List.mem_of_mem_take hx)) (by have:=hrb q;omega) hf;rw[hlk]at this;exact this.mono fun _ _ h=>h.e)
 have HRK:=hid hr;have HRB:=hid hrb;have vL:=hid (show dF rs rk q=[]++([]::rY rs rk q [])from rfl);have Je:=hid (fun l (h:l∈dF rs rk q)=>fG h);obtain⟨all,hall⟩:∃all,dF rs rk q=all:=⟨_,rfl⟩;rw[hall]at vL HLO Je ⊢;obtain⟨R,hR⟩:∃R,rs.length=R:=⟨_,rfl⟩;have HRR:=hid hR;rw[hR]at hw0 p4 HD HLO hl Je ⊢;obtain⟨i0,hi0,hz0,hz1,hz2⟩:=info_parts GV;obtain⟨w1,hw1⟩:∃w1,w0.alloc (.cells #[] 3)=w1:=⟨_,rfl⟩;have HB1:=hid (show Below w0.heap.size w0 w1 by rw[<- hw1];exact(Below.refl _ _).alloc (Nat.le_refl _) _);have HST:=hid (show WoR rs rk q all room w0 w0.heap.size (.slice none 0 0) (.slice (some ⟨w0.heap.size,0,none⟩) 0 0) w1 from⟨[],[],none,w0.heap.size,0,0,rfl,rfl,vL.out,Nat.zero_le _,⟨[],World.ownsRow_nil _ _ _ _,fun j hj=>absurd hj (Nat.not_lt_zero _)⟩,⟨by rw[<- hw1];simp,fun j hj=>absurd hj (Nat.not_lt_zero _)⟩,(by simp[Value.ownBlock]),Nat.le_refl _,Nat.le_refl _,HB1.out⟩);clear h hto hr hrb hb0 hR hs0 hall;have e0:(room:Int)<=100000:=by omega
 go_enter Tryz.func21,Tryz.ntmps21;go_wp2_with (fail);clear p0 p1 p2 p3 p4 p5
 go_loopw [7,8] (fun vo vn wr=>WoR rs rk q all room w0 w0.heap.size vo vn wr) (fun vo _ _=>room+1-I3 vo)
 case atStart=>exact HST.out
 case round=>
  obtain⟨ls,now,A',gn,cn,c',rfl,rfl,hall,hlen,hws,hrw,hne,hcn,hbg,hb⟩:=hrel;have HW:=hid hws;have HN:=hid hrw;have HNE:=hid hne;have HB:=hid hb;have HA:=hid hall;obtain⟨vs,hvs,_⟩:=hws;have HV:=hid hvs;obtain⟨nl,hnl⟩:∃nl,ls.length=nl:=⟨_,rfl⟩;have HNL:=hid hnl;rw[hnl]at hlen HNE HV ⊢;obtain⟨nw,hnw⟩:∃nw,now.length=nw:=⟨_,rfl⟩;have HNW:=hid hnw;rw[hnw]at hcn ⊢;clear hall hrw hne hb hvs;by_cases hrm:nl<=room
  case neg=>
   have HF:=hid (show Cl all room w (.returned (.slice A' nl c')) wr from by
    have e1:all.take (room+1)=ls:=by
     rw[HA.out,List.take_append_of_le_length (by omega),List.take_of_length_le (by omega)]
    refine⟨A',c',?_,?_,HBW.out wr HB.out⟩
    ·rw[e1,HNL.out]
    ·rw[e1]
     have:=HW.out.mono (Nat.le_of_lt HS0.out);rw[HNL.out]at this ⊢;exact this)
   have t1:decide ((nl:Int)<=(room:Int))=false:=decide_eq_false (by omega);clear hnl hnw;go_wp2_with (fail);go_ret;exact HF.out
  have t1:decide ((nl:Int)<=(room:Int))=true:=decide_eq_true (by omega);have t2:(nl:Int)<=100000:=by omega
  clear hnl hnw;go_wp2_with (at_builtin;go_must (refine wpList_append_own_at _ rfl _ _ 61 rfl w0.heap.size 73 i0 _ 1 24 Tryz.underlying61 hi0 hz0 hz1 hz2 rfl (by decide) (.slice A' nl c') nl vs rfl (HV.out.alloc _) ⟨wr.heap.size,0,none⟩ 1 1 [.slice (some ⟨gn,0,none⟩) nw cn] rfl rfl ?c1 ?c2 ?c3 ?c4 ?c5 ?_))
  case c1=>exact World.news_of_block (cs:=#[.slice (some ⟨gn,0,none⟩) nw cn]) (t:=73) (fr:=(0,0)) (heap_alloc_new wr _)
  case c2=>simp[Value.oneCell']
  case c3=>simp only[maxLen];omega
  case c4=>omega
  case c5=>have:=HB.out.size;have:=HS0.out;simp;omega
  intro v6 w6 hown6 hg6 _ hat6;obtain⟨g6,c6,hv6,_⟩:=World.ownsRow.form hown6 (by omega);subst hv6;have qK:wr.grownBy w6 (Value.slice A' nl c').ownBlock:=⟨hg6.os,hg6.tape,hg6.output,Nat.le_trans (by simp) hg6.size,fun b hb hn=>by
   rw[hg6.block b (by simp;omega) hn];exact heap_alloc_old wr _ hb⟩
  have hlow6:Below w0.heap.size w0 w6:=HB.out.trans ⟨hg6.os,hg6.tape,hg6.output,qK.size,fun b hb=>qK.block b (by have:=HB.out.size;omega) (fun e=>by
   have:=(World.ownsRow.lt HV.out b e.symm).1;omega)⟩
  have I5:WsR w6 w0.heap.size (.slice (some ⟨g6,0,none⟩) (nl+1) c6) (ls++[now]):=by
   have hwA:WsR (wr.alloc (.cells #[.slice (some ⟨gn,0,none⟩) nw cn] 73)) w0.heap.size (.slice A' nl c') ls:=by
    have:=HW.out.below (w':=wr.alloc (.cells #[.slice (some ⟨gn,0,none⟩) nw cn] 73)) ((Below.refl _ _).alloc (Nat.le_refl _) _);rw[HNL.out]at this;exact this
   refine hwA.more (g:=gn) (c:=cn) (l:=now) (vs:=vs) (by rw[HNL.out];exact HV.out.alloc _) (by rw[HNL.out,HNW.out];exact hown6) hg6 (by rw[World.size_alloc];exact hat6) ⟨by have:=HN.out.1;simp;omega,fun j hj=>?_⟩ HNE.out hbg;rw[World.cell?_alloc_past _ _ _ (by have:=HN.out.1;exact this)];exact HN.out.2 j hj
  have hrw6:RW w6 gn now:=⟨Nat.lt_of_lt_of_le HN.out.1 qK.size,fun j hj=>by
   have:=HN.out.2 j hj;simp only[World.cell?]at this ⊢;rw[qK.block gn HN.out.1 (fun e=>HNE.out e.symm)];exact this⟩
  have hmem:now∈all:=by rw[HA.out];simp
  have HM:=hid hmem;have HW6:=hid I5;have HR6:=hid hrw6;have HG6:=hid (show g6<w6.heap.size from(World.ownsRow.lt hown6 g6 rfl).2);have JK:=hid (show w0.heap.size<=w6.heap.size from hlow6.size);have HB6:=hid (fun W (hb:Below w6.heap.size w6 W)=>show Below w0.heap.size w0 W from hlow6.trans (hb.mono hlow6.size));have HD6:=hid (HD.out w6 hlow6);have hlo:=HLO.out w6 hlow6 gn cn now 0 hrw6 hmem nw (by rw[HNW.out];exact Nat.le_refl _) (Nat.zero_le _);rw[List.take_of_length_le (by rw[HNW.out];exact Nat.le_refl _)]at hlo;have HL6:=hid hlo;have hnb:=HRB.out q;have Qu:nw<=5000:=by
   have:=(Je.out now hmem).2;rw[HNW.out]at this;omega
  obtain⟨p0,p1,p2,p3,p4,p5⟩:=HD6.out;clear hown6 hg6 hat6 qK hlow6 I5 hrw6 hmem hlo hnb t1;go_wp2_with (fail);refine HL6.out.mono ?_;rintro e w7 ⟨b7,nv7,hb7,rfl,hc7⟩;have HI:=hid (show WiR rs rk q now w6 nv7 (.int .i64 (nw:Int)) (.bool b7) w7 from by
   refine⟨nw,b7,by rw[HNW.out];exact Nat.le_refl _,rfl,rfl,hb7,?_⟩;rcases hc7 with⟨rfl,hk⟩ | ⟨rfl,j,t,g,c,hk,rfl,h3,h4,h5⟩
   ·refine .inl ⟨rfl,?_⟩
    rw[List.take_of_length_le (by rw[HNW.out];exact Nat.le_refl _)];show sub _ _ _ _ _ _ _++_=_;rw[tY HRK.out hk];rfl
   ·exact .inr ⟨rfl,now++[j],g,c,rfl,h3,Fm HRK.out hk,h4,h5⟩)
  clear hc7 hb7 p0 p1 p2 p3 p4 p5;go_wp2_with (fail)
  go_loopw [9,11,10] (fun vx vk vb wr=>WiR rs rk q now w6 vx vk vb wr) (fun _ vk _ _=>(intOf vk).toNat)
  case atStart=>exact HI.out
  case round=>
   obtain⟨k,b,hkk,rfl,rfl,hbi,hc⟩:=hrel;have HBI:=hid hbi;have HC:=hid hc;rw[HNW.out]at hkk
   cases b with
   | true=>
    obtain⟨h0,_⟩ | ⟨_,nx,g,c,rfl,h3,h4,h5,h6⟩:=hc
    ·cases h0
    have HF:=hid (show WoR rs rk q all room w0 w0.heap.size (.slice (some ⟨g6,0,none⟩) (nl+1) c6) (.slice (some ⟨g,0,none⟩) nx.length c) wr from
     ⟨ls++[now],nx,some ⟨g6,0,none⟩,g,c,c6,by rw[List.length_append,HNL.out];rfl,rfl,by rw[HA.out,h4,List.append_assoc];rfl,by rw[List.length_append,HNL.out];exact Nat.succ_le_succ hrm,by
      rw[List.length_append,HNL.out];exact HW6.out.below hbi,h3,(by have:=HG6.out;simp[Value.ownBlock];omega),h6,(by have:=HG6.out;have:=JK.out;omega),HB6.out wr hbi⟩)
    clear hbi h3 h4 h5 h6;go_wp2_with (fail)
    go_roundw
    case rel=>exact HF.out
    case measure=>simp[I3];omega
   | false=>
    obtain⟨_,hup⟩ | ⟨h0,_⟩:=hc
    case inr=>cases h0
    have HUP:=hid hup;rcases Nat.eq_zero_or_pos k with rfl | hk0
    ·have HF:=hid (show Cl all room w (.returned (.slice (some ⟨g6,0,none⟩) (nl+1) c6)) wr from by
      have e0:rY rs rk q now=[]:=by rw[hup,List.take_zero];rfl
      have e1:all.take (room+1)=ls++[now]:=by
       rw[HA.out,e0,List.take_of_length_le];rw[List.length_append,HNL.out];simp only[List.length_cons,List.length_nil];omega
      refine⟨some ⟨g6,0,none⟩,c6,?_,?_,HBW.out wr (HB6.out wr hbi)⟩
      ·rw[e1,List.length_append,HNL.out]
       rfl
      ·rw[e1,List.length_append,HNL.out]
       exact(HW6.out.below hbi).mono (Nat.le_of_lt HS0.out))
     clear hbi hup;go_wp2_with (fail);go_ret;exact HF.out
    obtain⟨kk,rfl⟩:∃kk,k=kk+1:=⟨k-1,by omega⟩;have hkl:kk<now.length:=by rw[HNW.out];omega
    obtain⟨v,hv⟩:∃v,now[kk]=v:=⟨_,rfl⟩;have hvR:v<R:=(Je.out now HM.out).1 v (by rw[<- hv];exact List.getElem_mem hkl);have HGK:=hid (fun W (hW:Below w6.heap.size w6 W)=>show W.cell? ⟨gn,kk,none⟩=some (.int .i64 (v:Int))from by
     have:=(HR6.out.below hW).2 kk hkl;rw[hv]at this;exact this)
    have PK:=hid (fun W (hW:Below w6.heap.size w6 W)=>show Calls Tryz.prog 35 #[.agg #[.int .i64 i,.int .i64 o,.int .i64 n,.int .i64 s,.slice A R cr,.slice B m cf],.int .i64 (q:Int),.slice (some ⟨gn,0,none⟩) kk cn,.int .i64 ((v:Int)+1)] W (Il rs q (now.take kk) (v+1) W)from by
     have:=HLO.out W (HB6.out W hW) gn cn now (v+1) (HR6.out.below hW) HM.out kk (Nat.le_of_lt hkl) hvR;have O4:((v+1:Nat):Int)=(v:Int)+1:=by omega
     rw[O4]at this;exact this)
    have htk:now.take (kk+1)=now.take kk++[v]:=by rw[List.take_succ_eq_append_getElem hkl,hv]
    have HNX:=hid (fun W (hW:Below w6.heap.size w6 W) (b8:Bool) (nv8:Value) (V:World) (hV:w6.heap.size<=V.heap.size) (hc8:(b8=false/\kids rs.length (okR rs) (jP (toR rs) q (now.take kk)) (v+1)=[])\/(b8=true/\∃(j:Nat) (t:List Nat) (g c:Nat),kids rs.length (okR rs) (jP (toR rs) q (now.take kk)) (v+1)=j::t/\nv8 = .slice (some ⟨g,0,none⟩) (now.take kk++[j]).length c/\RW W g (now.take kk++[j])/\V.heap.size<=g/\(now.take kk++[j]).length<=c))=>show WiR rs rk q now w6 nv8 (.int .i64 (kk:Int)) (.bool b8) W from by
     refine⟨kk,b8,Nat.le_of_lt hkl,rfl,rfl,hW,?_⟩;have hr0:rY rs rk q now=sub rs.length (okR rs) (toR rs) rk (jP (toR rs) q (now.take kk)) (now.take kk) (v+1)++Nk rs rk q (now.take kk):=by
      rw[HUP.out,htk];exact yS q (now.take kk) v
     rcases hc8 with⟨rfl,hk⟩ | ⟨rfl,j,t,g,c,hk,rfl,h3,h4,h5⟩
     ·refine .inl ⟨rfl,?_⟩
      rw[hr0,tY HRK.out hk];rfl
     ·exact .inr ⟨rfl,now.take kk++[j],g,c,rfl,h3,by rw[hr0];exact Fm HRK.out hk,Nat.le_trans hV h4,h5⟩)
    have i1:(0:Int)<=(kk:Int):=Int.natCast_nonneg _;have i2:(kk:Int)<(nw:Int):=by rw[HNW.out]at hkl;omega
    have i3:(kk:Int)<=(cn:Int):=by omega
    have i4:(v:Int)<4096:=by omega
    have i6:IntKind.i64.wrap ((v:Int)+1)=(v:Int)+1:=IntWalk.i64_in _ (by omega);have i5:(nw:Int)<=5000:=by omega
    clear hbi hup hk0 hkk hv htk;go_wp2_with (fail);obtain⟨wd,hwd⟩:∃wd,wr.drew=wd:=⟨_,rfl⟩;have hbd:Below w6.heap.size w6 wd:=by rw[<- hwd];exact HBI.out.drew
    refine wp_region_held_drew (S:=fun W=>(W.cell? ⟨w.heap.size,0,none⟩=some (.int .i64 i)/\W.cell? ⟨w.heap.size,1,none⟩=some (.int .i64 o)/\W.cell? ⟨w.heap.size,2,none⟩=some (.int .i64 n)/\W.cell? ⟨w.heap.size,3,none⟩=some (.int .i64 s)/\W.cell? ⟨w.heap.size,4,none⟩=some (.slice A R cr)/\W.cell? ⟨w.heap.size,5,none⟩=some (.slice B m cf))/\W.cell? ⟨gn,kk,none⟩=some (.int .i64 (v:Int))) (by kernel_rfl) (by rw[hwd];exact⟨HD.out wd (HB6.out wd hbd),HGK.out wd hbd⟩) (fun hHeld=>?_);rw[hwd]at hHeld ⊢;refine tk 0 ⟨some 39,.load 26 (.tmp 3),_,_,_,none⟩ ?_ rfl ?_ ?_;rotate_left
    ·intro w' hSw
     (try dsimp only at hSw)
     obtain⟨⟨p0,p1,p2,p3,p4,p5⟩,hgk⟩:=hSw;go_simp;all_goals with_reducible rfl
    try simp only[Act.put,sA,sB,sC]
    refine tk 1 ⟨some 40,.move (.tmp 1),_,_,_,none⟩ ?_ rfl ?_ ?_;rotate_left
    ·intro w' hSw
     (try dsimp only at hSw)
     obtain⟨⟨p0,p1,p2,p3,p4,p5⟩,hgk⟩:=hSw;go_simp;all_goals with_reducible rfl
    try simp only[Act.put,sA,sB,sC]
    refine tk 2 ⟨some 41,.move (.tmp 8),_,_,_,none⟩ ?_ rfl ?_ ?_;rotate_left
    ·intro w' hSw
     (try dsimp only at hSw)
     obtain⟨⟨p0,p1,p2,p3,p4,p5⟩,hgk⟩:=hSw;go_simp;all_goals with_reducible rfl
    try simp only[Act.put,sA,sB,sC]
    refine tk 3 ⟨some 42,.move (.tmp 11),_,_,_,none⟩ ?_ rfl ?_ ?_;rotate_left
    ·intro w' hSw
     (try dsimp only at hSw)
     obtain⟨⟨p0,p1,p2,p3,p4,p5⟩,hgk⟩:=hSw;go_simp;all_goals with_reducible rfl
    try simp only[Act.put,sA,sB,sC]
    refine tk 4 ⟨some 43,.slice 73 (.tmp 41) none (some (.tmp 42)) none,_,_,_,none⟩ ?_ rfl ?_ ?_;rotate_left
    ·intro w' hSw
     (try dsimp only at hSw)
     obtain⟨⟨p0,p1,p2,p3,p4,p5⟩,hgk⟩:=hSw;go_simp;all_goals with_reducible rfl
    try simp only[Act.put,sA,sB,sC]
    refine tk 5 ⟨some 44,.move (.tmp 8),_,_,_,none⟩ ?_ rfl ?_ ?_;rotate_left
    ·intro w' hSw
     (try dsimp only at hSw)
     obtain⟨⟨p0,p1,p2,p3,p4,p5⟩,hgk⟩:=hSw;go_simp;all_goals with_reducible rfl
    try simp only[Act.put,sA,sB,sC]
    refine tk 6 ⟨some 45,.move (.tmp 11),_,_,_,none⟩ ?_ rfl ?_ ?_;rotate_left
    ·intro w' hSw
     (try dsimp only at hSw)
     obtain⟨⟨p0,p1,p2,p3,p4,p5⟩,hgk⟩:=hSw;go_simp;all_goals with_reducible rfl
    try simp only[Act.put,sA,sB,sC]
    refine tk 7 ⟨some 46,.indexAddr 73 (.tmp 44) (.tmp 45),_,_,_,none⟩ ?_ rfl ?_ ?_;rotate_left
    ·intro w' hSw
     (try dsimp only at hSw)
     obtain⟨⟨p0,p1,p2,p3,p4,p5⟩,hgk⟩:=hSw;go_simp;all_goals with_reducible rfl
    try simp only[Act.put,sA,sB,sC]
    refine tk 8 ⟨some 47,.load 3 (.tmp 46),_,_,_,none⟩ ?_ rfl ?_ ?_;rotate_left
    ·intro w' hSw
     (try dsimp only at hSw)
     obtain⟨⟨p0,p1,p2,p3,p4,p5⟩,hgk⟩:=hSw;go_simp;all_goals with_reducible rfl
    try simp only[Act.put,sA,sB,sC]
    refine tk 9 ⟨some 48,.binOp .add 3 (.tmp 47) (.const (Go.Value.int IntKind.i64 1)) 3,_,_,_,none⟩ ?_ rfl ?_ ?_;rotate_left
    ·intro w' hSw
     (try dsimp only at hSw)
     obtain⟨⟨p0,p1,p2,p3,p4,p5⟩,hgk⟩:=hSw;go_simp;all_goals with_reducible rfl
    try simp only[Act.put,sA,sB,sC]
    refine wpAnyH_ready (rs:=[10]) (by kernel_rfl) (by simp) ?_;refine AllReadyH.cons (o:=⟨some 49,.call { callee:=.value (.func 35),args:=#[.tmp 39,.tmp 40,.tmp 43,.tmp 48],argTypes:=#[26,3,73,3] },_,_,_,none⟩) rfl (fun K hK=>?_) AllReadyH.nil;go_simp;go_wp2_with (go_at_call 35;(with_reducible refine(PK.out wd hbd).mono ?_);rintro e w8 ⟨b8,nv8,hb8,rfl,hc8⟩);have hb68:Below w6.heap.size w6 w8:=hbd.trans (hb8.mono hbd.size);refine hK.out _ _ ?_ (fun hHeld=>?_)
    ·exact⟨HD.out w8 (HB6.out w8 hb68),HGK.out w8 hb68⟩
    clear hK K;try simp only[Act.put,sA,sB,sC]
    refine tk 11 ⟨some 38,.move (.tmp 49),_,_,_,none⟩ ?_ rfl ?_ ?_;rotate_left
    ·intro w' hSw
     (try dsimp only at hSw)
     obtain⟨⟨p0,p1,p2,p3,p4,p5⟩,hgk⟩:=hSw;go_simp;all_goals with_reducible rfl
    try simp only[Act.put,sA,sB,sC]
    refine tk 12 ⟨some 50,.extract (.tmp 38) 0,_,_,_,none⟩ ?_ rfl ?_ ?_;rotate_left
    ·intro w' hSw
     (try dsimp only at hSw)
     obtain⟨⟨p0,p1,p2,p3,p4,p5⟩,hgk⟩:=hSw;go_simp;all_goals with_reducible rfl
    try simp only[Act.put,sA,sB,sC]
    refine tk 13 ⟨some 51,.extract (.tmp 38) 1,_,_,_,none⟩ ?_ rfl ?_ ?_;rotate_left
    ·intro w' hSw
     (try dsimp only at hSw)
     obtain⟨⟨p0,p1,p2,p3,p4,p5⟩,hgk⟩:=hSw;go_simp;all_goals with_reducible rfl
    try simp only[Act.put,sA,sB,sC]
    refine tk 14 ⟨some 9,.assign (.tmp 50),_,_,_,none⟩ ?_ rfl ?_ ?_;rotate_left
    ·intro w' hSw
     (try dsimp only at hSw)
     obtain⟨⟨p0,p1,p2,p3,p4,p5⟩,hgk⟩:=hSw;go_simp;all_goals with_reducible rfl
    try simp only[Act.put,sA,sB,sC]
    refine tk 15 ⟨some 10,.assign (.tmp 51),_,_,_,none⟩ ?_ rfl ?_ ?_;rotate_left
    ·intro w' hSw
     (try dsimp only at hSw)
     obtain⟨⟨p0,p1,p2,p3,p4,p5⟩,hgk⟩:=hSw;go_simp;all_goals with_reducible rfl
    try simp only[Act.put,sA,sB,sC]
    refine wpAnyH_done (by kernel_rfl) ?_ _;have yB:=hid (HNX.out w8 hb68 b8 nv8 wd hbd.size hc8);go_wp2_with (fail)
    go_roundw
    case rel=>exact yB.out
    case measure=>simp[intOf]
end Go.Proofs.YtbdmcibcenhpnaaGreatDoor.Ep
namespace Go.Proofs.YtbdmcibcenhpnaaGreatDoor.Ep
set_option maxHeartbeats 64000000
open Go Go.RowKit Sp Pa Te Mi De Lt
open Go.Lib (hid)
def vO (rs:List RuL) (rk:Nat->Nat) (l:List Nat):Nat:=(l.map fun s=>(dF rs rk s).length).sum
theorem iH (rs:List RuL) (rk:Nat->Nat) (l:List Nat) (x:Nat):vO rs rk (l++[x])=vO rs rk l+(dF rs rk x).length:=by unfold vO;simp
def EX (T:Nat) (w:World) (e:Ending) (w':World):Prop:=Below w.heap.size w w'/\((T<=4096/\e = .returned (.tuple #[.int .i64 (T:Int),.bool true]))\/(4096<T/\e = .returned (.tuple #[.int .i64 0,.bool false])))
theorem pG (rs:List RuL) (rk:Nat->Nat) (N:Nat):∀k,k<=N->vO rs rk (List.range k)<=vO rs rk (List.range N):=by
 induction N with
 | zero=>intro k h;rw[Nat.le_zero.1 h];exact Nat.le_refl _
 | succ N ih=>
  intro k h;rcases Nat.lt_or_ge k (N+1)with q | q
  ·have:=ih k (by omega)
   rw[List.range_succ,iH];omega
  ·rw[show k=N+1 by omega]
   exact Nat.le_refl _
theorem vS (i o s:Int) (N:Nat) (A:Option Addr) (cr:Nat) (B:Option Addr) (m cf:Nat) (rs:List RuL) (rk:Nat->Nat) (w:World) (h:RRu w A rs.length rs) (hl:rs.length<=4096) (hto:∀r∈rs,0<=r.to_) (hr:∀a i,okR rs a i=true->i<rs.length->rk (toR rs i)<rk a) (hrb:∀a,rk a<=5000) (hN:N<=1024) :
  Calls Tryz.prog 10 #[dsc i o (N:Int) s A rs.length cr B m cf] w (EX (vO rs rk (List.range N)) w):=by
 obtain⟨w0,hw0⟩:∃w0,w.alloc (.cells #[.int .i64 i,.int .i64 o,.int .i64 (N:Int),.int .i64 s,.slice A rs.length cr,.slice B m cf] 26)=w0:=⟨_,rfl⟩;have hs0:w0.heap.size=w.heap.size+1:=by rw[<- hw0];simp
 have hb0:Below w.heap.size w w0:=by rw[<- hw0];exact(Below.refl _ _).alloc (Nat.le_refl _) _
 have p0:w0.cell? ⟨w.heap.size,0,none⟩=some (.int .i64 i):=by rw[<- hw0];simp
 have p1:w0.cell? ⟨w.heap.size,1,none⟩=some (.int .i64 o):=by rw[<- hw0];simp
 have p2:w0.cell? ⟨w.heap.size,2,none⟩=some (.int .i64 (N:Int)):=by rw[<- hw0];simp
 have p3:w0.cell? ⟨w.heap.size,3,none⟩=some (.int .i64 s):=by rw[<- hw0];simp
 have p4:w0.cell? ⟨w.heap.size,4,none⟩=some (.slice A rs.length cr):=by rw[<- hw0];simp
 have p5:w0.cell? ⟨w.heap.size,5,none⟩=some (.slice B m cf):=by rw[<- hw0];simp
 have HS0:=hid (show w.heap.size<w0.heap.size by omega);have HD:=hid (fun W (hb:Below w0.heap.size w0 W)=>show W.cell? ⟨w.heap.size,0,none⟩=some (.int .i64 i)/\W.cell? ⟨w.heap.size,1,none⟩=some (.int .i64 o)/\W.cell? ⟨w.heap.size,2,none⟩=some (.int .i64 (N:Int))/\W.cell? ⟨w.heap.size,3,none⟩=some (.int .i64 s)/\W.cell? ⟨w.heap.size,4,none⟩=some (.slice A rs.length cr)/\W.cell? ⟨w.heap.size,5,none⟩=some (.slice B m cf)from
  ⟨(hb.cell (p:=⟨w.heap.size,0,none⟩) HS0.out).trans p0,(hb.cell (p:=⟨w.heap.size,1,none⟩) HS0.out).trans p1,(hb.cell (p:=⟨w.heap.size,2,none⟩) HS0.out).trans p2,(hb.cell (p:=⟨w.heap.size,3,none⟩) HS0.out).trans p3,(hb.cell (p:=⟨w.heap.size,4,none⟩) HS0.out).trans p4,(hb.cell (p:=⟨w.heap.size,5,none⟩) HS0.out).trans p5⟩)
 have HBW:=hid (fun W (hb:Below w0.heap.size w0 W)=>show Below w.heap.size w W from hb0.trans (hb.mono (Nat.le_of_lt HS0.out)));have HWY:=hid (fun W (hb:Below w0.heap.size w0 W) q nn (hn:nn<=4096)=>show Calls Tryz.prog 21 #[dsc i o (N:Int) s A rs.length cr B m cf,.int .i64 ((q:Nat):Int),.int .i64 (4096-((nn:Nat):Int))] W (Cl (dF rs rk q) (4096-nn) W)from by
  have:=pH i o N s A cr B m cf rs q (4096-nn) rk W (h.ah (HBW.out W hb)) hl hto hr hrb (by omega);rw[show((4096-nn:Nat):Int)=4096-(nn:Int)by omega]at this;exact this)
 obtain⟨T,hT⟩:∃T,vO rs rk (List.range N)=T:=⟨_,rfl⟩;have HMO:=hid (fun k (hk:k<N)=>show vO rs rk (List.range k)+(dF rs rk k).length<=T from by
  have:=pG rs rk N (k+1) hk;rw[List.range_succ,iH,hT]at this;exact this)
 have HTT:=hid hT;rw[hT];obtain⟨R,hR⟩:∃R,rs.length=R:=⟨_,rfl⟩;rw[hR]at hw0 p4 HD HWY ⊢;have e0:(N:Int)<=1024:=by omega
 clear h hto hr hrb hb0 hR hs0 hl hT;go_enter Tryz.func10,Tryz.ntmps10;go_wp2_with (fail);clear p0 p1 p2 p3 p4 p5
 go_loopw [4,5] (fun vn vs wr=>∃(k nn:Nat),k<=N/\vn = .int .i64 (nn:Int)/\vs = .int .i64 (k:Int)/\nn=vO rs rk (List.range k)/\nn<=4096/\Below w0.heap.size w0 wr) (fun _ vs _=>N-(intOf vs).toNat)
 case atStart=>exact⟨0,0,Nat.zero_le _,rfl,rfl,rfl,Nat.zero_le _,Below.refl _ _⟩
 case round=>
  obtain⟨k,nn,hk,rfl,rfl,hnn,hnb,hb⟩:=hrel;have HB:=hid hb;have HNN:=hid hnn;obtain⟨p0,p1,p2,p3,p4,p5⟩:=HD.out wr hb;by_cases hlt:k<N
  case neg=>
   obtain rfl:k=N:=by omega
   have HF:=hid (show EX T w (.returned (.tuple #[.int .i64 (nn:Int),.bool true])) wr from by
    rw[HTT.out]at hnn;subst hnn;exact⟨HBW.out wr hb,.inl ⟨hnb,rfl⟩⟩)
   clear hnn hb;go_wp2_with (fail);go_ret2;exact HF.out
  have HC:=hid (HWY.out wr hb k nn hnb);have hmo:=HMO.out k hlt;rw[<- hnn]at hmo;have t3:(nn:Int)<=4096:=by omega
  clear hnn hb;go_wp2_with (fail);refine HC.out.mono ?_;rintro e w5 ⟨A',c',rfl,_,hb5⟩;have HB5:=hid (show Below w0.heap.size w0 w5 from HB.out.trans (hb5.mono HB.out.size));obtain⟨L,hL⟩:∃L,((dF rs rk k).take (4096-nn+1)).length=L:=⟨_,rfl⟩;have hL2:=hL;rw[List.length_take]at hL2;obtain⟨z,hz⟩:∃z,(dF rs rk k).length=z:=⟨_,rfl⟩;have HZ:=hid hz;rw[hz]at hL2 hmo;rw[hL];clear hb5 p0 p1 p2 p3 p4 p5 hL hz;have hLb:(L:Int)<=4097:=by omega
  by_cases hov:4096<nn+z
  ·have t4:decide ((4096:Int)<(nn:Int)+(L:Int))=true:=decide_eq_true (by omega)
   have HF:=hid (show EX T w (.returned (.tuple #[.int .i64 0,.bool false])) w5 from⟨HBW.out w5 HB5.out,.inr ⟨by omega,rfl⟩⟩);clear hL2 hmo;go_wp2_with (fail);go_ret2;exact HF.out
  ·have t4:decide ((4096:Int)<(nn:Int)+(L:Int))=false:=decide_eq_false (by omega)
   have HL:=hid (show L=z by omega);clear hL2 hmo;go_wp2_with (fail)
   go_roundw
   case rel=>exact⟨k+1,nn+L,hlt,by go_num,by go_num,by rw[List.range_succ,iH,HNN.out,HL.out,HZ.out],by have:=HL.out;omega,HB5.out⟩
   case measure=>simp[intOf];omega
end Go.Proofs.YtbdmcibcenhpnaaGreatDoor.Ep
