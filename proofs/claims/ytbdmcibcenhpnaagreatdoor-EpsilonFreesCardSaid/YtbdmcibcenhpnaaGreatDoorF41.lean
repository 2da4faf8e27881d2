import Derived.Test.YtbdmcibcenhpnaaGreatDoorF0
import Derived.Test.YtbdmcibcenhpnaaGreatDoorF00
import Derived.Test.YtbdmcibcenhpnaaGreatDoorF36
import Derived.Test.YtbdmcibcenhpnaaGreatDoorF40
set_option maxRecDepth 100000
namespace Go.Proofs.YtbdmcibcenhpnaaGreatDoor.Ep
open Go Go.RowKit Sp Pa Te Mi De Tr
def jY (frm:Int) (wr:List TmL) (r:RuL):RuL:=⟨frm,r.to_,r.gs,r.eat,wr++r.out⟩
def mC (frm:Int) (wr:List TmL) (r:FiL):FiL:=⟨frm,r.gs,wr++r.out⟩
def dZ (frm:Int) (wr:List TmL):List RuL->List RuL->Option (List RuL)
 | [],acc=>some acc
 | r::l,acc=>if r.gs.length=0 then dZ frm wr l acc else if acc.length=4096\/64<wr.length+r.out.length then none else dZ frm wr l (acc++[jY frm wr r])
def fI (frm:Int) (wr:List TmL):List FiL->List FiL->Option (List FiL)
 | [],acc=>some acc
 | r::l,acc=>if acc.length=4096\/64<wr.length+r.out.length then none else fI frm wr l (acc++[mC frm wr r])
structure Src (w0 wR wF:World) (x bs gR gF N:Nat) (P:List (RuL×bZ)) (PF:List (FiL×gu)):Prop where
 rows:cI 5 mD 23 43 wR gR (gR+1) N (byL bZ.frm (P.map (·.2)))
 O8:cI 3 sU 24 45 wF gF (gF+1) N (byL gu.frm (PF.map (·.2)))
 rx:x<gR\/wR.heap.size<=x
 fx:x<gF\/wF.heap.size<=x
 rb:wR.heap.size<=bs
 fb:wF.heap.size<=bs
 ir:∀p∈P,jQ w0 p.1 p.2
 ifn:∀p∈PF,rI w0 p.1 p.2
 top:w0.heap.size<=x
 num:N<=1024
 pl:P.length<=4096
 fl:PF.length<=4096
 br:∀p∈P,0<=p.1.to_/\p.1.to_<N/\p.1.gs.length<=4/\(∀g∈p.1.gs,g.length<=64)/\p.1.out.length<=64/\∀t∈p.1.out,t.ps.length<=4
 bf:∀p∈PF,p.1.gs.length<=4/\(∀g∈p.1.gs,g.length<=64)/\p.1.out.length<=64/\∀t∈p.1.out,t.ps.length<=4
 nr:∀p∈P,p.2.TA=none->p.2.tc=0
 nf:∀p∈PF,p.2.TA=none->p.2.tc=0
structure In0 (w0 wR wF:World) (gR gF:Nat) (w:World):Prop where
 b0:Below w0.heap.size w0 w
 r:∀b,gR<=b->b<wR.heap.size->w.heap[b]? = wR.heap[b]?
 f:∀b,gF<=b->b<wF.heap.size->w.heap[b]? = wF.heap[b]?
theorem In0.J6 {w0 wR wF w:World} {gR gF q:Nat} (h:In0 w0 wR wF gR gF w) (hl:gR<wR.heap.size):w.cell? ⟨gR,q,none⟩=wR.cell? ⟨gR,q,none⟩:=by
 simp only[World.cell?,h.r gR (Nat.le_refl _) hl]
theorem In0.Mj {w0 wR wF w:World} {gR gF q:Nat} (h:In0 w0 wR wF gR gF w) (hl:gF<wF.heap.size):w.cell? ⟨gF,q,none⟩=wF.cell? ⟨gF,q,none⟩:=by
 simp only[World.cell?,h.f gF (Nat.le_refl _) hl]
theorem Src.next {w0 wR wF w w':World} {x bs gR gF N:Nat} {P:List (RuL×bZ)} {PF:List (FiL×gu)} (hS:Src w0 wR wF x bs gR gF N P PF) (h:In0 w0 wR wF gR gF w) (hl:Below x w w') (hk:∀b,b<bs->b≠x->w'.heap[b]? = w.heap[b]?):In0 w0 wR wF gR gF w':=
 ⟨h.b0.trans (hl.mono hS.top),fun b h1 h2=>(hk b (by have:=hS.rb;omega) (fun e=>by have:=hS.rx;omega)).trans (h.r b h1 h2),fun b h1 h2=>(hk b (by have:=hS.fb;omega) (fun e=>by have:=hS.fx;omega)).trans (h.f b h1 h2)⟩
def pq (P:List (RuL×bZ)) (q:Nat):List (RuL×bZ):=P.filter fun p=>p.2.frm == q
def pqF (P:List (FiL×gu)) (q:Nat):List (FiL×gu):=P.filter fun p=>p.2.frm == q
theorem Fz (P:List (RuL×bZ)) (q:Nat):byL bZ.frm (P.map (·.2)) q=(pq P q).map (·.2):=by
 unfold byL pq;rw[List.filter_map];rfl
theorem Gx (P:List (FiL×gu)) (q:Nat):byL gu.frm (P.map (·.2)) q=(pqF P q).map (·.2):=by
 unfold byL pqF;rw[List.filter_map];rfl
section
variable {X:Nat->Prop} {bs x B gg bX:Nat} {ru fi:Value} {i o n s:Int} {L:List RuL} {F:List FiL} {v vf v' vf':Value} {w wr ws w9:World} {r:RuL} {f:FiL} {AG AT:Option Addr} {cG cT:Nat} {vs:List Value}
structure FR (X:Nat->Prop) (bs x:Nat) (ru fi:Value) (i o n s:Int) (L:List RuL) (F:List FiL) (v vf v' vf':Value) (w w':World):Prop where
 fs:FS X bs x ru fi i o n s L F v' vf' w'
 kd:tM x v vf w w'
 gr:∀g,v'.ownBlock=some g->v.ownBlock=some g\/w.heap.size<=g
 gf:∀g,vf'.ownBlock=some g->vf.ownBlock=some g\/w.heap.size<=g
 low:Below x w w'
theorem FR.FB {L0:List RuL} {F0:List FiL} {w':World} (h:FR X bs x ru fi i o n s L F v vf v' vf' w w') (h0:FS X bs x ru fi i o n s L0 F0 v vf w) (hbs:bs<=w.heap.size):∀b,b<bs->b≠x->w'.heap[b]? = w.heap[b]?:=fun b hb hx=>
 h.kd.2 b (by omega) hx (fun e=>by obtain⟨vs0,q0,_⟩:=h0.rules;have:=(World.ownsRow.lt q0 b e).1;omega) (fun e=>by obtain⟨vs0,q0,_⟩:=h0.finals;have:=(World.ownsRow.lt q0 b e).1;omega)
theorem FR.start (h:FS X bs x ru fi i o n s L F v vf w):FR X bs x ru fi i o n s L F v vf v vf w w:=
 ⟨h,⟨Nat.le_refl _,fun _ _ _ _ _=>rfl⟩,fun _ e=>.inl e,fun _ e=>.inl e,Below.refl _ _⟩
theorem FR.keep {w' w'':World} (h:FR X bs x ru fi i o n s L F v vf v' vf' w w') (hb:Below w'.heap.size w' w''):FR X bs x ru fi i o n s L F v vf v' vf' w w'':=
 ⟨h.fs.keep hb,⟨Nat.le_trans h.kd.1 hb.size,fun b h1 h2 h3 h4=>(hb.block b (Nat.lt_of_lt_of_le h1 h.kd.1)).trans (h.kd.2 b h1 h2 h3 h4)⟩,h.gr,h.gf,h.low.trans (hb.mono (Nat.le_of_lt h.fs.box.lt))⟩
theorem xT (h:FR X bs x ru fi i o n s L F v vf v' vf' w wr)
  (hbs:bs<=w.heap.size) (hbx:Below wr.heap.size wr ws) (hB:wr.heap.size<=B) (hgt:jH B r.gs r.out AG cG AT cT ws) (htn:AT=none->cT=0) (hvs:ws.ownsRow bs 43 5 v' L.length vs) (hg9:ws.grownBy w9 v'.ownBlock)
  (hown9:w9.ownsRow bs 43 5 (.slice (some ⟨gg,0,none⟩) (L.length+1) bX) (L.length+1) (vs++[.int .i64 r.frm,.int .i64 r.to_,.slice AG r.gs.length cG,.int .i64 r.eat,.slice AT r.out.length cT]))
  (hat:v'.ownBlock=some gg\/gg=ws.heap.size) :
  FR X bs x ru fi i o n s (L++[r]) F v vf (.slice (some ⟨gg,0,none⟩) (L.length+1) bX) vf' w (w9.setCell ⟨x,6,none⟩ (.slice (some ⟨gg,0,none⟩) (L.length+1) bX)):=by
 obtain⟨xP,hkd,hvv,hvf,hbl⟩:=h;have hls:=xP.keep hbx;have hown:∀g,v'.ownBlock=some g->g<wr.heap.size:=fun g e=>by
  obtain⟨vs0,h0,_⟩:=xP.rules;exact(World.ownsRow.lt h0 g e).2
 have G3:∀g,vf'.ownBlock=some g->g<wr.heap.size:=fun g e=>by
  obtain⟨vs0,h0,_⟩:=xP.finals;exact(World.ownsRow.lt h0 g e).2
 have hsz:=hbx.size;have hwr:=hkd.1;have hp:∀b,B<=b->b<ws.heap.size->((bs<=b/\¬ X b)/\vf'.ownBlock≠some b)/\v'.ownBlock≠some b:=fun b hb _=>⟨⟨⟨by omega,fun e=>by have:=xP.xlt b e;omega⟩,fun e=>by have:=G3 b e;omega⟩,fun e=>by have:=hown b e;omega⟩
 have hl:=hls.rule (r:=r) (gc:=cG) (tc:=cT) (G:=AG) (T:=AT) (H:=ws.heap.size) hvs (hgt.g.keep ⟨Nat.le_refl _,fun _ _ _=>rfl⟩ hp) hgt.gl (hgt.t.keep ⟨Nat.le_refl _,fun _ _ _=>rfl⟩ hp) hgt.tl htn hg9 hown9 (by
  rcases hat with e | e
  ·exact .inl (by rw[e];rfl)
  ·exact .inr (by rw[e];rfl)) (Nat.le_refl _)
 refine⟨hl,⟨?_,fun b hb hx h1 h2=>?_⟩,fun g e=>?_,hvf,?_⟩
 ·have:=hg9.size
  simp;omega
 ·rw[heap_setCell_other w9 ⟨x,6,none⟩ b _ hx,hg9.block b (by omega) (fun e=>by rcases hvv b e.symm with q | q;exact h1 q;omega),hbx.block b (by omega)]
  exact hkd.2 b hb hx h1 h2
 ·have e:gg=g:=by simpa[Value.ownBlock]using e
  subst e;rcases hat with q | q
  ·exact hvv _ q
  ·exact .inr (by omega)
 ·have hlow:=xP.low
  have hlt:=xP.box.lt;exact((hbl.trans (hbx.mono (Nat.le_of_lt hlt))).grown hg9 (by omega) (fun q e=>by have:=(World.ownsRow.lt hvs q e).1;omega)).setCell (p:=⟨x,6,none⟩) (Nat.le_refl _) _
theorem sR (h:FR X bs x ru fi i o n s L F v vf v' vf' w wr)
  (hbs:bs<=w.heap.size) (hbx:Below wr.heap.size wr ws) (hB:wr.heap.size<=B) (hgt:jH B f.gs f.out AG cG AT cT ws) (htn:AT=none->cT=0) (hvs:ws.ownsRow bs 45 3 vf' F.length vs) (hg9:ws.grownBy w9 vf'.ownBlock)
  (hown9:w9.ownsRow bs 45 3 (.slice (some ⟨gg,0,none⟩) (F.length+1) bX) (F.length+1) (vs++[.int .i64 f.frm,.slice AG f.gs.length cG,.slice AT f.out.length cT]))
  (hat:vf'.ownBlock=some gg\/gg=ws.heap.size) :
  FR X bs x ru fi i o n s L (F++[f]) v vf v' (.slice (some ⟨gg,0,none⟩) (F.length+1) bX) w (w9.setCell ⟨x,7,none⟩ (.slice (some ⟨gg,0,none⟩) (F.length+1) bX)):=by
 obtain⟨xP,hkd,hvv,hvf,hbl⟩:=h;have hls:=xP.keep hbx;have hown:∀g,v'.ownBlock=some g->g<wr.heap.size:=fun g e=>by
  obtain⟨vs0,h0,_⟩:=xP.rules;exact(World.ownsRow.lt h0 g e).2
 have G3:∀g,vf'.ownBlock=some g->g<wr.heap.size:=fun g e=>by
  obtain⟨vs0,h0,_⟩:=xP.finals;exact(World.ownsRow.lt h0 g e).2
 have hsz:=hbx.size;have hwr:=hkd.1;have hp:∀b,B<=b->b<ws.heap.size->((bs<=b/\¬ X b)/\v'.ownBlock≠some b)/\vf'.ownBlock≠some b:=fun b hb _=>⟨⟨⟨by omega,fun e=>by have:=xP.xlt b e;omega⟩,fun e=>by have:=hown b e;omega⟩,fun e=>by have:=G3 b e;omega⟩
 have hl:=hls.final (r:=f) (gc:=cG) (tc:=cT) (G:=AG) (T:=AT) (H:=ws.heap.size) hvs (hgt.g.keep ⟨Nat.le_refl _,fun _ _ _=>rfl⟩ hp) hgt.gl (hgt.t.keep ⟨Nat.le_refl _,fun _ _ _=>rfl⟩ hp) hgt.tl htn hg9 hown9 (by
  rcases hat with e | e
  ·exact .inl (by rw[e];rfl)
  ·exact .inr (by rw[e];rfl)) (Nat.le_refl _)
 refine⟨hl,⟨?_,fun b hb hx h1 h2=>?_⟩,hvv,fun g e=>?_,?_⟩
 ·have:=hg9.size
  simp;omega
 ·rw[heap_setCell_other w9 ⟨x,7,none⟩ b _ hx,hg9.block b (by omega) (fun e=>by rcases hvf b e.symm with q | q;exact h2 q;omega),hbx.block b (by omega)]
  exact hkd.2 b hb hx h1 h2
 ·have e:gg=g:=by simpa[Value.ownBlock]using e
  subst e;rcases hat with q | q
  ·exact hvf _ q
  ·exact .inr (by omega)
 ·have hlow:=xP.low
  have hlt:=xP.box.lt;exact((hbl.trans (hbx.mono (Nat.le_of_lt hlt))).grown hg9 (by omega) (fun q e=>by have:=(World.ownsRow.lt hvs q e).1;omega)).setCell (p:=⟨x,7,none⟩) (Nat.le_refl _) _
end
end Go.Proofs.YtbdmcibcenhpnaaGreatDoor.Ep
namespace Go.Proofs.YtbdmcibcenhpnaaGreatDoor.Ep
set_option maxHeartbeats 64000000
open Go Go.RowKit Sp Pa Te Mi De Tr
open Go.Lib (hid)
theorem kN.at0 {w:World} {x:Nat} {ru fi:Value} {i o n s:Int} {v vf:Value} (h:kN w x ru fi i o n s v vf):w.cell? ⟨x,0,none⟩=some ru:=by simp[World.cell?,show w.heap[x]? = _ from h]
theorem kN.at1 {w:World} {x:Nat} {ru fi:Value} {i o n s:Int} {v vf:Value} (h:kN w x ru fi i o n s v vf):w.cell? ⟨x,1,none⟩=some fi:=by simp[World.cell?,show w.heap[x]? = _ from h]
theorem ct {w:World} {base:Nat} {e:TypeId} {size:Nat} {v:Value} {n:Nat} {xs:List Value} (h:w.ownsRow base e size v n xs):∃A c,v = .slice A n c:=by
 obtain⟨_,h2⟩:=h;rcases h2 with⟨hv,hn⟩ | ⟨g,cap,cur,hv,_⟩
 ·exact⟨none,0,by rw[hv,hn]⟩
 ·exact⟨_,cap,hv⟩
theorem xB {frm:Int} {ts:List TmL} {l:List RuL} {k:Nat} {acc:List RuL} {r:RuL} (hk:k<l.length) (hr:l[k]=r) (h0:r.gs.length=0):dZ frm ts (l.drop k) acc=dZ frm ts (l.drop (k+1)) acc:=by
 rw[List.drop_eq_getElem_cons hk,hr];simp[dZ,h0]
theorem Au {frm:Int} {ts:List TmL} {l:List RuL} {k:Nat} {acc:List RuL} {r:RuL} (hk:k<l.length) (hr:l[k]=r) (h0:r.gs.length≠0) (hb:acc.length=4096\/64<ts.length+r.out.length):dZ frm ts (l.drop k) acc=none:=by
 rw[List.drop_eq_getElem_cons hk,hr];simp only[dZ];rw[if_neg h0,if_pos hb]
theorem D6 {frm:Int} {ts:List TmL} {l:List RuL} {k:Nat} {acc:List RuL} {r:RuL} (hk:k<l.length) (hr:l[k]=r) (h0:r.gs.length≠0) (hb : ¬ (acc.length=4096\/64<ts.length+r.out.length)):dZ frm ts (l.drop k) acc=dZ frm ts (l.drop (k+1)) (acc++[jY frm ts r]):=by
 conv=>lhs;rw[List.drop_eq_getElem_cons hk,hr]
 simp only[dZ];rw[if_neg h0,if_neg hb]
def Mw (X:Nat->Prop) (bs x:Nat) (ru fi:Value) (i o n s:Int) (res:Option (List RuL)) (F:List FiL) (v vf:Value) (w:World) (e:Ending) (w':World):Prop:=
 (res=none/\e = .returned (.bool false)/\Below x w w')\/(∃L' v',res=some L'/\L'.length<=4096/\e = .returned (.bool true)/\FR X bs x ru fi i o n s L' F v vf v' vf w w')
def E5 (X:Nat->Prop) (bs x:Nat) (ru fi:Value) (i o n s:Int) (frm:Int) (ts:List TmL) (rs:List RuL) (res:Option (List RuL)) (F:List FiL) (v vf:Value) (w:World) (iv:Value) (wr:World):Prop:=
 ∃(k:Nat) (L':List RuL) (v':Value),k<=rs.length/\iv = .int .i64 (k:Int)/\dZ frm ts (rs.drop k) L'=res/\L'.length<=4096/\FR X bs x ru fi i o n s L' F v vf v' vf w wr
theorem D5 (X:Nat->Prop) (bs x gR gF N p q:Nat) (fi:Value) (i o n s:Int) (L:List RuL) (F:List FiL) (v vf:Value) (w0 wR wF w:World) (P:List (RuL×bZ)) (PF:List (FiL×gu)) (AW:Option Addr) (cW:Nat) (ts:List TmL)
  (hS:Src w0 wR wF x bs gR gF N P PF) (hb0:In0 w0 wR wF gR gF w) (hF:FS X bs x (.slice (some ⟨gR,0,none⟩) N N) fi i o n s L F v vf w) (hbs:bs<=w.heap.size) (hq:q<N) (hL:L.length<=4096)
  (hT:RTp (fun b=>b<x\/X b) w AW ts) (hTn:AW=none->cW=0) (hTl:ts.length<=90000) (hTp:∀t∈ts,t.ps.length<=4) (hXb:∀b,X b->bs<=b) :
  Calls Tryz.prog 36 #[.pointer (some ⟨x,0,none⟩),.int .i64 (p:Int),.int .i64 (q:Int),.slice AW ts.length cW] w (Mw X bs x (.slice (some ⟨gR,0,none⟩) N N) fi i o n s (dZ (p:Int) ts ((pq P q).map (·.1)) L) F v vf w):=by
 have jC:=hS.top;obtain⟨Aq,cq,pE,_,hgl,hown⟩:=hS.rows.at_ hq;rw[Fz]at pE hown;obtain⟨m,hm⟩:∃m,(pq P q).length=m:=⟨_,rfl⟩;have hmb:m<=4096:=by
  have h1:=List.length_filter_le (fun z:RuL×bZ=>z.2.frm == q) P;have h2:=hS.pl;unfold pq at hm;omega
 rw[List.length_map,hm]at pE hown;have hcq:w.cell? ⟨gR,q,none⟩=some (.slice Aq m cq):=(hb0.J6 hgl).trans pE;have hx0:=hF.box.at0;obtain⟨res,hres⟩:∃res,dZ (p:Int) ts ((pq P q).map (·.1)) L=res:=⟨_,rfl⟩;obtain⟨nW,hnW⟩:∃nW,ts.length=nW:=⟨_,rfl⟩;have HST:=hid (show E5 X bs x (.slice (some ⟨gR,0,none⟩) N N) fi i o n s (p:Int) ts ((pq P q).map (·.1)) res F v vf w (.int .i64 0) w from⟨0,L,v,Nat.zero_le _,rfl,by rw[List.drop_zero];exact hres,hL,FR.start hF⟩);have HS:=hid hS;have HB0:=hid hb0;have HT:=hid hT;have HTN:=hid hTn;have HTP:=hid hTp;have HM:=hid hm;have HNW:=hid hnW;have jS:=hid hown;have HFS:=hid hF;have II:=hid hbs;have Pr:=hid jC;have HXB:=hid hXb;have i1:(0:Int)<=(q:Int):=Int.natCast_nonneg _;have i2:(q:Int)<(N:Int):=by omega
 rw[hres];rw[hnW]at hTl ⊢;clear hXb hS hb0 hF hbs hL hT hTn hTp hm hown hres hnW hgl pE jC;go_enter Tryz.func36,Tryz.ntmps36;go_wp2_with (fail);clear hcq hx0
 go_loopw [19] (fun iv wr=>E5 X bs x (.slice (some ⟨gR,0,none⟩) N N) fi i o n s (p:Int) ts ((pq P q).map (·.1)) res F v vf w iv wr) (fun iv _=>m-(intOf iv).toNat)
 case atStart=>exact HST.out
 case round=>
  obtain⟨k,L',v',hk,rfl,hres,hL',hfr⟩:=hrel;rw[List.length_map,HM.out]at hk;have HFR:=hid hfr;have yK:=hid hres;by_cases hlt:k<m
  case neg=>
   obtain rfl:k=m:=by omega
   have HFI:=hid (show Mw X bs x (.slice (some ⟨gR,0,none⟩) N N) fi i o n s res F v vf w (.returned (.bool true)) wr from by
    rw[List.drop_eq_nil_of_le (by rw[List.length_map,HM.out];exact Nat.le_refl _)]at hres;exact .inr ⟨L',v',hres.symm,hL',rfl,hfr⟩)
   clear hfr hres;go_wp2_with (fail);go_ret;exact HFI.out
  have hkl:k<(pq P q).length:=by rw[HM.out];exact hlt
  have hkm:k<((pq P q).map (·.1)).length:=by rw[List.length_map];exact hkl
  have uV:In0 w0 wR wF gR gF wr:=HS.out.next HB0.out hfr.low (hfr.FB HFS.out II.out);have lV:=au jS.out (fun z e=>uV.r z (by have:=(World.ownsRow.lt jS.out z e).1;omega) (World.ownsRow.lt jS.out z e).2);obtain⟨g,cap,hA,_⟩:=World.ownsRow.form lV (by omega);injection hA with hA1 _ hA2;subst hA1 hA2;obtain⟨pr,hpr⟩:∃pr,(pq P q)[k]=pr:=⟨_,rfl⟩;have hmem:pr∈P:=(List.mem_filter.1 (show pr∈pq P q by rw[<- hpr];exact List.getElem_mem hkl)).1;have hir:=HS.out.ir pr hmem;obtain⟨b0,b1,b2,b3,b4,b5⟩:=HS.out.br pr hmem;have hnr:=HS.out.nr pr hmem;have hcell:∀j,j<5->wr.cell? ⟨g,k*5+j,none⟩=(mD pr.2)[j]?:=fun j hj=>by
   rw[World.ownsRow.cellAt lV (k*5+j) (by omega),cZ kI ((pq P q).map (·.2)) k j (by rw[List.length_map];exact hkl) hj,List.getElem_map,hpr]
  have hrk:((pq P q).map (·.1))[k]'hkm=pr.1:=by rw[List.getElem_map,hpr]
  obtain⟨r,a9,t,GA,gn,gc,ea,TA,tn,tc⟩:=pr;obtain⟨ie0,ie1,ie2,ie3,ie4,ig,ig2,io,io2⟩:=hir;simp only at hrk ie1 ie2 ie3 ie4 ig io b0 b1 b2 b3 b4 b5 hnr;have d0:wr.cell? ⟨g,k*5,none⟩=some (.int .i64 (a9:Int)):=hcell 0 (by omega);have d1:wr.cell? ⟨g,k*5+1,none⟩=some (.int .i64 t):=hcell 1 (by omega);have d2:wr.cell? ⟨g,k*5+2,none⟩=some (.slice GA gn gc):=hcell 2 (by omega);have d3:wr.cell? ⟨g,k*5+3,none⟩=some (.int .i64 ea):=hcell 3 (by omega);have d4:wr.cell? ⟨g,k*5+4,none⟩=some (.slice TA tn tc):=hcell 4 (by omega);obtain⟨tt,htt⟩:∃tt:Nat,t=(tt:Int):=⟨t.toNat,by omega⟩;subst htt;rw[<- ie3]at ig;rw[<- ie4]at io;have HTO:=hid (show r.to_=(tt:Int)/\r.eat=ea from⟨ie1.symm,ie2.symm⟩);obtain⟨nO,hnO⟩:∃nO,(ts++r.out).length=nO:=⟨_,rfl⟩;have HNN:=hid (show r.gs.length=gn/\(ts++r.out).length=nO from⟨ie3.symm,hnO⟩);have HOL:=hid ie4;have HIG:=hid ig;have HIO:=hid io;have HRK:=hid hrk;have HKM:=hid hkm;have MU:=hid (fun W (h:RGs W GA gn r.gs)=>show Calls Tryz.prog 50 #[.slice GA gn gc] W (jk r.gs W)from by
   have:=nP GA gc r.gs W (by rw[<- ie3];exact h) (by omega) (fun g hg=>by have:=b3 g hg;omega);rw[<- ie3]at this;exact this)
  have MG:=hid (fun W gg (h1:RTm W AW nW ts) (h2:RTm W TA tn r.out) (hc0:W.cell? ⟨gg,0,none⟩=some (.slice AW nW cW)) (hc1:W.cell? ⟨gg,1,none⟩=some (.slice TA tn tc)) (hlt:gg<W.heap.size)=>show Calls Tryz.prog 51 #[.slice (some ⟨gg,0,none⟩) 2 2] W (jg (ts++r.out) W)from
   pJ gg 2 cW tc AW TA ts r.out W (by rw[HNW.out];exact hc0) (by rw[<- ie4];exact hc1) hlt (by rw[HNW.out];exact h1) (by rw[<- ie4];exact h2) (by rw[HNW.out];omega) (fun t ht=>by
    rcases List.mem_append.1 ht with z | z
    ·have:=HTP.out t z;omega
    ·have:=b5 t z;omega) HTN.out hnr)
  obtain⟨vs6,ho6,_⟩:=hfr.fs.rules;obtain⟨A6,c6,hv6⟩:=ct ho6;obtain⟨nL,hnL⟩:∃nL,L'.length=nL:=⟨_,rfl⟩;have HNL:=hid hnL;rw[hnL]at hL' hv6;subst hv6;obtain⟨wb0,Nu⟩:∃wb0,wr.alloc (.cells #[.int .i64 (a9:Int),.int .i64 (tt:Int),.slice GA gn gc,.int .i64 ea,.slice TA tn tc] 43)=wb0:=⟨_,rfl⟩;have hbb0:Below wr.heap.size wr wb0:=by rw[<- Nu];exact(Below.refl _ _).alloc (Nat.le_refl _) _
  have xM:Blk wb0 wr.heap.size 43 #[.int .i64 (a9:Int),.int .i64 (tt:Int),.slice GA gn gc,.int .i64 ea,.slice TA tn tc]:=by rw[<- Nu];exact heap_alloc_new wr _
  have e0:=xM.cell 0;have e1:=xM.cell 1;have e2:=xM.cell 2;have e3:=xM.cell 3;have e4:=xM.cell 4;simp only[sD,sE,sF]at e0 e1 e2 e3 e4;have HQ7:=hid xM;have HB7:=hid hbb0;have j1:(0:Int)<=(k:Int):=Int.natCast_nonneg _;have j2:(k:Int)<(m:Int):=by omega
  have CF:=hid uV;have OU:gn<=4:=by omega
  have Nx:tn<=64:=by omega
  clear hfr hres lV hcell xM hbb0 hpr hmem hrk uV ig io ho6 hnL hnO b0 b1 b2 b3 b5 hnr b4 ie0 ie1 ie2 ie3 ie4 ig2 io2;go_wp2_with (fail);refine(kH a9 (tt:Int) GA gn gc ea TA tn tc wb0).mono ?_;rintro e wb ⟨rfl,hbe⟩;have HBR:=hid (show Below wr.heap.size wr wb from HB7.out.trans (hbe.mono HB7.out.size));have HQ:=hid (HQ7.out.below hbe HQ7.out.lt);have HRB:=hid HQ.out.lt;have HSZ:=hid (Nat.le_of_lt HQ.out.lt);have Jg:=hid (HFR.out.keep HBR.out);clear hbe e0 e1 e2 e3 e4 d0 d1 d2 d3 d4;by_cases hg0:gn=0
  ·have HF:=hid (show E5 X bs x (.slice (some ⟨gR,0,none⟩) N N) fi i o n s (p:Int) ts ((pq P q).map (·.1)) res F v vf w (.int .i64 ((k:Int)+1)) wb from⟨k+1,L',.slice A6 nL c6,HKM.out,by go_num,by rw[<- yK.out,xB HKM.out HRK.out (by rw[HNN.out.1];exact hg0)],by rw[HNL.out];exact hL',Jg.out⟩)
   have hge:(gn == 0)=true:=by simp[hg0]
   rw[hge];clear hge;go_wp2_with (fail)
   go_roundw
   case rel=>exact HF.out
   case measure=>simp[intOf];omega
  have hge:(gn == 0)=false:=beq_eq_false_iff_ne.2 hg0;rw[hge];have HG0:=hid (show r.gs.length≠0 by rw[HNN.out.1];exact hg0);have cx6:=Jg.out.fs.box.at6;have f4:=HQ.out.cell 4;simp only[sD,sE,sF]at f4;clear hge hg0;by_cases oN:nL=4096\/64<nW+tn
  ·have HF:=hid (show Mw X bs x (.slice (some ⟨gR,0,none⟩) N N) fi i o n s res F v vf w (.returned (.bool false)) wb from .inl ⟨by rw[<- yK.out,Au HKM.out HRK.out HG0.out (by rw[HNL.out,HNW.out,<- HOL.out];exact oN)],rfl,Jg.out.low⟩)
   by_cases h1:nL=4096
   ·subst h1
    go_wp2_with (fail);go_ret;exact HF.out
   ·have t1:((nL:Int) == 4096)=false:=beq_eq_false_iff_ne.2 (by omega)
    have t2:decide ((64:Int)<(nW:Int)+(tn:Int))=true:=decide_eq_true (by omega);have t3:(nW:Int)+(tn:Int)<=200000:=by omega
    clear oN;go_wp2_with (fail);go_ret;exact HF.out
  have h1 : ¬ nL=4096:=fun e=>oN (.inl e)
  have h2:nW+tn<=64:=by
   by_cases z:64<nW+tn
   ·exact absurd (.inr z) oN
   ·omega
  have t1:((nL:Int) == 4096)=false:=beq_eq_false_iff_ne.2 (by omega);have t2:decide ((64:Int)<(nW:Int)+(tn:Int))=false:=decide_eq_false (by omega);have t3:(nW:Int)+(tn:Int)<=200000:=by omega
  have HGO:=hid (fun vz wz (h:FR X bs x (.slice (some ⟨gR,0,none⟩) N N) fi i o n s (L'++[jY (p:Int) ts r]) F v vf vz vf w wz)=>show E5 X bs x (.slice (some ⟨gR,0,none⟩) N N) fi i o n s (p:Int) ts ((pq P q).map (·.1)) res F v vf w (.int .i64 ((k:Int)+1)) wz from⟨k+1,_,vz,HKM.out,by go_num,by rw[<- yK.out,D6 HKM.out HRK.out HG0.out (by rw[HNL.out,HNW.out,<- HOL.out];exact oN)],by rw[List.length_append,List.length_singleton,HNL.out];omega,h⟩);have HTW:=hid (show RTm wr AW nW ts from by
   have hlow:=HFS.out.low;have hown1:∀g,v.ownBlock=some g->bs<=g:=fun g e=>by
    obtain⟨vs0,h0,_⟩:=HFS.out.rules;exact(World.ownsRow.lt h0 g e).1
   have hown2:∀g,vf.ownBlock=some g->bs<=g:=fun g e=>by
    obtain⟨vs0,h0,_⟩:=HFS.out.finals;exact(World.ownsRow.lt h0 g e).1
   have h:=(HT.out.keep (w':=wr) ⟨HFR.out.kd.1,fun b hb hl=>HFR.out.kd.2 b hl (fun e=>by
    rcases hb with z | z
    ·omega
    ·have:=HXB.out b z;omega) (fun e=>by
    rcases hb with z | z
    ·have:=hown1 b e;omega
    ·exact HFS.out.vx b e z) (fun e=>by
    rcases hb with z | z
    ·have:=hown2 b e;omega
    ·exact HFS.out.vfx b e z)⟩ (fun b hb _=>hb)).reads
   rw[HNW.out]at h;exact h)
  have HW0:=hid (show w0.heap.size<=wr.heap.size from CF.out.b0.size);have HGU:=hid (fun W (hb:Below wb.heap.size wb W)=>MU.out W (HIG.out.ah (CF.out.b0.trans ((HBR.out.trans (hb.mono HSZ.out)).mono HW0.out))));have HTE:=hid (fun W (hb:Below wb.heap.size wb W) gg hc0 hc1 hlt=>MG.out W gg (HTW.out.ah (HBR.out.trans (hb.mono HSZ.out))) (HIO.out.ah (CF.out.b0.trans ((HBR.out.trans (hb.mono HSZ.out)).mono HW0.out))) hc0 hc1 hlt);have KA:=hid (show bs<=wr.heap.size by have:=II.out;have:=HFR.out.kd.1;omega);have HXR:=hid (show x<wr.heap.size from HFR.out.fs.box.lt);obtain⟨i0,hi0,hz0,hz1,hz2⟩:=info_parts uP;clear oN;go_upto_region 7 with(fail);clear cx6 f4 t1 t2
  go_cut [] (fun wx=>∃AG cG AT cT,Blk wx wr.heap.size 43 #[.int .i64 (p:Int),.int .i64 (tt:Int),.slice AG gn cG,.int .i64 ea,.slice AT nO cT]/\jH wb.heap.size r.gs (ts++r.out) AG cG AT cT wx/\Below wr.heap.size wr wx/\(AT=none->cT=0))
  case first=>
    have hBr:Below wr.heap.size wr wb.drew:=HBR.out.drew;have hBn:Below wb.heap.size wb wb.drew:=(Below.refl _ _).drew;obtain⟨wd,hwd⟩:∃wd,wb.drew=wd:=⟨_,rfl⟩;refine wp_region_held_drew (S:=fun W=>Below wr.heap.size wr W) (by kernel_rfl) hBr (fun hHeld=>?_);rw[hwd]at hBr hBn hHeld ⊢;refine tk 0 ⟨some 41,.move (.tmp 1),_,_,_,none⟩ ?_ rfl ?_ ?_;rotate_left
    ·intro w' hSw
     (try dsimp only at hSw)
     go_simp;all_goals with_reducible rfl
    try simp only[Act.put,sA,sB,sC]
    refine tk 1 ⟨some 42,.fieldAddr 43 (.tmp 10) 2,_,_,_,none⟩ ?_ rfl ?_ ?_;rotate_left
    ·intro w' hSw
     (try dsimp only at hSw)
     go_simp;all_goals with_reducible rfl
    try simp only[Act.put,sA,sB,sC]
    refine tk 4 ⟨some 45,.move (.tmp 3),_,_,_,none⟩ ?_ rfl ?_ ?_;rotate_left
    ·intro w' hSw
     (try dsimp only at hSw)
     go_simp;all_goals with_reducible rfl
    try simp only[Act.put,sA,sB,sC]
    refine tk 5 ⟨some 46,.fieldAddr 43 (.tmp 10) 4,_,_,_,none⟩ ?_ rfl ?_ ?_;rotate_left
    ·intro w' hSw
     (try dsimp only at hSw)
     go_simp;all_goals with_reducible rfl
    try simp only[Act.put,sA,sB,sC]
    refine wpAnyH_ready (rs:=[2,6]) (by kernel_rfl) (by simp) ?_;refine(AllReadyH.cons (o:=⟨some 43,.load 40 (.tmp 42),_,_,_,none⟩) rfl (fun K hK=>?_) (AllReadyH.cons (o:=⟨some 47,.load 41 (.tmp 46),_,_,_,none⟩) rfl (fun K hK=>?_) AllReadyH.nil))
    focus
     have hcl:wd.cell? ⟨wr.heap.size,2,none⟩=some (.slice GA gn gc):=(HQ.out.below hBn HRB.out).cell 2;go_simp;clear hcl;refine hK.out _ _ ?_ (fun hHeld=>?_)
     ·exact hBr
     clear hK K;try simp only[Act.put,sA,sB,sC]
     refine wpAnyH_ready (rs:=[3,6]) (by kernel_rfl) (by simp) ?_;refine(AllReadyH.cons (o:=⟨some 44,.call { callee:=.value (.func 50),args:=#[.tmp 43],argTypes:=#[40] },_,_,_,none⟩) rfl (fun K hK=>?_) (AllReadyH.cons (o:=⟨some 47,.load 41 (.tmp 46),_,_,_,none⟩) rfl (fun K hK=>?_) AllReadyH.nil))
     focus
      go_simp;go_wp2_with (go_at_call 50;(with_reducible refine(HGU.out _ hBn).mono ?_);rintro eg wg ⟨vG,rfl,hrG,hbG⟩);have lU:=hBn.size;have hBr:=aD hBr hbG (Nat.le_trans HSZ.out hBn.size);have hBn:=aD hBn hbG hBn.size;obtain⟨AG,cG,hvG,hgp,hgl,_⟩:=eC.far hrG;have hgp:=aC hgp (Below.refl _ _) lU;rw[HNN.out.1]at hvG hgl;subst hvG;refine hK.out _ _ ?_ (fun hHeld=>?_)
      ·exact hBr
      clear hK K;try simp only[Act.put,sA,sB,sC]
      refine wpAnyH_ready (rs:=[6]) (by kernel_rfl) (by simp) ?_;refine(AllReadyH.cons (o:=⟨some 47,.load 41 (.tmp 46),_,_,_,none⟩) rfl (fun K hK=>?_) AllReadyH.nil);have hcl:wg.cell? ⟨wr.heap.size,4,none⟩=some (.slice TA tn tc):=(HQ.out.below hBn HRB.out).cell 4;go_simp;clear hcl;refine hK.out _ _ ?_ (fun hHeld=>?_)
      ·exact hBr
      clear hK K;try simp only[Act.put,sA,sB,sC]
      refine tk 9 ⟨some 50,.fieldAddr 43 (.tmp 10) 0,_,_,_,none⟩ ?_ rfl ?_ ?_;rotate_left
      ·intro w' hSw
       (try dsimp only at hSw)
       go_simp;all_goals with_reducible rfl
      try simp only[Act.put,sA,sB,sC]
      refine wpAnyH_ready (rs:=[7]) (by kernel_rfl) (by simp) ?_;refine(AllReadyH.cons (o:=⟨some 48,.buildSlice 103 2 #[(0,.tmp 45),(1,.tmp 47)],_,_,_,none⟩) rfl (fun K hK=>?_) AllReadyH.nil);obtain⟨ws,hws,hqs,hls,hbS⟩:=ay wg #[.slice AW nW cW,.slice TA tn tc] 41;go_simp;try rw[hws]
      have hBr:=aD hBr hbS (Nat.le_trans HSZ.out hBn.size);have hBn:=aD hBn hbS hBn.size;have hgp:=aC hgp hbS (Nat.le_refl _);refine hK.out _ _ ?_ (fun hHeld=>?_)
      ·exact hBr
      clear hK K;try simp only[Act.put,sA,sB,sC]
      refine wpAnyH_ready (rs:=[8]) (by kernel_rfl) (by simp) ?_;refine(AllReadyH.cons (o:=⟨some 49,.call { callee:=.value (.func 51),args:=#[.tmp 48],argTypes:=#[103] },_,_,_,none⟩) rfl (fun K hK=>?_) AllReadyH.nil);go_simp;go_wp2_with (go_at_call 51;(with_reducible refine(HTE.out _ hBn _ (hqs.cell 0) (hqs.cell 1) hls).mono ?_);rintro et wt ⟨vT,rfl,hrT,hbT⟩);have lT:=hBn.size;have hBr:=aD hBr hbT (Nat.le_trans HSZ.out hBn.size);have hBn:=aD hBn hbT hBn.size;obtain⟨AT,cT,hvT,htp,htl,htn⟩:=tK.far hrT;have yA:=hid htn;clear htn;have htp:=bV htp (Below.refl _ _) lT;have hgp:=aC hgp hbT (Nat.le_refl _);rw[HNN.out.2]at hvT htl;subst hvT;refine hK.out _ _ ?_ (fun hHeld=>?_)
      ·exact hBr
      clear hK K;try simp only[Act.put,sA,sB,sC]
      obtain⟨wl,rfl⟩:∃wl:World,wl=wt:=⟨_,rfl⟩
     rotate_left 1
     focus
      have hcl:wd.cell? ⟨wr.heap.size,4,none⟩=some (.slice TA tn tc):=(HQ.out.below hBn HRB.out).cell 4;go_simp;clear hcl;refine hK.out _ _ ?_ (fun hHeld=>?_)
      ·exact hBr
      clear hK K;try simp only[Act.put,sA,sB,sC]
      refine tk 9 ⟨some 50,.fieldAddr 43 (.tmp 10) 0,_,_,_,none⟩ ?_ rfl ?_ ?_;rotate_left
      ·intro w' hSw
       (try dsimp only at hSw)
       go_simp;all_goals with_reducible rfl
      try simp only[Act.put,sA,sB,sC]
      refine wpAnyH_ready (rs:=[3,7]) (by kernel_rfl) (by simp) ?_;refine(AllReadyH.cons (o:=⟨some 44,.call { callee:=.value (.func 50),args:=#[.tmp 43],argTypes:=#[40] },_,_,_,none⟩) rfl (fun K hK=>?_) (AllReadyH.cons (o:=⟨some 48,.buildSlice 103 2 #[(0,.tmp 45),(1,.tmp 47)],_,_,_,none⟩) rfl (fun K hK=>?_) AllReadyH.nil))
      focus
       go_simp;go_wp2_with (go_at_call 50;(with_reducible refine(HGU.out _ hBn).mono ?_);rintro eg wg ⟨vG,rfl,hrG,hbG⟩);have lU:=hBn.size;have hBr:=aD hBr hbG (Nat.le_trans HSZ.out hBn.size);have hBn:=aD hBn hbG hBn.size;obtain⟨AG,cG,hvG,hgp,hgl,_⟩:=eC.far hrG;have hgp:=aC hgp (Below.refl _ _) lU;rw[HNN.out.1]at hvG hgl;subst hvG;refine hK.out _ _ ?_ (fun hHeld=>?_)
       ·exact hBr
       clear hK K;try simp only[Act.put,sA,sB,sC]
       refine wpAnyH_ready (rs:=[7]) (by kernel_rfl) (by simp) ?_;refine(AllReadyH.cons (o:=⟨some 48,.buildSlice 103 2 #[(0,.tmp 45),(1,.tmp 47)],_,_,_,none⟩) rfl (fun K hK=>?_) AllReadyH.nil);obtain⟨ws,hws,hqs,hls,hbS⟩:=ay wg #[.slice AW nW cW,.slice TA tn tc] 41;go_simp;try rw[hws]
       have hBr:=aD hBr hbS (Nat.le_trans HSZ.out hBn.size);have hBn:=aD hBn hbS hBn.size;have hgp:=aC hgp hbS (Nat.le_refl _);refine hK.out _ _ ?_ (fun hHeld=>?_)
       ·exact hBr
       clear hK K;try simp only[Act.put,sA,sB,sC]
       refine wpAnyH_ready (rs:=[8]) (by kernel_rfl) (by simp) ?_;refine(AllReadyH.cons (o:=⟨some 49,.call { callee:=.value (.func 51),args:=#[.tmp 48],argTypes:=#[103] },_,_,_,none⟩) rfl (fun K hK=>?_) AllReadyH.nil);go_simp;go_wp2_with (go_at_call 51;(with_reducible refine(HTE.out _ hBn _ (hqs.cell 0) (hqs.cell 1) hls).mono ?_);rintro et wt ⟨vT,rfl,hrT,hbT⟩);have lT:=hBn.size;have hBr:=aD hBr hbT (Nat.le_trans HSZ.out hBn.size);have hBn:=aD hBn hbT hBn.size;obtain⟨AT,cT,hvT,htp,htl,htn⟩:=tK.far hrT;have yA:=hid htn;clear htn;have htp:=bV htp (Below.refl _ _) lT;have hgp:=aC hgp hbT (Nat.le_refl _);rw[HNN.out.2]at hvT htl;subst hvT;refine hK.out _ _ ?_ (fun hHeld=>?_)
       ·exact hBr
       clear hK K;try simp only[Act.put,sA,sB,sC]
       obtain⟨wl,rfl⟩:∃wl:World,wl=wt:=⟨_,rfl⟩
      rotate_left 1
      focus
       obtain⟨ws,hws,hqs,hls,hbS⟩:=ay wd #[.slice AW nW cW,.slice TA tn tc] 41;go_simp;try rw[hws]
       have hBr:=aD hBr hbS (Nat.le_trans HSZ.out hBn.size);have hBn:=aD hBn hbS hBn.size;refine hK.out _ _ ?_ (fun hHeld=>?_)
       ·exact hBr
       clear hK K;try simp only[Act.put,sA,sB,sC]
       refine wpAnyH_ready (rs:=[3]) (by kernel_rfl) (by simp) ?_;refine(AllReadyH.cons (o:=⟨some 44,.call { callee:=.value (.func 50),args:=#[.tmp 43],argTypes:=#[40] },_,_,_,none⟩) rfl (fun K hK=>?_) AllReadyH.nil);go_simp;go_wp2_with (go_at_call 50;(with_reducible refine(HGU.out _ hBn).mono ?_);rintro eg wg ⟨vG,rfl,hrG,hbG⟩);have lU:=hBn.size;have hBr:=aD hBr hbG (Nat.le_trans HSZ.out hBn.size);have hBn:=aD hBn hbG hBn.size;obtain⟨AG,cG,hvG,hgp,hgl,_⟩:=eC.far hrG;have hgp:=aC hgp (Below.refl _ _) lU;rw[HNN.out.1]at hvG hgl;subst hvG;have hqs:=hqs.below hbG hls;have hls:=Nat.lt_of_lt_of_le hls hbG.size;refine hK.out _ _ ?_ (fun hHeld=>?_)
       ·exact hBr
       clear hK K;try simp only[Act.put,sA,sB,sC]
       refine wpAnyH_ready (rs:=[8]) (by kernel_rfl) (by simp) ?_;refine(AllReadyH.cons (o:=⟨some 49,.call { callee:=.value (.func 51),args:=#[.tmp 48],argTypes:=#[103] },_,_,_,none⟩) rfl (fun K hK=>?_) AllReadyH.nil);go_simp;go_wp2_with (go_at_call 51;(with_reducible refine(HTE.out _ hBn _ (hqs.cell 0) (hqs.cell 1) hls).mono ?_);rintro et wt ⟨vT,rfl,hrT,hbT⟩);have lT:=hBn.size;have hBr:=aD hBr hbT (Nat.le_trans HSZ.out hBn.size);have hBn:=aD hBn hbT hBn.size;obtain⟨AT,cT,hvT,htp,htl,htn⟩:=tK.far hrT;have yA:=hid htn;clear htn;have htp:=bV htp (Below.refl _ _) lT;have hgp:=aC hgp hbT (Nat.le_refl _);rw[HNN.out.2]at hvT htl;subst hvT;refine hK.out _ _ ?_ (fun hHeld=>?_)
       ·exact hBr
       clear hK K;try simp only[Act.put,sA,sB,sC]
       obtain⟨wl,rfl⟩:∃wl:World,wl=wt:=⟨_,rfl⟩
    rotate_left 3
    focus
     have hcl:wd.cell? ⟨wr.heap.size,4,none⟩=some (.slice TA tn tc):=(HQ.out.below hBn HRB.out).cell 4;go_simp;clear hcl;refine hK.out _ _ ?_ (fun hHeld=>?_)
     ·exact hBr
     clear hK K;try simp only[Act.put,sA,sB,sC]
     refine wpAnyH_ready (rs:=[2,7]) (by kernel_rfl) (by simp) ?_;refine(AllReadyH.cons (o:=⟨some 43,.load 40 (.tmp 42),_,_,_,none⟩) rfl (fun K hK=>?_) (AllReadyH.cons (o:=⟨some 48,.buildSlice 103 2 #[(0,.tmp 45),(1,.tmp 47)],_,_,_,none⟩) rfl (fun K hK=>?_) AllReadyH.nil))
     focus
      have hcl:wd.cell? ⟨wr.heap.size,2,none⟩=some (.slice GA gn gc):=(HQ.out.below hBn HRB.out).cell 2;go_simp;clear hcl;refine hK.out _ _ ?_ (fun hHeld=>?_)
      ·exact hBr
      clear hK K;try simp only[Act.put,sA,sB,sC]
      refine tk 9 ⟨some 50,.fieldAddr 43 (.tmp 10) 0,_,_,_,none⟩ ?_ rfl ?_ ?_;rotate_left
      ·intro w' hSw
       (try dsimp only at hSw)
       go_simp;all_goals with_reducible rfl
      try simp only[Act.put,sA,sB,sC]
      refine wpAnyH_ready (rs:=[3,7]) (by kernel_rfl) (by simp) ?_;refine(AllReadyH.cons (o:=⟨some 44,.call { callee:=.value (.func 50),args:=#[.tmp 43],argTypes:=#[40] },_,_,_,none⟩) rfl (fun K hK=>?_) (AllReadyH.cons (o:=⟨some 48,.buildSlice 103 2 #[(0,.tmp 45),(1,.tmp 47)],_,_,_,none⟩) rfl (fun K hK=>?_) AllReadyH.nil))
      focus
       go_simp;go_wp2_with (go_at_call 50;(with_reducible refine(HGU.out _ hBn).mono ?_);rintro eg wg ⟨vG,rfl,hrG,hbG⟩);have lU:=hBn.size;have hBr:=aD hBr hbG (Nat.le_trans HSZ.out hBn.size);have hBn:=aD hBn hbG hBn.size;obtain⟨AG,cG,hvG,hgp,hgl,_⟩:=eC.far hrG;have hgp:=aC hgp (Below.refl _ _) lU;rw[HNN.out.1]at hvG hgl;subst hvG;refine hK.out _ _ ?_ (fun hHeld=>?_)
       ·exact hBr
       clear hK K;try simp only[Act.put,sA,sB,sC]
       refine wpAnyH_ready (rs:=[7]) (by kernel_rfl) (by simp) ?_;refine(AllReadyH.cons (o:=⟨some 48,.buildSlice 103 2 #[(0,.tmp 45),(1,.tmp 47)],_,_,_,none⟩) rfl (fun K hK=>?_) AllReadyH.nil);obtain⟨ws,hws,hqs,hls,hbS⟩:=ay wg #[.slice AW nW cW,.slice TA tn tc] 41;go_simp;try rw[hws]
       have hBr:=aD hBr hbS (Nat.le_trans HSZ.out hBn.size);have hBn:=aD hBn hbS hBn.size;have hgp:=aC hgp hbS (Nat.le_refl _);refine hK.out _ _ ?_ (fun hHeld=>?_)
       ·exact hBr
       clear hK K;try simp only[Act.put,sA,sB,sC]
       refine wpAnyH_ready (rs:=[8]) (by kernel_rfl) (by simp) ?_;refine(AllReadyH.cons (o:=⟨some 49,.call { callee:=.value (.func 51),args:=#[.tmp 48],argTypes:=#[103] },_,_,_,none⟩) rfl (fun K hK=>?_) AllReadyH.nil);go_simp;go_wp2_with (go_at_call 51;(with_reducible refine(HTE.out _ hBn _ (hqs.cell 0) (hqs.cell 1) hls).mono ?_);rintro et wt ⟨vT,rfl,hrT,hbT⟩);have lT:=hBn.size;have hBr:=aD hBr hbT (Nat.le_trans HSZ.out hBn.size);have hBn:=aD hBn hbT hBn.size;obtain⟨AT,cT,hvT,htp,htl,htn⟩:=tK.far hrT;have yA:=hid htn;clear htn;have htp:=bV htp (Below.refl _ _) lT;have hgp:=aC hgp hbT (Nat.le_refl _);rw[HNN.out.2]at hvT htl;subst hvT;refine hK.out _ _ ?_ (fun hHeld=>?_)
       ·exact hBr
       clear hK K;try simp only[Act.put,sA,sB,sC]
       obtain⟨wl,rfl⟩:∃wl:World,wl=wt:=⟨_,rfl⟩
      rotate_left 1
      focus
       obtain⟨ws,hws,hqs,hls,hbS⟩:=ay wd #[.slice AW nW cW,.slice TA tn tc] 41;go_simp;try rw[hws]
       have hBr:=aD hBr hbS (Nat.le_trans HSZ.out hBn.size);have hBn:=aD hBn hbS hBn.size;refine hK.out _ _ ?_ (fun hHeld=>?_)
       ·exact hBr
       clear hK K;try simp only[Act.put,sA,sB,sC]
       refine wpAnyH_ready (rs:=[3]) (by kernel_rfl) (by simp) ?_;refine(AllReadyH.cons (o:=⟨some 44,.call { callee:=.value (.func 50),args:=#[.tmp 43],argTypes:=#[40] },_,_,_,none⟩) rfl (fun K hK=>?_) AllReadyH.nil);go_simp;go_wp2_with (go_at_call 50;(with_reducible refine(HGU.out _ hBn).mono ?_);rintro eg wg ⟨vG,rfl,hrG,hbG⟩);have lU:=hBn.size;have hBr:=aD hBr hbG (Nat.le_trans HSZ.out hBn.size);have hBn:=aD hBn hbG hBn.size;obtain⟨AG,cG,hvG,hgp,hgl,_⟩:=eC.far hrG;have hgp:=aC hgp (Below.refl _ _) lU;rw[HNN.out.1]at hvG hgl;subst hvG;have hqs:=hqs.below hbG hls;have hls:=Nat.lt_of_lt_of_le hls hbG.size;refine hK.out _ _ ?_ (fun hHeld=>?_)
       ·exact hBr
       clear hK K;try simp only[Act.put,sA,sB,sC]
       refine wpAnyH_ready (rs:=[8]) (by kernel_rfl) (by simp) ?_;refine(AllReadyH.cons (o:=⟨some 49,.call { callee:=.value (.func 51),args:=#[.tmp 48],argTypes:=#[103] },_,_,_,none⟩) rfl (fun K hK=>?_) AllReadyH.nil);go_simp;go_wp2_with (go_at_call 51;(with_reducible refine(HTE.out _ hBn _ (hqs.cell 0) (hqs.cell 1) hls).mono ?_);rintro et wt ⟨vT,rfl,hrT,hbT⟩);have lT:=hBn.size;have hBr:=aD hBr hbT (Nat.le_trans HSZ.out hBn.size);have hBn:=aD hBn hbT hBn.size;obtain⟨AT,cT,hvT,htp,htl,htn⟩:=tK.far hrT;have yA:=hid htn;clear htn;have htp:=bV htp (Below.refl _ _) lT;have hgp:=aC hgp hbT (Nat.le_refl _);rw[HNN.out.2]at hvT htl;subst hvT;refine hK.out _ _ ?_ (fun hHeld=>?_)
       ·exact hBr
       clear hK K;try simp only[Act.put,sA,sB,sC]
       obtain⟨wl,rfl⟩:∃wl:World,wl=wt:=⟨_,rfl⟩
     rotate_left 2
     focus
      obtain⟨ws,hws,hqs,hls,hbS⟩:=ay wd #[.slice AW nW cW,.slice TA tn tc] 41;go_simp;try rw[hws]
      have hBr:=aD hBr hbS (Nat.le_trans HSZ.out hBn.size);have hBn:=aD hBn hbS hBn.size;refine hK.out _ _ ?_ (fun hHeld=>?_)
      ·exact hBr
      clear hK K;try simp only[Act.put,sA,sB,sC]
      refine wpAnyH_ready (rs:=[2]) (by kernel_rfl) (by simp) ?_;refine(AllReadyH.cons (o:=⟨some 43,.load 40 (.tmp 42),_,_,_,none⟩) rfl (fun K hK=>?_) AllReadyH.nil);have hcl:ws.cell? ⟨wr.heap.size,2,none⟩=some (.slice GA gn gc):=(HQ.out.below hBn HRB.out).cell 2;go_simp;clear hcl;refine hK.out _ _ ?_ (fun hHeld=>?_)
      ·exact hBr
      clear hK K;try simp only[Act.put,sA,sB,sC]
      refine tk 9 ⟨some 50,.fieldAddr 43 (.tmp 10) 0,_,_,_,none⟩ ?_ rfl ?_ ?_;rotate_left
      ·intro w' hSw
       (try dsimp only at hSw)
       go_simp;all_goals with_reducible rfl
      try simp only[Act.put,sA,sB,sC]
      refine wpAnyH_ready (rs:=[3]) (by kernel_rfl) (by simp) ?_;refine(AllReadyH.cons (o:=⟨some 44,.call { callee:=.value (.func 50),args:=#[.tmp 43],argTypes:=#[40] },_,_,_,none⟩) rfl (fun K hK=>?_) AllReadyH.nil);go_simp;go_wp2_with (go_at_call 50;(with_reducible refine(HGU.out _ hBn).mono ?_);rintro eg wg ⟨vG,rfl,hrG,hbG⟩);have lU:=hBn.size;have hBr:=aD hBr hbG (Nat.le_trans HSZ.out hBn.size);have hBn:=aD hBn hbG hBn.size;obtain⟨AG,cG,hvG,hgp,hgl,_⟩:=eC.far hrG;have hgp:=aC hgp (Below.refl _ _) lU;rw[HNN.out.1]at hvG hgl;subst hvG;have hqs:=hqs.below hbG hls;have hls:=Nat.lt_of_lt_of_le hls hbG.size;refine hK.out _ _ ?_ (fun hHeld=>?_)
      ·exact hBr
      clear hK K;try simp only[Act.put,sA,sB,sC]
      refine wpAnyH_ready (rs:=[8]) (by kernel_rfl) (by simp) ?_;refine(AllReadyH.cons (o:=⟨some 49,.call { callee:=.value (.func 51),args:=#[.tmp 48],argTypes:=#[103] },_,_,_,none⟩) rfl (fun K hK=>?_) AllReadyH.nil);go_simp;go_wp2_with (go_at_call 51;(with_reducible refine(HTE.out _ hBn _ (hqs.cell 0) (hqs.cell 1) hls).mono ?_);rintro et wt ⟨vT,rfl,hrT,hbT⟩);have lT:=hBn.size;have hBr:=aD hBr hbT (Nat.le_trans HSZ.out hBn.size);have hBn:=aD hBn hbT hBn.size;obtain⟨AT,cT,hvT,htp,htl,htn⟩:=tK.far hrT;have yA:=hid htn;clear htn;have htp:=bV htp (Below.refl _ _) lT;have hgp:=aC hgp hbT (Nat.le_refl _);rw[HNN.out.2]at hvT htl;subst hvT;refine hK.out _ _ ?_ (fun hHeld=>?_)
      ·exact hBr
      clear hK K;try simp only[Act.put,sA,sB,sC]
      obtain⟨wl,rfl⟩:∃wl:World,wl=wt:=⟨_,rfl⟩
    all_goals
     have hq0:=HQ.out.below hBn HRB.out;have hsz0:=hBn.size;obtain⟨wf,hwf⟩:∃wf,wl.setCell ⟨wr.heap.size,0,none⟩ (.int .i64 (p:Int))=wf:=⟨_,rfl⟩;have hqf:Blk wf wr.heap.size 43 #[.int .i64 (p:Int),.int .i64 (tt:Int),.slice GA gn gc,.int .i64 ea,.slice TA tn tc]:=by rw[<- hwf];exact hq0.aV 0 _
     obtain⟨wu,hwu⟩:∃wu,wf.setCell ⟨wr.heap.size,2,none⟩ (.slice AG gn cG)=wu:=⟨_,rfl⟩;have hq1:Blk wu wr.heap.size 43 #[.int .i64 (p:Int),.int .i64 (tt:Int),.slice AG gn cG,.int .i64 ea,.slice TA tn tc]:=by rw[<- hwu];exact hqf.aV 2 _
     obtain⟨wv,hwv⟩:∃wv,wu.setCell ⟨wr.heap.size,4,none⟩ (.slice AT nO cT)=wv:=⟨_,rfl⟩;have hq2:Blk wv wr.heap.size 43 #[.int .i64 (p:Int),.int .i64 (tt:Int),.slice AG gn cG,.int .i64 ea,.slice AT nO cT]:=by rw[<- hwv];exact hq1.aV 4 _
     have hBf:Below wr.heap.size wr wf:=by rw[<- hwf];exact hBr.setCell (Nat.le_refl _) _
     have hBu:Below wr.heap.size wr wu:=by rw[<- hwu];exact hBf.setCell (Nat.le_refl _) _
     have hBv:Below wr.heap.size wr wv:=by rw[<- hwv];exact hBu.setCell (Nat.le_refl _) _
     have LO:jH wb.heap.size r.gs (ts++r.out) AG cG AT cT wv:=jH.keep (w:=wl) ⟨hgp,by rw[HNN.out.1];exact hgl,htp,by rw[HNN.out.2];exact htl⟩ (by rw[<- hwv,<- hwu,<- hwf];simp) (fun b hb _=>by
      have hne:b≠wr.heap.size:=fun e=>by have:=HRB.out;omega
      rw[<- hwv,heap_setCell_other wu ⟨wr.heap.size,4,none⟩ b _ hne,<- hwu,heap_setCell_other wf ⟨wr.heap.size,2,none⟩ b _ hne,<- hwf,heap_setCell_other wl ⟨wr.heap.size,0,none⟩ b _ hne])
     have k5:wl.cell? ⟨wr.heap.size,0,none⟩=some (.int .i64 (a9:Int)):=hq0.cell 0;have k6:wl.frozen? ⟨wr.heap.size,0,none⟩=false:=hq0.frozen 0;have k1:wf.cell? ⟨wr.heap.size,2,none⟩=some (.slice GA gn gc):=hqf.cell 2;have k2:wf.frozen? ⟨wr.heap.size,2,none⟩=false:=hqf.frozen 2;have k3:wu.cell? ⟨wr.heap.size,4,none⟩=some (.slice TA tn tc):=hq1.cell 4;have k4:wu.frozen? ⟨wr.heap.size,4,none⟩=false:=hq1.frozen 4;clear hgp htp hq0 hq1 hqf;refine wpAnyH_ready (rs:=[10]) (by kernel_rfl) (by simp) ?_;refine(AllReadyH.cons (o:=⟨none,.store 3 (.tmp 50) (.tmp 41),_,_,_,none⟩) rfl (fun K hK=>?_) AllReadyH.nil);go_simp;try rw[hwf]
     have hBr:=hBf;refine hK.out _ _ ?_ (fun hHeld=>?_)
     ·exact hBr
     clear hK K;try simp only[Act.put,sA,sB,sC]
     refine tk 11 ⟨some 51,.fieldAddr 43 (.tmp 10) 2,_,_,_,none⟩ ?_ rfl ?_ ?_;rotate_left
     ·intro w' hSw
      (try dsimp only at hSw)
      go_simp;all_goals with_reducible rfl
     try simp only[Act.put,sA,sB,sC]
     refine wpAnyH_ready (rs:=[12]) (by kernel_rfl) (by simp) ?_;refine(AllReadyH.cons (o:=⟨none,.store 40 (.tmp 51) (.tmp 44),_,_,_,none⟩) rfl (fun K hK=>?_) AllReadyH.nil);go_simp;try rw[hwu]
     have hBr:=hBu;refine hK.out _ _ ?_ (fun hHeld=>?_)
     ·exact hBr
     clear hK K;try simp only[Act.put,sA,sB,sC]
     refine tk 13 ⟨some 52,.fieldAddr 43 (.tmp 10) 4,_,_,_,none⟩ ?_ rfl ?_ ?_;rotate_left
     ·intro w' hSw
      (try dsimp only at hSw)
      go_simp;all_goals with_reducible rfl
     try simp only[Act.put,sA,sB,sC]
     refine wpAnyH_ready (rs:=[14]) (by kernel_rfl) (by simp) ?_;refine(AllReadyH.cons (o:=⟨none,.store 41 (.tmp 52) (.tmp 49),_,_,_,none⟩) rfl (fun K hK=>?_) AllReadyH.nil);go_simp;try rw[hwv]
     have hBr:=hBv;refine hK.out _ _ ?_ (fun hHeld=>?_)
     ·exact hBr
     clear hK K;try simp only[Act.put,sA,sB,sC]
     refine wpAnyH_done (by kernel_rfl) ?_ _;go_wp2_with (fail);go_meet;exact⟨AG,cG,AT,cT,hq2,LO,hBv,yA.out⟩
  case rest=>
    obtain⟨wx,rfl⟩:∃wx:World,wx=wc:=⟨_,rfl⟩;obtain⟨AG,cG,AT,cT,hqx,hgx,hbx,JE⟩:=hcut;have HTX:=hid JE;have HQX:=hid hqx;have MV:=hid hgx;have Fb:=hid hbx;have HLX:=hid (HFR.out.keep hbx);have OM:=hbx.size;have HNE:=hid (show some wr.heap.size≠(Value.slice A6 nL c6).ownBlock from fun e=>by
     obtain⟨vs0,h0,_⟩:=HFR.out.fs.rules;have:=(World.ownsRow.lt h0 wr.heap.size e.symm).2;omega)
    have HNX:=hid (show some x≠(Value.slice A6 nL c6).ownBlock from fun e=>by
     obtain⟨vs0,h0,_⟩:=HFR.out.fs.rules;have:=(World.ownsRow.lt h0 x e.symm).1;have:=HFR.out.fs.low;omega)
    clear hqx hgx hbx JE;go_upto_region 8 with(fail);obtain⟨wd,hwd⟩:∃wd,wx.drew=wd:=⟨_,rfl⟩;have hQW:Blk wd wr.heap.size 43 #[.int .i64 (p:Int),.int .i64 (tt:Int),.slice AG gn cG,.int .i64 ea,.slice AT nO cT]:=by rw[<- hwd];exact HQX.out.drew
    have hBx:Below wx.heap.size wx wd:=by rw[<- hwd];exact(Below.refl _ _).drew
    refine wp_region_held_drew (S:=fun W=>Blk W wr.heap.size 43 #[.int .i64 (p:Int),.int .i64 (tt:Int),.slice AG gn cG,.int .i64 ea,.slice AT nO cT]) (by kernel_rfl) (by rw[hwd];exact hQW) (fun hHeld=>?_);rw[hwd]at hHeld ⊢;refine tk 0 ⟨some 53,.move (.tmp 0),_,_,_,none⟩ ?_ rfl ?_ ?_;rotate_left
    ·intro w' hSw
     (try dsimp only at hSw)
     go_simp;all_goals with_reducible rfl
    try simp only[Act.put,sA,sB,sC]
    refine tk 1 ⟨some 54,.move (.tmp 0),_,_,_,none⟩ ?_ rfl ?_ ?_;rotate_left
    ·intro w' hSw
     (try dsimp only at hSw)
     go_simp;all_goals with_reducible rfl
    try simp only[Act.put,sA,sB,sC]
    refine tk 2 ⟨some 55,.nilCheck (.tmp 54),_,_,_,none⟩ ?_ rfl ?_ ?_;rotate_left
    ·intro w' hSw
     (try dsimp only at hSw)
     go_simp;all_goals with_reducible rfl
    try simp only[Act.put,sA,sB,sC]
    refine tk 3 ⟨some 56,.fieldAddr 67 (.tmp 55) 2,_,_,_,none⟩ ?_ rfl ?_ ?_;rotate_left
    ·intro w' hSw
     (try dsimp only at hSw)
     go_simp;all_goals with_reducible rfl
    try simp only[Act.put,sA,sB,sC]
    refine tk 4 ⟨some 57,.fieldAddr 26 (.tmp 56) 4,_,_,_,none⟩ ?_ rfl ?_ ?_;rotate_left
    ·intro w' hSw
     (try dsimp only at hSw)
     go_simp;all_goals with_reducible rfl
    try simp only[Act.put,sA,sB,sC]
    refine tk 6 ⟨some 59,.load 43 (.tmp 10),_,_,_,none⟩ ?_ rfl ?_ ?_;rotate_left
    ·intro w' hSw
     (try dsimp only at hSw)
     have l0:=hSw.cell 0;have l1:=hSw.cell 1;have l2:=hSw.cell 2;have l3:=hSw.cell 3;have l4:=hSw.cell 4;simp only[sD,sE,sF]at l0 l1 l2 l3 l4;go_simp;all_goals with_reducible rfl
    try simp only[Act.put,sA,sB,sC]
    refine wpAnyH_ready (rs:=[5,7]) (by kernel_rfl) (by simp) ?_;refine(AllReadyH.cons (o:=⟨some 58,.load 23 (.tmp 57),_,_,_,none⟩) rfl (fun K hK=>?_) (AllReadyH.cons (o:=⟨some 60,.buildSlice 23 1 #[(0,.tmp 59)],_,_,_,none⟩) rfl (fun K hK=>?_) AllReadyH.nil))
    focus
     have hcl:=((HLX.out.keep hBx).fs.box).at6;go_simp;clear hcl;refine hK.out _ _ ?_ (fun hHeld=>?_)
     ·exact hQW
     clear hK K;try simp only[Act.put,sA,sB,sC]
     refine wpAnyH_ready (rs:=[7]) (by kernel_rfl) (by simp) ?_;refine(AllReadyH.cons (o:=⟨some 60,.buildSlice 23 1 #[(0,.tmp 59)],_,_,_,none⟩) rfl (fun K hK=>?_) AllReadyH.nil);obtain⟨ws,hws,hqs,hls,hbS⟩:=ay wd #[.int .i64 (p:Int),.int .i64 (tt:Int),.slice AG gn cG,.int .i64 ea,.slice AT nO cT] 43;have hQW:=hQW.below hbS hQW.lt;have hBx:=ak hBx hbS;go_simp;try rw[hws]
     refine hK.out _ _ ?_ (fun hHeld=>?_)
     ·exact hQW
     clear hK K;try simp only[Act.put,sA,sB,sC]
     refine wpAnyH_ready (rs:=[8]) (by kernel_rfl) (by simp) ?_;refine(AllReadyH.cons (o:=⟨some 61,.call { callee:=.builtin .append,args:=#[.tmp 58,.tmp 60],argTypes:=#[23,23] },_,_,_,none⟩) rfl (fun K hK=>?_) AllReadyH.nil);have hls2:=(HLX.out.keep hBx);obtain⟨vs,hvs,_⟩:=hls2.fs.rules;have GZ:=hBx.size
     (refine step_append_lies _ (by rfl) _ _ _ (by rfl) bs 43 i0 _ 5 72 Tryz.underlying23 hi0 hz0 hz1 hz2 rfl (by omega) (.slice A6 nL c6) nL vs (by rfl) (by rw[HNL.out]at hvs;exact hvs) ⟨wd.heap.size,0,none⟩ 1 1 [.int .i64 (p:Int),.int .i64 (tt:Int),.slice AG gn cG,.int .i64 ea,.slice AT nO cT] (by rfl) (by rfl) (World.news_of_block hqs) (by simp[Value.oneCell']) (by decide) (by simp only[maxLen];omega) (by omega) (by have:=KA.out;have:=Fb.out.size;omega) _ rfl ?_;intro gg bX w9 hown9 hg9 hat hgl9)
     have hQ9:=aM hQW (hg9.block wr.heap.size hQW.lt (HNE.out));have hQW:=hQ9;refine hK.out _ _ ?_ (fun hHeld=>?_)
     ·exact hQW
     clear hK K;try simp only[Act.put,sA,sB,sC]
    rotate_left 1
    focus
     obtain⟨ws,hws,hqs,hls,hbS⟩:=ay wd #[.int .i64 (p:Int),.int .i64 (tt:Int),.slice AG gn cG,.int .i64 ea,.slice AT nO cT] 43;have hQW:=hQW.below hbS hQW.lt;have hBx:=ak hBx hbS;go_simp;try rw[hws]
     refine hK.out _ _ ?_ (fun hHeld=>?_)
     ·exact hQW
     clear hK K;try simp only[Act.put,sA,sB,sC]
     refine wpAnyH_ready (rs:=[5]) (by kernel_rfl) (by simp) ?_;refine(AllReadyH.cons (o:=⟨some 58,.load 23 (.tmp 57),_,_,_,none⟩) rfl (fun K hK=>?_) AllReadyH.nil);have hcl:=((HLX.out.keep hBx).fs.box).at6;go_simp;clear hcl;refine hK.out _ _ ?_ (fun hHeld=>?_)
     ·exact hQW
     clear hK K;try simp only[Act.put,sA,sB,sC]
     refine wpAnyH_ready (rs:=[8]) (by kernel_rfl) (by simp) ?_;refine(AllReadyH.cons (o:=⟨some 61,.call { callee:=.builtin .append,args:=#[.tmp 58,.tmp 60],argTypes:=#[23,23] },_,_,_,none⟩) rfl (fun K hK=>?_) AllReadyH.nil);have hls2:=(HLX.out.keep hBx);obtain⟨vs,hvs,_⟩:=hls2.fs.rules;have GZ:=hBx.size
     (refine step_append_lies _ (by rfl) _ _ _ (by rfl) bs 43 i0 _ 5 72 Tryz.underlying23 hi0 hz0 hz1 hz2 rfl (by omega) (.slice A6 nL c6) nL vs (by rfl) (by rw[HNL.out]at hvs;exact hvs) ⟨wd.heap.size,0,none⟩ 1 1 [.int .i64 (p:Int),.int .i64 (tt:Int),.slice AG gn cG,.int .i64 ea,.slice AT nO cT] (by rfl) (by rfl) (World.news_of_block hqs) (by simp[Value.oneCell']) (by decide) (by simp only[maxLen];omega) (by omega) (by have:=KA.out;have:=Fb.out.size;omega) _ rfl ?_;intro gg bX w9 hown9 hg9 hat hgl9)
     have hQ9:=aM hQW (hg9.block wr.heap.size hQW.lt (HNE.out));have hQW:=hQ9;refine hK.out _ _ ?_ (fun hHeld=>?_)
     ·exact hQW
     clear hK K;try simp only[Act.put,sA,sB,sC]
    all_goals
     have hdb:=hls2.fs.box.keep (hg9.block x hls2.fs.box.lt HNX.out);have k1:=hdb.at6;have k2:=hdb.frozen 6;have hnext:=xT (r:=jY (p:Int) ts r) HFR.out II.out (Fb.out.trans (hBx.mono Fb.out.size)) (Nat.le_of_lt HRB.out) (jH.keep MV.out hBx.size (fun b _ hlt=>hBx.block b hlt)) HTX.out hvs hg9 (by
      simp only[jY];rw[HNN.out.1,HNN.out.2,HNL.out,HTO.out.1,HTO.out.2];exact hown9) hat
     rw[HNL.out]at hnext;have jI:=hid hnext;clear hnext;refine tk 9 ⟨some 62,.nilCheck (.tmp 53),_,_,_,none⟩ ?_ rfl ?_ ?_;rotate_left
     ·intro w' hSw
      (try dsimp only at hSw)
      go_simp;all_goals with_reducible rfl
     try simp only[Act.put,sA,sB,sC]
     refine tk 10 ⟨some 63,.fieldAddr 67 (.tmp 62) 2,_,_,_,none⟩ ?_ rfl ?_ ?_;rotate_left
     ·intro w' hSw
      (try dsimp only at hSw)
      go_simp;all_goals with_reducible rfl
     try simp only[Act.put,sA,sB,sC]
     refine tk 11 ⟨some 64,.fieldAddr 26 (.tmp 63) 4,_,_,_,none⟩ ?_ rfl ?_ ?_;rotate_left
     ·intro w' hSw
      (try dsimp only at hSw)
      go_simp;all_goals with_reducible rfl
     try simp only[Act.put,sA,sB,sC]
     obtain⟨wz,hwz⟩:∃wz,w9.setCell ⟨x,6,none⟩ (.slice (some ⟨gg,0,none⟩) (nL+1) bX)=wz:=⟨_,rfl⟩;rw[hwz]at jI;have hQZ:Blk wz wr.heap.size 43 #[.int .i64 (p:Int),.int .i64 (tt:Int),.slice AG gn cG,.int .i64 ea,.slice AT nO cT]:=by rw[<- hwz];exact aM hQW (heap_setCell_other w9 ⟨x,6,none⟩ wr.heap.size _ (show wr.heap.size≠x by have:=HXR.out;omega))
     refine wpAnyH_ready (rs:=[12]) (by kernel_rfl) (by simp) ?_;refine(AllReadyH.cons (o:=⟨none,.store 23 (.tmp 64) (.tmp 61),_,_,_,none⟩) rfl (fun K hK=>?_) AllReadyH.nil);go_simp;try rw[hwz]
     have hQW:=hQZ;refine hK.out _ _ ?_ (fun hHeld=>?_)
     ·exact hQW
     clear hK K;try simp only[Act.put,sA,sB,sC]
     refine wpAnyH_done (by kernel_rfl) ?_ _;have yB:=hid (HGO.out _ wz jI.out);go_wp2_with (fail)
     go_roundw
     case rel=>exact yB.out
     case measure=>simp[intOf];omega
end Go.Proofs.YtbdmcibcenhpnaaGreatDoor.Ep
namespace Go.Proofs.YtbdmcibcenhpnaaGreatDoor.Ep
set_option maxHeartbeats 64000000
open Go Go.RowKit Sp Pa Te Mi De Tr
open Go.Lib (hid)
theorem EM (x:gu):(sU x).length=3:=rfl
theorem Ay {frm:Int} {ts:List TmL} {l:List FiL} {k:Nat} {acc:List FiL} {r:FiL} (hk:k<l.length) (hr:l[k]=r) (hb:acc.length=4096\/64<ts.length+r.out.length):fI frm ts (l.drop k) acc=none:=by
 rw[List.drop_eq_getElem_cons hk,hr];simp only[fI];rw[if_pos hb]
theorem D8 {frm:Int} {ts:List TmL} {l:List FiL} {k:Nat} {acc:List FiL} {r:FiL} (hk:k<l.length) (hr:l[k]=r) (hb : ¬ (acc.length=4096\/64<ts.length+r.out.length)):fI frm ts (l.drop k) acc=fI frm ts (l.drop (k+1)) (acc++[mC frm ts r]):=by
 conv=>lhs;rw[List.drop_eq_getElem_cons hk,hr]
 simp only[fI];rw[if_neg hb]
def Mx (X:Nat->Prop) (bs x:Nat) (ru fi:Value) (i o n s:Int) (res:Option (List FiL)) (L:List RuL) (v vf:Value) (w:World) (e:Ending) (w':World):Prop:=
 (res=none/\e = .returned (.bool false)/\Below x w w')\/(∃F' vf',res=some F'/\F'.length<=4096/\e = .returned (.bool true)/\FR X bs x ru fi i o n s L F' v vf v vf' w w')
def Im (X:Nat->Prop) (bs x:Nat) (ru fi:Value) (i o n s:Int) (frm:Int) (ts:List TmL) (rs:List FiL) (res:Option (List FiL)) (L:List RuL) (v vf:Value) (w:World) (iv:Value) (wr:World):Prop:=
 ∃(k:Nat) (L':List FiL) (v':Value),k<=rs.length/\iv = .int .i64 (k:Int)/\fI frm ts (rs.drop k) L'=res/\L'.length<=4096/\FR X bs x ru fi i o n s L L' v vf v v' w wr
theorem D7 (X:Nat->Prop) (bs x gR gF N p q:Nat) (ru:Value) (i o n s:Int) (L:List RuL) (F:List FiL) (v vf:Value) (w0 wR wF w:World) (P:List (RuL×bZ)) (PF:List (FiL×gu)) (AW:Option Addr) (cW:Nat) (ts:List TmL)
  (hS:Src w0 wR wF x bs gR gF N P PF) (hb0:In0 w0 wR wF gR gF w) (hF:FS X bs x ru (.slice (some ⟨gF,0,none⟩) N N) i o n s L F v vf w) (hbs:bs<=w.heap.size) (hq:q<N) (hL:F.length<=4096)
  (hT:RTp (fun b=>b<x\/X b) w AW ts) (hTn:AW=none->cW=0) (hTl:ts.length<=90000) (hTp:∀t∈ts,t.ps.length<=4) (hXb:∀b,X b->bs<=b) :
  Calls Tryz.prog 37 #[.pointer (some ⟨x,0,none⟩),.int .i64 (p:Int),.int .i64 (q:Int),.slice AW ts.length cW] w (Mx X bs x ru (.slice (some ⟨gF,0,none⟩) N N) i o n s (fI (p:Int) ts ((pqF PF q).map (·.1)) F) L v vf w):=by
 have jC:=hS.top;obtain⟨Aq,cq,pE,_,hgl,hown⟩:=hS.O8.at_ hq;rw[Gx]at pE hown;obtain⟨m,hm⟩:∃m,(pqF PF q).length=m:=⟨_,rfl⟩;have hmb:m<=4096:=by
  have h1:=List.length_filter_le (fun z:FiL×gu=>z.2.frm == q) PF;have h2:=hS.fl;unfold pqF at hm;omega
 rw[List.length_map,hm]at pE hown;have hcq:w.cell? ⟨gF,q,none⟩=some (.slice Aq m cq):=(hb0.Mj hgl).trans pE;have hx0:=hF.box.at1;obtain⟨res,hres⟩:∃res,fI (p:Int) ts ((pqF PF q).map (·.1)) F=res:=⟨_,rfl⟩;obtain⟨nW,hnW⟩:∃nW,ts.length=nW:=⟨_,rfl⟩;have HST:=hid (show Im X bs x ru (.slice (some ⟨gF,0,none⟩) N N) i o n s (p:Int) ts ((pqF PF q).map (·.1)) res L v vf w (.int .i64 0) w from⟨0,F,vf,Nat.zero_le _,rfl,by rw[List.drop_zero];exact hres,hL,FR.start hF⟩);have HS:=hid hS;have HB0:=hid hb0;have HT:=hid hT;have HTN:=hid hTn;have HTP:=hid hTp;have HM:=hid hm;have HNW:=hid hnW;have jS:=hid hown;have HFS:=hid hF;have II:=hid hbs;have Pr:=hid jC;have HXB:=hid hXb;have i1:(0:Int)<=(q:Int):=Int.natCast_nonneg _;have i2:(q:Int)<(N:Int):=by omega
 rw[hres];rw[hnW]at hTl ⊢;clear hXb hS hb0 hF hbs hL hT hTn hTp hm hown hres hnW hgl pE jC;go_enter Tryz.func37,Tryz.ntmps37;go_wp2_with (fail);clear hcq hx0
 go_loopw [19] (fun iv wr=>Im X bs x ru (.slice (some ⟨gF,0,none⟩) N N) i o n s (p:Int) ts ((pqF PF q).map (·.1)) res L v vf w iv wr) (fun iv _=>m-(intOf iv).toNat)
 case atStart=>exact HST.out
 case round=>
  obtain⟨k,L',v',hk,rfl,hres,hL',hfr⟩:=hrel;rw[List.length_map,HM.out]at hk;have HFR:=hid hfr;have yK:=hid hres;by_cases hlt:k<m
  case neg=>
   obtain rfl:k=m:=by omega
   have HFI:=hid (show Mx X bs x ru (.slice (some ⟨gF,0,none⟩) N N) i o n s res L v vf w (.returned (.bool true)) wr from by
    rw[List.drop_eq_nil_of_le (by rw[List.length_map,HM.out];exact Nat.le_refl _)]at hres;exact .inr ⟨L',v',hres.symm,hL',rfl,hfr⟩)
   clear hfr hres;go_wp2_with (fail);go_ret;exact HFI.out
  have hkl:k<(pqF PF q).length:=by rw[HM.out];exact hlt
  have hkm:k<((pqF PF q).map (·.1)).length:=by rw[List.length_map];exact hkl
  have uV:In0 w0 wR wF gR gF wr:=HS.out.next HB0.out hfr.low (hfr.FB HFS.out II.out);have lV:=au jS.out (fun z e=>uV.f z (by have:=(World.ownsRow.lt jS.out z e).1;omega) (World.ownsRow.lt jS.out z e).2);obtain⟨g,cap,hA,_⟩:=World.ownsRow.form lV (by omega);injection hA with hA1 _ hA2;subst hA1 hA2;obtain⟨pr,hpr⟩:∃pr,(pqF PF q)[k]=pr:=⟨_,rfl⟩;have hmem:pr∈PF:=(List.mem_filter.1 (show pr∈pqF PF q by rw[<- hpr];exact List.getElem_mem hkl)).1;have hir:=HS.out.ifn pr hmem;obtain⟨b2,b3,b4,b5⟩:=HS.out.bf pr hmem;have hnr:=HS.out.nf pr hmem;have hcell:∀j,j<3->wr.cell? ⟨g,k*3+j,none⟩=(sU pr.2)[j]?:=fun j hj=>by
   rw[World.ownsRow.cellAt lV (k*3+j) (by omega),cZ EM ((pqF PF q).map (·.2)) k j (by rw[List.length_map];exact hkl) hj,List.getElem_map,hpr]
  have hrk:((pqF PF q).map (·.1))[k]'hkm=pr.1:=by rw[List.getElem_map,hpr]
  obtain⟨r,a9,GA,gn,gc,TA,tn,tc⟩:=pr;obtain⟨ie0,ie3,ie4,ig,ig2,io,io2⟩:=hir;simp only at hrk ie3 ie4 ig io b2 b3 b4 b5 hnr;have d0:wr.cell? ⟨g,k*3,none⟩=some (.int .i64 (a9:Int)):=hcell 0 (by omega);have d1:wr.cell? ⟨g,k*3+1,none⟩=some (.slice GA gn gc):=hcell 1 (by omega);have d2:wr.cell? ⟨g,k*3+2,none⟩=some (.slice TA tn tc):=hcell 2 (by omega);rw[<- ie3]at ig;rw[<- ie4]at io;obtain⟨nO,hnO⟩:∃nO,(ts++r.out).length=nO:=⟨_,rfl⟩;have HNN:=hid (show r.gs.length=gn/\(ts++r.out).length=nO from⟨ie3.symm,hnO⟩);have HOL:=hid ie4;have HIG:=hid ig;have HIO:=hid io;have HRK:=hid hrk;have HKM:=hid hkm;have MU:=hid (fun W (h:RGs W GA gn r.gs)=>show Calls Tryz.prog 50 #[.slice GA gn gc] W (jk r.gs W)from by
   have:=nP GA gc r.gs W (by rw[<- ie3];exact h) (by omega) (fun g hg=>by have:=b3 g hg;omega);rw[<- ie3]at this;exact this)
  have MG:=hid (fun W gg (h1:RTm W AW nW ts) (h2:RTm W TA tn r.out) (hc0:W.cell? ⟨gg,0,none⟩=some (.slice AW nW cW)) (hc1:W.cell? ⟨gg,1,none⟩=some (.slice TA tn tc)) (hlt:gg<W.heap.size)=>show Calls Tryz.prog 51 #[.slice (some ⟨gg,0,none⟩) 2 2] W (jg (ts++r.out) W)from
   pJ gg 2 cW tc AW TA ts r.out W (by rw[HNW.out];exact hc0) (by rw[<- ie4];exact hc1) hlt (by rw[HNW.out];exact h1) (by rw[<- ie4];exact h2) (by rw[HNW.out];omega) (fun t ht=>by
    rcases List.mem_append.1 ht with z | z
    ·have:=HTP.out t z;omega
    ·have:=b5 t z;omega) HTN.out hnr)
  obtain⟨vs6,ho6,_⟩:=hfr.fs.finals;obtain⟨A6,c6,hv6⟩:=ct ho6;obtain⟨nL,hnL⟩:∃nL,L'.length=nL:=⟨_,rfl⟩;have HNL:=hid hnL;rw[hnL]at hL' hv6;subst hv6;obtain⟨wb,hwb⟩:∃wb,wr.alloc (.cells #[.int .i64 (a9:Int),.slice GA gn gc,.slice TA tn tc] 45)=wb:=⟨_,rfl⟩;have hbb0:Below wr.heap.size wr wb:=by rw[<- hwb];exact(Below.refl _ _).alloc (Nat.le_refl _) _
  have xM:Blk wb wr.heap.size 45 #[.int .i64 (a9:Int),.slice GA gn gc,.slice TA tn tc]:=by rw[<- hwb];exact heap_alloc_new wr _
  have e0:=xM.cell 0;have e1:=xM.cell 1;have e2:=xM.cell 2;simp only[sD,sE,sF]at e0 e1 e2;have HQ7:=hid xM;have HB7:=hid hbb0;have j1:(0:Int)<=(k:Int):=Int.natCast_nonneg _;have j2:(k:Int)<(m:Int):=by omega
  have CF:=hid uV;have OU:gn<=4:=by omega
  have Nx:tn<=64:=by omega
  clear hfr hres lV hcell xM hbb0 hpr hmem hrk uV ig io ho6 hnL hnO b2 b3 b5 hnr b4 ie0 ie3 ie4 ig2 io2;have HBR:=HB7;have HQ:=HQ7;have HRB:=hid HQ.out.lt;have HSZ:=hid (Nat.le_of_lt HQ.out.lt);have Jg:=hid (HFR.out.keep HBR.out);have cx6:=Jg.out.fs.box.at7;by_cases oN:nL=4096\/64<nW+tn
  ·have HF:=hid (show Mx X bs x ru (.slice (some ⟨gF,0,none⟩) N N) i o n s res L v vf w (.returned (.bool false)) wb from .inl ⟨by rw[<- yK.out,Ay HKM.out HRK.out (by rw[HNL.out,HNW.out,<- HOL.out];exact oN)],rfl,Jg.out.low⟩)
   by_cases h1:nL=4096
   ·subst h1
    go_wp2_with (fail);go_ret;exact HF.out
   ·have t1:((nL:Int) == 4096)=false:=beq_eq_false_iff_ne.2 (by omega)
    have t2:decide ((64:Int)<(nW:Int)+(tn:Int))=true:=decide_eq_true (by omega);have t3:(nW:Int)+(tn:Int)<=200000:=by omega
    clear oN;go_wp2_with (fail);go_ret;exact HF.out
  have h1 : ¬ nL=4096:=fun e=>oN (.inl e)
  have h2:nW+tn<=64:=by
   by_cases z:64<nW+tn
   ·exact absurd (.inr z) oN
   ·omega
  have t1:((nL:Int) == 4096)=false:=beq_eq_false_iff_ne.2 (by omega);have t2:decide ((64:Int)<(nW:Int)+(tn:Int))=false:=decide_eq_false (by omega);have t3:(nW:Int)+(tn:Int)<=200000:=by omega
  have HGO:=hid (fun vz wz (h:FR X bs x ru (.slice (some ⟨gF,0,none⟩) N N) i o n s L (L'++[mC (p:Int) ts r]) v vf v vz w wz)=>show Im X bs x ru (.slice (some ⟨gF,0,none⟩) N N) i o n s (p:Int) ts ((pqF PF q).map (·.1)) res L v vf w (.int .i64 ((k:Int)+1)) wz from⟨k+1,_,vz,HKM.out,by go_num,by rw[<- yK.out,D8 HKM.out HRK.out (by rw[HNL.out,HNW.out,<- HOL.out];exact oN)],by rw[List.length_append,List.length_singleton,HNL.out];omega,h⟩);have HTW:=hid (show RTm wr AW nW ts from by
   have hlow:=HFS.out.low;have hown1:∀g,v.ownBlock=some g->bs<=g:=fun g e=>by
    obtain⟨vs0,h0,_⟩:=HFS.out.rules;exact(World.ownsRow.lt h0 g e).1
   have hown2:∀g,vf.ownBlock=some g->bs<=g:=fun g e=>by
    obtain⟨vs0,h0,_⟩:=HFS.out.finals;exact(World.ownsRow.lt h0 g e).1
   have h:=(HT.out.keep (w':=wr) ⟨HFR.out.kd.1,fun b hb hl=>HFR.out.kd.2 b hl (fun e=>by
    rcases hb with z | z
    ·omega
    ·have:=HXB.out b z;omega) (fun e=>by
    rcases hb with z | z
    ·have:=hown1 b e;omega
    ·exact HFS.out.vx b e z) (fun e=>by
    rcases hb with z | z
    ·have:=hown2 b e;omega
    ·exact HFS.out.vfx b e z)⟩ (fun b hb _=>hb)).reads
   rw[HNW.out]at h;exact h)
  have HW0:=hid (show w0.heap.size<=wr.heap.size from CF.out.b0.size);have HGU:=hid (fun W (hb:Below wb.heap.size wb W)=>MU.out W (HIG.out.ah (CF.out.b0.trans ((HBR.out.trans (hb.mono HSZ.out)).mono HW0.out))));have HTE:=hid (fun W (hb:Below wb.heap.size wb W) gg hc0 hc1 hlt=>MG.out W gg (HTW.out.ah (HBR.out.trans (hb.mono HSZ.out))) (HIO.out.ah (CF.out.b0.trans ((HBR.out.trans (hb.mono HSZ.out)).mono HW0.out))) hc0 hc1 hlt);have KA:=hid (show bs<=wr.heap.size by have:=II.out;have:=HFR.out.kd.1;omega);have HXR:=hid (show x<wr.heap.size from HFR.out.fs.box.lt);obtain⟨i0,hi0,hz0,hz1,hz2⟩:=info_parts qH;clear oN;go_upto_region 6 with(fail);clear cx6 e0 e1 e2 d0 d1 d2 t1 t2 hwb
  go_cut [] (fun wx=>∃AG cG AT cT,Blk wx wr.heap.size 45 #[.int .i64 (p:Int),.slice AG gn cG,.slice AT nO cT]/\jH wb.heap.size r.gs (ts++r.out) AG cG AT cT wx/\Below wr.heap.size wr wx/\(AT=none->cT=0))
  case first=>
    have hBr:Below wr.heap.size wr wb.drew:=HBR.out.drew;have hBn:Below wb.heap.size wb wb.drew:=(Below.refl _ _).drew;obtain⟨wd,hwd⟩:∃wd,wb.drew=wd:=⟨_,rfl⟩;refine wp_region_held_drew (S:=fun W=>Below wr.heap.size wr W) (by kernel_rfl) hBr (fun hHeld=>?_);rw[hwd]at hBr hBn hHeld ⊢;refine tk 0 ⟨some 39,.move (.tmp 1),_,_,_,none⟩ ?_ rfl ?_ ?_;rotate_left
    ·intro w' hSw
     (try dsimp only at hSw)
     go_simp;all_goals with_reducible rfl
    try simp only[Act.put,sA,sB,sC]
    refine tk 1 ⟨some 40,.fieldAddr 45 (.tmp 10) 1,_,_,_,none⟩ ?_ rfl ?_ ?_;rotate_left
    ·intro w' hSw
     (try dsimp only at hSw)
     go_simp;all_goals with_reducible rfl
    try simp only[Act.put,sA,sB,sC]
    refine tk 4 ⟨some 43,.move (.tmp 3),_,_,_,none⟩ ?_ rfl ?_ ?_;rotate_left
    ·intro w' hSw
     (try dsimp only at hSw)
     go_simp;all_goals with_reducible rfl
    try simp only[Act.put,sA,sB,sC]
    refine tk 5 ⟨some 44,.fieldAddr 45 (.tmp 10) 2,_,_,_,none⟩ ?_ rfl ?_ ?_;rotate_left
    ·intro w' hSw
     (try dsimp only at hSw)
     go_simp;all_goals with_reducible rfl
    try simp only[Act.put,sA,sB,sC]
    refine wpAnyH_ready (rs:=[2,6]) (by kernel_rfl) (by simp) ?_;refine(AllReadyH.cons (o:=⟨some 41,.load 40 (.tmp 40),_,_,_,none⟩) rfl (fun K hK=>?_) (AllReadyH.cons (o:=⟨some 45,.load 41 (.tmp 44),_,_,_,none⟩) rfl (fun K hK=>?_) AllReadyH.nil))
    focus
     have hcl:wd.cell? ⟨wr.heap.size,1,none⟩=some (.slice GA gn gc):=(HQ.out.below hBn HRB.out).cell 1;go_simp;clear hcl;refine hK.out _ _ ?_ (fun hHeld=>?_)
     ·exact hBr
     clear hK K;try simp only[Act.put,sA,sB,sC]
     refine wpAnyH_ready (rs:=[3,6]) (by kernel_rfl) (by simp) ?_;refine(AllReadyH.cons (o:=⟨some 42,.call { callee:=.value (.func 50),args:=#[.tmp 41],argTypes:=#[40] },_,_,_,none⟩) rfl (fun K hK=>?_) (AllReadyH.cons (o:=⟨some 45,.load 41 (.tmp 44),_,_,_,none⟩) rfl (fun K hK=>?_) AllReadyH.nil))
     focus
      go_simp;go_wp2_with (go_at_call 50;(with_reducible refine(HGU.out _ hBn).mono ?_);rintro eg wg ⟨vG,rfl,hrG,hbG⟩);have lU:=hBn.size;have hBr:=aD hBr hbG (Nat.le_trans HSZ.out hBn.size);have hBn:=aD hBn hbG hBn.size;obtain⟨AG,cG,hvG,hgp,hgl,_⟩:=eC.far hrG;have hgp:=aC hgp (Below.refl _ _) lU;rw[HNN.out.1]at hvG hgl;subst hvG;refine hK.out _ _ ?_ (fun hHeld=>?_)
      ·exact hBr
      clear hK K;try simp only[Act.put,sA,sB,sC]
      refine wpAnyH_ready (rs:=[6]) (by kernel_rfl) (by simp) ?_;refine(AllReadyH.cons (o:=⟨some 45,.load 41 (.tmp 44),_,_,_,none⟩) rfl (fun K hK=>?_) AllReadyH.nil);have hcl:wg.cell? ⟨wr.heap.size,2,none⟩=some (.slice TA tn tc):=(HQ.out.below hBn HRB.out).cell 2;go_simp;clear hcl;refine hK.out _ _ ?_ (fun hHeld=>?_)
      ·exact hBr
      clear hK K;try simp only[Act.put,sA,sB,sC]
      refine tk 9 ⟨some 48,.fieldAddr 45 (.tmp 10) 0,_,_,_,none⟩ ?_ rfl ?_ ?_;rotate_left
      ·intro w' hSw
       (try dsimp only at hSw)
       go_simp;all_goals with_reducible rfl
      try simp only[Act.put,sA,sB,sC]
      refine wpAnyH_ready (rs:=[7]) (by kernel_rfl) (by simp) ?_;refine(AllReadyH.cons (o:=⟨some 46,.buildSlice 103 2 #[(0,.tmp 43),(1,.tmp 45)],_,_,_,none⟩) rfl (fun K hK=>?_) AllReadyH.nil);obtain⟨ws,hws,hqs,hls,hbS⟩:=ay wg #[.slice AW nW cW,.slice TA tn tc] 41;go_simp;try rw[hws]
      have hBr:=aD hBr hbS (Nat.le_trans HSZ.out hBn.size);have hBn:=aD hBn hbS hBn.size;have hgp:=aC hgp hbS (Nat.le_refl _);refine hK.out _ _ ?_ (fun hHeld=>?_)
      ·exact hBr
      clear hK K;try simp only[Act.put,sA,sB,sC]
      refine wpAnyH_ready (rs:=[8]) (by kernel_rfl) (by simp) ?_;refine(AllReadyH.cons (o:=⟨some 47,.call { callee:=.value (.func 51),args:=#[.tmp 46],argTypes:=#[103] },_,_,_,none⟩) rfl (fun K hK=>?_) AllReadyH.nil);go_simp;go_wp2_with (go_at_call 51;(with_reducible refine(HTE.out _ hBn _ (hqs.cell 0) (hqs.cell 1) hls).mono ?_);rintro et wt ⟨vT,rfl,hrT,hbT⟩);have lT:=hBn.size;have hBr:=aD hBr hbT (Nat.le_trans HSZ.out hBn.size);have hBn:=aD hBn hbT hBn.size;obtain⟨AT,cT,hvT,htp,htl,htn⟩:=tK.far hrT;have yA:=hid htn;clear htn;have htp:=bV htp (Below.refl _ _) lT;have hgp:=aC hgp hbT (Nat.le_refl _);rw[HNN.out.2]at hvT htl;subst hvT;refine hK.out _ _ ?_ (fun hHeld=>?_)
      ·exact hBr
      clear hK K;try simp only[Act.put,sA,sB,sC]
      obtain⟨wl,rfl⟩:∃wl:World,wl=wt:=⟨_,rfl⟩
     rotate_left 1
     focus
      have hcl:wd.cell? ⟨wr.heap.size,2,none⟩=some (.slice TA tn tc):=(HQ.out.below hBn HRB.out).cell 2;go_simp;clear hcl;refine hK.out _ _ ?_ (fun hHeld=>?_)
      ·exact hBr
      clear hK K;try simp only[Act.put,sA,sB,sC]
      refine tk 9 ⟨some 48,.fieldAddr 45 (.tmp 10) 0,_,_,_,none⟩ ?_ rfl ?_ ?_;rotate_left
      ·intro w' hSw
       (try dsimp only at hSw)
       go_simp;all_goals with_reducible rfl
      try simp only[Act.put,sA,sB,sC]
      refine wpAnyH_ready (rs:=[3,7]) (by kernel_rfl) (by simp) ?_;refine(AllReadyH.cons (o:=⟨some 42,.call { callee:=.value (.func 50),args:=#[.tmp 41],argTypes:=#[40] },_,_,_,none⟩) rfl (fun K hK=>?_) (AllReadyH.cons (o:=⟨some 46,.buildSlice 103 2 #[(0,.tmp 43),(1,.tmp 45)],_,_,_,none⟩) rfl (fun K hK=>?_) AllReadyH.nil))
      focus
       go_simp;go_wp2_with (go_at_call 50;(with_reducible refine(HGU.out _ hBn).mono ?_);rintro eg wg ⟨vG,rfl,hrG,hbG⟩);have lU:=hBn.size;have hBr:=aD hBr hbG (Nat.le_trans HSZ.out hBn.size);have hBn:=aD hBn hbG hBn.size;obtain⟨AG,cG,hvG,hgp,hgl,_⟩:=eC.far hrG;have hgp:=aC hgp (Below.refl _ _) lU;rw[HNN.out.1]at hvG hgl;subst hvG;refine hK.out _ _ ?_ (fun hHeld=>?_)
       ·exact hBr
       clear hK K;try simp only[Act.put,sA,sB,sC]
       refine wpAnyH_ready (rs:=[7]) (by kernel_rfl) (by simp) ?_;refine(AllReadyH.cons (o:=⟨some 46,.buildSlice 103 2 #[(0,.tmp 43),(1,.tmp 45)],_,_,_,none⟩) rfl (fun K hK=>?_) AllReadyH.nil);obtain⟨ws,hws,hqs,hls,hbS⟩:=ay wg #[.slice AW nW cW,.slice TA tn tc] 41;go_simp;try rw[hws]
       have hBr:=aD hBr hbS (Nat.le_trans HSZ.out hBn.size);have hBn:=aD hBn hbS hBn.size;have hgp:=aC hgp hbS (Nat.le_refl _);refine hK.out _ _ ?_ (fun hHeld=>?_)
       ·exact hBr
       clear hK K;try simp only[Act.put,sA,sB,sC]
       refine wpAnyH_ready (rs:=[8]) (by kernel_rfl) (by simp) ?_;refine(AllReadyH.cons (o:=⟨some 47,.call { callee:=.value (.func 51),args:=#[.tmp 46],argTypes:=#[103] },_,_,_,none⟩) rfl (fun K hK=>?_) AllReadyH.nil);go_simp;go_wp2_with (go_at_call 51;(with_reducible refine(HTE.out _ hBn _ (hqs.cell 0) (hqs.cell 1) hls).mono ?_);rintro et wt ⟨vT,rfl,hrT,hbT⟩);have lT:=hBn.size;have hBr:=aD hBr hbT (Nat.le_trans HSZ.out hBn.size);have hBn:=aD hBn hbT hBn.size;obtain⟨AT,cT,hvT,htp,htl,htn⟩:=tK.far hrT;have yA:=hid htn;clear htn;have htp:=bV htp (Below.refl _ _) lT;have hgp:=aC hgp hbT (Nat.le_refl _);rw[HNN.out.2]at hvT htl;subst hvT;refine hK.out _ _ ?_ (fun hHeld=>?_)
       ·exact hBr
       clear hK K;try simp only[Act.put,sA,sB,sC]
       obtain⟨wl,rfl⟩:∃wl:World,wl=wt:=⟨_,rfl⟩
      rotate_left 1
      focus
       obtain⟨ws,hws,hqs,hls,hbS⟩:=ay wd #[.slice AW nW cW,.slice TA tn tc] 41;go_simp;try rw[hws]
       have hBr:=aD hBr hbS (Nat.le_trans HSZ.out hBn.size);have hBn:=aD hBn hbS hBn.size;refine hK.out _ _ ?_ (fun hHeld=>?_)
       ·exact hBr
       clear hK K;try simp only[Act.put,sA,sB,sC]
       refine wpAnyH_ready (rs:=[3]) (by kernel_rfl) (by simp) ?_;refine(AllReadyH.cons (o:=⟨some 42,.call { callee:=.value (.func 50),args:=#[.tmp 41],argTypes:=#[40] },_,_,_,none⟩) rfl (fun K hK=>?_) AllReadyH.nil);go_simp;go_wp2_with (go_at_call 50;(with_reducible refine(HGU.out _ hBn).mono ?_);rintro eg wg ⟨vG,rfl,hrG,hbG⟩);have lU:=hBn.size;have hBr:=aD hBr hbG (Nat.le_trans HSZ.out hBn.size);have hBn:=aD hBn hbG hBn.size;obtain⟨AG,cG,hvG,hgp,hgl,_⟩:=eC.far hrG;have hgp:=aC hgp (Below.refl _ _) lU;rw[HNN.out.1]at hvG hgl;subst hvG;have hqs:=hqs.below hbG hls;have hls:=Nat.lt_of_lt_of_le hls hbG.size;refine hK.out _ _ ?_ (fun hHeld=>?_)
       ·exact hBr
       clear hK K;try simp only[Act.put,sA,sB,sC]
       refine wpAnyH_ready (rs:=[8]) (by kernel_rfl) (by simp) ?_;refine(AllReadyH.cons (o:=⟨some 47,.call { callee:=.value (.func 51),args:=#[.tmp 46],argTypes:=#[103] },_,_,_,none⟩) rfl (fun K hK=>?_) AllReadyH.nil);go_simp;go_wp2_with (go_at_call 51;(with_reducible refine(HTE.out _ hBn _ (hqs.cell 0) (hqs.cell 1) hls).mono ?_);rintro et wt ⟨vT,rfl,hrT,hbT⟩);have lT:=hBn.size;have hBr:=aD hBr hbT (Nat.le_trans HSZ.out hBn.size);have hBn:=aD hBn hbT hBn.size;obtain⟨AT,cT,hvT,htp,htl,htn⟩:=tK.far hrT;have yA:=hid htn;clear htn;have htp:=bV htp (Below.refl _ _) lT;have hgp:=aC hgp hbT (Nat.le_refl _);rw[HNN.out.2]at hvT htl;subst hvT;refine hK.out _ _ ?_ (fun hHeld=>?_)
       ·exact hBr
       clear hK K;try simp only[Act.put,sA,sB,sC]
       obtain⟨wl,rfl⟩:∃wl:World,wl=wt:=⟨_,rfl⟩
    rotate_left 3
    focus
     have hcl:wd.cell? ⟨wr.heap.size,2,none⟩=some (.slice TA tn tc):=(HQ.out.below hBn HRB.out).cell 2;go_simp;clear hcl;refine hK.out _ _ ?_ (fun hHeld=>?_)
     ·exact hBr
     clear hK K;try simp only[Act.put,sA,sB,sC]
     refine wpAnyH_ready (rs:=[2,7]) (by kernel_rfl) (by simp) ?_;refine(AllReadyH.cons (o:=⟨some 41,.load 40 (.tmp 40),_,_,_,none⟩) rfl (fun K hK=>?_) (AllReadyH.cons (o:=⟨some 46,.buildSlice 103 2 #[(0,.tmp 43),(1,.tmp 45)],_,_,_,none⟩) rfl (fun K hK=>?_) AllReadyH.nil))
     focus
      have hcl:wd.cell? ⟨wr.heap.size,1,none⟩=some (.slice GA gn gc):=(HQ.out.below hBn HRB.out).cell 1;go_simp;clear hcl;refine hK.out _ _ ?_ (fun hHeld=>?_)
      ·exact hBr
      clear hK K;try simp only[Act.put,sA,sB,sC]
      refine tk 9 ⟨some 48,.fieldAddr 45 (.tmp 10) 0,_,_,_,none⟩ ?_ rfl ?_ ?_;rotate_left
      ·intro w' hSw
       (try dsimp only at hSw)
       go_simp;all_goals with_reducible rfl
      try simp only[Act.put,sA,sB,sC]
      refine wpAnyH_ready (rs:=[3,7]) (by kernel_rfl) (by simp) ?_;refine(AllReadyH.cons (o:=⟨some 42,.call { callee:=.value (.func 50),args:=#[.tmp 41],argTypes:=#[40] },_,_,_,none⟩) rfl (fun K hK=>?_) (AllReadyH.cons (o:=⟨some 46,.buildSlice 103 2 #[(0,.tmp 43),(1,.tmp 45)],_,_,_,none⟩) rfl (fun K hK=>?_) AllReadyH.nil))
      focus
       go_simp;go_wp2_with (go_at_call 50;(with_reducible refine(HGU.out _ hBn).mono ?_);rintro eg wg ⟨vG,rfl,hrG,hbG⟩);have lU:=hBn.size;have hBr:=aD hBr hbG (Nat.le_trans HSZ.out hBn.size);have hBn:=aD hBn hbG hBn.size;obtain⟨AG,cG,hvG,hgp,hgl,_⟩:=eC.far hrG;have hgp:=aC hgp (Below.refl _ _) lU;rw[HNN.out.1]at hvG hgl;subst hvG;refine hK.out _ _ ?_ (fun hHeld=>?_)
       ·exact hBr
       clear hK K;try simp only[Act.put,sA,sB,sC]
       refine wpAnyH_ready (rs:=[7]) (by kernel_rfl) (by simp) ?_;refine(AllReadyH.cons (o:=⟨some 46,.buildSlice 103 2 #[(0,.tmp 43),(1,.tmp 45)],_,_,_,none⟩) rfl (fun K hK=>?_) AllReadyH.nil);obtain⟨ws,hws,hqs,hls,hbS⟩:=ay wg #[.slice AW nW cW,.slice TA tn tc] 41;go_simp;try rw[hws]
       have hBr:=aD hBr hbS (Nat.le_trans HSZ.out hBn.size);have hBn:=aD hBn hbS hBn.size;have hgp:=aC hgp hbS (Nat.le_refl _);refine hK.out _ _ ?_ (fun hHeld=>?_)
       ·exact hBr
       clear hK K;try simp only[Act.put,sA,sB,sC]
       refine wpAnyH_ready (rs:=[8]) (by kernel_rfl) (by simp) ?_;refine(AllReadyH.cons (o:=⟨some 47,.call { callee:=.value (.func 51),args:=#[.tmp 46],argTypes:=#[103] },_,_,_,none⟩) rfl (fun K hK=>?_) AllReadyH.nil);go_simp;go_wp2_with (go_at_call 51;(with_reducible refine(HTE.out _ hBn _ (hqs.cell 0) (hqs.cell 1) hls).mono ?_);rintro et wt ⟨vT,rfl,hrT,hbT⟩);have lT:=hBn.size;have hBr:=aD hBr hbT (Nat.le_trans HSZ.out hBn.size);have hBn:=aD hBn hbT hBn.size;obtain⟨AT,cT,hvT,htp,htl,htn⟩:=tK.far hrT;have yA:=hid htn;clear htn;have htp:=bV htp (Below.refl _ _) lT;have hgp:=aC hgp hbT (Nat.le_refl _);rw[HNN.out.2]at hvT htl;subst hvT;refine hK.out _ _ ?_ (fun hHeld=>?_)
       ·exact hBr
       clear hK K;try simp only[Act.put,sA,sB,sC]
       obtain⟨wl,rfl⟩:∃wl:World,wl=wt:=⟨_,rfl⟩
      rotate_left 1
      focus
       obtain⟨ws,hws,hqs,hls,hbS⟩:=ay wd #[.slice AW nW cW,.slice TA tn tc] 41;go_simp;try rw[hws]
       have hBr:=aD hBr hbS (Nat.le_trans HSZ.out hBn.size);have hBn:=aD hBn hbS hBn.size;refine hK.out _ _ ?_ (fun hHeld=>?_)
       ·exact hBr
       clear hK K;try simp only[Act.put,sA,sB,sC]
       refine wpAnyH_ready (rs:=[3]) (by kernel_rfl) (by simp) ?_;refine(AllReadyH.cons (o:=⟨some 42,.call { callee:=.value (.func 50),args:=#[.tmp 41],argTypes:=#[40] },_,_,_,none⟩) rfl (fun K hK=>?_) AllReadyH.nil);go_simp;go_wp2_with (go_at_call 50;(with_reducible refine(HGU.out _ hBn).mono ?_);rintro eg wg ⟨vG,rfl,hrG,hbG⟩);have lU:=hBn.size;have hBr:=aD hBr hbG (Nat.le_trans HSZ.out hBn.size);have hBn:=aD hBn hbG hBn.size;obtain⟨AG,cG,hvG,hgp,hgl,_⟩:=eC.far hrG;have hgp:=aC hgp (Below.refl _ _) lU;rw[HNN.out.1]at hvG hgl;subst hvG;have hqs:=hqs.below hbG hls;have hls:=Nat.lt_of_lt_of_le hls hbG.size;refine hK.out _ _ ?_ (fun hHeld=>?_)
       ·exact hBr
       clear hK K;try simp only[Act.put,sA,sB,sC]
       refine wpAnyH_ready (rs:=[8]) (by kernel_rfl) (by simp) ?_;refine(AllReadyH.cons (o:=⟨some 47,.call { callee:=.value (.func 51),args:=#[.tmp 46],argTypes:=#[103] },_,_,_,none⟩) rfl (fun K hK=>?_) AllReadyH.nil);go_simp;go_wp2_with (go_at_call 51;(with_reducible refine(HTE.out _ hBn _ (hqs.cell 0) (hqs.cell 1) hls).mono ?_);rintro et wt ⟨vT,rfl,hrT,hbT⟩);have lT:=hBn.size;have hBr:=aD hBr hbT (Nat.le_trans HSZ.out hBn.size);have hBn:=aD hBn hbT hBn.size;obtain⟨AT,cT,hvT,htp,htl,htn⟩:=tK.far hrT;have yA:=hid htn;clear htn;have htp:=bV htp (Below.refl _ _) lT;have hgp:=aC hgp hbT (Nat.le_refl _);rw[HNN.out.2]at hvT htl;subst hvT;refine hK.out _ _ ?_ (fun hHeld=>?_)
       ·exact hBr
       clear hK K;try simp only[Act.put,sA,sB,sC]
       obtain⟨wl,rfl⟩:∃wl:World,wl=wt:=⟨_,rfl⟩
     rotate_left 2
     focus
      obtain⟨ws,hws,hqs,hls,hbS⟩:=ay wd #[.slice AW nW cW,.slice TA tn tc] 41;go_simp;try rw[hws]
      have hBr:=aD hBr hbS (Nat.le_trans HSZ.out hBn.size);have hBn:=aD hBn hbS hBn.size;refine hK.out _ _ ?_ (fun hHeld=>?_)
      ·exact hBr
      clear hK K;try simp only[Act.put,sA,sB,sC]
      refine wpAnyH_ready (rs:=[2]) (by kernel_rfl) (by simp) ?_;refine(AllReadyH.cons (o:=⟨some 41,.load 40 (.tmp 40),_,_,_,none⟩) rfl (fun K hK=>?_) AllReadyH.nil);have hcl:ws.cell? ⟨wr.heap.size,1,none⟩=some (.slice GA gn gc):=(HQ.out.below hBn HRB.out).cell 1;go_simp;clear hcl;refine hK.out _ _ ?_ (fun hHeld=>?_)
      ·exact hBr
      clear hK K;try simp only[Act.put,sA,sB,sC]
      refine tk 9 ⟨some 48,.fieldAddr 45 (.tmp 10) 0,_,_,_,none⟩ ?_ rfl ?_ ?_;rotate_left
      ·intro w' hSw
       (try dsimp only at hSw)
       go_simp;all_goals with_reducible rfl
      try simp only[Act.put,sA,sB,sC]
      refine wpAnyH_ready (rs:=[3]) (by kernel_rfl) (by simp) ?_;refine(AllReadyH.cons (o:=⟨some 42,.call { callee:=.value (.func 50),args:=#[.tmp 41],argTypes:=#[40] },_,_,_,none⟩) rfl (fun K hK=>?_) AllReadyH.nil);go_simp;go_wp2_with (go_at_call 50;(with_reducible refine(HGU.out _ hBn).mono ?_);rintro eg wg ⟨vG,rfl,hrG,hbG⟩);have lU:=hBn.size;have hBr:=aD hBr hbG (Nat.le_trans HSZ.out hBn.size);have hBn:=aD hBn hbG hBn.size;obtain⟨AG,cG,hvG,hgp,hgl,_⟩:=eC.far hrG;have hgp:=aC hgp (Below.refl _ _) lU;rw[HNN.out.1]at hvG hgl;subst hvG;have hqs:=hqs.below hbG hls;have hls:=Nat.lt_of_lt_of_le hls hbG.size;refine hK.out _ _ ?_ (fun hHeld=>?_)
      ·exact hBr
      clear hK K;try simp only[Act.put,sA,sB,sC]
      refine wpAnyH_ready (rs:=[8]) (by kernel_rfl) (by simp) ?_;refine(AllReadyH.cons (o:=⟨some 47,.call { callee:=.value (.func 51),args:=#[.tmp 46],argTypes:=#[103] },_,_,_,none⟩) rfl (fun K hK=>?_) AllReadyH.nil);go_simp;go_wp2_with (go_at_call 51;(with_reducible refine(HTE.out _ hBn _ (hqs.cell 0) (hqs.cell 1) hls).mono ?_);rintro et wt ⟨vT,rfl,hrT,hbT⟩);have lT:=hBn.size;have hBr:=aD hBr hbT (Nat.le_trans HSZ.out hBn.size);have hBn:=aD hBn hbT hBn.size;obtain⟨AT,cT,hvT,htp,htl,htn⟩:=tK.far hrT;have yA:=hid htn;clear htn;have htp:=bV htp (Below.refl _ _) lT;have hgp:=aC hgp hbT (Nat.le_refl _);rw[HNN.out.2]at hvT htl;subst hvT;refine hK.out _ _ ?_ (fun hHeld=>?_)
      ·exact hBr
      clear hK K;try simp only[Act.put,sA,sB,sC]
      obtain⟨wl,rfl⟩:∃wl:World,wl=wt:=⟨_,rfl⟩
    all_goals
     have hq0:=HQ.out.below hBn HRB.out;have hsz0:=hBn.size;obtain⟨wf,hwf⟩:∃wf,wl.setCell ⟨wr.heap.size,0,none⟩ (.int .i64 (p:Int))=wf:=⟨_,rfl⟩;have hqf:Blk wf wr.heap.size 45 #[.int .i64 (p:Int),.slice GA gn gc,.slice TA tn tc]:=by rw[<- hwf];exact hq0.aV 0 _
     obtain⟨wu,hwu⟩:∃wu,wf.setCell ⟨wr.heap.size,1,none⟩ (.slice AG gn cG)=wu:=⟨_,rfl⟩;have hq1:Blk wu wr.heap.size 45 #[.int .i64 (p:Int),.slice AG gn cG,.slice TA tn tc]:=by rw[<- hwu];exact hqf.aV 1 _
     obtain⟨wv,hwv⟩:∃wv,wu.setCell ⟨wr.heap.size,2,none⟩ (.slice AT nO cT)=wv:=⟨_,rfl⟩;have hq2:Blk wv wr.heap.size 45 #[.int .i64 (p:Int),.slice AG gn cG,.slice AT nO cT]:=by rw[<- hwv];exact hq1.aV 2 _
     have hBf:Below wr.heap.size wr wf:=by rw[<- hwf];exact hBr.setCell (Nat.le_refl _) _
     have hBu:Below wr.heap.size wr wu:=by rw[<- hwu];exact hBf.setCell (Nat.le_refl _) _
     have hBv:Below wr.heap.size wr wv:=by rw[<- hwv];exact hBu.setCell (Nat.le_refl _) _
     have LO:jH wb.heap.size r.gs (ts++r.out) AG cG AT cT wv:=jH.keep (w:=wl) ⟨hgp,by rw[HNN.out.1];exact hgl,htp,by rw[HNN.out.2];exact htl⟩ (by rw[<- hwv,<- hwu,<- hwf];simp) (fun b hb _=>by
      have hne:b≠wr.heap.size:=fun e=>by have:=HRB.out;omega
      rw[<- hwv,heap_setCell_other wu ⟨wr.heap.size,2,none⟩ b _ hne,<- hwu,heap_setCell_other wf ⟨wr.heap.size,1,none⟩ b _ hne,<- hwf,heap_setCell_other wl ⟨wr.heap.size,0,none⟩ b _ hne])
     have k5:wl.cell? ⟨wr.heap.size,0,none⟩=some (.int .i64 (a9:Int)):=hq0.cell 0;have k6:wl.frozen? ⟨wr.heap.size,0,none⟩=false:=hq0.frozen 0;have k1:wf.cell? ⟨wr.heap.size,1,none⟩=some (.slice GA gn gc):=hqf.cell 1;have k2:wf.frozen? ⟨wr.heap.size,1,none⟩=false:=hqf.frozen 1;have k3:wu.cell? ⟨wr.heap.size,2,none⟩=some (.slice TA tn tc):=hq1.cell 2;have k4:wu.frozen? ⟨wr.heap.size,2,none⟩=false:=hq1.frozen 2;clear hgp htp hq0 hq1 hqf;refine wpAnyH_ready (rs:=[10]) (by kernel_rfl) (by simp) ?_;refine(AllReadyH.cons (o:=⟨none,.store 3 (.tmp 48) (.tmp 39),_,_,_,none⟩) rfl (fun K hK=>?_) AllReadyH.nil);go_simp;try rw[hwf]
     have hBr:=hBf;refine hK.out _ _ ?_ (fun hHeld=>?_)
     ·exact hBr
     clear hK K;try simp only[Act.put,sA,sB,sC]
     refine tk 11 ⟨some 49,.fieldAddr 45 (.tmp 10) 1,_,_,_,none⟩ ?_ rfl ?_ ?_;rotate_left
     ·intro w' hSw
      (try dsimp only at hSw)
      go_simp;all_goals with_reducible rfl
     try simp only[Act.put,sA,sB,sC]
     refine wpAnyH_ready (rs:=[12]) (by kernel_rfl) (by simp) ?_;refine(AllReadyH.cons (o:=⟨none,.store 40 (.tmp 49) (.tmp 42),_,_,_,none⟩) rfl (fun K hK=>?_) AllReadyH.nil);go_simp;try rw[hwu]
     have hBr:=hBu;refine hK.out _ _ ?_ (fun hHeld=>?_)
     ·exact hBr
     clear hK K;try simp only[Act.put,sA,sB,sC]
     refine tk 13 ⟨some 50,.fieldAddr 45 (.tmp 10) 2,_,_,_,none⟩ ?_ rfl ?_ ?_;rotate_left
     ·intro w' hSw
      (try dsimp only at hSw)
      go_simp;all_goals with_reducible rfl
     try simp only[Act.put,sA,sB,sC]
     refine wpAnyH_ready (rs:=[14]) (by kernel_rfl) (by simp) ?_;refine(AllReadyH.cons (o:=⟨none,.store 41 (.tmp 50) (.tmp 47),_,_,_,none⟩) rfl (fun K hK=>?_) AllReadyH.nil);go_simp;try rw[hwv]
     have hBr:=hBv;refine hK.out _ _ ?_ (fun hHeld=>?_)
     ·exact hBr
     clear hK K;try simp only[Act.put,sA,sB,sC]
     refine wpAnyH_done (by kernel_rfl) ?_ _;go_wp2_with (fail);go_meet;exact⟨AG,cG,AT,cT,hq2,LO,hBv,yA.out⟩
  case rest=>
    obtain⟨wx,rfl⟩:∃wx:World,wx=wc:=⟨_,rfl⟩;obtain⟨AG,cG,AT,cT,hqx,hgx,hbx,JE⟩:=hcut;have HTX:=hid JE;have HQX:=hid hqx;have MV:=hid hgx;have Fb:=hid hbx;have HLX:=hid (HFR.out.keep hbx);have OM:=hbx.size;have HNE:=hid (show some wr.heap.size≠(Value.slice A6 nL c6).ownBlock from fun e=>by
     obtain⟨vs0,h0,_⟩:=HFR.out.fs.finals;have:=(World.ownsRow.lt h0 wr.heap.size e.symm).2;omega)
    have HNX:=hid (show some x≠(Value.slice A6 nL c6).ownBlock from fun e=>by
     obtain⟨vs0,h0,_⟩:=HFR.out.fs.finals;have:=(World.ownsRow.lt h0 x e.symm).1;have:=HFR.out.fs.low;omega)
    clear hqx hgx hbx JE;go_upto_region 7 with(fail);obtain⟨wd,hwd⟩:∃wd,wx.drew=wd:=⟨_,rfl⟩;have hQW:Blk wd wr.heap.size 45 #[.int .i64 (p:Int),.slice AG gn cG,.slice AT nO cT]:=by rw[<- hwd];exact HQX.out.drew
    have hBx:Below wx.heap.size wx wd:=by rw[<- hwd];exact(Below.refl _ _).drew
    refine wp_region_held_drew (S:=fun W=>Blk W wr.heap.size 45 #[.int .i64 (p:Int),.slice AG gn cG,.slice AT nO cT]) (by kernel_rfl) (by rw[hwd];exact hQW) (fun hHeld=>?_);rw[hwd]at hHeld ⊢;refine tk 0 ⟨some 51,.move (.tmp 0),_,_,_,none⟩ ?_ rfl ?_ ?_;rotate_left
    ·intro w' hSw
     (try dsimp only at hSw)
     go_simp;all_goals with_reducible rfl
    try simp only[Act.put,sA,sB,sC]
    refine tk 1 ⟨some 52,.move (.tmp 0),_,_,_,none⟩ ?_ rfl ?_ ?_;rotate_left
    ·intro w' hSw
     (try dsimp only at hSw)
     go_simp;all_goals with_reducible rfl
    try simp only[Act.put,sA,sB,sC]
    refine tk 2 ⟨some 53,.nilCheck (.tmp 52),_,_,_,none⟩ ?_ rfl ?_ ?_;rotate_left
    ·intro w' hSw
     (try dsimp only at hSw)
     go_simp;all_goals with_reducible rfl
    try simp only[Act.put,sA,sB,sC]
    refine tk 3 ⟨some 54,.fieldAddr 67 (.tmp 53) 2,_,_,_,none⟩ ?_ rfl ?_ ?_;rotate_left
    ·intro w' hSw
     (try dsimp only at hSw)
     go_simp;all_goals with_reducible rfl
    try simp only[Act.put,sA,sB,sC]
    refine tk 4 ⟨some 55,.fieldAddr 26 (.tmp 54) 5,_,_,_,none⟩ ?_ rfl ?_ ?_;rotate_left
    ·intro w' hSw
     (try dsimp only at hSw)
     go_simp;all_goals with_reducible rfl
    try simp only[Act.put,sA,sB,sC]
    refine tk 6 ⟨some 57,.load 45 (.tmp 10),_,_,_,none⟩ ?_ rfl ?_ ?_;rotate_left
    ·intro w' hSw
     (try dsimp only at hSw)
     have l0:=hSw.cell 0;have l1:=hSw.cell 1;have l2:=hSw.cell 2;simp only[sD,sE,sF]at l0 l1 l2;go_simp;all_goals with_reducible rfl
    try simp only[Act.put,sA,sB,sC]
    refine wpAnyH_ready (rs:=[5,7]) (by kernel_rfl) (by simp) ?_;refine(AllReadyH.cons (o:=⟨some 56,.load 24 (.tmp 55),_,_,_,none⟩) rfl (fun K hK=>?_) (AllReadyH.cons (o:=⟨some 58,.buildSlice 24 1 #[(0,.tmp 57)],_,_,_,none⟩) rfl (fun K hK=>?_) AllReadyH.nil))
    focus
     have hcl:=((HLX.out.keep hBx).fs.box).at7;go_simp;clear hcl;refine hK.out _ _ ?_ (fun hHeld=>?_)
     ·exact hQW
     clear hK K;try simp only[Act.put,sA,sB,sC]
     refine wpAnyH_ready (rs:=[7]) (by kernel_rfl) (by simp) ?_;refine(AllReadyH.cons (o:=⟨some 58,.buildSlice 24 1 #[(0,.tmp 57)],_,_,_,none⟩) rfl (fun K hK=>?_) AllReadyH.nil);obtain⟨ws,hws,hqs,hls,hbS⟩:=ay wd #[.int .i64 (p:Int),.slice AG gn cG,.slice AT nO cT] 45;have hQW:=hQW.below hbS hQW.lt;have hBx:=ak hBx hbS;go_simp;try rw[hws]
     refine hK.out _ _ ?_ (fun hHeld=>?_)
     ·exact hQW
     clear hK K;try simp only[Act.put,sA,sB,sC]
     refine wpAnyH_ready (rs:=[8]) (by kernel_rfl) (by simp) ?_;refine(AllReadyH.cons (o:=⟨some 59,.call { callee:=.builtin .append,args:=#[.tmp 56,.tmp 58],argTypes:=#[24,24] },_,_,_,none⟩) rfl (fun K hK=>?_) AllReadyH.nil);have hls2:=(HLX.out.keep hBx);obtain⟨vs,hvs,_⟩:=hls2.fs.finals;have GZ:=hBx.size
     (refine step_append_lies _ (by rfl) _ _ _ (by rfl) bs 45 i0 _ 3 56 Tryz.underlying24 hi0 hz0 hz1 hz2 rfl (by omega) (.slice A6 nL c6) nL vs (by rfl) (by rw[HNL.out]at hvs;exact hvs) ⟨wd.heap.size,0,none⟩ 1 1 [.int .i64 (p:Int),.slice AG gn cG,.slice AT nO cT] (by rfl) (by rfl) (World.news_of_block hqs) (by simp[Value.oneCell']) (by decide) (by simp only[maxLen];omega) (by omega) (by have:=KA.out;have:=Fb.out.size;omega) _ rfl ?_;intro gg bX w9 hown9 hg9 hat hgl9)
     have hQ9:=aM hQW (hg9.block wr.heap.size hQW.lt (HNE.out));have hQW:=hQ9;refine hK.out _ _ ?_ (fun hHeld=>?_)
     ·exact hQW
     clear hK K;try simp only[Act.put,sA,sB,sC]
    rotate_left 1
    focus
     obtain⟨ws,hws,hqs,hls,hbS⟩:=ay wd #[.int .i64 (p:Int),.slice AG gn cG,.slice AT nO cT] 45;have hQW:=hQW.below hbS hQW.lt;have hBx:=ak hBx hbS;go_simp;try rw[hws]
     refine hK.out _ _ ?_ (fun hHeld=>?_)
     ·exact hQW
     clear hK K;try simp only[Act.put,sA,sB,sC]
     refine wpAnyH_ready (rs:=[5]) (by kernel_rfl) (by simp) ?_;refine(AllReadyH.cons (o:=⟨some 56,.load 24 (.tmp 55),_,_,_,none⟩) rfl (fun K hK=>?_) AllReadyH.nil);have hcl:=((HLX.out.keep hBx).fs.box).at7;go_simp;clear hcl;refine hK.out _ _ ?_ (fun hHeld=>?_)
     ·exact hQW
     clear hK K;try simp only[Act.put,sA,sB,sC]
     refine wpAnyH_ready (rs:=[8]) (by kernel_rfl) (by simp) ?_;refine(AllReadyH.cons (o:=⟨some 59,.call { callee:=.builtin .append,args:=#[.tmp 56,.tmp 58],argTypes:=#[24,24] },_,_,_,none⟩) rfl (fun K hK=>?_) AllReadyH.nil);have hls2:=(HLX.out.keep hBx);obtain⟨vs,hvs,_⟩:=hls2.fs.finals;have GZ:=hBx.size
     (refine step_append_lies _ (by rfl) _ _ _ (by rfl) bs 45 i0 _ 3 56 Tryz.underlying24 hi0 hz0 hz1 hz2 rfl (by omega) (.slice A6 nL c6) nL vs (by rfl) (by rw[HNL.out]at hvs;exact hvs) ⟨wd.heap.size,0,none⟩ 1 1 [.int .i64 (p:Int),.slice AG gn cG,.slice AT nO cT] (by rfl) (by rfl) (World.news_of_block hqs) (by simp[Value.oneCell']) (by decide) (by simp only[maxLen];omega) (by omega) (by have:=KA.out;have:=Fb.out.size;omega) _ rfl ?_;intro gg bX w9 hown9 hg9 hat hgl9)
     have hQ9:=aM hQW (hg9.block wr.heap.size hQW.lt (HNE.out));have hQW:=hQ9;refine hK.out _ _ ?_ (fun hHeld=>?_)
     ·exact hQW
     clear hK K;try simp only[Act.put,sA,sB,sC]
    all_goals
     have hdb:=hls2.fs.box.keep (hg9.block x hls2.fs.box.lt HNX.out);have k1:=hdb.at7;have k2:=hdb.frozen 7;have hnext:=sR (f:=mC (p:Int) ts r) HFR.out II.out (Fb.out.trans (hBx.mono Fb.out.size)) (Nat.le_of_lt HRB.out) (jH.keep MV.out hBx.size (fun b _ hlt=>hBx.block b hlt)) HTX.out hvs hg9 (by
      simp only[mC];rw[HNN.out.1,HNN.out.2,HNL.out];exact hown9) hat
     rw[HNL.out]at hnext;have jI:=hid hnext;clear hnext;refine tk 9 ⟨some 60,.nilCheck (.tmp 51),_,_,_,none⟩ ?_ rfl ?_ ?_;rotate_left
     ·intro w' hSw
      (try dsimp only at hSw)
      go_simp;all_goals with_reducible rfl
     try simp only[Act.put,sA,sB,sC]
     refine tk 10 ⟨some 61,.fieldAddr 67 (.tmp 60) 2,_,_,_,none⟩ ?_ rfl ?_ ?_;rotate_left
     ·intro w' hSw
      (try dsimp only at hSw)
      go_simp;all_goals with_reducible rfl
     try simp only[Act.put,sA,sB,sC]
     refine tk 11 ⟨some 62,.fieldAddr 26 (.tmp 61) 5,_,_,_,none⟩ ?_ rfl ?_ ?_;rotate_left
     ·intro w' hSw
      (try dsimp only at hSw)
      go_simp;all_goals with_reducible rfl
     try simp only[Act.put,sA,sB,sC]
     obtain⟨wz,hwz⟩:∃wz,w9.setCell ⟨x,7,none⟩ (.slice (some ⟨gg,0,none⟩) (nL+1) bX)=wz:=⟨_,rfl⟩;rw[hwz]at jI;have hQZ:Blk wz wr.heap.size 45 #[.int .i64 (p:Int),.slice AG gn cG,.slice AT nO cT]:=by rw[<- hwz];exact aM hQW (heap_setCell_other w9 ⟨x,7,none⟩ wr.heap.size _ (show wr.heap.size≠x by have:=HXR.out;omega))
     refine wpAnyH_ready (rs:=[12]) (by kernel_rfl) (by simp) ?_;refine(AllReadyH.cons (o:=⟨none,.store 24 (.tmp 62) (.tmp 59),_,_,_,none⟩) rfl (fun K hK=>?_) AllReadyH.nil);go_simp;try rw[hwz]
     have hQW:=hQZ;refine hK.out _ _ ?_ (fun hHeld=>?_)
     ·exact hQW
     clear hK K;try simp only[Act.put,sA,sB,sC]
     refine wpAnyH_done (by kernel_rfl) ?_ _;have yB:=hid (HGO.out _ wz jI.out);go_wp2_with (fail)
     go_roundw
     case rel=>exact yB.out
     case measure=>simp[intOf];omega
end Go.Proofs.YtbdmcibcenhpnaaGreatDoor.Ep
namespace Go.Proofs.YtbdmcibcenhpnaaGreatDoor.Ep
open Go Go.RowKit
variable {P:Program} {w:World}
theorem kZ (t ty:TypeId) (base:Nat) (e:TypeId) (i:TypeInfo) (z:Value) (size bytes:Nat) (ht:P.underlying t=some (.slice e)) (hi:P.info? e=some i) (hz:i.zero=some z)
  (hsize:i.size=size) (hby:i.bytes=bytes) (hzs:z.cells.size=size) (hsz:0<size)
  (v:Value) (n:Nat) (xs:List Value) (hown:w.ownsRow base e size v n xs)
  (a:Addr) (m c:Nat) (news:List Value) (hl:news.length=m*size) (hnews:∀j u,news[j]? = some u->w.cell? (a.add j)=some u) (h1:∀u∈news,u.oneCell'=true)
  (h63:n+m<=maxLen) (hbytes:(n+m)*bytes<=140737488355328) (hbase:base<=w.heap.size) :
  ∃v' w',(Builtin.append_ #[t,t] ty #[v,.slice (some a) m c]).run P w = .ok v' w'/\w'.ownsRow base e size v' (n+m) (xs++news)/\w.grownBy w' v.ownBlock /\
   (v'.ownBlock=v.ownBlock\/v'.ownBlock=some w.heap.size)/\w'.ownsRow base e size v n xs:=by
 obtain⟨v',w',hr,h2,h3,_,h5⟩:=run_append_own_at (P:=P) w base t ty e i z size bytes ht hi hz hsize hby hzs hsz v n xs hown a m c news hl hnews h1 h63 hbytes hbase;refine⟨v',w',hr,h2,h3,h5,?_⟩;subst hsize;subst hby;have hsmall:n+m<=9223372036854775807:=by simp only[maxLen]at h63;omega
 have hown0:=hown;rcases hown.2 with⟨rfl,rfl⟩ | ⟨g,cap,cur,rfl,hbg,hg,hnc,hcm,hcs,htake⟩
 ·have hx:xs=[]:=List.eq_nil_of_length_eq_zero (by simpa using hown.1)
  subst hx;exact World.ownsRow_nil _ _ _ _
 ·by_cases hroom:n+m<=cap
  ·have hfit:n*i.size+news.length<=cur.size:=by rw[hl,hcs,<- Nat.add_mul];exact Nat.mul_le_mul_right _ hroom
   have hr2:=run_append_room (P:=P) w t ty e i ht hi g n cap cur hg a m c news hl hnews h1 hroom hfit;rw[hr]at hr2;injection hr2 with _ e2;subst e2;refine⟨hown.1,.inr ⟨g,cap,_,rfl,hbg,setRow_heap w g cur _ e _ hg,hnc,hcm,?_,?_⟩⟩
   ·simp only[List.size_toArray,List.length_append,List.length_take,List.length_drop,Array.length_toList]
    omega
   ·rw[htake]
    show((xs++news)++_).take _=xs;rw[List.append_assoc,<- hown.1];exact List.take_left
  ·have holds:∀j u,xs[j]? = some u->w.cell? ((⟨g,0,none⟩:Addr).add j)=some u:=hown.cells (g:=g) rfl
   have hr2:=run_append_grow (P:=P) w t ty e i z ht hi hz ⟨g,0,none⟩ n cap xs hown.1 holds a m c news hl hnews (by omega) (by omega) (growslice_fits (by omega) hbytes);rw[hr]at hr2;injection hr2 with _ e2;subst e2;refine⟨hown.1,.inr ⟨g,cap,cur,rfl,hbg,?_,hnc,hcm,hcs,htake⟩⟩;have hlt:g<w.heap.size:=by
    rcases Nat.lt_or_ge g w.heap.size with k | k
    ·exact k
    ·rw[Array.getElem?_eq_none k]at hg
     cases hg
   rw[heap_alloc_old w.drew _ hlt];exact hg
theorem fL {o:Oper} {a:Act} {K:Act->World->Prop} {Q:Exit->Act->World->Prop} (s x:Operand) (t:TypeId)
  (ho:o.op = .call { callee:=.builtin .append,args:=#[s,x],argTypes:=#[t,t] })
  (base:Nat) (e:TypeId) (i:TypeInfo) (z:Value) (size bytes:Nat) (ht:P.underlying t=some (.slice e)) (hi:P.info? e=some i) (hz:i.zero=some z)
  (hsize:i.size=size) (hby:i.bytes=bytes) (hzs:z.cells.size=size) (hsz:0<size)
  (v:Value) (n:Nat) (xs:List Value) (hs:a.eval s=v) (hown:w.ownsRow base e size v n xs)
  (ad:Addr) (m c:Nat) (news:List Value) (hx:a.eval x = .slice (some ad) m c) (hl:news.length=m*size) (hnews:∀j u,news[j]? = some u->w.cell? (ad.add j)=some u) (h1:∀u∈news,u.oneCell'=true)
  (h63:n+m<=maxLen) (hbytes:(n+m)*bytes<=140737488355328) (hbase:base<=w.heap.size)
  (h:∀v' w',w'.ownsRow base e size v' (n+m) (xs++news)->w.grownBy w' v.ownBlock->(v'.ownBlock=v.ownBlock\/v'.ownBlock=some w.heap.size)->w'.ownsRow base e size v n xs->K (a.put o.dst v') w'):Oper.wp P o a w K Q:=by
 obtain⟨v',w',hr,h2,h3,h4,h5⟩:=kZ (P:=P) (w:=w) t o.type base e i z size bytes ht hi hz hsize hby hzs hsz v n xs hown ad m c news hl hnews h1 h63 hbytes hbase;unfold Oper.wp execOp;simp only[ho,resolve,invoke,builtin,Sem.run_bind,Sem.run_pure,Result.andThen_ok,List.map_toArray,List.map_cons,List.map_nil,hs,hx,hr];exact h v' w' h2 h3 h4 h5
theorem wZ {w1 w2:World} {base:Nat} {e:TypeId} {size:Nat} {v v':Value} {n m:Nat} {xs news:List Value} (hsz:0<size) (h:w1.ownsRow base e size v n xs) (h':w1.ownsRow base e size v' (n+m) (xs++news)) (h2:w2.ownsRow base e size v' (n+m) (xs++news)) (hb:v'.ownBlock=v.ownBlock):w2.ownsRow base e size v n xs:=by
 rcases h.2 with⟨rfl,rfl⟩ | ⟨g,cap,cur,rfl,hbg,hg,hnc,hcm,hcs,htake⟩
 ·have hx:xs=[]:=List.eq_nil_of_length_eq_zero (by simpa using h.1)
  subst hx;exact World.ownsRow_nil _ _ _ _
 ·rcases h'.2 with⟨rfl,_⟩ | ⟨g',cap',cur',rfl,_,hg',_,_,hcs',_⟩
  ·simp[Value.ownBlock]at hb
  ·have e1:g'=g:=by simpa[Value.ownBlock]using hb
   subst e1;rw[hg]at hg';injection hg' with e2;injection e2 with e3;subst e3;have O9:cap'=cap:=by
    have:cap'*size=cap*size:=by omega
    exact Nat.eq_of_mul_eq_mul_right hsz this
   subst O9;rcases h2.2 with⟨e4,_⟩ | ⟨g2,cap2,cur2,e4,_,hg2,_,_,hcs2,htake2⟩
   ·cases e4
   ·injection e4 with e5 _ e6
    injection e5 with e5;injection e5 with e5;subst e5 e6;refine⟨h.1,.inr ⟨_,_,cur2,rfl,hbg,hg2,hnc,hcm,hcs2,?_⟩⟩;have e7:cur2.toList.take (n*size)=((cur2.toList.take ((n+m)*size))).take (n*size):=by
     rw[List.take_take,Nat.min_eq_left (Nat.mul_le_mul_right _ (Nat.le_add_right n m))]
    rw[e7,htake2,<- h.1];exact List.take_left
open Sp Pa Te Mi De Tr
abbrev Acc:=List RuL×List FiL
def goW (f:Nat->List TmL->Acc->Option Acc) (ts:List TmL):List RuL->Acc->Option Acc
 | [],a=>some a
 | r::l,a=>if r.gs.length=0 then(f r.to_.toNat (ts++r.out) a).bind (goW f ts l)else goW f ts l a
def pz (RO:Nat->List RuL) (FO:Nat->List FiL) (p:Int):Nat->Nat->List TmL->Acc->Option Acc
 | 0,_,_,_=>none
 | n+1,q,ts,a=>(dZ p ts (RO q) a.1).bind fun L=>(fI p ts (FO q) a.2).bind fun F=>goW (pz RO FO p n) ts (RO q) (L,F)
theorem JV {f:Nat->List TmL->Acc->Option Acc} {ts:List TmL} {l:List RuL} {k:Nat} {a:Acc} {r:RuL} (hk:k<l.length) (hr:l[k]=r) (h0:r.gs.length≠0):goW f ts (l.drop k) a=goW f ts (l.drop (k+1)) a:=by
 conv=>lhs;rw[List.drop_eq_getElem_cons hk,hr]
 simp only[goW];rw[if_neg h0]
theorem G7 {f:Nat->List TmL->Acc->Option Acc} {ts:List TmL} {l:List RuL} {k:Nat} {a:Acc} {r:RuL} (hk:k<l.length) (hr:l[k]=r) (h0:r.gs.length=0):goW f ts (l.drop k) a=(f r.to_.toNat (ts++r.out) a).bind (goW f ts (l.drop (k+1))):=by
 conv=>lhs;rw[List.drop_eq_getElem_cons hk,hr]
 simp only[goW];rw[if_pos h0]
def jl (x bs:Nat) (wv:Value) (ts:List TmL) (vs:List Value) (w:World):Prop:=
 rG w bs wv ts.length vs/\∀(j:Nat) (h:j<ts.length),∃A c,bS vs j ts[j] A c/\RPp (fun b=>b<x) w A ts[j].ps/\ts[j].ps.length<=c/\ts[j].ps.length<=maxLen
section
variable {X:Nat->Prop} {x bs:Nat} {wv wv':Value} {ts:List TmL} {vs:List Value} {w w':World}
theorem jl.parts (h:jl x bs wv ts vs w) (hb:Below x w w') (ho:rG w' bs wv ts.length vs):jl x bs wv ts vs w':=by
 refine⟨ho,fun j hj=>?_⟩;obtain⟨A,c,h1,h2,h3,h4⟩:=h.2 j hj;exact⟨A,c,h1,h2.keep ⟨hb.size,fun b hp _=>hb.block b hp⟩ (fun b hp _=>hp),h3,h4⟩
theorem jl.rtp {A:Option Addr} {n c:Nat} (h:jl x bs (.slice A n c) ts vs w) (hX:∀g,(Value.slice A n c).ownBlock=some g->X g):RTp (fun b=>b<x\/X b) w A ts:=fun hn=>by
 obtain⟨ho,hc⟩:=h;obtain⟨g,cap,hv,_,hlt⟩:=World.ownsRow.form ho hn;injection hv with e1 e2 e3;subst e1 e2 e3;have hx:=hX g rfl;have cc:∀j r,j<ts.length->r<6->w.cell? ⟨g,0+j*6+r,none⟩=vs[j*6+r]?:=fun j r hj hr=>by
  rw[Nat.zero_add];exact World.ownsRow.cellAt ho (j*6+r) (by omega)
 refine⟨g,0,rfl,.inr hx,hlt,fun j hj=>?_⟩;obtain⟨A',c',⟨t0,t1,t2,t3,t4,t5⟩,h2,h3,h4⟩:=hc j hj;refine⟨by have:=cc j 0 hj (by omega);rw[Nat.add_zero]at this;rw[this];exact t0,by rw[cc j 1 hj (by omega)];exact t1,by rw[cc j 2 hj (by omega)];exact t2,by rw[cc j 3 hj (by omega)];exact t3,by rw[cc j 4 hj (by omega)];exact t4,A',c',by rw[cc j 5 hj (by omega)];exact t5,h2.keep ⟨Nat.le_refl _,fun _ _ _=>rfl⟩ (fun b hp _=>.inl hp),h3,h4⟩
theorem jl.more {us:List Value} {out:List TmL} (h:jl x bs wv ts vs w) (hb:Below x w w') (ho:rG w' bs wv' (ts++out).length (vs++us)) (hu:∀(j:Nat) (hj:j<out.length),∃A c,bS us j out[j] A c/\RPp (fun b=>b<x) w' A out[j].ps/\out[j].ps.length<=c/\out[j].ps.length<=maxLen):jl x bs wv' (ts++out) (vs++us) w':=by
 refine⟨ho,fun j hj=>?_⟩;have hvl:vs.length=ts.length*6:=h.1.1;rw[List.length_append]at hj;by_cases hlt:j<ts.length
 ·obtain⟨A,c,h1,h2,h3,h4⟩:=h.2 j hlt
  have e:(ts++out)[j]=ts[j]:=List.getElem_append_left hlt;rw[e];exact⟨A,c,yX h1,h2.keep ⟨hb.size,fun b hp _=>hb.block b hp⟩ (fun b hp _=>hp),h3,h4⟩
 ·obtain⟨A,c,h1,h2,h3,h4⟩:=hu (j-ts.length) (by omega)
  have e:(ts++out)[j]=out[j-ts.length]:=List.getElem_append_right (by omega);rw[e];have:=tT hvl h1;rw[show ts.length+(j-ts.length)=j by omega]at this;exact⟨A,c,this,h2,h3,h4⟩
end
def Mz (x:Nat) (v vf wv:Value) (w w':World):Prop:=w.heap.size<=w'.heap.size/\∀b,b<w.heap.size->b≠x->v.ownBlock≠some b->vf.ownBlock≠some b->wv.ownBlock≠some b->w'.heap[b]? = w.heap[b]?
structure WR (X:Nat->Prop) (bs x:Nat) (ru fi:Value) (i o n s:Int) (a:Acc) (v vf v' vf' wv:Value) (nt:Nat) (vs:List Value) (w w':World):Prop where
 fs:FS X bs x ru fi i o n s a.1 a.2 v' vf' w'
 kd:Mz x v vf wv w w'
 gr:∀g,v'.ownBlock=some g->v.ownBlock=some g\/w.heap.size<=g
 gf:∀g,vf'.ownBlock=some g->vf.ownBlock=some g\/w.heap.size<=g
 low:Below x w w'
 own:rG w' bs wv nt vs
 bl:a.1.length<=4096/\a.2.length<=4096
def rE (X:Nat->Prop) (bs x:Nat) (ru fi:Value) (i o n s:Int) (res:Option Acc) (v vf wv:Value) (nt:Nat) (vs:List Value) (w:World) (e:Ending) (w':World):Prop:=
 (res=none/\e = .returned (.bool false)/\Below x w w')\/(∃a v' vf',res=some a/\e = .returned (.bool true)/\WR X bs x ru fi i o n s a v vf v' vf' wv nt vs w w')
def EW (f:Nat->List TmL->Acc->Option Acc) (X:Nat->Prop) (bs x:Nat) (ru fi:Value) (i o n s:Int) (ts:List TmL) (rs:List RuL) (res:Option Acc) (v vf wv:Value) (vs:List Value) (w:World) (iv:Value) (wr:World):Prop:=
 ∃(k:Nat) (a:Acc) (v' vf':Value),k<=rs.length/\iv = .int .i64 (k:Int)/\goW f ts (rs.drop k) a=res/\WR X bs x ru fi i o n s a v vf v' vf' wv ts.length vs w wr
section
variable {X:Nat->Prop} {x bs:Nat} {ru fi:Value} {i o n s:Int} {a a2:Acc} {F:List FiL} {L0:List RuL} {ts:List TmL} {v vf v' vf' v2 vf2 wv wv2:Value} {nt mt:Nat} {vs us:List Value} {w w' w'' w1 w2:World}
theorem WR.FB {L0:List RuL} {F0:List FiL} (h:WR X bs x ru fi i o n s a v vf v' vf' wv nt vs w w') (h0:FS X bs x ru fi i o n s L0 F0 v vf w) (hbs:bs<=w.heap.size) (hw:∀g,wv.ownBlock=some g->bs<=g):∀b,b<bs->b≠x->w'.heap[b]? = w.heap[b]?:=fun b hb hx=>
 h.kd.2 b (by omega) hx (fun e=>by obtain⟨vs0,q0,_⟩:=h0.rules;have:=(World.ownsRow.lt q0 b e).1;omega) (fun e=>by obtain⟨vs0,q0,_⟩:=h0.finals;have:=(World.ownsRow.lt q0 b e).1;omega) (fun e=>by have:=hw b e;omega)
theorem WR.keep (h:WR X bs x ru fi i o n s a v vf v' vf' wv nt vs w w') (hb:Below w'.heap.size w' w''):WR X bs x ru fi i o n s a v vf v' vf' wv nt vs w w'':=
 ⟨h.fs.keep hb,⟨Nat.le_trans h.kd.1 hb.size,fun b h1 h2 h3 h4 h5=>(hb.block b (Nat.lt_of_lt_of_le h1 h.kd.1)).trans (h.kd.2 b h1 h2 h3 h4 h5)⟩,h.gr,h.gf,h.low.trans (hb.mono (Nat.le_of_lt h.fs.box.lt)),au h.own fun g e=>hb.block g (World.ownsRow.lt h.own g e).2,h.bl⟩
theorem WR.first (h1:FR X bs x ru fi i o n s a.1 F v vf v' vf w w1) (h2:FR X bs x ru fi i o n s a.1 a.2 v' vf v' vf' w1 w2) (hb:a.1.length<=4096/\a.2.length<=4096) (hT:jl x bs wv ts vs w) (hX:∀g,wv.ownBlock=some g->X g) (h0:FS X bs x ru fi i o n s L0 F v vf w):WR X bs x ru fi i o n s a v vf v' vf' wv ts.length vs w w2:=by
 have hsz:=h1.kd.1;have hfin:∀g,vf.ownBlock=some g->g<w.heap.size:=fun g e=>by
  obtain⟨vs0,q0,_⟩:=h0.finals;exact(World.ownsRow.lt q0 g e).2
 have hkd:tM x v vf w w2:=h1.kd.trans h2.kd (fun g e=>h1.gr g e) (fun g e=>.inl e);refine⟨h2.fs,⟨hkd.1,fun b q1 q2 q3 q4 _=>hkd.2 b q1 q2 q3 q4⟩,fun g e=>h1.gr g e,fun g e=>?_,h1.low.trans h2.low,?_,hb⟩
 ·rcases h2.gf g e with q | q
  ·exact .inl q
  ·exact .inr (by omega)
 ·refine au hT.1 fun g e=>hkd.2 g (World.ownsRow.lt hT.1 g e).2 (fun q=>?_) (fun q=>h0.vx g q (hX g e)) (fun q=>h0.vfx g q (hX g e))
  have:=(World.ownsRow.lt hT.1 g e).1;have:=h0.low;omega
def XX (X:Nat->Prop) (wv:Value):Nat->Prop:=fun b=>X b\/wv.ownBlock=some b
theorem FS.grown {L:List RuL} (h:FS X bs x ru fi i o n s L F v vf w) (hg:w.grownBy w' wv.ownBlock) (hX:∀g,wv.ownBlock=some g->X g) (hXb:∀b,X b->bs<=b) (hat:wv2.ownBlock=wv.ownBlock\/wv2.ownBlock=some w.heap.size) (hlt:∀g,wv2.ownBlock=some g->g<w'.heap.size):FS (XX X wv2) bs x ru fi i o n s L F v vf w':=by
 have hlow:=h.low;have hne:∀b,¬ X b->b<w.heap.size->w'.heap[b]? = w.heap[b]?:=fun b hb hl=>hg.block b hl fun e=>hb (hX b e.symm)
 have hxx:∀b,¬ X b->b<w.heap.size->¬ XX X wv2 b:=fun b hb hl=>by
  rintro(k | k)
  ·exact hb k
  ·rcases hat with e | e
   ·rw[e]at k;exact hb (hX b k)
   ·rw[e]at k;injection k with k;omega
 have ho1:∀g,v.ownBlock=some g->g<w.heap.size:=fun g e=>by
  obtain⟨vs0,q0,_⟩:=h.rules;exact(World.ownsRow.lt q0 g e).2
 have ho2:∀g,vf.ownBlock=some g->g<w.heap.size:=fun g e=>by
  obtain⟨vs0,q0,_⟩:=h.finals;exact(World.ownsRow.lt q0 g e).2
 refine⟨h.box.keep (hne x (fun k=>by have:=hXb x k;omega) h.box.lt),h.rules.keep hg.size (fun g e=>hne g (h.vx g e) (ho1 g e)) (fun b hb _ hl=>hne b hb.1.2 hl) (fun b hb hl=>⟨⟨hb.1.1,hxx b hb.1.2 hl⟩,hb.2⟩),h.finals.keep hg.size (fun g e=>hne g (h.vfx g e) (ho2 g e)) (fun b hb _ hl=>hne b hb.1.2 hl) (fun b hb hl=>⟨⟨hb.1.1,hxx b hb.1.2 hl⟩,hb.2⟩),h.apart,h.low,fun g e=>hxx g (h.vx g e) (ho1 g e),fun g e=>hxx g (h.vfx g e) (ho2 g e),fun b hb=>?_,h.nr.keep fun g e=>hne g (h.vx g e) (ho1 g e),h.nf.keep fun g e=>hne g (h.vfx g e) (ho2 g e)⟩
 ·rcases hb with k | k
  ·exact Nat.lt_of_lt_of_le (h.xlt b k) hg.size
  ·exact hlt b k
theorem FS.less {L:List RuL} (h:FS (XX X wv) bs x ru fi i o n s L F v vf w):FS X bs x ru fi i o n s L F v vf w:=
 ⟨h.box,h.rules.keep (Nat.le_refl _) (fun _ _=>rfl) (fun _ _ _ _=>rfl) (fun _ hb _=>⟨⟨hb.1.1,fun k=>hb.1.2 (.inl k)⟩,hb.2⟩),h.finals.keep (Nat.le_refl _) (fun _ _=>rfl) (fun _ _ _ _=>rfl) (fun _ hb _=>⟨⟨hb.1.1,fun k=>hb.1.2 (.inl k)⟩,hb.2⟩),h.apart,h.low,fun g e k=>h.vx g e (.inl k),fun g e k=>h.vfx g e (.inl k),fun b hb=>h.xlt b (.inl hb),h.nr,h.nf⟩
theorem WR.next (h:WR X bs x ru fi i o n s a v vf v' vf' wv nt vs w w') (hg:w'.grownBy w1 wv.ownBlock) (hX:∀g,wv.ownBlock=some g->X g) (hat:wv2.ownBlock=wv.ownBlock\/wv2.ownBlock=some w'.heap.size) (ho:rG w1 bs wv nt vs) (ho2:rG w1 bs wv2 (nt+mt) (vs++us))
  (hr:WR (XX X wv2) bs x ru fi i o n s a2 v' vf' v2 vf2 wv2 (nt+mt) (vs++us) w1 w2):WR X bs x ru fi i o n s a2 v vf v2 vf2 wv nt vs w w2:=by
 have hlow:=h.fs.low;have hs1:=h.kd.1;have hs2:=hg.size;have hs3:=hr.kd.1;have hwv:∀g,wv.ownBlock=some g->bs<=g/\g<w'.heap.size:=fun g e=>World.ownsRow.lt h.own g e
 have hxg:x<w'.heap.size:=h.fs.box.lt;have hlw:Below x w w1:=⟨hg.os.trans h.low.os,hg.tape.trans h.low.tape,hg.output.trans h.low.output,Nat.le_trans hs1 hs2,fun b hb=>(hg.block b (by omega) (fun e=>by have:=(hwv b e.symm).1;omega)).trans (h.low.block b hb)⟩;refine⟨hr.fs.less,⟨by omega,fun b q1 q2 q3 q4 q5=>?_⟩,fun g e=>?_,fun g e=>?_,hlw.trans hr.low,?_,hr.bl⟩
 ·rw[hr.kd.2 b (by omega) q2 (fun e=>by rcases h.gr b e with k | k;exact q3 k;omega) (fun e=>by rcases h.gf b e with k | k;exact q4 k;omega) (fun e=>by
   rcases hat with k | k
   ·exact q5 (k.symm.trans e)
   ·rw[k]at e;injection e with e;omega),hg.block b (by omega) (fun e=>q5 e.symm)]
  exact h.kd.2 b q1 q2 q3 q4 q5
 ·rcases hr.gr g e with k | k
  ·exact h.gr g k
  ·exact .inr (by omega)
 ·rcases hr.gf g e with k | k
  ·exact h.gf g k
  ·exact .inr (by omega)
 ·rcases hat with k | k
  ·exact wZ (by decide) ho ho2 hr.own k
  ·refine au ho fun g e=>?_
   have h1:=hwv g e;have hrow1:∀g,v'.ownBlock=some g->¬ X g:=h.fs.vx;have hrow2:∀g,vf'.ownBlock=some g->¬ X g:=h.fs.vfx;exact hr.kd.2 g (by omega) (by omega) (fun q=>hrow1 g q (hX g e)) (fun q=>hrow2 g q (hX g e)) (fun q=>by rw[k]at q;injection q with q;omega)
end
end Go.Proofs.YtbdmcibcenhpnaaGreatDoor.Ep
