import Derived.Test.YtbdmcibcenhpnaaGreatDoorF0
import Derived.Test.YtbdmcibcenhpnaaGreatDoorF39
import Derived.Deep.Slices
set_option maxRecDepth 100000
namespace Go.Proofs.YtbdmcibcenhpnaaGreatDoor.Ep
open Go Go.RowKit Go.Deep Sp Pa Te Mi De Tr Lt
structure jQ (w:World) (r:RuL) (x:bZ):Prop where
 frm:(x.frm:Int)=r.frm
 to_:x.to_=r.to_
 eat:x.eat=r.eat
 gn:x.gn=r.gs.length
 tn:x.tn=r.out.length
 gs:RGs w x.GA r.gs.length r.gs
 gc:r.gs.length<=x.gc/\r.gs.length<=maxLen/\∀g∈r.gs,g.length<=maxLen
 out:RTm w x.TA r.out.length r.out
 tc:r.out.length<=x.tc/\r.out.length<=maxLen/\rN r.eat
structure rI (w:World) (r:FiL) (x:gu):Prop where
 frm:(x.frm:Int)=r.frm
 gn:x.gn=r.gs.length
 tn:x.tn=r.out.length
 gs:RGs w x.GA r.gs.length r.gs
 gc:r.gs.length<=x.gc/\r.gs.length<=maxLen/\∀g∈r.gs,g.length<=maxLen
 out:RTm w x.TA r.out.length r.out
 tc:r.out.length<=x.tc/\r.out.length<=maxLen
theorem qm {w:World} {A:Option Addr} {rs:List RuL} (h:RRu w A rs.length rs) (hf:∀r∈rs,0<=r.frm) :
  ∃P:List (RuL×bZ),P.map (·.1)=rs/\RK 5 mD w A (P.map (·.2))/\∀p∈P,jQ w p.1 p.2:=by
 rcases Nat.eq_zero_or_pos rs.length with h0 | h0
 ·exact⟨[],by simp[List.eq_nil_of_length_eq_zero h0],fun hn=>absurd hn (by simp),fun p hp=>by cases hp⟩
 obtain⟨b,off,hA,hb,hc⟩:=h.2 h0;have key:∀j,∃p:RuL×bZ,∀hj:j<rs.length,p.1=rs[j]/\jQ w p.1 p.2/\∀r,r<5->w.cell? ⟨b,off+j*5+r,none⟩=(mD p.2)[r]?:=fun j=>by
  by_cases hj:j<rs.length
  ·obtain⟨h1,h2,h3,⟨A',c',h4,h5,h6,h7,h8⟩,A2,c2,h9,h10,h11,h12,h13⟩:=hc j hj
   have hfr:=hf _ (List.getElem_mem hj);refine⟨(rs[j],⟨rs[j].frm.toNat,rs[j].to_,A',rs[j].gs.length,c',rs[j].eat,A2,rs[j].out.length,c2⟩),fun _=>⟨rfl,⟨by simp only;omega,rfl,rfl,rfl,rfl,h5,⟨h6,h7,h8⟩,h10,⟨h11,h12,h13⟩⟩,fun r hr=>?_⟩⟩;have e1:((rs[j].frm.toNat:Nat):Int)=rs[j].frm:=by omega
   rcases (show r=0\/r=1\/r=2\/r=3\/r=4 by omega)with rfl | rfl | rfl | rfl | rfl
   ·rw[Nat.add_zero,h1];simp only[mD,e1];rfl
   ·exact h2
   ·exact h4
   ·exact h3
   ·exact h9
  ·exact⟨(⟨0,0,[],0,[]⟩,⟨0,0,none,0,0,0,none,0,0⟩),fun q=>absurd q hj⟩
 let F:=fun j=>Classical.choose (key j)
 have hF:∀j (hj:j<rs.length),(F j).1=rs[j]/\jQ w (F j).1 (F j).2/\∀r,r<5->w.cell? ⟨b,off+j*5+r,none⟩=(mD (F j).2)[r]?:=fun j hj=>Classical.choose_spec (key j) hj
 refine⟨(List.range rs.length).map F,?_,fun _=>⟨b,off,hA,hb,fun j hj r hr=>?_⟩,fun p hp=>?_⟩
 ·refine List.ext_getElem (by simp) fun j h1 h2=>?_
  simp only[List.getElem_map,List.getElem_range];exact(hF j h2).1
 ·simp only[List.length_map,List.length_range]at hj
  simp only[List.getElem_map,List.getElem_range];exact(hF j hj).2.2 r hr
 ·obtain⟨j,hj,rfl⟩:=List.mem_map.1 hp
  exact(hF j (List.mem_range.1 hj)).2.1
theorem wT {w:World} {A:Option Addr} {fs:List FiL} (h:RFi w A fs.length fs) (hf:∀r∈fs,0<=r.frm) :
  ∃P:List (FiL×gu),P.map (·.1)=fs/\RK 3 sU w A (P.map (·.2))/\∀p∈P,rI w p.1 p.2:=by
 rcases Nat.eq_zero_or_pos fs.length with h0 | h0
 ·exact⟨[],by simp[List.eq_nil_of_length_eq_zero h0],fun hn=>absurd hn (by simp),fun p hp=>by cases hp⟩
 obtain⟨b,off,hA,hb,hc⟩:=h.2 h0;have key:∀j,∃p:FiL×gu,∀hj:j<fs.length,p.1=fs[j]/\rI w p.1 p.2/\∀r,r<3->w.cell? ⟨b,off+j*3+r,none⟩=(sU p.2)[r]?:=fun j=>by
  by_cases hj:j<fs.length
  ·obtain⟨h1,⟨A',c',h4,h5,h6,h7,h8⟩,A2,c2,h9,h10,h11,h12⟩:=hc j hj
   have hfr:=hf _ (List.getElem_mem hj);refine⟨(fs[j],⟨fs[j].frm.toNat,A',fs[j].gs.length,c',A2,fs[j].out.length,c2⟩),fun _=>⟨rfl,⟨by simp only;omega,rfl,rfl,h5,⟨h6,h7,h8⟩,h10,⟨h11,h12⟩⟩,fun r hr=>?_⟩⟩;have e1:((fs[j].frm.toNat:Nat):Int)=fs[j].frm:=by omega
   rcases (show r=0\/r=1\/r=2 by omega)with rfl | rfl | rfl
   ·rw[Nat.add_zero,h1];simp only[sU,e1];rfl
   ·exact h4
   ·exact h9
  ·exact⟨(⟨0,[],[]⟩,⟨0,none,0,0,none,0,0⟩),fun q=>absurd q hj⟩
 let F:=fun j=>Classical.choose (key j)
 have hF:∀j (hj:j<fs.length),(F j).1=fs[j]/\rI w (F j).1 (F j).2/\∀r,r<3->w.cell? ⟨b,off+j*3+r,none⟩=(sU (F j).2)[r]?:=fun j hj=>Classical.choose_spec (key j) hj
 refine⟨(List.range fs.length).map F,?_,fun _=>⟨b,off,hA,hb,fun j hj r hr=>?_⟩,fun p hp=>?_⟩
 ·refine List.ext_getElem (by simp) fun j h1 h2=>?_
  simp only[List.getElem_map,List.getElem_range];exact(hF j h2).1
 ·simp only[List.length_map,List.length_range]at hj
  simp only[List.getElem_map,List.getElem_range];exact(hF j hj).2.2 r hr
 ·obtain⟨j,hj,rfl⟩:=List.mem_map.1 hp
  exact(hF j (List.mem_range.1 hj)).2.1
def fN (rs:List RuL) (q:Nat):List Nat:=(rs.filter fun r=>(r.gs.length == 0) && decide (r.frm=(q:Int))).map fun r=>r.to_.toNat
theorem tV {w:World} {P:List (RuL×bZ)} (h:∀p∈P,jQ w p.1 p.2) (q:Nat):ez (byL bZ.frm (P.map (·.2))) q=fN (P.map (·.1)) q:=by
 unfold ez fN byL;rw[List.filter_filter]
 induction P with
 | nil=>rfl
 | cons p P ih=>
  have hp:=h p (by simp);have ih:=ih fun x hx=>h x (by simp[hx])
  have e1:(p.2.gn == 0)=(p.1.gs.length == 0):=by rw[hp.gn]
  have e2:(p.2.frm == q)=decide (p.1.frm=(q:Int)):=by
   rw[<- hp.frm];by_cases z:p.2.frm=q
   ·simp[z]
   ·have : ¬ ((p.2.frm:Int)=(q:Int)):=by omega
    simp[z,this]
  simp only[List.map_cons,List.filter_cons,e1,e2]
  split
  ·rw[List.map_cons,List.map_cons,ih,hp.to_]
  ·exact ih
theorem iL {rs:List RuL} {x t:Nat} (h:t∈fN rs x):(x,t)∈bF rs:=by
 unfold fN at h;obtain⟨r,hr,rfl⟩:=List.mem_map.1 h;obtain⟨h1,h2⟩:=List.mem_filter.1 hr;simp only[Bool.and_eq_true,decide_eq_true_eq,beq_iff_eq]at h2;unfold bF;refine List.mem_map.2 ⟨r,List.mem_filter.2 ⟨h1,?_⟩,?_⟩
 ·unfold De.yG
  simpa using List.eq_nil_of_length_eq_zero h2.1
 ·unfold edg
  rw[h2.2];simp
end Go.Proofs.YtbdmcibcenhpnaaGreatDoor.Ep
namespace Go.Proofs.YtbdmcibcenhpnaaGreatDoor.Lt
theorem Laid.ahead {succ:Nat->List Nat} {O:List Nat} (h:Laid succ O) {k:Nat} (hk:k<O.length):∀t∈succ O[k],t∈O.take k:=
 h.ord (O.take k) O[k] (O.drop (k+1)) (by
  conv=>lhs;rw[<- List.take_append_drop k O]
  rw[List.drop_eq_getElem_cons hk])
theorem Laid.fresh {succ:Nat->List Nat} {O:List Nat} (h:Laid succ O) {k:Nat} (hk:k<O.length):O[k]∉O.take k:=fun hm=>by
 obtain⟨j,hj,e⟩:=List.getElem_of_mem hm;rw[List.getElem_take]at e;rw[List.length_take]at hj;have:=(List.getElem_inj h.nodup).1 e;omega
theorem oA {c:Nat->Nat} : ∀{l:List Nat} {x:Nat},x∈l->c x<=iy c l:=by
 intro l
 induction l with
 | nil=>intro x h;cases h
 | cons a l ih=>
  intro x h;unfold iy at ih ⊢;rw[List.map_cons,List.sum_cons];rcases List.mem_cons.1 h with rfl | h
  ·omega
  ·have:=ih h
   omega
theorem mV {c:Nat->Nat} {b:Nat} : ∀{l:List Nat},(∀x∈l,c x<=b)->iy c l<=l.length*b:=by
 intro l
 induction l with
 | nil=>intro _;simp[iy]
 | cons a l ih=>
  intro h;have h1:=ih fun x hx=>h x (by simp[hx])
  have h2:=h a (by simp);unfold iy at h1 ⊢;rw[List.map_cons,List.sum_cons,List.length_cons,Nat.succ_mul];omega
end Go.Proofs.YtbdmcibcenhpnaaGreatDoor.Lt
namespace Go.Proofs.YtbdmcibcenhpnaaGreatDoor.Ep
open Go Go.RowKit Go.Deep Sp Pa Te Mi De Tr Lt
theorem Dd (rows:Nat->List bZ) (q:Nat):(ez rows q).length<=(rows q).length:=by
 unfold ez;rw[List.length_map];exact List.length_filter_le _ _
theorem zm {l:List bZ} {k t:Nat} (h:t∈fM l k):t∈((l.filter fun r=>r.gn == 0).map fun r=>r.to_.toNat):=by
 unfold fM at h;obtain⟨r,h1,h2⟩:=List.mem_map.1 h;obtain⟨h3,h4⟩:=List.mem_filter.1 h1;exact List.mem_map.2 ⟨r,List.mem_filter.2 ⟨List.mem_of_mem_take h3,h4⟩,h2⟩
theorem zn (l:List bZ) (k:Nat):(fM l k).length<=k:=by
 unfold fM;rw[List.length_map];have:=List.length_filter_le (fun r:bZ=>r.gn == 0) (l.take k);rw[List.length_take]at this;omega
theorem Jw {rs:List RuL} {P:List (RuL×bZ)} {N gR:Nat} {w0 w:World} (hP:P.map (·.1)=rs) (hI:∀p∈P,jQ w0 p.1 p.2) (hl:rs.length<=4096)
  (hr:∀r∈rs,0<=r.frm/\r.frm<N/\0<=r.to_/\r.to_<N) (hc:jo (bF rs) N=false) (hN:N<=1024)
  (ho:cI 5 mD 23 43 w gR (gR+1) N (byL bZ.frm (P.map (·.2)))) :
  Cp (byL bZ.frm (P.map (·.2))) (rkE (bF rs) N) gR w.heap.size N w:=by
 refine⟨ho,rfl,fun q _ r hm=>?_,fun q _=>?_,fun x t ht=>?_,by omega⟩
 ·obtain⟨p,hp,rfl⟩:=List.mem_map.1 (List.mem_filter.1 hm).1
  have:=hr p.1 (by rw[<- hP];exact List.mem_map.2 ⟨p,hp,rfl⟩);rw[(hI p hp).to_];exact this.2.2
 ·have h1:=List.length_filter_le (fun x:bZ=>x.frm == q) (P.map (·.2))
  have h2:(P.map (·.2)).length=rs.length:=by rw[<- hP];simp
  unfold byL;omega
 ·rw[tV hI,hP]at ht
  exact j9 hc (iL ht)
def xU (N:Nat) (f:Nat->Nat):List Value:=(List.range N).map fun x=>Value.int .i64 (f x:Int)
def CM (f:Nat->Nat) (q v:Nat):Nat->Nat:=fun x=>if x=q then v else f x
structure WS (F N:Nat) (f:Nat->Nat) (w3 w5 w:World):Prop where
 row:w.heap[F]? = some (.cells (xU N f).toArray 3 (0,0))
 low:Below F w3 w
 behind:∀x,F<x->x<w5.heap.size->w.heap[x]? = w5.heap[x]?
 size:w5.heap.size<=w.heap.size
section
variable {F N:Nat} {f:Nat->Nat} {w3 w5 w w':World}
theorem WS.lt (h:WS F N f w3 w5 w):F<w.heap.size:=by
 by_cases q:F<w.heap.size
 ·exact q
 ·have:=h.row
  rw[Array.getElem?_eq_none (by omega)]at this
  cases this
theorem WS.keep (h:WS F N f w3 w5 w) (hb:Below w.heap.size w w'):WS F N f w3 w5 w':=
 ⟨(hb.block F h.lt).trans h.row,h.low.trans (hb.mono (by have:=h.lt;omega)),fun x h1 h2=>(hb.block x (by have:=h.size;omega)).trans (h.behind x h1 h2),by have:=hb.size;have:=h.size;omega⟩
theorem WS.cell (h:WS F N f w3 w5 w) {q:Nat} (hq:q<N):w.cell? ⟨F,q,none⟩=some (.int .i64 (f q:Int)):=by
 rw[cell_of_row w F q _ _ _ h.row];simp[xU,hq]
theorem WS.frozen (h:WS F N f w3 w5 w) (q:Nat):w.frozen? ⟨F,q,none⟩=false:=eV h.row
theorem WS.set (h:WS F N f w3 w5 w) (q v:Nat):WS F N (CM f q v) w3 w5 (w.setCell ⟨F,q,none⟩ (.int .i64 (v:Int))):=by
 have ho:∀x,x≠F->(w.setCell ⟨F,q,none⟩ (.int .i64 (v:Int))).heap[x]? = w.heap[x]?:=fun x hx=>heap_setCell_other w ⟨F,q,none⟩ x _ hx
 refine⟨?_,h.low.setCell (p:=⟨F,q,none⟩) (Nat.le_refl _) _,fun x h1 h2=>(ho x (by omega)).trans (h.behind x h1 h2),by simpa using h.size⟩;rw[heap_setCell_same w F q _ _ _ h.row]
 congr 2
 unfold xU;rw[List.setIfInBounds_toArray]
 congr 1
 refine List.ext_getElem (by simp) fun j h1 h2=>?_
 rw[List.getElem_set];simp only[List.getElem_map,List.getElem_range,CM];by_cases e:q=j
 ·simp[e]
 ·have : ¬ j=q:=fun z=>e z.symm
  simp[e,this]
end
def J9 (cn:Nat->Nat) (F N:Nat) (O:List Nat) (w3 w5:World) (all iv:Value) (wr:World):Prop:=
 ∃(k:Nat) (f:Nat->Nat),k<=O.length/\iv = .int .i64 (k:Int)/\(∃a:Nat,a=iy cn (O.take k)/\a<=4096/\all = .int .i64 (a:Int))/\(∀x∈O.take k,f x=cn x)/\WS F N f w3 w5 wr
def Hw (cn:Nat->Nat) (rq:List bZ) (F N q:Nat) (S:List Nat) (w3 w5:World) (iv:Value) (wr:World):Prop:=
 ∃(k:Nat) (f:Nat->Nat),k<=rq.length/\iv = .int .i64 (k:Int)/\f q=1+iy cn (fM rq k)/\(∀x∈S,f x=cn x)/\WS F N f w3 w5 wr
def tH (n:Nat) (w:World) (e:Ending) (w':World):Prop:=
 Below w.heap.size w w'/\((n<=4096/\e = .returned (.tuple #[.int .i64 (n:Int),.int .i64 0]))\/(4096<n/\e = .returned (.tuple #[.int .i64 0,.int .i64 4])))
end Go.Proofs.YtbdmcibcenhpnaaGreatDoor.Ep
namespace Go.Proofs.YtbdmcibcenhpnaaGreatDoor.Ep
set_option maxHeartbeats 64000000
open Go Go.RowKit Go.Deep Sp Pa Te Mi De Tr Lt
open Go.Lib (hid)
theorem Gf (i o:Int) (N:Nat) (s:Int) (A:Option Addr) (cr:Nat) (B:Option Addr) (m cf:Nat) (rs:List RuL) (P:List (RuL×bZ)) (w:World)
  (hP:P.map (·.1)=rs) (hK:RK 5 mD w A (P.map (·.2))) (hI:∀p∈P,jQ w p.1 p.2) (hl:rs.length<=4096)
  (hr:∀r∈rs,0<=r.frm/\r.frm<N/\0<=r.to_/\r.to_<N) (hc:jo (bF rs) N=false) (hN:1<=N/\N<=1024)
  (hC:∀W,Below w.heap.size w W->Calls Tryz.prog 15 #[dsc i o (N:Int) s A rs.length cr B m cf] W (Kj 0 W)) :
  Calls Tryz.prog 8 #[dsc i o (N:Int) s A rs.length cr B m cf] w (tH (iy (cnt (fN rs) (rkE (bF rs) N)) (List.range N)) w):=by
 obtain⟨hN1,hN2⟩:=hN;obtain⟨R,hR⟩:∃R,P.map (·.2)=R:=⟨_,rfl⟩;have hRl:rs.length=R.length:=by rw[<- hP,<- hR];simp
 rw[hR]at hK;obtain⟨rows,hrows⟩:∃rows,byL bZ.frm R=rows:=⟨_,rfl⟩;have hsucc:ez rows=fN rs:=by
  funext q
  rw[<- hrows,<- hR,tV hI,hP]
 obtain⟨rk,hrk⟩:∃rk,rkE (bF rs) N=rk:=⟨_,rfl⟩;rw[<- hsucc,hrk];obtain⟨cn,hcn⟩:∃cn,cnt (ez rows) rk=cn:=⟨_,rfl⟩;rw[hcn];have HCQ:=hid (show∀q,cn q=1+iy cn (ez rows q)from fun q=>by
  rw[<- hcn];exact BW (fun x t ht=>by
   rw[hsucc]at ht;rw[<- hrk];exact j9 hc (iL ht)) q)
 have HFR:=hid (show∀x∈R,x.frm<N from fun x hx=>by
  rw[<- hR]at hx;obtain⟨p,hp,rfl⟩:=List.mem_map.1 hx;have h1:=hr p.1 (by rw[<- hP];exact List.mem_map.2 ⟨p,hp,rfl⟩);have h2:=(hI p hp).frm;omega)
 have HLR:=hid (show∀(gR:Nat) (W:World),cI 5 mD 23 43 W gR (gR+1) N rows->Cp rows rk gR W.heap.size N W from fun gR W ho=>by
  have:=Jw (gR:=gR) (w:=W) hP hI hl hr hc (by omega) (by rw[hR,hrows];exact ho);rw[hR,hrows,hrk]at this;exact this)
 rw[hRl]at hC hl ⊢;obtain⟨w1,hw1⟩:∃w1,w.alloc (.cells #[.int .i64 i,.int .i64 o,.int .i64 (N:Int),.int .i64 s,.slice A R.length cr,.slice B m cf] 26)=w1:=⟨_,rfl⟩;have hs1:w1.heap.size=w.heap.size+1:=by rw[<- hw1];simp
 have hb1:Below w.heap.size w w1:=by rw[<- hw1];exact(Below.refl _ _).alloc (Nat.le_refl _) _
 have hq1:Blk w1 w.heap.size 26 #[.int .i64 i,.int .i64 o,.int .i64 (N:Int),.int .i64 s,.slice A R.length cr,.slice B m cf]:=by rw[<- hw1];exact heap_alloc_new w _
 have HB1:=hid hb1;have HQD:=hid (fun W (h:Below w1.heap.size w1 W)=>show Blk W w.heap.size 26 #[.int .i64 i,.int .i64 o,.int .i64 (N:Int),.int .i64 s,.slice A R.length cr,.slice B m cf]from hq1.below h (by omega));have HCK:=hid (hC w1 hb1);have HK:=hid (hK.below hb1);have k0:=hq1.cell 0;have k1:=hq1.cell 1;have k2:=hq1.cell 2;have k3:=hq1.cell 3;have k4:=hq1.cell 4;have k5:=hq1.cell 5;simp only[sD,sE,sF]at k0 k1 k2 k3 k4 k5;have MJ:=hid hrows;clear hP hK hI hr hc hC hR hRl hsucc hrk hcn hrows hq1 hb1;go_enter Tryz.func8,Tryz.ntmps8;go_wp2_with (fail);refine HCK.out.mono ?_;rintro e w2 ⟨rfl,hb2⟩;have hq2:=HQD.out w2 hb2;have H2:=hid (HB1.out.trans (hb2.mono (by omega)):Below w.heap.size w w2);have HB2:=hid hb2;have HK2:=hid (HK.out.below hb2);clear k0 k1 k2 k3 k4 k5;have k2:=hq2.cell 2;have k4:=hq2.cell 4;simp only[sD,sE,sF]at k2 k4;have hsz2:=hb2.size;clear hq2 hb2;go_wp2_with (fail);refine(Ch A cr R N w2 HK2.out (by omega) ⟨hN1,by omega⟩ HFR.out).mono ?_;rintro e w3 ⟨rfl,hoy,hb3⟩;rw[MJ.out]at hoy;have hsz3:=hb3.size;have HOY:=hid hoy;have HG:=hid (hoy.at_ (q:=0) hN1);have h13:Below w1.heap.size w1 w3:=HB2.out.trans (hb3.mono hsz2);have H3:=hid (H2.out.trans (hb3.mono (by omega)):Below w.heap.size w w3);have hq3:=HQD.out w3 h13;clear k2 k4;have k2:=hq3.cell 2;simp only[sD,sE,sF]at k2;obtain⟨F,hF⟩:∃F,w3.heap.size=F:=⟨_,rfl⟩;obtain⟨w4,hw4⟩:∃w4,w3.alloc (.cells (madeCells #[.int .i64 0] N) 3)=w4:=⟨_,rfl⟩;have hmk:=run_make_row' (P:=Tryz.prog) 56 3 (.int .i64 0) 8 Tryz.underlying56 uR rfl .i64 .i64 N (by omega) (by omega) w3;rw[hw4]at hmk;rw[hF]at hmk;have hs4:w4.heap.size=F+1:=by rw[<- hw4,<- hF];simp
 have hb4:Below F w3 w4:=by rw[<- hw4,<- hF];exact(Below.refl _ _).alloc (Nat.le_refl _) _
 have hk4:w4.heap[F]? = some (.cells (xU N fun _=>0).toArray 3 (0,0)):=by
  rw[<- hw4,<- hF,show(xU N fun _=>0).toArray=madeCells #[.int .i64 0] N from by
   apply Array.ext';rw[toList_madeCells_one];unfold xU;exact List.ext_getElem (by simp) fun j h1 h2=>by simp]
  exact heap_alloc_new w3 _
 have HK4:=hid hk4;have HB4:=hid hb4;have HY4:=hid (HOY.out.below (w':=w4) (by rw[hF];exact hb4));have HFF:=hid hF;have HW4:=hid hw4;obtain⟨gR,hgR⟩:∃gR,w2.heap.size=gR:=⟨_,rfl⟩;rw[hgR]at HY4 HOY;rw[hgR];clear hoy hb3 h13 hq3 hb4 hk4;go_wp2_with (fail);refine(D9 (HLR.out gR w4 HY4.out) hN1).mono ?_;rintro e w5 ⟨O,v,rfl,hO,hlaid,hmem,hb5⟩;have hon:O.length=N:=by
  have:=(nE N O hlaid.nodup hmem).length_eq;simpa using this
 have Lb:=hid (zl (c:=cn) (nE N O hlaid.nodup hmem));obtain⟨gO,cO,hA,_⟩:=World.ownsRow.form hO (by omega);subst hA;have hgO:=World.ownsRow.lt hO gO rfl;have hsz5:=hb5.size;have h35:Below F w3 w5:=HB4.out.trans (hb5.mono (by omega));have HST:=hid (show WS F N (fun _=>0) w3 w5 w5 from⟨(hb5.block F (by omega)).trans HK4.out,h35,fun _ _ _=>rfl,Nat.le_refl _⟩);have HOC:=hid (show∀k (hk:k<O.length),w5.cell? ⟨gO,k,none⟩=some (.int .i64 (O[k]:Int))from fun k hk=>by
  have:=World.ownsRow.cellAt hO k (by omega);rw[this];simp[hk])
 have HGO:=hid hgO;have Kw:=hid hlaid;have Je:=hid hmem;have MP:=hid hon;have Ot:=hid (HLR.out gR w4 HY4.out);have HH3:=hid (show w.heap.size<=F by omega);have HS4:=hid hs4;have HS5:=hid hsz5;rw[hon];clear hon hO hlaid hmem hb5 h35 hmk hw4 hF hgR hs1 hsz2 hsz3 hs4 hsz5 k2 hgO hw1;go_wp2_with (fail)
 go_loopw [7,28] (fun all iv wr=>J9 cn F N O w3 w5 all iv wr) (fun _ iv _=>N-(intOf iv).toNat)
 case atStart=>exact⟨0,fun _=>0,Nat.zero_le _,rfl,⟨0,rfl,Nat.zero_le _,rfl⟩,fun x hx=>by simp at hx,HST.out⟩
 case round=>
  obtain⟨k,f,hk,rfl,⟨a,ha,ha4,rfl⟩,hf,hws⟩:=hrel;have hkN:k<=N:=by have:=MP.out;omega
  by_cases hlt0:k<N
  case neg=>
   have hkk:k=O.length:=by have:=MP.out;omega
   rw[hkk,List.take_length,Lb.out]at ha;have HFI:=hid (show tH (iy cn (List.range N)) w (.returned (.tuple #[.int .i64 (a:Int),.int .i64 0])) wr from⟨H3.out.trans (hws.low.mono HH3.out),.inl ⟨by omega,by rw[ha]⟩⟩);clear hf hws ha;go_wp2_with (fail);go_ret2;exact HFI.out
  have hlt:k<O.length:=by rw[MP.out];exact hlt0
  obtain⟨q,hq⟩:∃q,O[k]=q:=⟨_,rfl⟩;have hqN:q<N:=(Je.out q).1 (by rw[<- hq];exact List.getElem_mem hlt);have Bj:=Kw.out.ahead hlt;have hfresh:=Kw.out.fresh hlt;have htk:=zk (c:=cn) hlt;rw[hq]at Bj hfresh htk;have hco:wr.cell? ⟨gO,k,none⟩=some (.int .i64 (q:Int)):=by
   rw[<- hq,<- HOC.out k hlt];have h1:=hws.behind gO (by have:=HGO.out.1;have:=HS4.out;omega) HGO.out.2;simp only[World.cell?,h1]
  have hcf:=hws.cell hqN;have hff:=hws.frozen q;obtain⟨w6,hw6⟩:∃w6,wr.setCell ⟨F,q,none⟩ (.int .i64 1)=w6:=⟨_,rfl⟩;have I5:WS F N (CM f q 1) w3 w5 w6:=by rw[<- hw6];exact hws.set q 1
  obtain⟨Aq,cq,NV,_,hgl,hown⟩:=HOY.out.at_ hqN;have hcq:w6.cell? ⟨gR,q,none⟩=some (.slice Aq (rows q).length cq):=(I5.low.cell (p:=⟨gR,q,none⟩) (by rw[<- HFF.out];exact hgl)).trans NV;obtain⟨n,hn⟩:∃n,(rows q).length=n:=⟨_,rfl⟩;have hnl:n<=100000:=by rw[<- hn];exact Ot.out.len q hqN
  rw[hn]at hcq;have HN0:=hid hn;have Pq:=hid I5;have HHF:=hid hf;have HHA:=hid ha;have HAH:=hid Bj;have MZ:=hid hfresh;have HTK:=hid htk;have HLT:=hid hlt;have HQK:=hid (show∀h:k<O.length,O[k]'h=q from fun _=>hq);have jS:=hid hown;have i1:(0:Int)<=(q:Int):=Int.natCast_nonneg _;have i2:(q:Int)<(N:Int):=by omega
  have i3:(k:Int)<(N:Int):=by omega
  clear hws I5 hf ha Bj hfresh htk hn hown hgl NV hk hq;clear hlt;go_wp2_with (fail);have HW6:=hid hw6;clear hw6 hco hcf hff hcq
  go_loopw [40] (fun iv wq=>Hw cn (rows q) F N q (O.take k) w3 w5 iv wq) (fun iv _=>n-(intOf iv).toNat)
  case atStart=>exact⟨0,CM f q 1,Nat.zero_le _,rfl,by simp[CM,fM,iy],fun x hx=>by
   have hne:x≠q:=fun e=>MZ.out (e ▸ hx)
   simp only[CM,if_neg hne];exact HHF.out x hx,Pq.out⟩
  case round=>
   rename World=>wq
   obtain⟨k2,f2,hk2,rfl,hfq,hfo,JC⟩:=hrel;rw[HN0.out]at hk2;have ME:=hid JC;have HFO:=hid hfo;have HFQ:=hid hfq;by_cases hlt2:k2<n
   case neg=>
    have hkk:(rows q).length<=k2:=by rw[HN0.out];omega
    have hcq:f2 q=cn q:=by
     rw[hfq,HCQ.out q];unfold fM ez;rw[List.take_of_length_le hkk]
    have HFC:=hid hcq;obtain⟨c,hc⟩:∃c,f2 q=c:=⟨_,rfl⟩;have hcb:c<=1+100000*4096:=by
     have h1:=mV (c:=cn) (b:=4096) (l:=ez rows q) fun t ht=>by
      have:=oA (c:=cn) (HAH.out t ht);rw[<- HHA.out]at this;omega
     have h2:=Dd rows q;rw[HN0.out]at h2;have h3:=HCQ.out q;have h4:(ez rows q).length*4096<=100000*4096:=Nat.mul_le_mul_right _ (by omega);omega
    have hcell:=JC.cell hqN;rw[hc]at hcell hcq;have HC0:=hid hcq;have j1:(0:Int)<=(c:Int):=Int.natCast_nonneg _;have j2:(c:Int)<=409600001:=by omega
    have j3:(0:Int)<=(a:Int):=Int.natCast_nonneg _;have j4:(a:Int)<=4096:=by omega
    have Ny:iy cn (O.take (k+1))=a+c:=by rw[HTK.out,HHA.out,hcq]
    have Oj:=hid Ny;clear JC hfo hfq hc hcq Ny;by_cases hgt:4096<a+c
    ·have t1:decide ((4096:Int)<(a:Int)+(c:Int))=true:=decide_eq_true (by omega)
     have HFI:=hid (show tH (iy cn (List.range N)) w (.returned (.tuple #[.int .i64 0,.int .i64 4])) wq from⟨H3.out.trans (ME.out.low.mono HH3.out),.inr ⟨by
      have h1:=Gn cn O (k+1);rw[Oj.out,Lb.out]at h1;omega,rfl⟩⟩)
     go_wp2_with (fail);go_ret2;exact HFI.out
    ·have t1:decide ((4096:Int)<(a:Int)+(c:Int))=false:=decide_eq_false (by omega)
     have HFI:=hid (show J9 cn F N O w3 w5 (.int .i64 ((a:Int)+(c:Int))) (.int .i64 ((k:Int)+1)) wq from⟨k+1,f2,HLT.out,by go_num,⟨a+c,Oj.out.symm,by omega,by go_num⟩,fun x hx=>by
      rw[List.take_succ_eq_append_getElem HLT.out]at hx;rcases List.mem_append.1 hx with z | z
      ·exact HFO.out x z
      ·rw[List.mem_singleton.1 z,HQK.out HLT.out]
       exact HFC.out,ME.out⟩)
     go_wp2_with (fail)
     go_roundw
     case rel=>exact HFI.out
     case measure=>simp[intOf];omega
   have hkl:k2<(rows q).length:=by rw[HN0.out];exact hlt2
   have G0:=au jS.out (fun x e=>JC.low.block x (by have:=(World.ownsRow.lt jS.out x e).2;rw[HFF.out]at this;exact this));obtain⟨g,cap,hA,_⟩:=World.ownsRow.form G0 (by omega);injection hA with hA1 _ hA2;subst hA1 hA2;obtain⟨r,hr⟩:∃r,(rows q)[k2]=r:=⟨_,rfl⟩;have hto:=Ot.out.to_ q hqN r (by rw[<- hr];exact List.getElem_mem hkl);have hcell:∀j,j<5->wq.cell? ⟨g,k2*5+j,none⟩=(mD r)[j]?:=fun j hj=>by
    rw[World.ownsRow.cellAt G0 (k2*5+j) (by omega),cZ kI (rows q) k2 j hkl hj,hr]
   obtain⟨a9,t,GA,gn,gc,ea,TA,tn,tc⟩:=r;have d0:wq.cell? ⟨g,k2*5,none⟩=some (.int .i64 (a9:Int)):=hcell 0 (by omega);have d1:wq.cell? ⟨g,k2*5+1,none⟩=some (.int .i64 t):=hcell 1 (by omega);have d2:wq.cell? ⟨g,k2*5+2,none⟩=some (.slice GA gn gc):=hcell 2 (by omega);have d3:wq.cell? ⟨g,k2*5+3,none⟩=some (.int .i64 ea):=hcell 3 (by omega);have d4:wq.cell? ⟨g,k2*5+4,none⟩=some (.slice TA tn tc):=hcell 4 (by omega);simp only at hto;obtain⟨tt,rfl⟩:=Int.eq_ofNat_of_zero_le hto.1;have htN:tt<N:=by omega
   obtain⟨w7,hw7⟩:∃w7,wq.alloc (.cells #[.int .i64 (a9:Int),.int .i64 (tt:Int),.slice GA gn gc,.int .i64 ea,.slice TA tn tc] 43)=w7:=⟨_,rfl⟩;have hb7:Below wq.heap.size wq w7:=by rw[<- hw7];exact(Below.refl _ _).alloc (Nat.le_refl _) _
   have hq7:Blk w7 wq.heap.size 43 #[.int .i64 (a9:Int),.int .i64 (tt:Int),.slice GA gn gc,.int .i64 ea,.slice TA tn tc]:=by rw[<- hw7];exact heap_alloc_new wq _
   have e0:=hq7.cell 0;have e1:=hq7.cell 1;have e2:=hq7.cell 2;have e3:=hq7.cell 3;have e4:=hq7.cell 4;simp only[sD,sE,sF]at e0 e1 e2 e3 e4;have HQ7:=hid hq7;have HB7:=hid hb7;have HRR:=hid hr;have HKL:=hid hkl;have j1:(0:Int)<=(k2:Int):=Int.natCast_nonneg _;have j2:(k2:Int)<(n:Int):=by omega
   clear JC hfo hfq G0 hr hcell hto hb7 hq7;go_wp2_with (fail);refine(kH a9 (tt:Int) GA gn gc ea TA tn tc w7).mono ?_;rintro e w8 ⟨rfl,hb8⟩;have h78:Below wq.heap.size wq w8:=HB7.out.trans (hb8.mono HB7.out.size);have Nt:=ME.out.keep h78;have HS8:=hid Nt;have hq8:=HQ7.out.below hb8 (by exact HQ7.out.lt);have f1:=hq8.cell 1;simp only[sD,sE,sF]at f1;clear hb8 h78 Nt hq8 e0 e1 e2 e3 e4 d0 d1 d2 d3 d4;by_cases hg:gn=0
   ·have hsk:=pR HKL.out HRR.out hg
    have hmem2:=tW HKL.out HRR.out hg;simp only[Int.toNat_natCast]at hsk hmem2;have htm:=HAH.out tt hmem2;have hne:tt≠q:=fun e=>MZ.out (e ▸ htm)
    have hft:=HFO.out tt htm;have hca:cn tt<=a:=by rw[HHA.out];exact oA htm
    have O6:=HS8.out.cell hqN;have hct8:=HS8.out.cell htN;have hfz:=HS8.out.frozen q;obtain⟨c,hc⟩:∃c,f2 q=c:=⟨_,rfl⟩;obtain⟨b,hb⟩:∃b,f2 tt=b:=⟨_,rfl⟩;have hbb:b<=4096:=by omega
    have hcb:c<=1+100000*4096:=by
     have h1:=mV (c:=cn) (b:=4096) (l:=fM (rows q) k2) fun t ht=>by
      have:=oA (c:=cn) (HAH.out t (zm ht));rw[<- HHA.out]at this;omega
     have h2:=zn (rows q) k2;have h3:=HFQ.out;have h4:(fM (rows q) k2).length*4096<=100000*4096:=Nat.mul_le_mul_right _ (by omega);omega
    rw[hc]at O6;rw[hb]at hct8;obtain⟨w9,hw9⟩:∃w9,(w8.setCell ⟨F,q,none⟩ (.int .i64 ((c:Int)+(b:Int)))).drew=w9:=⟨_,rfl⟩;have HNX:=hid (show Hw cn (rows q) F N q (O.take k) w3 w5 (.int .i64 ((k2:Int)+1)) w9 from⟨k2+1,CM f2 q (c+b),by rw[HN0.out];omega,by go_num,by
     rw[hsk,pQ,<- hft,hb];have e9:CM f2 q (c+b) q=c+b:=by simp[CM]
     rw[e9];have:=HFQ.out;omega,fun x hx=>by
     have hnx:x≠q:=fun e=>MZ.out (e ▸ hx)
     simp only[CM,if_neg hnx];exact HFO.out x hx,by
     have:=HS8.out.set q (c+b);rw[show(((c+b:Nat)):Int)=(c:Int)+(b:Int)by omega]at this;rw[<- hw9];exact this.keep (Below.refl _ _).drew⟩)
    have n1:(0:Int)<=(c:Int):=Int.natCast_nonneg _;have n2:(c:Int)<=409600001:=by omega
    have n3:(0:Int)<=(b:Int):=Int.natCast_nonneg _;have n4:(b:Int)<=4096:=by omega
    have n5:(0:Int)<=(tt:Int):=Int.natCast_nonneg _;have n6:(tt:Int)<(N:Int):=by omega
    subst hg;clear hsk hmem2 htm hne hft hca hc hb;go_wp2_with (fail)
    go_still_tail 11,(by kernel_rfl)
    change wpList _ _ _ _ _ w8.drew
    go_wp2_with (fail)
    go_roundw
    case rel=>exact HNX.out
    case measure=>simp[intOf];omega
   ·have hsk:=tX HKL.out HRR.out hg
    have hge:(gn == 0)=false:=beq_eq_false_iff_ne.2 hg;have HFN:=hid (show Hw cn (rows q) F N q (O.take k) w3 w5 (.int .i64 ((k2:Int)+1)) w8 from⟨k2+1,f2,by rw[HN0.out];omega,by go_num,by rw[hsk];exact HFQ.out,HFO.out,HS8.out⟩);rw[hge];clear hsk hg hge;go_wp2_with (fail)
    go_roundw
    case rel=>exact HFN.out
    case measure=>simp[intOf];omega
end Go.Proofs.YtbdmcibcenhpnaaGreatDoor.Ep
