import Derived.Test.YtbdmcibcenhpnaaGreatDoorF0
import Derived.Test.YtbdmcibcenhpnaaGreatDoorF00
import Derived.Test.YtbdmcibcenhpnaaGreatDoorF17
import Derived.Test.YtbdmcibcenhpnaaGreatDoorF18
set_option maxRecDepth 100000
namespace Go.Proofs.YtbdmcibcenhpnaaGreatDoor.Tr
open Go Go.RowKit Sp Pa Te Mi De
def RK {α:Type} (k:Nat) (enc:α->List Value) (w:World) (A:Option Addr) (l:List α):Prop:=
 0<l.length->∃b off,A=some ⟨b,off,none⟩/\b<w.heap.size/\∀(j:Nat) (h:j<l.length),∀r,r<k->w.cell? ⟨b,off+j*k+r,none⟩=(enc l[j])[r]?
theorem RK.below {α:Type} {k:Nat} {enc:α->List Value} {w w':World} {A:Option Addr} {l:List α} (h:RK k enc w A l) (hb:Below w.heap.size w w'):RK k enc w' A l:=fun hn=>by
 obtain⟨b,off,e,hlt,hc⟩:=h hn;exact⟨b,off,e,Nat.lt_of_lt_of_le hlt hb.size,fun j hj r hr=>(hb.cell (p:=⟨b,off+j*k+r,none⟩) hlt).trans (hc j hj r hr)⟩
def cI {α:Type} (k:Nat) (enc:α->List Value) (eS eE:TypeId) (w:World) (gN b N:Nat) (L:Nat->List α):Prop:=
 ∃vs:Nat->Value,w.ownsRow gN eS 1 (.slice (some ⟨gN,0,none⟩) N N) N ((List.range N).map vs)/\(∀q,q<N->w.ownsRow b eE k (vs q) (L q).length ((L q).flatMap enc)) /\
  (∀p q,p<N->q<N->∀x,(vs p).ownBlock=some x->(vs q).ownBlock=some x->p=q)
section
variable {α:Type} {k:Nat} {enc:α->List Value} {eS eE:TypeId} {w w':World} {gN b N:Nat} {L:Nat->List α}
theorem cI.keep (h:cI k enc eS eE w gN b N L) (hk:∀x,x=gN\/b<=x->x<w.heap.size->w'.heap[x]? = w.heap[x]?):cI k enc eS eE w' gN b N L:=by
 obtain⟨vs,h1,h2,h3⟩:=h;refine⟨vs,au h1 fun x e=>hk x (.inl (by simpa[Value.ownBlock]using e.symm)) (World.ownsRow.lt h1 x e).2,fun q hq=>au (h2 q hq) fun x e=>hk x (.inr (World.ownsRow.lt (h2 q hq) x e).1) (World.ownsRow.lt (h2 q hq) x e).2,h3⟩
theorem cI.below (h:cI k enc eS eE w gN b N L) (hb:Below w.heap.size w w'):cI k enc eS eE w' gN b N L:=h.keep fun x _ hx=>hb.block x hx
theorem cI.at_ (h:cI k enc eS eE w gN b N L) {q:Nat} (hq:q<N):∃A c,w.cell? ⟨gN,q,none⟩=some (.slice A (L q).length c)/\w.frozen? ⟨gN,q,none⟩=false/\gN<w.heap.size/\w.ownsRow b eE k (.slice A (L q).length c) (L q).length ((L q).flatMap enc):=by
 obtain⟨vs,h1,h2,h3⟩:=h;obtain⟨A,c,e⟩:=aX (h2 q hq);have ho:=h2 q hq;refine⟨A,c,?_,World.ownsRow.frozenAt h1 q,(World.ownsRow.lt h1 gN rfl).2,by rw[e]at ho;exact ho⟩;rw[World.ownsRow.cellAt h1 q (by omega)];simp[hq,e]
theorem cI.longer {w1:World} (h:cI k enc eS eE w gN b N L) (hgb:gN<b) {a:Nat} (ha:a<N) {A:Option Addr} {c:Nat} (hc:w.cell? ⟨gN,a,none⟩=some (.slice A (L a).length c)) (x:α) {v':Value}
  (ho:w1.ownsRow b eE k v' ((L a).length+1) ((L a).flatMap enc++enc x)) (hg:w.grownBy w1 (Value.slice A (L a).length c).ownBlock) (hat:(Value.slice A (L a).length c).ownBlock=v'.ownBlock\/∃y,v'.ownBlock=some y/\w.heap.size<=y) :
  cI k enc eS eE (w1.setCell ⟨gN,a,none⟩ v') gN b N (fun q=>if q=a then L a++[x]else L q):=by
 obtain⟨vs,h1,h2,h3⟩:=h;have hva:vs a = .slice A (L a).length c:=by
  rw[World.ownsRow.cellAt h1 a (by omega)]at hc;simpa[ha]using hc
 rw[<- hva]at hg hat;have hout:w1.ownsRow gN eS 1 (.slice (some ⟨gN,0,none⟩) N N) N ((List.range N).map vs):=by
  refine World.ownsRow.kept h1 hg (.inr fun e=>?_);have e2:(vs a).ownBlock=some gN:=by rw[<- e];rfl
  have:=(World.ownsRow.lt (h2 a ha) gN e2).1;omega
 have hst:=(World.ownsRow.stored hout a v').1;refine⟨fun q=>if q=a then v' else vs q,?_,fun q hq=>?_,fun p q hp hq y hkp hkq=>?_⟩
 ·have e:(List.range N).map (fun q=>if q=a then v' else vs q)=((List.range N).map vs).set a v':=List.ext_getElem (by simp) fun j h1 h2=>by
   simp only[List.getElem_map,List.getElem_range,List.getElem_set];by_cases e:j=a
   ·rw[if_pos e,if_pos e.symm]
   ·rw[if_neg e,if_neg fun y=>e y.symm]
  rw[e];exact hst
 ·by_cases e:q=a
  ·simp only[if_pos e]
   have:w1.ownsRow b eE k v' (L a++[x]).length ((L a++[x]).flatMap enc):=by
    rw[List.length_append,List.flatMap_append];simpa using ho
   exact ownsRow_setCell_below this (a:=⟨gN,a,none⟩) hgb v'
  ·simp only[if_neg e]
   refine ownsRow_setCell_below (World.ownsRow.kept (h2 q hq) hg ?_) (a:=⟨gN,a,none⟩) hgb v'
   cases hu:(vs q).ownBlock with
   | none=>exact .inl rfl
   | some y=>exact .inr fun k2=>e (h3 q a hq ha y hu k2.symm)
 ·by_cases e1:p=a
  ·by_cases e2:q=a
   ·rw[e1,e2]
   ·simp only[if_pos e1]at hkp
    simp only[if_neg e2]at hkq;rcases hat with e | ⟨k',e,hk'⟩
    ·rw[e1];exact h3 a q ha hq y (by rw[e];exact hkp) hkq
    ·rw[e]at hkp
     injection hkp with hkp;have:=(World.ownsRow.lt (h2 q hq) y hkq).2;omega
  ·simp only[if_neg e1]at hkp
   by_cases e2:q=a
   ·simp only[if_pos e2]at hkq
    rcases hat with e | ⟨k',e,hk'⟩
    ·rw[e2];exact h3 p a hp ha y hkp (by rw[e];exact hkq)
    ·rw[e]at hkq
     injection hkq with hkq;have:=(World.ownsRow.lt (h2 p hp) y hkp).2;omega
   ·simp only[if_neg e2]at hkq
    exact h3 p q hp hq y hkp hkq
end
def byL {α:Type} (key:α->Nat) (l:List α) (q:Nat):List α:=l.filter fun x=>key x == q
theorem kL {α:Type} (key:α->Nat) (l:List α) (x:α):byL key (l++[x])=fun q=>if q=key x then byL key l (key x)++[x]else byL key l q:=by
 funext q
 unfold byL;rw[List.filter_append];by_cases e:q=key x
 ·subst e
  simp
 ·have:(key x == q)=false:=by simp;exact fun h=>e h.symm
  simp[e,this]
inductive Reach (E:List (Nat×Nat)) (F:List Nat):Nat->Prop
 | first {q:Nat} : q∈F->Reach E F q
 | step {e:Nat×Nat} : e∈E->Reach E F e.1->Reach E F e.2
open Classical in
structure QD (E:List (Nat×Nat)) (F:List Nat) (N:Nat) (m:List Bool) (t:List Nat):Prop where
 len:m.length=N
 sound:∀q,m[q]? = some true->Reach E F q
 todo:∀q∈t,q<N/\Reach E F q
 fst:∀q∈F,m[q]? = some true\/q∈t
 edge:∀e∈E,m[e.1]? = some true->m[e.2]? = some true\/e.2∈t
section
variable {E:List (Nat×Nat)} {F:List Nat} {N:Nat} {m:List Bool} {t:List Nat} {q:Nat}
end
end Go.Proofs.YtbdmcibcenhpnaaGreatDoor.Tr
namespace Go.Proofs.YtbdmcibcenhpnaaGreatDoor.Tr
open Go Go.RowKit Sp Pa Te Mi De
structure MR (S N:Nat) (row:Option Nat) (wb:World) (v:Value) (t:List Nat) (m:List Bool) (wr:World):Prop where
 todo:wr.ownsRow 0 3 1 v t.length (jV t)
 apart:v.ownBlock=row\/∃y,v.ownBlock=some y/\S<y
 out:wr.ownsRow S 4 1 (.slice (some ⟨S,0,none⟩) N N) N (mN m)
 grown:wb.grownBy wr row
 size:S=wb.heap.size
section
variable {S N:Nat} {row:Option Nat} {wb wr:World} {v:Value} {t:List Nat} {m:List Bool}
end
section
variable {N s:Nat} {rs:List RuL} {fs:List FiL}
end
end Go.Proofs.YtbdmcibcenhpnaaGreatDoor.Tr
namespace Go.Proofs.YtbdmcibcenhpnaaGreatDoor.Ep
set_option maxHeartbeats 64000000
open Go Go.RowKit Sp Pa Te Mi De Tr
open Go.Lib (hid)
structure bZ where
 frm:Nat
 to_:Int
 GA:Option Addr
 gn:Nat
 gc:Nat
 eat:Int
 TA:Option Addr
 tn:Nat
 tc:Nat
def mD (x:bZ):List Value:=[.int .i64 (x.frm:Int),.int .i64 x.to_,.slice x.GA x.gn x.gc,.int .i64 x.eat,.slice x.TA x.tn x.tc]
theorem LB:(Tryz.prog.info? 43).map (fun i=>(i.zero,i.size,i.bytes))=some (some (.agg #[.int .i64 0,.int .i64 0,.slice none 0 0,.int .i64 0,.slice none 0 0]),5,72):=by kernel_rfl
theorem Jz:(Tryz.prog.info? 23).map (fun i=>(i.zero,i.size,i.bytes))=some (some (.slice none 0 0),1,24):=by kernel_rfl
def Pm (x:Int) (w:World) (e:Ending) (w':World):Prop:=e = .returned (.int .i64 x)/\Below w.heap.size w w'
theorem Ed (a:Nat) (t:Int) (GA:Option Addr) (gn:Nat) (gc:Nat) (ea:Int) (TA:Option Addr) (tn:Nat) (tc:Nat) (w:World):Calls Tryz.prog 17 #[.agg #[.int .i64 (a:Int),.int .i64 t,.slice GA gn gc,.int .i64 ea,.slice TA tn tc]] w (Pm (a:Int) w):=by
 go_enter Tryz.func17,Tryz.ntmps17;go_wp2_with (fail);go_ret;exact⟨rfl,(Below.refl _ _).alloc (Nat.le_refl _) _⟩
def F7 (l:List bZ) (N:Nat) (w:World) (iv:Value) (wr:World):Prop:=
 ∃k:Nat,k<=l.length/\iv = .int .i64 k/\cI 5 mD 23 43 wr w.heap.size (w.heap.size+1) N (byL bZ.frm (l.take k))/\Below w.heap.size w wr
def F8 (l:List bZ) (N:Nat) (w:World) (e:Ending) (w':World):Prop:=
 e = .returned (.slice (some ⟨w.heap.size,0,none⟩) N N)/\cI 5 mD 23 43 w' w.heap.size (w.heap.size+1) N (byL bZ.frm l)/\Below w.heap.size w w'
theorem Ch (A:Option Addr) (c:Nat) (l:List bZ) (N:Nat) (w:World) (h:RK 5 mD w A l) (hl:l.length<=100000) (hN:1<=N/\N<=100000) (hk:∀x∈l,x.frm<N) :
  Calls Tryz.prog 16 #[.slice A l.length c,.int .i64 N,.func (.func 17) #[] #[]] w (F8 l N w):=by
 obtain⟨hN1,hN2⟩:=hN;obtain⟨w1,hw1⟩:∃w1,w.alloc (.cells (madeCells #[.slice none 0 0] N) 23)=w1:=⟨_,rfl⟩;have hmk:=run_make_row' (P:=Tryz.prog) 53 23 (.slice none 0 0) 24 Tryz.underlying53 Jz rfl .i64 .i64 N (by omega) (by omega) w;rw[hw1]at hmk;have hb1:Below w.heap.size w w1:=by rw[<- hw1];exact(Below.refl _ _).alloc (Nat.le_refl _) _
 have hox:w1.ownsRow w.heap.size 23 1 (.slice (some ⟨w.heap.size,0,none⟩) N N) N ((List.range N).map fun _=>Value.slice none 0 0):=by
  have:=World.ownsRow_lit (base:=w.heap.size) (e:=23) (size:=1) w (madeCells #[.slice none 0 0] N) N (by omega) (by simp only[maxLen];omega) (by simp[madeCells]);rw[toList_madeCells_one,hw1]at this;rw[show(List.range N).map (fun _=>Value.slice none 0 0)=List.replicate N (.slice none 0 0)from List.ext_getElem (by simp) fun j h1 h2=>by simp];exact this
 have HST:=hid (show F7 l N w (.int .i64 (0:Nat)) w1 from⟨0,Nat.zero_le _,rfl,⟨fun _=>.slice none 0 0,hox,fun q _=>by
  simp only[List.take_zero,byL,List.filter_nil,List.length_nil,List.flatMap_nil];exact World.ownsRow_nil _ _ _ _,fun p q _ _ k e=>by simp[Value.ownBlock]at e⟩,hb1⟩)
 have H:=hid h;have HK:=hid hk;clear h hk hox hb1;go_enter Tryz.func16,Tryz.ntmps16;go_wp2_with (fail);clear hmk
 go_loopw [15] (fun iv wr=>F7 l N w iv wr) (fun iv _=>l.length-(intOf iv).toNat)
 case atStart=>exact HST.out
 case round=>
  obtain⟨k,hk,rfl,hy,hbl⟩:=hrel;have HY:=hid hy;have HB:=hid hbl;by_cases hlt:k<l.length
  ·obtain⟨b,off,hA,hbB,hc⟩:=(H.out.below hbl) (by omega)
   have d0:=hc k hlt 0 (by omega);have d1:=hc k hlt 1 (by omega);have d2:=hc k hlt 2 (by omega);have d3:=hc k hlt 3 (by omega);have d4:=hc k hlt 4 (by omega);obtain⟨x0,hat⟩:∃x0,l[k]=x0:=⟨_,rfl⟩;have hkk:=HK.out _ (List.getElem_mem hlt);rw[hat]at d0 d1 d2 d3 d4 hkk;obtain⟨a,t,GA,gn,gc,ea,TA,tn,tc⟩:=x0;have HE:=hid hat;rw[Nat.add_zero]at d0;have d0':wr.cell? ⟨b,off+k*5,none⟩=some (.int .i64 (a:Int)):=d0;have d1':wr.cell? ⟨b,off+k*5+1,none⟩=some (.int .i64 t):=d1;have d2':wr.cell? ⟨b,off+k*5+2,none⟩=some (.slice GA gn gc):=d2;have d3':wr.cell? ⟨b,off+k*5+3,none⟩=some (.int .i64 ea):=d3;have d4':wr.cell? ⟨b,off+k*5+4,none⟩=some (.slice TA tn tc):=d4;have HLT:=hid hlt;have haN:a<N:=hkk;have HAN:=hid haN;obtain⟨Aa,ca,hca,hfa,hgl,hoa⟩:=hy.at_ haN;obtain⟨na,hna⟩:∃na,(byL bZ.frm (l.take k) a).length=na:=⟨_,rfl⟩;have HNA:=hid hna;have OQ:na<=100000:=by
    rw[<- hna];unfold byL;have:=List.length_filter_le (fun x:bZ=>x.frm == a) (l.take k);rw[List.length_take]at this;omega
   rw[hna]at hca hoa;have jJ:=hid (show∀x,(Value.slice Aa na ca).ownBlock=some x->w.heap.size+1<=x/\x<wr.heap.size from fun x e=>World.ownsRow.lt hoa x e);have hsw:=hbl.size;obtain⟨w5,hw5⟩:∃w5,wr.alloc (.cells #[.int .i64 (a:Int),.int .i64 t,.slice GA gn gc,.int .i64 ea,.slice TA tn tc] 43)=w5:=⟨_,rfl⟩;have hs5:w5.heap.size=wr.heap.size+1:=by rw[<- hw5];simp
   have hb5:Below wr.heap.size wr w5:=by rw[<- hw5];exact(Below.refl _ _).alloc (Nat.le_refl _) _
   have hq5:Blk w5 wr.heap.size 43 #[.int .i64 (a:Int),.int .i64 t,.slice GA gn gc,.int .i64 ea,.slice TA tn tc]:=by rw[<- hw5];exact heap_alloc_new wr _
   have e0:=hq5.cell 0;have e1:=hq5.cell 1;have e2:=hq5.cell 2;have e3:=hq5.cell 3;have e4:=hq5.cell 4;simp only[sD,sE,sF]at e0 e1 e2 e3 e4;have HQ5:=hid hq5;have HCA:=hid hca;have HFA:=hid hfa;have HOA:=hid hoa;have H5:=hid hb5;have HWR:=hid (show w.heap.size<wr.heap.size from hgl);subst hA;clear hy hbl hc d0 d1 d2 d3 d4 hat hkk hca hfa hoa hna hb5 hq5;go_wp2_with (fail);refine(Ed a t GA gn gc ea TA tn tc w5).mono ?_;rintro e w6 ⟨rfl,hb6⟩;have hs6:=hb6.size;have h56:Below wr.heap.size wr w6:=H5.out.trans (hb6.mono (by omega));have HY6:=hid (HY.out.below h56);have HB6:=hid (HB.out.trans (h56.mono (by omega)));have hq6:=HQ5.out.below hb6 (by omega);have HQ6:=hid hq6;have hca6:=hid ((h56.cell (p:=⟨w.heap.size,a,none⟩) hgl).trans HCA.out);have hfa6:=hid ((h56.frozen (p:=⟨w.heap.size,a,none⟩) hgl).trans HFA.out);have JI:=hid (au HOA.out fun x e=>h56.block x (jJ.out x e).2);clear HCA HFA HOA;have HCA:=hca6;have HFA:=hfa6;have HOA:=JI;have HGN:=hid (show w.heap.size<w6.heap.size by omega);have HZ6:=hid (show wr.heap.size<=w6.heap.size by omega);have i1:(0:Int)<=(a:Int):=Int.natCast_nonneg _;have i2:(a:Int)<(N:Int):=by omega
   obtain⟨i0,hi0,hz0,hz1,hz2⟩:=info_parts LB;clear hb6 h56 e0 e1 e2 e3 e4 hq6 hca6 hfa6 JI;go_wp2_with (fail);obtain⟨wd,hwd⟩:∃wd,w6.drew=wd:=⟨_,rfl⟩;have hBx:Below w6.heap.size w6 wd:=by rw[<- hwd];exact(Below.refl _ _).drew
   have hQW:Blk wd wr.heap.size 43 #[.int .i64 (a:Int),.int .i64 t,.slice GA gn gc,.int .i64 ea,.slice TA tn tc]:=by rw[<- hwd];exact HQ6.out.drew
   refine wp_region_held_drew (S:=fun W=>Blk W wr.heap.size 43 #[.int .i64 (a:Int),.int .i64 t,.slice GA gn gc,.int .i64 ea,.slice TA tn tc]) (by kernel_rfl) (by rw[hwd];exact hQW) (fun hHeld=>?_);rw[hwd]at hHeld ⊢;refine tk 0 ⟨some 22,.move (.tmp 7),_,_,_,none⟩ ?_ rfl ?_ ?_;rotate_left
   ·intro w' hSw
    (try dsimp only at hSw)
    go_simp;all_goals with_reducible rfl
   try simp only[Act.put,sA,sB,sC]
   refine tk 1 ⟨some 23,.move (.tmp 10),_,_,_,none⟩ ?_ rfl ?_ ?_;rotate_left
   ·intro w' hSw
    (try dsimp only at hSw)
    go_simp;all_goals with_reducible rfl
   try simp only[Act.put,sA,sB,sC]
   refine tk 2 ⟨some 24,.move (.tmp 7),_,_,_,none⟩ ?_ rfl ?_ ?_;rotate_left
   ·intro w' hSw
    (try dsimp only at hSw)
    go_simp;all_goals with_reducible rfl
   try simp only[Act.put,sA,sB,sC]
   refine tk 3 ⟨some 25,.move (.tmp 10),_,_,_,none⟩ ?_ rfl ?_ ?_;rotate_left
   ·intro w' hSw
    (try dsimp only at hSw)
    go_simp;all_goals with_reducible rfl
   try simp only[Act.put,sA,sB,sC]
   refine tk 4 ⟨some 26,.indexAddr 53 (.tmp 24) (.tmp 25),_,_,_,none⟩ ?_ rfl ?_ ?_;rotate_left
   ·intro w' hSw
    (try dsimp only at hSw)
    go_simp;all_goals with_reducible rfl
   try simp only[Act.put,sA,sB,sC]
   refine tk 6 ⟨some 28,.load 43 (.tmp 9),_,_,_,none⟩ ?_ rfl ?_ ?_;rotate_left
   ·intro w' hSw
    (try dsimp only at hSw)
    have l0:=hSw.cell 0;have l1:=hSw.cell 1;have l2:=hSw.cell 2;have l3:=hSw.cell 3;have l4:=hSw.cell 4;simp only[sD,sE,sF]at l0 l1 l2 l3 l4;go_simp;all_goals with_reducible rfl
   try simp only[Act.put,sA,sB,sC]
   refine wpAnyH_ready (rs:=[5,7]) (by kernel_rfl) (by simp) ?_;refine(AllReadyH.cons (o:=⟨some 27,.load 23 (.tmp 26),_,_,_,none⟩) rfl (fun K hK=>?_) (AllReadyH.cons (o:=⟨some 29,.buildSlice 23 1 #[(0,.tmp 28)],_,_,_,none⟩) rfl (fun K hK=>?_) AllReadyH.nil))
   ·have hcl:wd.cell? ⟨w.heap.size,a,none⟩=some (.slice Aa na ca):=(hBx.cell (p:=⟨w.heap.size,a,none⟩) HGN.out).trans HCA.out
    go_simp;clear hcl;refine hK.out _ _ ?_ (fun hHeld=>?_)
    ·exact hQW
    clear hK K;try simp only[Act.put,sA,sB,sC]
    refine wpAnyH_ready (rs:=[7]) (by kernel_rfl) (by simp) ?_;refine(AllReadyH.cons (o:=⟨some 29,.buildSlice 23 1 #[(0,.tmp 28)],_,_,_,none⟩) rfl (fun K hK=>?_) AllReadyH.nil)
    ·obtain⟨ws,hws,hqs,hls,hbS⟩:=ay wd #[.int .i64 (a:Int),.int .i64 t,.slice GA gn gc,.int .i64 ea,.slice TA tn tc] 43
     have hQW:=hQW.below hbS hQW.lt;have hBx:=ak hBx hbS;go_simp;try rw[hws]
     refine hK.out _ _ ?_ (fun hHeld=>?_)
     ·exact hQW
     clear hK K;try simp only[Act.put,sA,sB,sC]
     refine wpAnyH_ready (rs:=[8]) (by kernel_rfl) (by simp) ?_;refine(AllReadyH.cons (o:=⟨some 30,.call { callee:=.builtin .append,args:=#[.tmp 27,.tmp 29],argTypes:=#[23,23] },_,_,_,none⟩) rfl (fun K hK=>?_) AllReadyH.nil)
     ·have GZ:=hBx.size
      have hoW:=au HOA.out (fun x e=>hBx.block x (Nat.lt_of_lt_of_le (jJ.out x e).2 HZ6.out))
      (refine step_append_lies _ (by rfl) _ _ _ (by rfl) (w.heap.size+1) 43 i0 _ 5 72 Tryz.underlying23 hi0 hz0 hz1 hz2 rfl (by omega) (.slice Aa na ca) na _ (by rfl) hoW ⟨wd.heap.size,0,none⟩ 1 1 [.int .i64 (a:Int),.int .i64 t,.slice GA gn gc,.int .i64 ea,.slice TA tn tc] (by rfl) (by rfl) (World.news_of_block (cs:=#[.int .i64 (a:Int),.int .i64 t,.slice GA gn gc,.int .i64 ea,.slice TA tn tc]) (t:=43) (fr:=(0,0)) hqs) (by simp[Value.oneCell']) (by omega) (by simp only[maxLen];omega) (by omega) (by omega) (ws.heap.size) rfl ?_;intro gg bX w9 hown9 hg9 hat9 hlt9)
      have hQW:=aM hQW (hg9.block wr.heap.size hQW.lt (fun e=>by have:=(jJ.out wr.heap.size e.symm).2;omega));refine hK.out _ _ ?_ (fun hHeld=>?_)
      ·exact hQW
      clear hK K;try simp only[Act.put,sA,sB,sC]
      have hgN:=HGN.out;have hne:some w.heap.size≠(Value.slice Aa na ca).ownBlock:=fun e=>by have:=(jJ.out w.heap.size e.symm).1;omega
      have k1:w9.cell? ⟨w.heap.size,a,none⟩=some (.slice Aa na ca):=(World.cell?_of_block (a:=⟨w.heap.size,a,none⟩) (hg9.block w.heap.size (by omega) hne)).trans ((hBx.cell (p:=⟨w.heap.size,a,none⟩) HGN.out).trans HCA.out);have k2:w9.frozen? ⟨w.heap.size,a,none⟩=false:=(World.frozen?_of_block (a:=⟨w.heap.size,a,none⟩) (hg9.block w.heap.size (by omega) hne)).trans ((hBx.frozen (p:=⟨w.heap.size,a,none⟩) HGN.out).trans HFA.out);obtain⟨wz,hwz⟩:∃wz,w9.setCell ⟨w.heap.size,a,none⟩ (.slice (some ⟨gg,0,none⟩) (na+1) bX)=wz:=⟨_,rfl⟩;have HYZ:=hid (show cI 5 mD 23 43 wz w.heap.size (w.heap.size+1) N (byL bZ.frm (l.take (k+1)))by
       rw[<- hwz,List.take_succ_eq_append_getElem HLT.out,HE.out,kL];refine(HY6.out.below hBx).longer (by omega) HAN.out (A:=Aa) (c:=ca) (by rw[HNA.out];exact(hBx.cell (p:=⟨w.heap.size,a,none⟩) HGN.out).trans HCA.out) ⟨a,t,GA,gn,gc,ea,TA,tn,tc⟩ (by rw[HNA.out];exact hown9) (by rw[HNA.out];exact hg9) ?_;rw[HNA.out];rcases hat9 with q | q
       ·exact .inl (by rw[q];rfl)
       ·exact .inr ⟨gg,rfl,by omega⟩)
      have HBZ:=hid (show Below w.heap.size w wz by
       rw[<- hwz];exact((HB6.out.trans (hBx.mono (by omega))).grown hg9 (by omega) (fun q e=>by have:=(jJ.out q e).1;omega)).setCell (p:=⟨w.heap.size,a,none⟩) (Nat.le_refl _) _)
      have hQZ:=aM hQW (show wz.heap[wr.heap.size]? = w9.heap[wr.heap.size]? by rw[<- hwz];exact heap_setCell_other w9 ⟨w.heap.size,a,none⟩ wr.heap.size _ (show wr.heap.size≠w.heap.size by have:=HWR.out;omega));refine tk 9 ⟨some 31,.indexAddr 53 (.tmp 22) (.tmp 23),_,_,_,none⟩ ?_ rfl ?_ ?_;rotate_left
      ·intro w' hSw
       (try dsimp only at hSw)
       go_simp;all_goals with_reducible rfl
      try simp only[Act.put,sA,sB,sC]
      refine wpAnyH_ready (rs:=[10]) (by kernel_rfl) (by simp) ?_;refine AllReadyH.cons (o:=⟨none,.store 23 (.tmp 31) (.tmp 30),_,_,_,none⟩) rfl (fun K hK=>?_) AllReadyH.nil;go_simp;try rw[hwz]
      have hQW:=hQZ;refine hK.out _ _ ?_ (fun hHeld=>?_)
      ·exact hQW
      clear hK K;try simp only[Act.put,sA,sB,sC]
      refine wpAnyH_done (by kernel_rfl) ?_ _;clear k1 k2 hQW hQZ hown9 hat9 hg9;go_wp2_with (fail)
      go_roundw
      case rel=>exact⟨k+1,by omega,by go_num,HYZ.out,HBZ.out⟩
      case measure=>simp[intOf];omega
   ·obtain⟨ws,hws,hqs,hls,hbS⟩:=ay wd #[.int .i64 (a:Int),.int .i64 t,.slice GA gn gc,.int .i64 ea,.slice TA tn tc] 43
    have hQW:=hQW.below hbS hQW.lt;have hBx:=ak hBx hbS;go_simp;try rw[hws]
    refine hK.out _ _ ?_ (fun hHeld=>?_)
    ·exact hQW
    clear hK K;try simp only[Act.put,sA,sB,sC]
    refine wpAnyH_ready (rs:=[5]) (by kernel_rfl) (by simp) ?_;refine(AllReadyH.cons (o:=⟨some 27,.load 23 (.tmp 26),_,_,_,none⟩) rfl (fun K hK=>?_) AllReadyH.nil)
    ·have hcl:ws.cell? ⟨w.heap.size,a,none⟩=some (.slice Aa na ca):=(hBx.cell (p:=⟨w.heap.size,a,none⟩) HGN.out).trans HCA.out
     go_simp;clear hcl;refine hK.out _ _ ?_ (fun hHeld=>?_)
     ·exact hQW
     clear hK K;try simp only[Act.put,sA,sB,sC]
     refine wpAnyH_ready (rs:=[8]) (by kernel_rfl) (by simp) ?_;refine(AllReadyH.cons (o:=⟨some 30,.call { callee:=.builtin .append,args:=#[.tmp 27,.tmp 29],argTypes:=#[23,23] },_,_,_,none⟩) rfl (fun K hK=>?_) AllReadyH.nil)
     ·have GZ:=hBx.size
      have hoW:=au HOA.out (fun x e=>hBx.block x (Nat.lt_of_lt_of_le (jJ.out x e).2 HZ6.out))
      (refine step_append_lies _ (by rfl) _ _ _ (by rfl) (w.heap.size+1) 43 i0 _ 5 72 Tryz.underlying23 hi0 hz0 hz1 hz2 rfl (by omega) (.slice Aa na ca) na _ (by rfl) hoW ⟨wd.heap.size,0,none⟩ 1 1 [.int .i64 (a:Int),.int .i64 t,.slice GA gn gc,.int .i64 ea,.slice TA tn tc] (by rfl) (by rfl) (World.news_of_block (cs:=#[.int .i64 (a:Int),.int .i64 t,.slice GA gn gc,.int .i64 ea,.slice TA tn tc]) (t:=43) (fr:=(0,0)) hqs) (by simp[Value.oneCell']) (by omega) (by simp only[maxLen];omega) (by omega) (by omega) (ws.heap.size) rfl ?_;intro gg bX w9 hown9 hg9 hat9 hlt9)
      have hQW:=aM hQW (hg9.block wr.heap.size hQW.lt (fun e=>by have:=(jJ.out wr.heap.size e.symm).2;omega));refine hK.out _ _ ?_ (fun hHeld=>?_)
      ·exact hQW
      clear hK K;try simp only[Act.put,sA,sB,sC]
      have hgN:=HGN.out;have hne:some w.heap.size≠(Value.slice Aa na ca).ownBlock:=fun e=>by have:=(jJ.out w.heap.size e.symm).1;omega
      have k1:w9.cell? ⟨w.heap.size,a,none⟩=some (.slice Aa na ca):=(World.cell?_of_block (a:=⟨w.heap.size,a,none⟩) (hg9.block w.heap.size (by omega) hne)).trans ((hBx.cell (p:=⟨w.heap.size,a,none⟩) HGN.out).trans HCA.out);have k2:w9.frozen? ⟨w.heap.size,a,none⟩=false:=(World.frozen?_of_block (a:=⟨w.heap.size,a,none⟩) (hg9.block w.heap.size (by omega) hne)).trans ((hBx.frozen (p:=⟨w.heap.size,a,none⟩) HGN.out).trans HFA.out);obtain⟨wz,hwz⟩:∃wz,w9.setCell ⟨w.heap.size,a,none⟩ (.slice (some ⟨gg,0,none⟩) (na+1) bX)=wz:=⟨_,rfl⟩;have HYZ:=hid (show cI 5 mD 23 43 wz w.heap.size (w.heap.size+1) N (byL bZ.frm (l.take (k+1)))by
       rw[<- hwz,List.take_succ_eq_append_getElem HLT.out,HE.out,kL];refine(HY6.out.below hBx).longer (by omega) HAN.out (A:=Aa) (c:=ca) (by rw[HNA.out];exact(hBx.cell (p:=⟨w.heap.size,a,none⟩) HGN.out).trans HCA.out) ⟨a,t,GA,gn,gc,ea,TA,tn,tc⟩ (by rw[HNA.out];exact hown9) (by rw[HNA.out];exact hg9) ?_;rw[HNA.out];rcases hat9 with q | q
       ·exact .inl (by rw[q];rfl)
       ·exact .inr ⟨gg,rfl,by omega⟩)
      have HBZ:=hid (show Below w.heap.size w wz by
       rw[<- hwz];exact((HB6.out.trans (hBx.mono (by omega))).grown hg9 (by omega) (fun q e=>by have:=(jJ.out q e).1;omega)).setCell (p:=⟨w.heap.size,a,none⟩) (Nat.le_refl _) _)
      have hQZ:=aM hQW (show wz.heap[wr.heap.size]? = w9.heap[wr.heap.size]? by rw[<- hwz];exact heap_setCell_other w9 ⟨w.heap.size,a,none⟩ wr.heap.size _ (show wr.heap.size≠w.heap.size by have:=HWR.out;omega));refine tk 9 ⟨some 31,.indexAddr 53 (.tmp 22) (.tmp 23),_,_,_,none⟩ ?_ rfl ?_ ?_;rotate_left
      ·intro w' hSw
       (try dsimp only at hSw)
       go_simp;all_goals with_reducible rfl
      try simp only[Act.put,sA,sB,sC]
      refine wpAnyH_ready (rs:=[10]) (by kernel_rfl) (by simp) ?_;refine AllReadyH.cons (o:=⟨none,.store 23 (.tmp 31) (.tmp 30),_,_,_,none⟩) rfl (fun K hK=>?_) AllReadyH.nil;go_simp;try rw[hwz]
      have hQW:=hQZ;refine hK.out _ _ ?_ (fun hHeld=>?_)
      ·exact hQW
      clear hK K;try simp only[Act.put,sA,sB,sC]
      refine wpAnyH_done (by kernel_rfl) ?_ _;clear k1 k2 hQW hQZ hown9 hat9 hg9;go_wp2_with (fail)
      go_roundw
      case rel=>exact⟨k+1,by omega,by go_num,HYZ.out,HBZ.out⟩
      case measure=>simp[intOf];omega
  ·obtain rfl:k=l.length:=by omega
   rw[List.take_length]at hy;have HY2:=hid hy;clear hy hbl;go_wp2_with (fail);go_ret;exact⟨rfl,HY2.out,HB.out⟩
end Go.Proofs.YtbdmcibcenhpnaaGreatDoor.Ep
namespace Go.Proofs.YtbdmcibcenhpnaaGreatDoor.Ep
set_option maxHeartbeats 64000000
open Go Go.RowKit Sp Pa Te Mi De Tr
open Go.Lib (hid)
structure gu where
 frm:Nat
 GA:Option Addr
 gn:Nat
 gc:Nat
 TA:Option Addr
 tn:Nat
 tc:Nat
def sU (x:gu):List Value:=[.int .i64 (x.frm:Int),.slice x.GA x.gn x.gc,.slice x.TA x.tn x.tc]
theorem LC:(Tryz.prog.info? 45).map (fun i=>(i.zero,i.size,i.bytes))=some (some (.agg #[.int .i64 0,.slice none 0 0,.slice none 0 0]),3,56):=by kernel_rfl
theorem JA:(Tryz.prog.info? 24).map (fun i=>(i.zero,i.size,i.bytes))=some (some (.slice none 0 0),1,24):=by kernel_rfl
def Pn (x:Int) (w:World) (e:Ending) (w':World):Prop:=e = .returned (.int .i64 x)/\Below w.heap.size w w'
theorem Ee (a:Nat) (GA:Option Addr) (gn:Nat) (gc:Nat) (TA:Option Addr) (tn:Nat) (tc:Nat) (w:World):Calls Tryz.prog 23 #[.agg #[.int .i64 (a:Int),.slice GA gn gc,.slice TA tn tc]] w (Pn (a:Int) w):=by
 go_enter Tryz.func23,Tryz.ntmps23;go_wp2_with (fail);go_ret;exact⟨rfl,(Below.refl _ _).alloc (Nat.le_refl _) _⟩
def F9 (l:List gu) (N:Nat) (w:World) (iv:Value) (wr:World):Prop:=
 ∃k:Nat,k<=l.length/\iv = .int .i64 k/\cI 3 sU 24 45 wr w.heap.size (w.heap.size+1) N (byL gu.frm (l.take k))/\Below w.heap.size w wr
def Ga (l:List gu) (N:Nat) (w:World) (e:Ending) (w':World):Prop:=
 e = .returned (.slice (some ⟨w.heap.size,0,none⟩) N N)/\cI 3 sU 24 45 w' w.heap.size (w.heap.size+1) N (byL gu.frm l)/\Below w.heap.size w w'
theorem Hr (A:Option Addr) (c:Nat) (l:List gu) (N:Nat) (w:World) (h:RK 3 sU w A l) (hl:l.length<=100000) (hN:1<=N/\N<=100000) (hk:∀x∈l,x.frm<N) :
  Calls Tryz.prog 22 #[.slice A l.length c,.int .i64 N,.func (.func 23) #[] #[]] w (Ga l N w):=by
 obtain⟨hN1,hN2⟩:=hN;obtain⟨w1,hw1⟩:∃w1,w.alloc (.cells (madeCells #[.slice none 0 0] N) 24)=w1:=⟨_,rfl⟩;have hmk:=run_make_row' (P:=Tryz.prog) 63 24 (.slice none 0 0) 24 Tryz.underlying63 JA rfl .i64 .i64 N (by omega) (by omega) w;rw[hw1]at hmk;have hb1:Below w.heap.size w w1:=by rw[<- hw1];exact(Below.refl _ _).alloc (Nat.le_refl _) _
 have hox:w1.ownsRow w.heap.size 24 1 (.slice (some ⟨w.heap.size,0,none⟩) N N) N ((List.range N).map fun _=>Value.slice none 0 0):=by
  have:=World.ownsRow_lit (base:=w.heap.size) (e:=24) (size:=1) w (madeCells #[.slice none 0 0] N) N (by omega) (by simp only[maxLen];omega) (by simp[madeCells]);rw[toList_madeCells_one,hw1]at this;rw[show(List.range N).map (fun _=>Value.slice none 0 0)=List.replicate N (.slice none 0 0)from List.ext_getElem (by simp) fun j h1 h2=>by simp];exact this
 have HST:=hid (show F9 l N w (.int .i64 (0:Nat)) w1 from⟨0,Nat.zero_le _,rfl,⟨fun _=>.slice none 0 0,hox,fun q _=>by
  simp only[List.take_zero,byL,List.filter_nil,List.length_nil,List.flatMap_nil];exact World.ownsRow_nil _ _ _ _,fun p q _ _ k e=>by simp[Value.ownBlock]at e⟩,hb1⟩)
 have H:=hid h;have HK:=hid hk;clear h hk hox hb1;go_enter Tryz.func22,Tryz.ntmps22;go_wp2_with (fail);clear hmk
 go_loopw [15] (fun iv wr=>F9 l N w iv wr) (fun iv _=>l.length-(intOf iv).toNat)
 case atStart=>exact HST.out
 case round=>
  obtain⟨k,hk,rfl,hy,hbl⟩:=hrel;have HY:=hid hy;have HB:=hid hbl;by_cases hlt:k<l.length
  ·obtain⟨b,off,hA,hbB,hc⟩:=(H.out.below hbl) (by omega)
   have d0:=hc k hlt 0 (by omega);have d1:=hc k hlt 1 (by omega);have d2:=hc k hlt 2 (by omega);obtain⟨x0,hat⟩:∃x0,l[k]=x0:=⟨_,rfl⟩;have hkk:=HK.out _ (List.getElem_mem hlt);rw[hat]at d0 d1 d2 hkk;obtain⟨a,GA,gn,gc,TA,tn,tc⟩:=x0;have HE:=hid hat;rw[Nat.add_zero]at d0;have d0':wr.cell? ⟨b,off+k*3,none⟩=some (.int .i64 (a:Int)):=d0;have d1':wr.cell? ⟨b,off+k*3+1,none⟩=some (.slice GA gn gc):=d1;have d2':wr.cell? ⟨b,off+k*3+2,none⟩=some (.slice TA tn tc):=d2;have HLT:=hid hlt;have haN:a<N:=hkk;have HAN:=hid haN;obtain⟨Aa,ca,hca,hfa,hgl,hoa⟩:=hy.at_ haN;obtain⟨na,hna⟩:∃na,(byL gu.frm (l.take k) a).length=na:=⟨_,rfl⟩;have HNA:=hid hna;have OQ:na<=100000:=by
    rw[<- hna];unfold byL;have:=List.length_filter_le (fun x:gu=>x.frm == a) (l.take k);rw[List.length_take]at this;omega
   rw[hna]at hca hoa;have jJ:=hid (show∀x,(Value.slice Aa na ca).ownBlock=some x->w.heap.size+1<=x/\x<wr.heap.size from fun x e=>World.ownsRow.lt hoa x e);have hsw:=hbl.size;obtain⟨w5,hw5⟩:∃w5,wr.alloc (.cells #[.int .i64 (a:Int),.slice GA gn gc,.slice TA tn tc] 45)=w5:=⟨_,rfl⟩;have hs5:w5.heap.size=wr.heap.size+1:=by rw[<- hw5];simp
   have hb5:Below wr.heap.size wr w5:=by rw[<- hw5];exact(Below.refl _ _).alloc (Nat.le_refl _) _
   have hq5:Blk w5 wr.heap.size 45 #[.int .i64 (a:Int),.slice GA gn gc,.slice TA tn tc]:=by rw[<- hw5];exact heap_alloc_new wr _
   have e0:=hq5.cell 0;have e1:=hq5.cell 1;have e2:=hq5.cell 2;simp only[sD,sE,sF]at e0 e1 e2;have HQ5:=hid hq5;have HCA:=hid hca;have HFA:=hid hfa;have HOA:=hid hoa;have H5:=hid hb5;have HWR:=hid (show w.heap.size<wr.heap.size from hgl);subst hA;clear hy hbl hc d0 d1 d2 hat hkk hca hfa hoa hna hb5 hq5;go_wp2_with (fail);refine(Ee a GA gn gc TA tn tc w5).mono ?_;rintro e w6 ⟨rfl,hb6⟩;have hs6:=hb6.size;have h56:Below wr.heap.size wr w6:=H5.out.trans (hb6.mono (by omega));have HY6:=hid (HY.out.below h56);have HB6:=hid (HB.out.trans (h56.mono (by omega)));have hq6:=HQ5.out.below hb6 (by omega);have HQ6:=hid hq6;have hca6:=hid ((h56.cell (p:=⟨w.heap.size,a,none⟩) hgl).trans HCA.out);have hfa6:=hid ((h56.frozen (p:=⟨w.heap.size,a,none⟩) hgl).trans HFA.out);have JI:=hid (au HOA.out fun x e=>h56.block x (jJ.out x e).2);clear HCA HFA HOA;have HCA:=hca6;have HFA:=hfa6;have HOA:=JI;have HGN:=hid (show w.heap.size<w6.heap.size by omega);have HZ6:=hid (show wr.heap.size<=w6.heap.size by omega);have i1:(0:Int)<=(a:Int):=Int.natCast_nonneg _;have i2:(a:Int)<(N:Int):=by omega
   obtain⟨i0,hi0,hz0,hz1,hz2⟩:=info_parts LC;clear hb6 h56 e0 e1 e2 hq6 hca6 hfa6 JI;go_wp2_with (fail);obtain⟨wd,hwd⟩:∃wd,w6.drew=wd:=⟨_,rfl⟩;have hBx:Below w6.heap.size w6 wd:=by rw[<- hwd];exact(Below.refl _ _).drew
   have hQW:Blk wd wr.heap.size 45 #[.int .i64 (a:Int),.slice GA gn gc,.slice TA tn tc]:=by rw[<- hwd];exact HQ6.out.drew
   refine wp_region_held_drew (S:=fun W=>Blk W wr.heap.size 45 #[.int .i64 (a:Int),.slice GA gn gc,.slice TA tn tc]) (by kernel_rfl) (by rw[hwd];exact hQW) (fun hHeld=>?_);rw[hwd]at hHeld ⊢;refine tk 0 ⟨some 22,.move (.tmp 7),_,_,_,none⟩ ?_ rfl ?_ ?_;rotate_left
   ·intro w' hSw
    (try dsimp only at hSw)
    go_simp;all_goals with_reducible rfl
   try simp only[Act.put,sA,sB,sC]
   refine tk 1 ⟨some 23,.move (.tmp 10),_,_,_,none⟩ ?_ rfl ?_ ?_;rotate_left
   ·intro w' hSw
    (try dsimp only at hSw)
    go_simp;all_goals with_reducible rfl
   try simp only[Act.put,sA,sB,sC]
   refine tk 2 ⟨some 24,.move (.tmp 7),_,_,_,none⟩ ?_ rfl ?_ ?_;rotate_left
   ·intro w' hSw
    (try dsimp only at hSw)
    go_simp;all_goals with_reducible rfl
   try simp only[Act.put,sA,sB,sC]
   refine tk 3 ⟨some 25,.move (.tmp 10),_,_,_,none⟩ ?_ rfl ?_ ?_;rotate_left
   ·intro w' hSw
    (try dsimp only at hSw)
    go_simp;all_goals with_reducible rfl
   try simp only[Act.put,sA,sB,sC]
   refine tk 4 ⟨some 26,.indexAddr 63 (.tmp 24) (.tmp 25),_,_,_,none⟩ ?_ rfl ?_ ?_;rotate_left
   ·intro w' hSw
    (try dsimp only at hSw)
    go_simp;all_goals with_reducible rfl
   try simp only[Act.put,sA,sB,sC]
   refine tk 6 ⟨some 28,.load 45 (.tmp 9),_,_,_,none⟩ ?_ rfl ?_ ?_;rotate_left
   ·intro w' hSw
    (try dsimp only at hSw)
    have l0:=hSw.cell 0;have l1:=hSw.cell 1;have l2:=hSw.cell 2;simp only[sD,sE,sF]at l0 l1 l2;go_simp;all_goals with_reducible rfl
   try simp only[Act.put,sA,sB,sC]
   refine wpAnyH_ready (rs:=[5,7]) (by kernel_rfl) (by simp) ?_;refine(AllReadyH.cons (o:=⟨some 27,.load 24 (.tmp 26),_,_,_,none⟩) rfl (fun K hK=>?_) (AllReadyH.cons (o:=⟨some 29,.buildSlice 24 1 #[(0,.tmp 28)],_,_,_,none⟩) rfl (fun K hK=>?_) AllReadyH.nil))
   ·have hcl:wd.cell? ⟨w.heap.size,a,none⟩=some (.slice Aa na ca):=(hBx.cell (p:=⟨w.heap.size,a,none⟩) HGN.out).trans HCA.out
    go_simp;clear hcl;refine hK.out _ _ ?_ (fun hHeld=>?_)
    ·exact hQW
    clear hK K;try simp only[Act.put,sA,sB,sC]
    refine wpAnyH_ready (rs:=[7]) (by kernel_rfl) (by simp) ?_;refine(AllReadyH.cons (o:=⟨some 29,.buildSlice 24 1 #[(0,.tmp 28)],_,_,_,none⟩) rfl (fun K hK=>?_) AllReadyH.nil)
    ·obtain⟨ws,hws,hqs,hls,hbS⟩:=ay wd #[.int .i64 (a:Int),.slice GA gn gc,.slice TA tn tc] 45
     have hQW:=hQW.below hbS hQW.lt;have hBx:=ak hBx hbS;go_simp;try rw[hws]
     refine hK.out _ _ ?_ (fun hHeld=>?_)
     ·exact hQW
     clear hK K;try simp only[Act.put,sA,sB,sC]
     refine wpAnyH_ready (rs:=[8]) (by kernel_rfl) (by simp) ?_;refine(AllReadyH.cons (o:=⟨some 30,.call { callee:=.builtin .append,args:=#[.tmp 27,.tmp 29],argTypes:=#[24,24] },_,_,_,none⟩) rfl (fun K hK=>?_) AllReadyH.nil)
     ·have GZ:=hBx.size
      have hoW:=au HOA.out (fun x e=>hBx.block x (Nat.lt_of_lt_of_le (jJ.out x e).2 HZ6.out))
      (refine step_append_lies _ (by rfl) _ _ _ (by rfl) (w.heap.size+1) 45 i0 _ 3 56 Tryz.underlying24 hi0 hz0 hz1 hz2 rfl (by omega) (.slice Aa na ca) na _ (by rfl) hoW ⟨wd.heap.size,0,none⟩ 1 1 [.int .i64 (a:Int),.slice GA gn gc,.slice TA tn tc] (by rfl) (by rfl) (World.news_of_block (cs:=#[.int .i64 (a:Int),.slice GA gn gc,.slice TA tn tc]) (t:=45) (fr:=(0,0)) hqs) (by simp[Value.oneCell']) (by omega) (by simp only[maxLen];omega) (by omega) (by omega) (ws.heap.size) rfl ?_;intro gg bX w9 hown9 hg9 hat9 hlt9)
      have hQW:=aM hQW (hg9.block wr.heap.size hQW.lt (fun e=>by have:=(jJ.out wr.heap.size e.symm).2;omega));refine hK.out _ _ ?_ (fun hHeld=>?_)
      ·exact hQW
      clear hK K;try simp only[Act.put,sA,sB,sC]
      have hgN:=HGN.out;have hne:some w.heap.size≠(Value.slice Aa na ca).ownBlock:=fun e=>by have:=(jJ.out w.heap.size e.symm).1;omega
      have k1:w9.cell? ⟨w.heap.size,a,none⟩=some (.slice Aa na ca):=(World.cell?_of_block (a:=⟨w.heap.size,a,none⟩) (hg9.block w.heap.size (by omega) hne)).trans ((hBx.cell (p:=⟨w.heap.size,a,none⟩) HGN.out).trans HCA.out);have k2:w9.frozen? ⟨w.heap.size,a,none⟩=false:=(World.frozen?_of_block (a:=⟨w.heap.size,a,none⟩) (hg9.block w.heap.size (by omega) hne)).trans ((hBx.frozen (p:=⟨w.heap.size,a,none⟩) HGN.out).trans HFA.out);obtain⟨wz,hwz⟩:∃wz,w9.setCell ⟨w.heap.size,a,none⟩ (.slice (some ⟨gg,0,none⟩) (na+1) bX)=wz:=⟨_,rfl⟩;have HYZ:=hid (show cI 3 sU 24 45 wz w.heap.size (w.heap.size+1) N (byL gu.frm (l.take (k+1)))by
       rw[<- hwz,List.take_succ_eq_append_getElem HLT.out,HE.out,kL];refine(HY6.out.below hBx).longer (by omega) HAN.out (A:=Aa) (c:=ca) (by rw[HNA.out];exact(hBx.cell (p:=⟨w.heap.size,a,none⟩) HGN.out).trans HCA.out) ⟨a,GA,gn,gc,TA,tn,tc⟩ (by rw[HNA.out];exact hown9) (by rw[HNA.out];exact hg9) ?_;rw[HNA.out];rcases hat9 with q | q
       ·exact .inl (by rw[q];rfl)
       ·exact .inr ⟨gg,rfl,by omega⟩)
      have HBZ:=hid (show Below w.heap.size w wz by
       rw[<- hwz];exact((HB6.out.trans (hBx.mono (by omega))).grown hg9 (by omega) (fun q e=>by have:=(jJ.out q e).1;omega)).setCell (p:=⟨w.heap.size,a,none⟩) (Nat.le_refl _) _)
      have hQZ:=aM hQW (show wz.heap[wr.heap.size]? = w9.heap[wr.heap.size]? by rw[<- hwz];exact heap_setCell_other w9 ⟨w.heap.size,a,none⟩ wr.heap.size _ (show wr.heap.size≠w.heap.size by have:=HWR.out;omega));refine tk 9 ⟨some 31,.indexAddr 63 (.tmp 22) (.tmp 23),_,_,_,none⟩ ?_ rfl ?_ ?_;rotate_left
      ·intro w' hSw
       (try dsimp only at hSw)
       go_simp;all_goals with_reducible rfl
      try simp only[Act.put,sA,sB,sC]
      refine wpAnyH_ready (rs:=[10]) (by kernel_rfl) (by simp) ?_;refine AllReadyH.cons (o:=⟨none,.store 24 (.tmp 31) (.tmp 30),_,_,_,none⟩) rfl (fun K hK=>?_) AllReadyH.nil;go_simp;try rw[hwz]
      have hQW:=hQZ;refine hK.out _ _ ?_ (fun hHeld=>?_)
      ·exact hQW
      clear hK K;try simp only[Act.put,sA,sB,sC]
      refine wpAnyH_done (by kernel_rfl) ?_ _;clear k1 k2 hQW hQZ hown9 hat9 hg9;go_wp2_with (fail)
      go_roundw
      case rel=>exact⟨k+1,by omega,by go_num,HYZ.out,HBZ.out⟩
      case measure=>simp[intOf];omega
   ·obtain⟨ws,hws,hqs,hls,hbS⟩:=ay wd #[.int .i64 (a:Int),.slice GA gn gc,.slice TA tn tc] 45
    have hQW:=hQW.below hbS hQW.lt;have hBx:=ak hBx hbS;go_simp;try rw[hws]
    refine hK.out _ _ ?_ (fun hHeld=>?_)
    ·exact hQW
    clear hK K;try simp only[Act.put,sA,sB,sC]
    refine wpAnyH_ready (rs:=[5]) (by kernel_rfl) (by simp) ?_;refine(AllReadyH.cons (o:=⟨some 27,.load 24 (.tmp 26),_,_,_,none⟩) rfl (fun K hK=>?_) AllReadyH.nil)
    ·have hcl:ws.cell? ⟨w.heap.size,a,none⟩=some (.slice Aa na ca):=(hBx.cell (p:=⟨w.heap.size,a,none⟩) HGN.out).trans HCA.out
     go_simp;clear hcl;refine hK.out _ _ ?_ (fun hHeld=>?_)
     ·exact hQW
     clear hK K;try simp only[Act.put,sA,sB,sC]
     refine wpAnyH_ready (rs:=[8]) (by kernel_rfl) (by simp) ?_;refine(AllReadyH.cons (o:=⟨some 30,.call { callee:=.builtin .append,args:=#[.tmp 27,.tmp 29],argTypes:=#[24,24] },_,_,_,none⟩) rfl (fun K hK=>?_) AllReadyH.nil)
     ·have GZ:=hBx.size
      have hoW:=au HOA.out (fun x e=>hBx.block x (Nat.lt_of_lt_of_le (jJ.out x e).2 HZ6.out))
      (refine step_append_lies _ (by rfl) _ _ _ (by rfl) (w.heap.size+1) 45 i0 _ 3 56 Tryz.underlying24 hi0 hz0 hz1 hz2 rfl (by omega) (.slice Aa na ca) na _ (by rfl) hoW ⟨wd.heap.size,0,none⟩ 1 1 [.int .i64 (a:Int),.slice GA gn gc,.slice TA tn tc] (by rfl) (by rfl) (World.news_of_block (cs:=#[.int .i64 (a:Int),.slice GA gn gc,.slice TA tn tc]) (t:=45) (fr:=(0,0)) hqs) (by simp[Value.oneCell']) (by omega) (by simp only[maxLen];omega) (by omega) (by omega) (ws.heap.size) rfl ?_;intro gg bX w9 hown9 hg9 hat9 hlt9)
      have hQW:=aM hQW (hg9.block wr.heap.size hQW.lt (fun e=>by have:=(jJ.out wr.heap.size e.symm).2;omega));refine hK.out _ _ ?_ (fun hHeld=>?_)
      ·exact hQW
      clear hK K;try simp only[Act.put,sA,sB,sC]
      have hgN:=HGN.out;have hne:some w.heap.size≠(Value.slice Aa na ca).ownBlock:=fun e=>by have:=(jJ.out w.heap.size e.symm).1;omega
      have k1:w9.cell? ⟨w.heap.size,a,none⟩=some (.slice Aa na ca):=(World.cell?_of_block (a:=⟨w.heap.size,a,none⟩) (hg9.block w.heap.size (by omega) hne)).trans ((hBx.cell (p:=⟨w.heap.size,a,none⟩) HGN.out).trans HCA.out);have k2:w9.frozen? ⟨w.heap.size,a,none⟩=false:=(World.frozen?_of_block (a:=⟨w.heap.size,a,none⟩) (hg9.block w.heap.size (by omega) hne)).trans ((hBx.frozen (p:=⟨w.heap.size,a,none⟩) HGN.out).trans HFA.out);obtain⟨wz,hwz⟩:∃wz,w9.setCell ⟨w.heap.size,a,none⟩ (.slice (some ⟨gg,0,none⟩) (na+1) bX)=wz:=⟨_,rfl⟩;have HYZ:=hid (show cI 3 sU 24 45 wz w.heap.size (w.heap.size+1) N (byL gu.frm (l.take (k+1)))by
       rw[<- hwz,List.take_succ_eq_append_getElem HLT.out,HE.out,kL];refine(HY6.out.below hBx).longer (by omega) HAN.out (A:=Aa) (c:=ca) (by rw[HNA.out];exact(hBx.cell (p:=⟨w.heap.size,a,none⟩) HGN.out).trans HCA.out) ⟨a,GA,gn,gc,TA,tn,tc⟩ (by rw[HNA.out];exact hown9) (by rw[HNA.out];exact hg9) ?_;rw[HNA.out];rcases hat9 with q | q
       ·exact .inl (by rw[q];rfl)
       ·exact .inr ⟨gg,rfl,by omega⟩)
      have HBZ:=hid (show Below w.heap.size w wz by
       rw[<- hwz];exact((HB6.out.trans (hBx.mono (by omega))).grown hg9 (by omega) (fun q e=>by have:=(jJ.out q e).1;omega)).setCell (p:=⟨w.heap.size,a,none⟩) (Nat.le_refl _) _)
      have hQZ:=aM hQW (show wz.heap[wr.heap.size]? = w9.heap[wr.heap.size]? by rw[<- hwz];exact heap_setCell_other w9 ⟨w.heap.size,a,none⟩ wr.heap.size _ (show wr.heap.size≠w.heap.size by have:=HWR.out;omega));refine tk 9 ⟨some 31,.indexAddr 63 (.tmp 22) (.tmp 23),_,_,_,none⟩ ?_ rfl ?_ ?_;rotate_left
      ·intro w' hSw
       (try dsimp only at hSw)
       go_simp;all_goals with_reducible rfl
      try simp only[Act.put,sA,sB,sC]
      refine wpAnyH_ready (rs:=[10]) (by kernel_rfl) (by simp) ?_;refine AllReadyH.cons (o:=⟨none,.store 24 (.tmp 31) (.tmp 30),_,_,_,none⟩) rfl (fun K hK=>?_) AllReadyH.nil;go_simp;try rw[hwz]
      have hQW:=hQZ;refine hK.out _ _ ?_ (fun hHeld=>?_)
      ·exact hQW
      clear hK K;try simp only[Act.put,sA,sB,sC]
      refine wpAnyH_done (by kernel_rfl) ?_ _;clear k1 k2 hQW hQZ hown9 hat9 hg9;go_wp2_with (fail)
      go_roundw
      case rel=>exact⟨k+1,by omega,by go_num,HYZ.out,HBZ.out⟩
      case measure=>simp[intOf];omega
  ·obtain rfl:k=l.length:=by omega
   rw[List.take_length]at hy;have HY2:=hid hy;clear hy hbl;go_wp2_with (fail);go_ret;exact⟨rfl,HY2.out,HB.out⟩
end Go.Proofs.YtbdmcibcenhpnaaGreatDoor.Ep
