import Derived.Test.YtbdmcibcenhpnaaGreatDoorF3
import Derived.StillTailTactics
set_option maxRecDepth 100000
namespace Go.Proofs.YtbdmcibcenhpnaaGreatDoor.Sp
set_option maxHeartbeats 64000000
open Go Go.RowKit
open Go.Lib (hid)
def Blk (w:World) (g:Nat) (t:TypeId) (cs:Array Value):Prop:=w.heap[g]? = some (.cells cs t (0,0))
section
variable {w w':World} {g:Nat} {t:TypeId} {cs:Array Value}
theorem Blk.lt (h:Blk w g t cs):g<w.heap.size:=by
 rcases Nat.lt_or_ge g w.heap.size with hlt | hge
 ·exact hlt
 ·unfold Blk at h;rw[Array.getElem?_eq_none hge]at h;cases h
theorem Blk.cell (h:Blk w g t cs) (i:Nat):w.cell? ⟨g,i,none⟩=cs[i]?:=cell_of_row w g i cs t (0,0) h
theorem Blk.frozen (h:Blk w g t cs) (i:Nat):w.frozen? ⟨g,i,none⟩=false:=by
 unfold Blk at h;simp[World.frozen?,h]
theorem Blk.drew (h:Blk w g t cs):Blk w.drew g t cs:=h
theorem Blk.alloc (h:Blk w g t cs) (o:Obj):Blk (w.alloc o) g t cs:=(Below.heap_alloc w o g h.lt).trans h
theorem Blk.aV (h:Blk w g t cs) (i:Nat) (u:Value):Blk (w.setCell ⟨g,i,none⟩ u) g t (cs.setIfInBounds i u):=by
 unfold Blk at h ⊢;simp[World.setCell,Array.getElem?_modify,h]
theorem Blk.below {B:Nat} (h:Blk w g t cs) (hb:Below B w w') (hg:g<B):Blk w' g t cs:=(hb.block g hg).trans h
end
def At (cur:Array Value) (j:Nat) (p:Span):Prop:=cur[j*2]? = some (.int .i64 p.1)/\cur[j*2+1]? = some (.int .i64 p.2)
theorem At.other {cur:Array Value} {j i:Nat} {p:Span} (h:At cur j p) (u:Value) (hi:i<j*2\/j*2+1<i):At (cur.setIfInBounds i u) j p:=by
 unfold At at *;rw[Array.getElem?_setIfInBounds_ne (by omega),Array.getElem?_setIfInBounds_ne (by omega)];exact h
theorem At.here {cur:Array Value} {j:Nat} {lo hi:Int} (hs:j*2+1<cur.size):At ((cur.setIfInBounds (j*2) (.int .i64 lo)).setIfInBounds (j*2+1) (.int .i64 hi)) j (lo,hi):=by
 unfold At;rw[Array.getElem?_setIfInBounds_ne (by omega),Array.getElem?_setIfInBounds_self_of_lt (by omega),Array.getElem?_setIfInBounds_self_of_lt (by simp;omega)];exact⟨rfl,rfl⟩
theorem At.hi {cur:Array Value} {j:Nat} {p:Span} (h:At cur j p) (hi:Int):At (cur.setIfInBounds (j*2+1) (.int .i64 hi)) j (p.1,hi):=by
 unfold At at *;have hs:j*2+1<cur.size:=(Array.getElem?_eq_some_iff.1 h.2).1;rw[Array.getElem?_setIfInBounds_ne (by omega),Array.getElem?_setIfInBounds_self_of_lt hs];exact⟨h.1,rfl⟩
def aB (w:World) (g cap k:Nat) (out d:List Span):Prop:=
 ∃cur,Blk w g 47 cur/\cur.size=cap*2/\(∀(j:Nat) (h:j<out.length),At cur j out[j])/\(∀(j:Nat),k<=j->∀h:j<d.length,At cur j d[j])
theorem aB.more {w:World} {g cap k:Nat} {out d:List Span} {lo hi:Int} (h:aB w g cap k out d) (hk:out.length<=k) (hc:k<cap) :
  aB ((w.setCell ⟨g,out.length*2,none⟩ (.int .i64 lo)).setCell ⟨g,out.length*2+1,none⟩ (.int .i64 hi)) g cap (k+1) (out++[(lo,hi)]) d:=by
 obtain⟨cur,hb,hs,h1,h2⟩:=h;refine⟨_,(hb.aV _ _).aV _ _,by simp[hs],fun j hj=>?_,fun j hkj hj=>?_⟩
 ·rw[List.length_append,List.length_singleton]at hj
  by_cases e:j=out.length
  ·subst e
   rw[List.getElem_append_right (by omega)];simp only[Nat.sub_self,List.getElem_cons_zero];exact At.here (by omega)
  ·rw[List.getElem_append_left (by omega)]
   exact((h1 j (by omega)).other _ (by omega)).other _ (by omega)
 ·exact((h2 j (by omega) hj).other _ (by omega)).other _ (by omega)
theorem aB.merge {w:World} {g cap k:Nat} {o d:List Span} {r:Span} {hi:Int} (h:aB w g cap k (o++[r]) d) (hk:o.length<k) :
  aB (w.setCell ⟨g,o.length*2+1,none⟩ (.int .i64 hi)) g cap (k+1) (o++[(r.1,hi)]) d:=by
 obtain⟨cur,hb,hs,h1,h2⟩:=h;refine⟨_,hb.aV _ _,by simp[hs],fun j hj=>?_,fun j hkj hj=>?_⟩
 ·rw[List.length_append,List.length_singleton]at hj
  by_cases e:j=o.length
  ·subst e
   have h3:=h1 o.length (by simp);rw[List.getElem_append_right (by omega)]at h3 ⊢;simp only[Nat.sub_self,List.getElem_cons_zero]at h3 ⊢;exact h3.hi _
  ·have h3:=h1 j (by simp;omega)
   rw[List.getElem_append_left (by omega)]at h3 ⊢;exact h3.other _ (by omega)
 ·exact(h2 j (by omega) hj).other _ (by omega)
theorem aB.start {w:World} {base g cap:Nat} {d:List Span} (h:av w base (.slice (some ⟨g,0,none⟩) d.length cap) d):aB w g cap 0 [] d/\base<=g/\d.length<=cap/\cap<=maxLen:=by
 obtain⟨_,h2⟩:=h;rcases h2 with⟨h2,_⟩ | ⟨g',cap',cur,hv,hbase,hb,hn,hm,hs,ht⟩
 ·cases h2
 ·injection hv with hv _ hcap
  injection hv with hv;injection hv with hv;subst hv hcap;refine⟨⟨cur,hb,hs,fun j hj=>by simp at hj,fun j _ hj=>?_⟩,hbase,hn,hm⟩;have h3:=cZ d j hj;rw[<- ht]at h3;rw[List.getElem?_take_of_lt (by omega),List.getElem?_take_of_lt (by omega),Array.getElem?_toList,Array.getElem?_toList]at h3;unfold At;rw[show j*2=2*j from by omega];exact h3
theorem aB.owns {w:World} {base g cap k:Nat} {out d:List Span} (h:aB w g cap k out d) (hbase:base<=g) (hn:out.length<=cap) (hm:cap<=maxLen):av w base (.slice (some ⟨g,0,none⟩) out.length cap) out:=by
 obtain⟨cur,hb,hs,h1,_⟩:=h;refine⟨aH out,.inr ⟨g,cap,cur,rfl,hbase,hb,hn,hm,hs,?_⟩⟩;apply List.ext_getElem?;intro i;by_cases hi:i<out.length*2
 ·rw[List.getElem?_take_of_lt hi,Array.getElem?_toList]
  have h2:=h1 (i / 2) (by omega);have h3:=cZ out (i / 2) (by omega);rcases Nat.mod_two_eq_zero_or_one i with e | e
  ·rw[show i=2*(i / 2)from by omega,h3.1,<- h2.1]
   congr 1;omega
  ·rw[show i=2*(i / 2)+1 from by omega,h3.2,<- h2.2]
   congr 1;omega
 ·rw[List.getElem?_take_eq_none (by omega),List.getElem?_eq_none (by rw[aH];omega)]
theorem aB.alloc {w:World} {g cap k:Nat} {out d:List Span} (h:aB w g cap k out d) (o:Obj):aB (w.alloc o) g cap k out d:=by
 obtain⟨cur,hb,h⟩:=h;exact⟨cur,hb.alloc o,h⟩
theorem aB.drewN {w:World} {g cap k:Nat} {out d:List Span} (h:aB w g cap k out d) (n:Nat):aB (w.drewN n) g cap k out d:=h
theorem aB.drew {w:World} {g cap k:Nat} {out d:List Span} (h:aB w g cap k out d):aB w.drew g cap k out d:=h
theorem aB.reads {w:World} {g cap k:Nat} {out d:List Span} (h:aB w g cap k out d) (hk:k<d.length) (hc:d.length<=cap) (ho:out.length<=k):∃(lo hi:Int) (o1 o2:Value),g<w.heap.size/\d[k]=(lo,hi) /\
  w.cell? ⟨g,k*2,none⟩=some (.int .i64 lo)/\w.cell? ⟨g,k*2+1,none⟩=some (.int .i64 hi)/\w.cell? ⟨g,out.length*2,none⟩=some o1/\w.cell? ⟨g,out.length*2+1,none⟩=some o2/\(∀i,w.frozen? ⟨g,i,none⟩=false):=by
 obtain⟨cur,hb,hs,h1,h2⟩:=h;have h3:=h2 k (Nat.le_refl _) hk;have e1:cur[out.length*2]? = some (cur[out.length*2]'(by omega)):=Array.getElem?_eq_getElem (by omega);have e2:cur[out.length*2+1]? = some (cur[out.length*2+1]'(by omega)):=Array.getElem?_eq_getElem (by omega);exact⟨d[k].1,d[k].2,_,_,hb.lt,rfl,(hb.cell _).trans h3.1,(hb.cell _).trans h3.2,(hb.cell _).trans e1,(hb.cell _).trans e2,hb.frozen⟩
theorem aB.last {w:World} {g cap k:Nat} {o d:List Span} {r:Span} (h:aB w g cap k (o++[r]) d):w.cell? ⟨g,o.length*2+1,none⟩=some (.int .i64 r.2):=by
 obtain⟨cur,hb,hs,h1,h2⟩:=h;have h3:=h1 o.length (by simp);rw[List.getElem_append_right (by omega)]at h3;simp only[Nat.sub_self,List.getElem_cons_zero]at h3;exact(hb.cell _).trans h3.2
def Ip (d:List Span) (g cap base:Nat) (w:World) (m i:Value) (wr:World):Prop:=∃(k:Nat) (out:List Span),k<=d.length/\i = .int .i64 k/\m = .int .i64 out.length/\cF d k out/\aB wr g cap k out d/\Below base w wr
def Iq (w:World) (base:Nat) (d:List Span) (e:Ending) (w':World):Prop:=∃v' out,e = .returned v'/\Is out (mem d)/\av w' base v' out/\Below base w w'
theorem uN (base g cap:Nat) (d:List Span) (w:World) (hown:av w base (.slice (some ⟨g,0,none⟩) d.length cap) d) (hbase:base<=w.heap.size) (hs:dn d) (hd:∀p∈d,Ok p) (hlen:d.length<=1099511627776) :
  Calls Tryz.prog 122 #[.slice (some ⟨g,0,none⟩) d.length cap] w (Iq w base d):=by
 obtain⟨hm0,hg,hdc,hcm⟩:=aB.start hown;clear hown;have HM0:=hid hm0;clear hm0;have HS:=hid hs;clear hs;have HD:=hid hd;clear hd;unfold maxLen at hcm;go_enter Tryz.func122,Tryz.ntmps122;go_wp2_with (fail)
 go_loopw [3,8] (fun m i wr=>Ip d g cap base w m i wr) (fun _ i _=>d.length-(intOf i).toNat)
 case atStart=>exact⟨0,[],Nat.zero_le _,rfl,rfl,cF.start d,HM0.out,Below.refl _ _⟩
 case round=>
  obtain⟨k,out,hk,rfl,rfl,hi,hm,hb⟩:=hrel;have sO:=hi.few;have HI:=hid hi;clear hi;by_cases hlt:k<d.length
  ·obtain⟨lo,hi,o1,o2,hgs,hdk,hc1,hc2,hc3,hc4,hfz⟩:=hm.reads hlt hdc sO
   have HK:=hid hdk;clear hdk;have hws:=hb.size;have HM:=hid hm;clear hm;rcases List.eq_nil_or_concat out with rfl | ⟨o,r,rfl⟩
   ·have hd0:decide ((0:Int)<((0:Nat):Int))=false:=by simp
    simp only[List.length_nil,Nat.zero_mul,Nat.zero_add]at hc3 hc4;go_wp2_with (fail);go_quiet (fail);go_wp2_with (fail);have hI1:=HI.out.more HS.out HD.out hlt (fun r hr=>by simp at hr);rw[HK.out]at hI1;have hM1:=(HM.out.alloc (.cells #[.int .i64 lo,.int .i64 hi] 47)).more (lo:=lo) (hi:=hi) (Nat.zero_le _) (by omega);simp only[List.length_nil,Nat.zero_mul,Nat.zero_add]at hM1
    go_roundw
    case rel=>exact⟨k+1,[]++[(lo,hi)],by omega,by go_num,rfl,hI1,hM1,((below_drewN (hb.alloc (by omega) _) _).setCell hg _).setCell hg _⟩
    case measure=>simp[intOf];omega
   ·obtain⟨rl,rh⟩:=r
    simp only[List.concat_eq_append,List.length_append,List.length_singleton]at *;have hrl : -1073741824<=rh/\rh<=1073741824:=by
     have:=HI.out.plain.2 (rl,rh) (by simp);unfold Ok at this;simp only at this;omega
    have hc5:wr.cell? ⟨g,o.length*2+1,none⟩=some (.int .i64 rh):=HM.out.last;have hd0:decide ((0:Int)<((o.length+1:Nat):Int))=true:=by simp
    generalize hj:o.length=j at *
    have HJ:=hid hj;clear hj;by_cases a:lo<=rh+1
    ·clear hc3 hc4
     go_wp2_with (fail);go_quiet (fail);have hI1:=HI.out.merge HD.out hlt (by rw[HK.out];exact a);rw[HK.out]at hI1;simp only at hI1;have HI1:=hid hI1;clear hI1;by_cases hmx:rh<hi
     ·have hM1:=fun n=>(((HM.out.alloc (.cells #[.int .i64 lo,.int .i64 hi] 47)).drewN n).merge (hi:=hi) (by rw[HJ.out];omega))
      rw[HJ.out]at hM1;have HM1:=hid hM1;clear hM1;go_wp2_with (fail)
      go_region
      all_goals go_wp2_with (fail)
      all_goals go_roundw
      case rel=>exact⟨k+1,o++[(rl,hi)],by omega,by go_num,by rw[List.length_append,HJ.out,List.length_singleton];go_num,by have:=HI1.out;rwa [show max rh hi=hi from by omega]at this,HM1.out _,(below_drewN (hb.alloc (by omega) _) _).setCell hg _⟩
      case measure=>simp[intOf];omega
     ·have hM1:=fun n=>(((HM.out.alloc (.cells #[.int .i64 lo,.int .i64 hi] 47)).drewN n).merge (hi:=rh) (by rw[HJ.out];omega))
      rw[HJ.out]at hM1;have HM1:=hid hM1;clear hM1;go_wp2_with (fail)
      go_region
      all_goals go_wp2_with (fail)
      all_goals go_roundw
      case rel=>exact⟨k+1,o++[(rl,rh)],by omega,by go_num,by rw[List.length_append,HJ.out,List.length_singleton];go_num,by have:=HI1.out;rwa [show max rh hi=rh from by omega]at this,HM1.out _,(below_drewN (hb.alloc (by omega) _) _).setCell hg _⟩
      case measure=>simp[intOf];omega
    ·have hI1:=HI.out.more HS.out HD.out hlt (fun r hr=>by simp at hr;subst hr;rw[HK.out];simp only;omega)
     rw[HK.out]at hI1;have hM1:=fun n=>((HM.out.alloc (.cells #[.int .i64 lo,.int .i64 hi] 47)).drewN n).more (lo:=lo) (hi:=hi) (by rw[List.length_append,HJ.out,List.length_singleton];omega) (by omega)
     rw[List.length_append,HJ.out,List.length_singleton]at hM1;have HI1:=hid hI1;clear hI1;have HM1:=hid hM1;clear hM1;go_wp2_with (fail);go_quiet (fail);go_wp2_with (fail)
     go_roundw
     case rel=>exact⟨k+1,o++[(rl,rh)]++[(lo,hi)],by omega,by go_num,by simp only[List.length_append,HJ.out,List.length_singleton];go_num,HI1.out,HM1.out _,((below_drewN (hb.alloc (by omega) _) _).setCell hg _).setCell hg _⟩
     case measure=>simp[intOf];omega
  ·have hkd:d.length<=k:=by omega
   have hlo:out.length<=cap:=by omega
   go_wp2_with (fail);go_ret;exact⟨_,out,rfl,HI.out.done hkd,hm.owns hg hlo (by unfold maxLen;omega),hb⟩
theorem join_none (w:World):Calls Tryz.prog 122 #[.slice none 0 0] w (E1 (.slice none 0 0) w):=by
 go_enter Tryz.func122,Tryz.ntmps122;go_wp2_with (fail)
 go_loop [3,8] (fun m i=>m = .int .i64 (0:Nat)/\i = .int .i64 (0:Nat)) (fun _ i=>0-(intOf i).toNat)
 case atStart=>exact⟨rfl,rfl⟩
 case round=>
  obtain⟨rfl,rfl⟩:=hrel;go_wp2_with (fail);go_ret;exact⟨rfl,rfl⟩
end Go.Proofs.YtbdmcibcenhpnaaGreatDoor.Sp
namespace Go.Proofs.YtbdmcibcenhpnaaGreatDoor.Sp
set_option maxHeartbeats 64000000
open Go Go.RowKit
open Go.Lib (hid)
def Srt (xs:List Int):Prop:=xs.Pairwise (· < ·)
def bD (w:World) (base:Nat) (v:Value) (xs:List Int):Prop:=w.ownsRow base 3 1 v xs.length (xs.map (Value.int .i64))
theorem gh:(Tryz.prog.info? 3).map (fun i=>(i.zero,i.size,i.bytes))=some (some (.int .i64 0),1,8):=by kernel_rfl
theorem Srt.lt {xs:List Int} (h:Srt xs) {i j:Nat} (hij:i<j) (hj:j<xs.length):xs[i]<xs[j]:=List.pairwise_iff_getElem.1 h i j (by omega) hj hij
theorem Srt.ins {xs:List Int} (h:Srt xs) {x:Int} {p:Nat} (hp:p<=xs.length) (h1:∀(i:Nat) (hi:i<xs.length),i<p->xs[i]<x) (h2:∀(i:Nat) (hi:i<xs.length),p<=i->x<xs[i]):Srt (xs.take p++x::xs.drop p):=by
 unfold Srt;rw[<- List.take_append_drop p xs]at h;obtain⟨a,b,c⟩:=List.pairwise_append.1 h;have d1:∀y∈xs.take p,y<x:=by
  intro y hy;obtain⟨i,hi,rfl⟩:=List.getElem_of_mem hy;rw[List.length_take]at hi;rw[List.getElem_take];exact h1 i (by omega) (by omega)
 have d2:∀y∈xs.drop p,x<y:=by
  intro y hy;obtain⟨i,hi,rfl⟩:=List.getElem_of_mem hy;rw[List.length_drop]at hi;rw[List.getElem_drop];exact h2 (p+i) (by omega) (by omega)
 refine List.pairwise_append.2 ⟨a,List.pairwise_cons.2 ⟨d2,b⟩,?_⟩;intro y hy z hz;rcases List.mem_cons.1 hz with rfl | hz
 ·exact d1 y hy
 ·exact c y hy z hz
theorem oL {xs:List Int} {x y:Int} (p:Nat):y∈xs.take p++x::xs.drop p↔y=x\/y∈xs:=by
 have e:y∈xs↔y∈xs.take p\/y∈xs.drop p:=by rw[<- List.mem_append,List.take_append_drop]
 rw[List.mem_append,List.mem_cons,e]
 constructor
 all_goals
  rintro(h | h | h)
  ·exact .inr (.inl h)
  ·exact .inl h
  ·exact .inr (.inr h)
structure BS (xs:List Int) (x:Int) (lo hi:Nat):Prop where
 le:lo<=hi
 top:hi<=xs.length
 below:∀(i:Nat) (h:i<xs.length),i<lo->xs[i]<x
 above:∀(i:Nat) (h:i<xs.length),hi<=i->x<=xs[i]
theorem BS.start (xs:List Int) (x:Int):BS xs x 0 xs.length:=⟨Nat.zero_le _,Nat.le_refl _,fun _ _ h=>by omega,fun _ _ h=>by omega⟩
theorem BS.right {xs:List Int} {x:Int} {lo hi k:Nat} (h:BS xs x lo hi) (hs:Srt xs) (h1:lo<=k) (h2:k<hi) (hk:∃hl:k<xs.length,xs[k]<x):BS xs x (k+1) hi:=by
 obtain⟨hl,hk⟩:=hk;refine⟨by omega,h.top,fun i hi' hlt=>?_,h.above⟩;by_cases e:i=k
 ·subst e;exact hk
 ·have:=hs.lt (show i<k by omega) hl
  omega
theorem BS.left {xs:List Int} {x:Int} {lo hi k:Nat} (h:BS xs x lo hi) (hs:Srt xs) (h1:lo<=k) (h2:k<hi) (hk:∃hl:k<xs.length,x<=xs[k]):BS xs x lo k:=by
 obtain⟨hl,hk⟩:=hk;refine⟨h1,by omega,h.below,fun i hi' hlt=>?_⟩;by_cases e:i=k
 ·subst e;exact hk
 ·have:=hs.lt (show k<i by omega) hi'
  omega
theorem aY {w:World} {base g cap:Nat} {xs:List Int} (h:bD w base (.slice (some ⟨g,0,none⟩) xs.length cap) xs) {k:Nat} (hk:k<xs.length):w.cell? ⟨g,k,none⟩=some (.int .i64 xs[k]):=by
 rw[World.ownsRow.cellAt h k (by omega)];simp[hk]
def oW (w:World) (base:Nat) (xs:List Int) (x:Int) (e:Ending) (w':World):Prop:=∃v' ys,e = .returned v'/\bD w' base v' ys/\Srt ys/\(∀y,y∈ys↔y=x\/y∈xs)/\ys.length<=xs.length+1/\Below base w w'
def kM (xs:List Int) (g cap base p:Nat) (w:World) (i:Value) (wr:World):Prop:=∃(k:Nat) (u:Int),p<=k/\k<=xs.length/\i = .int .i64 k/\bD wr base (.slice (some ⟨g,0,none⟩) (xs.take k++u::xs.drop k).length cap) (xs.take k++u::xs.drop k)/\Below base w wr
theorem bq (xs:List Int) (u:Int) {k:Nat} (hk:k<=xs.length):(xs.take k++u::xs.drop k).length=xs.length+1:=by
 simp only[List.length_append,List.length_take,List.length_cons,List.length_drop];omega
theorem mX (xs:List Int) (u:Int) {k:Nat} (hk:k+1<=xs.length):((xs.take (k+1)++u::xs.drop (k+1)).map (Value.int .i64)).set (k+1) (.int .i64 xs[k])=(xs.take k++xs[k]::xs.drop k).map (Value.int .i64):=by
 rw[<- List.map_set]
 congr 1
 rw[List.set_append_right _ _ (by rw[List.length_take];omega),List.length_take,Nat.min_eq_left hk,Nat.sub_self,List.set_cons_zero];rw[List.take_succ_eq_append_getElem (by omega),List.drop_eq_getElem_cons (i:=k) (by omega),List.append_assoc];rfl
theorem kC (xs:List Int) (u x:Int) {k:Nat} (hk:k<=xs.length):((xs.take k++u::xs.drop k).map (Value.int .i64)).set k (.int .i64 x)=(xs.take k++x::xs.drop k).map (Value.int .i64):=by
 rw[<- List.map_set]
 congr 1
 rw[List.set_append_right _ _ (by rw[List.length_take];omega),List.length_take,Nat.min_eq_left hk,Nat.sub_self,List.set_cons_zero]
theorem Bm (xs:List Int) (u:Int) {k:Nat} (hk:k+1<=xs.length):∃h:k<(xs.take (k+1)++u::xs.drop (k+1)).length,(xs.take (k+1)++u::xs.drop (k+1))[k]=xs[k]:=by
 refine⟨by rw[bq _ _ hk];omega,?_⟩;rw[List.getElem_append_left (by rw[List.length_take];omega),List.getElem_take]
theorem Ds (base g cap:Nat) (xs:List Int) (x:Int) (w:World) (hown:bD w base (.slice (some ⟨g,0,none⟩) xs.length cap) xs) (hbase:base<=w.heap.size) (hs:Srt xs) (hlen:xs.length<=1099511627776) :
  Calls Tryz.prog 71 #[.slice (some ⟨g,0,none⟩) xs.length cap,.int .i64 x] w (oW w base xs x):=by
 obtain⟨i0,hi0,hz0,hz1,hz2⟩:=info_parts gh;have HO:=hid hown;clear hown;have HS:=hid hs;clear hs;go_enter Tryz.func71,Tryz.ntmps71;go_wp2_with (fail)
 go_loop [5,6] (fun a b=>∃lo hi:Nat,a = .int .i64 lo/\b = .int .i64 hi/\BS xs x lo hi) (fun a b=>(intOf b).toNat-(intOf a).toNat)
 case atStart=>exact⟨0,xs.length,rfl,rfl,BS.start xs x⟩
 case round=>
  obtain⟨lo,hi,rfl,rfl,hb⟩:=hrel;have hle:=hb.le;have jC:=hb.top;have HB:=hid hb;clear hb;by_cases hlt:lo<hi
  ·obtain⟨y,hy⟩:∃y,xs[(lo+hi) / 2]'(by omega)=y:=⟨_,rfl⟩
   have hc:w.cell? ⟨g,(lo+hi) / 2,none⟩=some (.int .i64 y):=by rw[aY HO.out (by omega),hy]
   have HY:=hid hy;clear hy;by_cases hyx:y<x
   ·go_wp2_with (fail)
    go_round
    case rel=>exact⟨(lo+hi) / 2+1,hi,by go_num,rfl,HB.out.right HS.out (by omega) (by omega) ⟨by omega,by rw[HY.out];exact hyx⟩⟩
    case measure=>simp[intOf];omega
   ·go_wp2_with (fail)
    go_round
    case rel=>exact⟨lo,(lo+hi) / 2,rfl,by go_num,HB.out.left HS.out (by omega) (by omega) ⟨by omega,by rw[HY.out];omega⟩⟩
    case measure=>simp[intOf];omega
  ·obtain rfl:lo=hi:=by omega
   by_cases hin:lo<xs.length
   ·obtain⟨y,hy⟩:∃y,xs[lo]=y:=⟨_,rfl⟩
    have hc:w.cell? ⟨g,lo,none⟩=some (.int .i64 y):=by rw[aY HO.out hin,hy]
    have HY0:=hid hy;clear hy;by_cases hyx:y=x
    ·subst hyx
     go_wp2_with (fail);go_ret;refine⟨_,xs,rfl,HO.out,HS.out,fun z=>⟨.inr,?_⟩,by omega,Below.refl _ _⟩;rintro(rfl | h)
     ·rw[<- HY0.out];exact List.getElem_mem hin
     ·exact h
    ·have hd:(y == x)=false:=by simpa using hyx
     have HN:=hid hyx;clear hyx;go_wp2_with (at_builtin;go_must (refine wpList_append_own _ rfl _ _ 56 rfl base 3 i0 _ 1 8 Tryz.underlying56 hi0 hz0 hz1 hz2 rfl (by decide) _ xs.length (xs.map (Value.int .i64)) rfl (HO.out.alloc _) ⟨w.heap.size,0,none⟩ 1 1 [.int .i64 0] rfl rfl (cell_one_new _ _ _) ?c2 ?c3 ?c4 ?c5 ?_))
     case c2=>rfl
     case c3=>simp only[maxLen];omega
     case c4=>omega
     case c5=>omega
     intro v1 w1 hown1 hg1 _;obtain⟨g1,cap1,hv,hbg,hl1⟩:=hown1.form (by omega);rw[hv]at hown1;rw[hv];have hB1:Below base w w1:=((Below.refl base w).alloc hbase _).grown hg1 (by simp;omega) (fun k hk=>(HO.out.lt k hk).1);have HB1:=hid hB1;clear hB1;have h0:bD w1 base (.slice (some ⟨g1,0,none⟩) (xs.take xs.length++0::xs.drop xs.length).length cap1) (xs.take xs.length++0::xs.drop xs.length):=by
      unfold bD;rw[bq _ _ (Nat.le_refl _),List.take_length,List.drop_length,List.map_append];exact hown1
     have H0:=hid h0;clear h0;clear hown1 hg1 hl1 hv;go_wp2_with (fail)
     go_loopw [8] (fun i wr=>kM xs g1 cap1 base lo w i wr) (fun i _=>(intOf i).toNat)
     case atStart=>exact⟨xs.length,0,jC,Nat.le_refl _,rfl,H0.out,HB1.out⟩
     case round=>
      obtain⟨k,u,hpk,hkn,rfl,hos,hbs⟩:=hrel;have hlen2:=bq xs u hkn;have hoc:=hos;rw[hlen2]at hoc;by_cases hkp:lo<k
      ·rcases k with _ | m
       ·omega
       ·obtain⟨hm1,hm2⟩:=Bm xs u hkn
        have hc1:wr.cell? ⟨g1,m,none⟩=some (.int .i64 xs[m]):=by rw[aY hos hm1,hm2]
        obtain⟨o2,hc2⟩:∃o,wr.cell? ⟨g1,m+1,none⟩=some o:=⟨_,aY hos (show m+1<_ by rw[hlen2];omega)⟩;have hfz:=World.ownsRow.frozenAt hos (m+1);have hst:=World.ownsRow.stored hos (m+1) (.int .i64 xs[m]);rw[mX xs u hkn]at hst;have HST:=hid hst.1;have HL2:=hid hlen2
        generalize hy:xs[m]=y at *
        clear hst hlen2 hos hoc hm1 hm2 hy;go_wp2_with (fail)
        go_roundw
        case rel=>exact⟨m,y,by omega,by omega,rfl,by have:=HST.out;unfold bD;rw[bq _ _ (by omega)];rw[HL2.out]at this;exact this,hbs.setCell hbg _⟩
        case measure=>simp[intOf]
      ·obtain rfl:k=lo:=by omega
       obtain⟨o2,hc2⟩:∃o,wr.cell? ⟨g1,k,none⟩=some o:=⟨_,aY hos (show k<_ by rw[hlen2];omega)⟩;have hfz:=World.ownsRow.frozenAt hos k;have hst:=World.ownsRow.stored hos k (.int .i64 x);rw[kC xs u x hkn]at hst;have HST:=hid hst.1;have HL2:=hid hlen2;clear hst hlen2 hos hoc;go_wp2_with (fail);go_ret;refine⟨_,xs.take k++x::xs.drop k,rfl,?_,HS.out.ins jC HB.out.below ?_,fun y=>oL k,by rw[bq _ _ jC];exact Nat.le_refl _,hbs.setCell hbg _⟩
       ·have:=HST.out
        unfold bD;rw[bq _ _ jC];rw[HL2.out]at this;exact this
       ·intro i hi hle
        have h1:=HB.out.above i hi hle;have h2:=HB.out.above k hin (Nat.le_refl _);rw[HY0.out]at h2;have h3:=HN.out;by_cases e:i=k
        ·subst e;rw[HY0.out];omega
        ·have h4:=HS.out.lt (show k<i by omega) hi
         rw[HY0.out]at h4;omega
   ·have hin2:xs.length<=lo:=by omega
    go_wp2_with (at_builtin;go_must (refine wpList_append_own _ rfl _ _ 56 rfl base 3 i0 _ 1 8 Tryz.underlying56 hi0 hz0 hz1 hz2 rfl (by decide) _ xs.length (xs.map (Value.int .i64)) rfl (HO.out.alloc _) ⟨w.heap.size,0,none⟩ 1 1 [.int .i64 0] rfl rfl (cell_one_new _ _ _) ?c2 ?c3 ?c4 ?c5 ?_))
    case c2=>rfl
    case c3=>simp only[maxLen];omega
    case c4=>omega
    case c5=>omega
    intro v1 w1 hown1 hg1 _;obtain⟨g1,cap1,hv,hbg,hl1⟩:=hown1.form (by omega);rw[hv]at hown1;rw[hv];have hB1:Below base w w1:=((Below.refl base w).alloc hbase _).grown hg1 (by simp;omega) (fun k hk=>(HO.out.lt k hk).1);have HB1:=hid hB1;clear hB1;have h0:bD w1 base (.slice (some ⟨g1,0,none⟩) (xs.take xs.length++0::xs.drop xs.length).length cap1) (xs.take xs.length++0::xs.drop xs.length):=by
     unfold bD;rw[bq _ _ (Nat.le_refl _),List.take_length,List.drop_length,List.map_append];exact hown1
    have H0:=hid h0;clear h0;clear hown1 hg1 hl1 hv;go_wp2_with (fail)
    go_loopw [8] (fun i wr=>kM xs g1 cap1 base lo w i wr) (fun i _=>(intOf i).toNat)
    case atStart=>exact⟨xs.length,0,jC,Nat.le_refl _,rfl,H0.out,HB1.out⟩
    case round=>
     obtain⟨k,u,hpk,hkn,rfl,hos,hbs⟩:=hrel;have hlen2:=bq xs u hkn;have hoc:=hos;rw[hlen2]at hoc;by_cases hkp:lo<k
     ·omega
     ·obtain rfl:k=lo:=by omega
      obtain⟨o2,hc2⟩:∃o,wr.cell? ⟨g1,k,none⟩=some o:=⟨_,aY hos (show k<_ by rw[hlen2];omega)⟩;have hfz:=World.ownsRow.frozenAt hos k;have hst:=World.ownsRow.stored hos k (.int .i64 x);rw[kC xs u x hkn]at hst;have HST:=hid hst.1;have HL2:=hid hlen2;clear hst hlen2 hos hoc;go_wp2_with (fail);go_ret;refine⟨_,xs.take k++x::xs.drop k,rfl,?_,HS.out.ins jC HB.out.below ?_,fun y=>oL k,by rw[bq _ _ jC];exact Nat.le_refl _,hbs.setCell hbg _⟩
      ·have:=HST.out
       unfold bD;rw[bq _ _ jC];rw[HL2.out]at this;exact this
      ·intro i hi hle;omega
end Go.Proofs.YtbdmcibcenhpnaaGreatDoor.Sp
namespace Go.Proofs.YtbdmcibcenhpnaaGreatDoor.Sp
set_option maxHeartbeats 64000000
open Go Go.RowKit
open Go.Lib (hid)
structure CT (done:List Span) (ys:List Int):Prop where
 srt:Srt ys
 rng:∀y∈ys,Rng y
 least : -1073741824∈ys
 lo:∀p∈done,-1073741824<p.1->p.1<=1073741824->p.1∈ys
 hi:∀p∈done,-1073741824<=p.2->p.2<1073741824->p.2+1∈ys
 few:ys.length<=1+2*done.length
theorem CT.start:CT [] [-1073741824]:=
 ⟨List.pairwise_singleton _ _,fun y h=>by obtain rfl:=List.mem_singleton.1 h;unfold Rng;omega,List.mem_singleton.2 rfl,fun _ h=>(by cases h),fun _ h=>(by cases h),by simp⟩
theorem CT.step {done:List Span} {ys zs:List Int} {lo hi:Int} (h:CT done ys) (hs:Srt zs) (h1:∀y∈ys,y∈zs) (h2:∀y∈zs,y∈ys\/Rng y) (h3 : -1073741824<lo->lo<=1073741824->lo∈zs) (h4 : -1073741824<=hi->hi<1073741824->hi+1∈zs) (hl:zs.length<=ys.length+2):CT (done++[(lo,hi)]) zs:=by
 refine⟨hs,fun y hy=>?_,h1 _ h.least,fun p hp=>?_,fun p hp=>?_,?_⟩
 ·rcases h2 y hy with h5 | h5
  ·exact h.rng y h5
  ·exact h5
 ·rcases List.mem_append.1 hp with hp | hp
  ·exact fun a b=>h1 _ (h.lo p hp a b)
  ·obtain rfl:=List.mem_singleton.1 hp
   exact h3
 ·rcases List.mem_append.1 hp with hp | hp
  ·exact fun a b=>h1 _ (h.hi p hp a b)
  ·obtain rfl:=List.mem_singleton.1 hp
   exact h4
 ·have:=h.few
  rw[List.length_append,List.length_singleton];omega
def Mt (w:World) (base:Nat) (xs:List Int) (x:Int) (e:Ending) (w':World):Prop:=∃g cap ys,e = .returned (.slice (some ⟨g,0,none⟩) ys.length cap)/\bD w' base (.slice (some ⟨g,0,none⟩) ys.length cap) ys/\Srt ys/\(∀y,y∈ys↔y=x\/y∈xs)/\ys.length<=xs.length+1/\Below base w w'
theorem bW (base g cap:Nat) (xs:List Int) (x:Int) (w:World) (hown:bD w base (.slice (some ⟨g,0,none⟩) xs.length cap) xs) (hbase:base<=w.heap.size) (hs:Srt xs) (hlen:xs.length<=1099511627776) :
  Calls Tryz.prog 71 #[.slice (some ⟨g,0,none⟩) xs.length cap,.int .i64 x] w (Mt w base xs x):=
 (Ds base g cap xs x w hown hbase hs hlen).mono fun e w' ⟨v,ys,he,ho,hs,hm,hl,hb⟩=>by
  have hp:0<ys.length:=List.length_pos_of_mem ((hm x).2 (.inl rfl));obtain⟨g',cap',hv,_,_⟩:=World.ownsRow.form ho hp;subst hv;exact⟨g',cap',ys,he,ho,hs,hm,hl,hb⟩
def Lm (done:List Span) (base:Nat) (w:World) (v:Value) (wr:World):Prop:=∃(g cap:Nat) (ys:List Int),v = .slice (some ⟨g,0,none⟩) ys.length cap/\bD wr base (.slice (some ⟨g,0,none⟩) ys.length cap) ys/\CT done ys/\Below base w wr
def KP (l r:List Span) (base:Nat) (w:World) (v k:Value) (wr:World):Prop:=(k = .int .i64 0/\Lm [] base w v wr)\/(k = .int .i64 1/\Lm l base w v wr)\/(k = .int .i64 2/\Lm (l++r) base w v wr)
def Gb (pre s:List Span) (base:Nat) (w:World) (v i:Value) (wr:World):Prop:=∃j:Nat,j<=s.length/\i = .int .i64 j/\Lm (pre++s.take j) base w v wr
def yD (w:World) (l r:List Span) (e:Ending) (w':World):Prop:=∃g cap ys,e = .returned (.slice (some ⟨g,0,none⟩) ys.length cap)/\bD w' w.heap.size (.slice (some ⟨g,0,none⟩) ys.length cap) ys/\CT (l++r) ys/\Below w.heap.size w w'
theorem aS {pre s:List Span} {k:Nat} {lo hi:Int} (hk:∃hl:k<s.length,s[k]=(lo,hi)):pre++s.take (k+1)=(pre++s.take k)++[(lo,hi)]:=by
 obtain⟨hl,e⟩:=hk;rw[List.take_succ_eq_append_getElem hl,e,List.append_assoc]
theorem Gy (w:World) (x:Int):bD (w.alloc (.cells #[.int .i64 x] 3)) w.heap.size (.slice (some ⟨w.heap.size,0,none⟩) [x].length 1) [x]:=
 ⟨rfl,.inr ⟨w.heap.size,1,_,rfl,Nat.le_refl _,heap_alloc_new w _,Nat.le_refl _,by unfold maxLen;omega,rfl,rfl⟩⟩
theorem jM (A A':Option Addr) (n n' c c':Nat) (l r:List Span) (w:World) (h:RS w w.heap.size A n l) (h':RS w w.heap.size A' n' r) (hn:n<=68719476736) (hn':n'<=68719476736) :
  Calls Tryz.prog 57 #[.slice A n c,.slice A' n' c'] w (yD w l r):=by
 have el:=h.1;have el':=h'.1;subst el el';go_enter Tryz.func57,Tryz.ntmps57;go_wp2_with (fail)
 go_loopw [5,6] (fun v k wr=>KP l r w.heap.size w v k wr) (fun _ k _=>2-(intOf k).toNat)
 case atStart=>exact .inl ⟨rfl,w.heap.size,1,[-1073741824],rfl,Gy w _,CT.start,(Below.refl _ _).alloc (Nat.le_refl _) _⟩
 case round=>
  obtain⟨wo,rfl⟩:∃wo:World,wo=wr:=⟨_,rfl⟩;rcases hrel with⟨rfl,g0,cap0,ys0,rfl,ho0,hB0,hb0⟩ | ⟨rfl,g0,cap0,ys0,rfl,ho0,hB0,hb0⟩ | ⟨rfl,g0,cap0,ys0,rfl,ho0,hB0,hb0⟩
  ·have HO0:=hid ho0;clear ho0
   have HB0:=hid hB0;clear hB0;have hz0:=hb0.size;go_wp2_with (fail)
   go_loopw [5,8] (fun v i wr=>Gb [] l w.heap.size w v i wr) (fun _ i _=>l.length-(intOf i).toNat)
   case atStart=>exact⟨0,Nat.zero_le _,rfl,g0,cap0,ys0,rfl,HO0.out,HB0.out,hb0⟩
   case round=>
    obtain⟨k,hk,rfl,g,cap,ys,rfl,ho,hB,hb⟩:=hrel;have sO:=hB.few;simp only[List.length_take,List.nil_append]at sO;have hz:=hb.size;have HO:=hid ho;clear ho;have HB:=hid hB;clear hB;by_cases hlt:k<l.length
    ·obtain⟨b,off,lo,hi,hA,hbB,hlk,hc1,hc2⟩:=(h.below hb).at_ (k:=k) (by omega)
     have HL:=hid hlk;clear hlk;rw[hA];have hbs:b<wr.heap.size:=by omega
     clear hA;by_cases a1 : -1073741824<lo
     ·by_cases a2:lo<=1073741824
      ·by_cases b1 : -1073741824<=hi
       ·by_cases b2:hi<1073741824
        ·go_wp2_with (fail)
         refine(bW _ _ _ ys lo _ HO.out (by omega) HB.out.srt (by omega)).mono ?_;rintro e w1 ⟨g1,cap1,ys1,rfl,ho1,hs1,hm1,hl1,hb1⟩;have hz1:=hb1.size;have G6:w1.cell? ⟨b,off+k*2,none⟩=some (.int .i64 lo):=(hb1.cell hbB).trans hc1;have Et:w1.cell? ⟨b,off+k*2+1,none⟩=some (.int .i64 hi):=(hb1.cell hbB).trans hc2;have hb1:=hb.trans hb1;have HO1:=hid ho1;clear ho1;have HS1:=hid hs1;clear hs1;have HM1:=hid hm1;clear hm1;go_wp2_with (fail);refine(bW _ _ _ ys1 (hi+1) _ HO1.out (by omega) HS1.out (by omega)).mono ?_;rintro e w2 ⟨g2,cap2,ys2,rfl,ho2,hs2,hm2,hl2,hb2⟩;have hb2:=hb1.trans hb2;have HO2:=hid ho2;clear ho2;have HS2:=hid hs2;clear hs2;have HM2:=hid hm2;clear hm2;go_wp2_with (fail)
         go_roundw
         case rel=>exact⟨k+1,by omega,by go_num,g2,cap2,ys2,rfl,HO2.out,by rw[aS HL.out];exact HB.out.step HS2.out (fun y hy=>(HM2.out y).2 (.inr ((HM1.out y).2 (.inr hy)))) (fun y hy=>by rcases (HM2.out y).1 hy with rfl | hy;exact .inr ⟨by omega,by omega⟩;rcases (HM1.out y).1 hy with rfl | hy;exact .inr ⟨by omega,by omega⟩;exact .inl hy) (fun _ _=>(HM2.out _).2 (.inr ((HM1.out _).2 (.inl rfl)))) (fun _ _=>(HM2.out _).2 (.inl rfl)) (by omega),hb2⟩
         case measure=>simp[intOf];omega
        ·go_wp2_with (fail)
         refine(bW _ _ _ ys lo _ HO.out (by omega) HB.out.srt (by omega)).mono ?_;rintro e w1 ⟨g1,cap1,ys1,rfl,ho1,hs1,hm1,hl1,hb1⟩;have hz1:=hb1.size;have G6:w1.cell? ⟨b,off+k*2,none⟩=some (.int .i64 lo):=(hb1.cell hbB).trans hc1;have Et:w1.cell? ⟨b,off+k*2+1,none⟩=some (.int .i64 hi):=(hb1.cell hbB).trans hc2;have hb1:=hb.trans hb1;have HO1:=hid ho1;clear ho1;have HS1:=hid hs1;clear hs1;have HM1:=hid hm1;clear hm1;go_wp2_with (fail)
         go_roundw
         case rel=>exact⟨k+1,by omega,by go_num,g1,cap1,ys1,rfl,HO1.out,by rw[aS HL.out];exact HB.out.step HS1.out (fun y hy=>(HM1.out y).2 (.inr hy)) (fun y hy=>by rcases (HM1.out y).1 hy with rfl | hy;exact .inr ⟨by omega,by omega⟩;exact .inl hy) (fun _ _=>(HM1.out _).2 (.inl rfl)) (fun _ _=>by omega) (by omega),hb1⟩
         case measure=>simp[intOf];omega
       ·go_wp2_with (fail)
        refine(bW _ _ _ ys lo _ HO.out (by omega) HB.out.srt (by omega)).mono ?_;rintro e w1 ⟨g1,cap1,ys1,rfl,ho1,hs1,hm1,hl1,hb1⟩;have hz1:=hb1.size;have G6:w1.cell? ⟨b,off+k*2,none⟩=some (.int .i64 lo):=(hb1.cell hbB).trans hc1;have Et:w1.cell? ⟨b,off+k*2+1,none⟩=some (.int .i64 hi):=(hb1.cell hbB).trans hc2;have hb1:=hb.trans hb1;have HO1:=hid ho1;clear ho1;have HS1:=hid hs1;clear hs1;have HM1:=hid hm1;clear hm1;go_wp2_with (fail)
        go_roundw
        case rel=>exact⟨k+1,by omega,by go_num,g1,cap1,ys1,rfl,HO1.out,by rw[aS HL.out];exact HB.out.step HS1.out (fun y hy=>(HM1.out y).2 (.inr hy)) (fun y hy=>by rcases (HM1.out y).1 hy with rfl | hy;exact .inr ⟨by omega,by omega⟩;exact .inl hy) (fun _ _=>(HM1.out _).2 (.inl rfl)) (fun _ _=>by omega) (by omega),hb1⟩
        case measure=>simp[intOf];omega
      ·by_cases b1 : -1073741824<=hi
       ·by_cases b2:hi<1073741824
        ·go_wp2_with (fail)
         refine(bW _ _ _ ys (hi+1) _ HO.out (by omega) HB.out.srt (by omega)).mono ?_;rintro e w2 ⟨g2,cap2,ys2,rfl,ho2,hs2,hm2,hl2,hb2⟩;have hb2:=hb.trans hb2;have HO2:=hid ho2;clear ho2;have HS2:=hid hs2;clear hs2;have HM2:=hid hm2;clear hm2;go_wp2_with (fail)
         go_roundw
         case rel=>exact⟨k+1,by omega,by go_num,g2,cap2,ys2,rfl,HO2.out,by rw[aS HL.out];exact HB.out.step HS2.out (fun y hy=>(HM2.out y).2 (.inr hy)) (fun y hy=>by rcases (HM2.out y).1 hy with rfl | hy;exact .inr ⟨by omega,by omega⟩;exact .inl hy) (fun _ _=>by omega) (fun _ _=>(HM2.out _).2 (.inl rfl)) (by omega),hb2⟩
         case measure=>simp[intOf];omega
        ·go_wp2_with (fail)
         go_roundw
         case rel=>exact⟨k+1,by omega,by go_num,g,cap,ys,rfl,HO.out,by rw[aS HL.out];exact HB.out.step HB.out.srt (fun y hy=>hy) (fun y hy=>.inl hy) (fun _ _=>by omega) (fun _ _=>by omega) (by omega),hb⟩
         case measure=>simp[intOf];omega
       ·go_wp2_with (fail)
        go_roundw
        case rel=>exact⟨k+1,by omega,by go_num,g,cap,ys,rfl,HO.out,by rw[aS HL.out];exact HB.out.step HB.out.srt (fun y hy=>hy) (fun y hy=>.inl hy) (fun _ _=>by omega) (fun _ _=>by omega) (by omega),hb⟩
        case measure=>simp[intOf];omega
     ·by_cases b1 : -1073741824<=hi
      ·by_cases b2:hi<1073741824
       ·go_wp2_with (fail)
        refine(bW _ _ _ ys (hi+1) _ HO.out (by omega) HB.out.srt (by omega)).mono ?_;rintro e w2 ⟨g2,cap2,ys2,rfl,ho2,hs2,hm2,hl2,hb2⟩;have hb2:=hb.trans hb2;have HO2:=hid ho2;clear ho2;have HS2:=hid hs2;clear hs2;have HM2:=hid hm2;clear hm2;go_wp2_with (fail)
        go_roundw
        case rel=>exact⟨k+1,by omega,by go_num,g2,cap2,ys2,rfl,HO2.out,by rw[aS HL.out];exact HB.out.step HS2.out (fun y hy=>(HM2.out y).2 (.inr hy)) (fun y hy=>by rcases (HM2.out y).1 hy with rfl | hy;exact .inr ⟨by omega,by omega⟩;exact .inl hy) (fun _ _=>by omega) (fun _ _=>(HM2.out _).2 (.inl rfl)) (by omega),hb2⟩
        case measure=>simp[intOf];omega
       ·go_wp2_with (fail)
        go_roundw
        case rel=>exact⟨k+1,by omega,by go_num,g,cap,ys,rfl,HO.out,by rw[aS HL.out];exact HB.out.step HB.out.srt (fun y hy=>hy) (fun y hy=>.inl hy) (fun _ _=>by omega) (fun _ _=>by omega) (by omega),hb⟩
        case measure=>simp[intOf];omega
      ·go_wp2_with (fail)
       go_roundw
       case rel=>exact⟨k+1,by omega,by go_num,g,cap,ys,rfl,HO.out,by rw[aS HL.out];exact HB.out.step HB.out.srt (fun y hy=>hy) (fun y hy=>.inl hy) (fun _ _=>by omega) (fun _ _=>by omega) (by omega),hb⟩
       case measure=>simp[intOf];omega
    ·have hkl:l.take k=l:=List.take_of_length_le (by omega)
     have HK:=hid hkl;clear hkl;go_wp2_with (fail)
     go_roundw
     case rel=>exact .inr (.inl ⟨rfl,g,cap,ys,rfl,HO.out,by have:=HB.out;rw[HK.out]at this;exact this,hb⟩)
     case measure=>simp[intOf]
  ·have HO0:=hid ho0;clear ho0
   have HB0:=hid hB0;clear hB0;have hz0:=hb0.size;go_wp2_with (fail)
   go_loopw [5,8] (fun v i wr=>Gb l r w.heap.size w v i wr) (fun _ i _=>r.length-(intOf i).toNat)
   case atStart=>exact⟨0,Nat.zero_le _,rfl,g0,cap0,ys0,rfl,HO0.out,by have:=HB0.out;simpa using this,hb0⟩
   case round=>
    obtain⟨k,hk,rfl,g,cap,ys,rfl,ho,hB,hb⟩:=hrel;have sO:=hB.few;simp only[List.length_append,List.length_take]at sO;have hz:=hb.size;have HO:=hid ho;clear ho;have HB:=hid hB;clear hB;by_cases hlt:k<r.length
    ·obtain⟨b,off,lo,hi,hA,hbB,hlk,hc1,hc2⟩:=(h'.below hb).at_ (k:=k) (by omega)
     have HL:=hid hlk;clear hlk;rw[hA];have hbs:b<wr.heap.size:=by omega
     clear hA;by_cases a1 : -1073741824<lo
     ·by_cases a2:lo<=1073741824
      ·by_cases b1 : -1073741824<=hi
       ·by_cases b2:hi<1073741824
        ·go_wp2_with (fail)
         refine(bW _ _ _ ys lo _ HO.out (by omega) HB.out.srt (by omega)).mono ?_;rintro e w1 ⟨g1,cap1,ys1,rfl,ho1,hs1,hm1,hl1,hb1⟩;have hz1:=hb1.size;have G6:w1.cell? ⟨b,off+k*2,none⟩=some (.int .i64 lo):=(hb1.cell hbB).trans hc1;have Et:w1.cell? ⟨b,off+k*2+1,none⟩=some (.int .i64 hi):=(hb1.cell hbB).trans hc2;have hb1:=hb.trans hb1;have HO1:=hid ho1;clear ho1;have HS1:=hid hs1;clear hs1;have HM1:=hid hm1;clear hm1;go_wp2_with (fail);refine(bW _ _ _ ys1 (hi+1) _ HO1.out (by omega) HS1.out (by omega)).mono ?_;rintro e w2 ⟨g2,cap2,ys2,rfl,ho2,hs2,hm2,hl2,hb2⟩;have hb2:=hb1.trans hb2;have HO2:=hid ho2;clear ho2;have HS2:=hid hs2;clear hs2;have HM2:=hid hm2;clear hm2;go_wp2_with (fail)
         go_roundw
         case rel=>exact⟨k+1,by omega,by go_num,g2,cap2,ys2,rfl,HO2.out,by rw[aS HL.out];exact HB.out.step HS2.out (fun y hy=>(HM2.out y).2 (.inr ((HM1.out y).2 (.inr hy)))) (fun y hy=>by rcases (HM2.out y).1 hy with rfl | hy;exact .inr ⟨by omega,by omega⟩;rcases (HM1.out y).1 hy with rfl | hy;exact .inr ⟨by omega,by omega⟩;exact .inl hy) (fun _ _=>(HM2.out _).2 (.inr ((HM1.out _).2 (.inl rfl)))) (fun _ _=>(HM2.out _).2 (.inl rfl)) (by omega),hb2⟩
         case measure=>simp[intOf];omega
        ·go_wp2_with (fail)
         refine(bW _ _ _ ys lo _ HO.out (by omega) HB.out.srt (by omega)).mono ?_;rintro e w1 ⟨g1,cap1,ys1,rfl,ho1,hs1,hm1,hl1,hb1⟩;have hz1:=hb1.size;have G6:w1.cell? ⟨b,off+k*2,none⟩=some (.int .i64 lo):=(hb1.cell hbB).trans hc1;have Et:w1.cell? ⟨b,off+k*2+1,none⟩=some (.int .i64 hi):=(hb1.cell hbB).trans hc2;have hb1:=hb.trans hb1;have HO1:=hid ho1;clear ho1;have HS1:=hid hs1;clear hs1;have HM1:=hid hm1;clear hm1;go_wp2_with (fail)
         go_roundw
         case rel=>exact⟨k+1,by omega,by go_num,g1,cap1,ys1,rfl,HO1.out,by rw[aS HL.out];exact HB.out.step HS1.out (fun y hy=>(HM1.out y).2 (.inr hy)) (fun y hy=>by rcases (HM1.out y).1 hy with rfl | hy;exact .inr ⟨by omega,by omega⟩;exact .inl hy) (fun _ _=>(HM1.out _).2 (.inl rfl)) (fun _ _=>by omega) (by omega),hb1⟩
         case measure=>simp[intOf];omega
       ·go_wp2_with (fail)
        refine(bW _ _ _ ys lo _ HO.out (by omega) HB.out.srt (by omega)).mono ?_;rintro e w1 ⟨g1,cap1,ys1,rfl,ho1,hs1,hm1,hl1,hb1⟩;have hz1:=hb1.size;have G6:w1.cell? ⟨b,off+k*2,none⟩=some (.int .i64 lo):=(hb1.cell hbB).trans hc1;have Et:w1.cell? ⟨b,off+k*2+1,none⟩=some (.int .i64 hi):=(hb1.cell hbB).trans hc2;have hb1:=hb.trans hb1;have HO1:=hid ho1;clear ho1;have HS1:=hid hs1;clear hs1;have HM1:=hid hm1;clear hm1;go_wp2_with (fail)
        go_roundw
        case rel=>exact⟨k+1,by omega,by go_num,g1,cap1,ys1,rfl,HO1.out,by rw[aS HL.out];exact HB.out.step HS1.out (fun y hy=>(HM1.out y).2 (.inr hy)) (fun y hy=>by rcases (HM1.out y).1 hy with rfl | hy;exact .inr ⟨by omega,by omega⟩;exact .inl hy) (fun _ _=>(HM1.out _).2 (.inl rfl)) (fun _ _=>by omega) (by omega),hb1⟩
        case measure=>simp[intOf];omega
      ·by_cases b1 : -1073741824<=hi
       ·by_cases b2:hi<1073741824
        ·go_wp2_with (fail)
         refine(bW _ _ _ ys (hi+1) _ HO.out (by omega) HB.out.srt (by omega)).mono ?_;rintro e w2 ⟨g2,cap2,ys2,rfl,ho2,hs2,hm2,hl2,hb2⟩;have hb2:=hb.trans hb2;have HO2:=hid ho2;clear ho2;have HS2:=hid hs2;clear hs2;have HM2:=hid hm2;clear hm2;go_wp2_with (fail)
         go_roundw
         case rel=>exact⟨k+1,by omega,by go_num,g2,cap2,ys2,rfl,HO2.out,by rw[aS HL.out];exact HB.out.step HS2.out (fun y hy=>(HM2.out y).2 (.inr hy)) (fun y hy=>by rcases (HM2.out y).1 hy with rfl | hy;exact .inr ⟨by omega,by omega⟩;exact .inl hy) (fun _ _=>by omega) (fun _ _=>(HM2.out _).2 (.inl rfl)) (by omega),hb2⟩
         case measure=>simp[intOf];omega
        ·go_wp2_with (fail)
         go_roundw
         case rel=>exact⟨k+1,by omega,by go_num,g,cap,ys,rfl,HO.out,by rw[aS HL.out];exact HB.out.step HB.out.srt (fun y hy=>hy) (fun y hy=>.inl hy) (fun _ _=>by omega) (fun _ _=>by omega) (by omega),hb⟩
         case measure=>simp[intOf];omega
       ·go_wp2_with (fail)
        go_roundw
        case rel=>exact⟨k+1,by omega,by go_num,g,cap,ys,rfl,HO.out,by rw[aS HL.out];exact HB.out.step HB.out.srt (fun y hy=>hy) (fun y hy=>.inl hy) (fun _ _=>by omega) (fun _ _=>by omega) (by omega),hb⟩
        case measure=>simp[intOf];omega
     ·by_cases b1 : -1073741824<=hi
      ·by_cases b2:hi<1073741824
       ·go_wp2_with (fail)
        refine(bW _ _ _ ys (hi+1) _ HO.out (by omega) HB.out.srt (by omega)).mono ?_;rintro e w2 ⟨g2,cap2,ys2,rfl,ho2,hs2,hm2,hl2,hb2⟩;have hb2:=hb.trans hb2;have HO2:=hid ho2;clear ho2;have HS2:=hid hs2;clear hs2;have HM2:=hid hm2;clear hm2;go_wp2_with (fail)
        go_roundw
        case rel=>exact⟨k+1,by omega,by go_num,g2,cap2,ys2,rfl,HO2.out,by rw[aS HL.out];exact HB.out.step HS2.out (fun y hy=>(HM2.out y).2 (.inr hy)) (fun y hy=>by rcases (HM2.out y).1 hy with rfl | hy;exact .inr ⟨by omega,by omega⟩;exact .inl hy) (fun _ _=>by omega) (fun _ _=>(HM2.out _).2 (.inl rfl)) (by omega),hb2⟩
        case measure=>simp[intOf];omega
       ·go_wp2_with (fail)
        go_roundw
        case rel=>exact⟨k+1,by omega,by go_num,g,cap,ys,rfl,HO.out,by rw[aS HL.out];exact HB.out.step HB.out.srt (fun y hy=>hy) (fun y hy=>.inl hy) (fun _ _=>by omega) (fun _ _=>by omega) (by omega),hb⟩
        case measure=>simp[intOf];omega
      ·go_wp2_with (fail)
       go_roundw
       case rel=>exact⟨k+1,by omega,by go_num,g,cap,ys,rfl,HO.out,by rw[aS HL.out];exact HB.out.step HB.out.srt (fun y hy=>hy) (fun y hy=>.inl hy) (fun _ _=>by omega) (fun _ _=>by omega) (by omega),hb⟩
       case measure=>simp[intOf];omega
    ·have hkl:r.take k=r:=List.take_of_length_le (by omega)
     have HK:=hid hkl;clear hkl;go_wp2_with (fail)
     go_roundw
     case rel=>exact .inr (.inr ⟨rfl,g,cap,ys,rfl,HO.out,by have:=HB.out;rw[HK.out]at this;exact this,hb⟩)
     case measure=>simp[intOf]
  ·have HO0:=hid ho0;clear ho0
   have HB0:=hid hB0;clear hB0;have hz0:=hb0.size;go_wp2_with (fail);go_ret;exact⟨g0,cap0,ys0,rfl,HO0.out,HB0.out,hb0⟩
theorem Srt.GL {ys:List Int} (h:Srt ys) {k:Nat} (hk:k<ys.length) {z:Int} (hz:z∈ys) (hlt:ys[k]<z):∃h:k+1<ys.length,ys[k+1]<=z:=by
 obtain⟨j,hj,rfl⟩:=List.getElem_of_mem hz;have hkj:k<j:=by
  rcases Nat.lt_trichotomy j k with h1 | h1 | h1
  ·have:=h.lt h1 hk;omega
  ·subst h1;omega
  ·exact h1
 refine⟨by omega,?_⟩;by_cases e:j=k+1
 ·subst e;omega
 ·have:=h.lt (show k+1<j by omega) hj;omega
theorem qE {l ys:List Span} {bs:List Int} (h:CT ys bs) (hl:∀p∈l,p∈ys) {k:Nat} (hk:k<bs.length) {x:Int} (h1:bs[k]<=x) (h2:∀h:k+1<bs.length,x<bs[k+1]) (hx:Rng x):mem l bs[k]↔mem l x:=by
 have hr:=h.rng _ (List.getElem_mem hk);have key:∀z∈bs,bs[k]<z->z<=x->False:=fun z hz ha hb=>by
  obtain⟨h3,h4⟩:=h.srt.GL hk hz ha;have:=h2 h3;omega
 unfold mem
 constructor
 ·rintro⟨_,p,hp,a,b⟩
  refine⟨hx,p,hp,by omega,?_⟩;refine Int.not_lt.1 fun hlt=>?_
  unfold Rng at hr hx;exact key _ (h.hi p (hl p hp) (by omega) (by omega)) (by omega) (by omega)
 ·rintro⟨_,p,hp,a,b⟩
  refine⟨hr,p,hp,?_,by omega⟩;refine Int.not_lt.1 fun hlt=>?_
  unfold Rng at hr hx;exact key _ (h.lo p (hl p hp) (by omega) (by omega)) (by omega) (by omega)
structure bK (bs:List Int) (P:Int->Prop) (k:Nat) (out:List Span):Prop where
 plain:Plain out
 set:∀x,mem out x↔(Rng x/\(∀h:k<bs.length,x<bs[k])/\P x)
 ahead:∀r∈out,∀h:k<bs.length,r.2<bs[k]
structure Ie (bs:List Int) (P:Int->Prop):Prop where
 srt:Srt bs
 rng:∀y∈bs,Rng y
 least : -1073741824∈bs
 const:∀(k:Nat) (hk:k<bs.length) (x:Int),bs[k]<=x->(∀h:k+1<bs.length,x<bs[k+1])->Rng x->(P bs[k]↔P x)
theorem bK.start {bs:List Int} {P:Int->Prop} (h:Ie bs P):bK bs P 0 []:=by
 refine⟨Plain.nil,fun x=>⟨fun hm=>absurd hm (aI x),?_⟩,fun _ h=>(by cases h)⟩;rintro⟨hr,hx,_⟩;exfalso;obtain⟨j,hj,e⟩:=List.getElem_of_mem h.least;have h0:=hx (by omega);unfold Rng at hr;by_cases e0:j=0
 ·subst e0;omega
 ·have:=h.srt.lt (show 0<j by omega) hj;omega
theorem bK.skip {bs:List Int} {P:Int->Prop} {k:Nat} {out:List Span} (h:bK bs P k out) (hs:Ie bs P) (hk:k<bs.length) (hn : ¬ P bs[k]):bK bs P (k+1) out:=by
 refine⟨h.plain,fun x=>?_,fun r hr h1=>?_⟩
 ·rw[h.set]
  constructor
  ·rintro⟨a,b,c⟩
   refine⟨a,fun h1=>?_,c⟩;have:=b hk;have:=hs.srt.lt (show k<k+1 by omega) h1;omega
  ·rintro⟨a,b,c⟩
   refine⟨a,fun _=>?_,c⟩;refine Int.not_le.1 fun hle=>?_
   exact hn ((hs.const k hk x hle b a).2 c)
 ·have:=h.ahead r hr hk
  have:=hs.srt.lt (show k<k+1 by omega) h1;omega
def gZ (bs:List Int) (k:Nat) (to:Int):Prop:=(∀h:k+1<bs.length,to=bs[k+1]-1)/\(¬ k+1<bs.length->to=1073741824)
theorem jt {bs:List Int} {P:Int->Prop} {k:Nat} {out:List Span} {to x:Int} (h:bK bs P k out) (hs:Ie bs P) (hk:k<bs.length) (hp:P bs[k]) (ht:gZ bs k to):(mem out x\/(Rng x/\bs[k]<=x/\x<=to))↔(Rng x/\(∀h:k+1<bs.length,x<bs[k+1])/\P x):=by
 rw[h.set];have hlt:∀h1:k+1<bs.length,bs[k]<bs[k+1]:=fun h1=>hs.srt.lt (by omega) h1
 constructor
 ·rintro(⟨a,b,c⟩ | ⟨a,b,c⟩)
  ·refine⟨a,fun h1=>?_,c⟩
   have:=b hk;have:=hlt h1;omega
  ·have hx:∀h:k+1<bs.length,x<bs[k+1]:=fun h1=>by have:=ht.1 h1;omega
   exact⟨a,hx,(hs.const k hk x b hx a).1 hp⟩
 ·rintro⟨a,b,c⟩
  by_cases hle:bs[k]<=x
  ·refine .inr ⟨a,hle,?_⟩
   by_cases h1:k+1<bs.length
   ·have:=ht.1 h1;have:=b h1;omega
   ·have:=ht.2 h1;unfold Rng at a;omega
  ·exact .inl ⟨a,fun _=>by omega,c⟩
theorem Fo {bs:List Int} {P:Int->Prop} {k:Nat} {to:Int} (hs:Ie bs P) (hk:k<bs.length) (ht:gZ bs k to):bs[k]<=to/\to<=1073741824:=by
 have h0:=hs.rng _ (List.getElem_mem hk);unfold Rng at h0;by_cases h1:k+1<bs.length
 ·have:=ht.1 h1
  have:=hs.srt.lt (show k<k+1 by omega) h1;have h2:=hs.rng _ (List.getElem_mem h1);unfold Rng at h2;omega
 ·have:=ht.2 h1;omega
theorem bK.more {bs:List Int} {P:Int->Prop} {k:Nat} {out:List Span} {to:Int} (h:bK bs P k out) (hs:Ie bs P) (hk:k<bs.length) (hp:P bs[k]) (ht:gZ bs k to) (hl:∀r,out.getLast? = some r->r.2≠bs[k]-1):bK bs P (k+1) (out++[(bs[k],to)]):=by
 have hok:=Fo hs hk ht;have h0:=hs.rng _ (List.getElem_mem hk);unfold Rng at h0;refine⟨h.plain.snoc (by unfold Ok;simp only;omega) fun q hq=>?_,fun x=>?_,fun r hr h1=>?_⟩
 ·simp only
  rcases List.eq_nil_or_concat out with rfl | ⟨o,r,rfl⟩
  ·cases hq
  ·rw[List.concat_eq_append]at *
   have h3:=hl r (by simp);have h4:=h.ahead r (by simp) hk;rcases List.mem_append.1 hq with hq | hq
   ·have h5:=h.plain.append.2.2 q hq r (List.mem_singleton.2 rfl)
    have h6:=h.plain.2 r (by simp);unfold Ok at h6;omega
   ·obtain rfl:=List.mem_singleton.1 hq
    omega
 ·rw[mem_append,aN]
  exact jt h hs hk hp ht
 ·have:=ht.1 h1
  have:=hs.srt.lt (show k<k+1 by omega) h1;rcases List.mem_append.1 hr with hr | hr
  ·have:=h.ahead r hr hk;omega
  ·obtain rfl:=List.mem_singleton.1 hr
   simp only;omega
theorem bK.extend {bs:List Int} {P:Int->Prop} {k:Nat} {o:List Span} {rl rh to:Int} (h:bK bs P k (o++[(rl,rh)])) (hs:Ie bs P) (hk:k<bs.length) (hp:P bs[k]) (ht:gZ bs k to) (hl:rh=bs[k]-1):bK bs P (k+1) (o++[(rl,to)]):=by
 have hok:=Fo hs hk ht;obtain⟨ho,_,hor⟩:=h.plain.append;have hr:=h.plain.2 (rl,rh) (by simp);unfold Ok at hr;simp only at hr;refine⟨ho.snoc (by unfold Ok;simp only;omega) fun q hq=>hor q hq (rl,rh) (by simp),fun x=>?_,fun r hr h1=>?_⟩
 ·rw[<- jt h hs hk hp ht,mem_append,mem_append,aN,aN]
  simp only
  constructor
  ·rintro(a | ⟨a,b,c⟩)
   ·exact .inl (.inl a)
   ·by_cases hx:x<=rh
    ·exact .inl (.inr ⟨a,b,hx⟩)
    ·exact .inr ⟨a,by omega,c⟩
  ·rintro((a | ⟨a,b,c⟩) | ⟨a,b,c⟩)
   ·exact .inl a
   ·exact .inr ⟨a,b,by omega⟩
   ·exact .inr ⟨a,by omega,c⟩
 ·have:=ht.1 h1
  have:=hs.srt.lt (show k<k+1 by omega) h1;rcases List.mem_append.1 hr with hr | hr
  ·have:=h.ahead r (by simp[hr]) hk;omega
  ·obtain rfl:=List.mem_singleton.1 hr
   simp only;omega
theorem bK.done {bs:List Int} {P:Int->Prop} {k:Nat} {out:List Span} (h:bK bs P k out) (hk:bs.length<=k):Is out fun x=>Rng x/\P x:=
 ⟨h.plain,fun x=>by
  rw[h.set];exact⟨fun⟨a,_,c⟩=>⟨a,c⟩,fun⟨a,c⟩=>⟨a,fun h=>by omega,c⟩⟩⟩
def inP (how:Int) (a b:Bool):Bool:=if how=1 then a && b else if how=2 then a && !b else a || b
theorem zC {l r:List Span} {bs:List Int} (h:CT (l++r) bs) (how:Int):Ie bs (fun x=>inP how (bC l x) (bC r x)=true):=by
 refine⟨h.srt,h.rng,h.least,fun k hk x h1 h2 hx=>?_⟩;have e1:bC l bs[k]=bC l x:=Bool.eq_iff_iff.2 (by rw[fH,fH];exact qE h (fun p hp=>List.mem_append.2 (.inl hp)) hk h1 h2 hx);have e2:bC r bs[k]=bC r x:=Bool.eq_iff_iff.2 (by rw[fH,fH];exact qE h (fun p hp=>List.mem_append.2 (.inr hp)) hk h1 h2 hx);simp only[e1,e2]
end Go.Proofs.YtbdmcibcenhpnaaGreatDoor.Sp
namespace Go.Proofs.YtbdmcibcenhpnaaGreatDoor.Rg
set_option maxHeartbeats 64000000
open Go Go.RowKit Sp
open Go.Lib (hid)
theorem wM (base g cap:Nat) (xs:List Int) (x:Int) (w:World) (hown:bD w base (.slice (some ⟨g,0,none⟩) xs.length cap) xs) (hbase:base<=w.heap.size) (hs:Srt xs) (hlen:xs.length<=1099511627776) :
  Calls Tryz.prog 78 #[.slice (some ⟨g,0,none⟩) xs.length cap,.int .i64 x] w (oW w base xs x):=by
 obtain⟨i0,hi0,hz0,hz1,hz2⟩:=info_parts gh;have HO:=hid hown;clear hown;have HS:=hid hs;clear hs;go_enter Tryz.func78,Tryz.ntmps78;go_wp2_with (fail)
 go_loop [5,6] (fun a b=>∃lo hi:Nat,a = .int .i64 lo/\b = .int .i64 hi/\BS xs x lo hi) (fun a b=>(intOf b).toNat-(intOf a).toNat)
 case atStart=>exact⟨0,xs.length,rfl,rfl,BS.start xs x⟩
 case round=>
  obtain⟨lo,hi,rfl,rfl,hb⟩:=hrel;have hle:=hb.le;have jC:=hb.top;have HB:=hid hb;clear hb;by_cases hlt:lo<hi
  ·obtain⟨y,hy⟩:∃y,xs[(lo+hi) / 2]'(by omega)=y:=⟨_,rfl⟩
   have hc:w.cell? ⟨g,(lo+hi) / 2,none⟩=some (.int .i64 y):=by rw[aY HO.out (by omega),hy]
   have HY:=hid hy;clear hy;by_cases hyx:y<x
   ·go_wp2_with (fail)
    go_round
    case rel=>exact⟨(lo+hi) / 2+1,hi,by go_num,rfl,HB.out.right HS.out (by omega) (by omega) ⟨by omega,by rw[HY.out];exact hyx⟩⟩
    case measure=>simp[intOf];omega
   ·go_wp2_with (fail)
    go_round
    case rel=>exact⟨lo,(lo+hi) / 2,rfl,by go_num,HB.out.left HS.out (by omega) (by omega) ⟨by omega,by rw[HY.out];omega⟩⟩
    case measure=>simp[intOf];omega
  ·obtain rfl:lo=hi:=by omega
   by_cases hin:lo<xs.length
   ·obtain⟨y,hy⟩:∃y,xs[lo]=y:=⟨_,rfl⟩
    have hc:w.cell? ⟨g,lo,none⟩=some (.int .i64 y):=by rw[aY HO.out hin,hy]
    have HY0:=hid hy;clear hy;by_cases hyx:y=x
    ·subst hyx
     go_wp2_with (fail);go_ret;refine⟨_,xs,rfl,HO.out,HS.out,fun z=>⟨.inr,?_⟩,by omega,Below.refl _ _⟩;rintro(rfl | h)
     ·rw[<- HY0.out];exact List.getElem_mem hin
     ·exact h
    ·have hd:(y == x)=false:=by simpa using hyx
     have HN:=hid hyx;clear hyx;go_wp2_with (at_builtin;go_must (refine wpList_append_own _ rfl _ _ 56 rfl base 3 i0 _ 1 8 Tryz.underlying56 hi0 hz0 hz1 hz2 rfl (by decide) _ xs.length (xs.map (Value.int .i64)) rfl (HO.out.alloc _) ⟨w.heap.size,0,none⟩ 1 1 [.int .i64 0] rfl rfl (cell_one_new _ _ _) ?c2 ?c3 ?c4 ?c5 ?_))
     case c2=>rfl
     case c3=>simp only[maxLen];omega
     case c4=>omega
     case c5=>omega
     intro v1 w1 hown1 hg1 _;obtain⟨g1,cap1,hv,hbg,hl1⟩:=hown1.form (by omega);rw[hv]at hown1;rw[hv];have hB1:Below base w w1:=((Below.refl base w).alloc hbase _).grown hg1 (by simp;omega) (fun k hk=>(HO.out.lt k hk).1);have HB1:=hid hB1;clear hB1;have h0:bD w1 base (.slice (some ⟨g1,0,none⟩) (xs.take xs.length++0::xs.drop xs.length).length cap1) (xs.take xs.length++0::xs.drop xs.length):=by
      unfold bD;rw[bq _ _ (Nat.le_refl _),List.take_length,List.drop_length,List.map_append];exact hown1
     have H0:=hid h0;clear h0;clear hown1 hg1 hl1 hv;go_wp2_with (fail)
     go_loopw [8] (fun i wr=>kM xs g1 cap1 base lo w i wr) (fun i _=>(intOf i).toNat)
     case atStart=>exact⟨xs.length,0,jC,Nat.le_refl _,rfl,H0.out,HB1.out⟩
     case round=>
      obtain⟨k,u,hpk,hkn,rfl,hos,hbs⟩:=hrel;have hlen2:=bq xs u hkn;have hoc:=hos;rw[hlen2]at hoc;by_cases hkp:lo<k
      ·rcases k with _ | m
       ·omega
       ·obtain⟨hm1,hm2⟩:=Bm xs u hkn
        have hc1:wr.cell? ⟨g1,m,none⟩=some (.int .i64 xs[m]):=by rw[aY hos hm1,hm2]
        obtain⟨o2,hc2⟩:∃o,wr.cell? ⟨g1,m+1,none⟩=some o:=⟨_,aY hos (show m+1<_ by rw[hlen2];omega)⟩;have hfz:=World.ownsRow.frozenAt hos (m+1);have hst:=World.ownsRow.stored hos (m+1) (.int .i64 xs[m]);rw[mX xs u hkn]at hst;have HST:=hid hst.1;have HL2:=hid hlen2
        generalize hy:xs[m]=y at *
        clear hst hlen2 hos hoc hm1 hm2 hy;go_wp2_with (fail)
        go_roundw
        case rel=>exact⟨m,y,by omega,by omega,rfl,by have:=HST.out;unfold bD;rw[bq _ _ (by omega)];rw[HL2.out]at this;exact this,hbs.setCell hbg _⟩
        case measure=>simp[intOf]
      ·obtain rfl:k=lo:=by omega
       obtain⟨o2,hc2⟩:∃o,wr.cell? ⟨g1,k,none⟩=some o:=⟨_,aY hos (show k<_ by rw[hlen2];omega)⟩;have hfz:=World.ownsRow.frozenAt hos k;have hst:=World.ownsRow.stored hos k (.int .i64 x);rw[kC xs u x hkn]at hst;have HST:=hid hst.1;have HL2:=hid hlen2;clear hst hlen2 hos hoc;go_wp2_with (fail);go_ret;refine⟨_,xs.take k++x::xs.drop k,rfl,?_,HS.out.ins jC HB.out.below ?_,fun y=>oL k,by rw[bq _ _ jC];exact Nat.le_refl _,hbs.setCell hbg _⟩
       ·have:=HST.out
        unfold bD;rw[bq _ _ jC];rw[HL2.out]at this;exact this
       ·intro i hi hle
        have h1:=HB.out.above i hi hle;have h2:=HB.out.above k hin (Nat.le_refl _);rw[HY0.out]at h2;have h3:=HN.out;by_cases e:i=k
        ·subst e;rw[HY0.out];omega
        ·have h4:=HS.out.lt (show k<i by omega) hi
         rw[HY0.out]at h4;omega
   ·have hin2:xs.length<=lo:=by omega
    go_wp2_with (at_builtin;go_must (refine wpList_append_own _ rfl _ _ 56 rfl base 3 i0 _ 1 8 Tryz.underlying56 hi0 hz0 hz1 hz2 rfl (by decide) _ xs.length (xs.map (Value.int .i64)) rfl (HO.out.alloc _) ⟨w.heap.size,0,none⟩ 1 1 [.int .i64 0] rfl rfl (cell_one_new _ _ _) ?c2 ?c3 ?c4 ?c5 ?_))
    case c2=>rfl
    case c3=>simp only[maxLen];omega
    case c4=>omega
    case c5=>omega
    intro v1 w1 hown1 hg1 _;obtain⟨g1,cap1,hv,hbg,hl1⟩:=hown1.form (by omega);rw[hv]at hown1;rw[hv];have hB1:Below base w w1:=((Below.refl base w).alloc hbase _).grown hg1 (by simp;omega) (fun k hk=>(HO.out.lt k hk).1);have HB1:=hid hB1;clear hB1;have h0:bD w1 base (.slice (some ⟨g1,0,none⟩) (xs.take xs.length++0::xs.drop xs.length).length cap1) (xs.take xs.length++0::xs.drop xs.length):=by
     unfold bD;rw[bq _ _ (Nat.le_refl _),List.take_length,List.drop_length,List.map_append];exact hown1
    have H0:=hid h0;clear h0;clear hown1 hg1 hl1 hv;go_wp2_with (fail)
    go_loopw [8] (fun i wr=>kM xs g1 cap1 base lo w i wr) (fun i _=>(intOf i).toNat)
    case atStart=>exact⟨xs.length,0,jC,Nat.le_refl _,rfl,H0.out,HB1.out⟩
    case round=>
     obtain⟨k,u,hpk,hkn,rfl,hos,hbs⟩:=hrel;have hlen2:=bq xs u hkn;have hoc:=hos;rw[hlen2]at hoc;by_cases hkp:lo<k
     ·omega
     ·obtain rfl:k=lo:=by omega
      obtain⟨o2,hc2⟩:∃o,wr.cell? ⟨g1,k,none⟩=some o:=⟨_,aY hos (show k<_ by rw[hlen2];omega)⟩;have hfz:=World.ownsRow.frozenAt hos k;have hst:=World.ownsRow.stored hos k (.int .i64 x);rw[kC xs u x hkn]at hst;have HST:=hid hst.1;have HL2:=hid hlen2;clear hst hlen2 hos hoc;go_wp2_with (fail);go_ret;refine⟨_,xs.take k++x::xs.drop k,rfl,?_,HS.out.ins jC HB.out.below ?_,fun y=>oL k,by rw[bq _ _ jC];exact Nat.le_refl _,hbs.setCell hbg _⟩
      ·have:=HST.out
       unfold bD;rw[bq _ _ jC];rw[HL2.out]at this;exact this
      ·intro i hi hle;omega
theorem zF (base:Nat) (x:Int) (w:World) (hbase:base<=w.heap.size) :
  Calls Tryz.prog 78 #[.slice none 0 0,.int .i64 x] w (oW w base [] x):=by
 obtain⟨i0,hi0,hz0,hz1,hz2⟩:=info_parts gh;go_enter Tryz.func78,Tryz.ntmps78;go_wp2_with (fail)
 go_loop [5,6] (fun a b=>a = .int .i64 0/\b = .int .i64 0) (fun a b=>(intOf b).toNat-(intOf a).toNat)
 case atStart=>exact⟨rfl,rfl⟩
 case round=>
  obtain⟨rfl,rfl⟩:=hrel;go_wp2_with (at_builtin;go_must (refine wpList_append_own _ rfl _ _ 56 rfl base 3 i0 _ 1 8 Tryz.underlying56 hi0 hz0 hz1 hz2 rfl (by decide) (.slice none 0 0) 0 [] rfl (World.ownsRow_nil _ _ _ _) ⟨w.heap.size,0,none⟩ 1 1 [.int .i64 0] rfl rfl (cell_one_new _ _ _) ?c2 ?c3 ?c4 ?c5 ?_))
  case c2=>rfl
  case c3=>simp only[maxLen];omega
  case c5=>first | omega | (simp;omega)
  intro v1 w1 hown1 hg1 _;obtain⟨g1,cap1,hv,hbg,hl1⟩:=hown1.form (by omega);rw[hv]at hown1;rw[hv];have hB1:Below base w w1:=((Below.refl base w).alloc hbase _).grown hg1 (by simp;omega) (fun k hk=>by cases hk);have HB1:=hid hB1;clear hB1;have hs1:w1.cell? ⟨g1,0,none⟩=some (.int .i64 0):=by rw[World.ownsRow.cellAt hown1 0 (by omega)];simp
  have hfz:=World.ownsRow.frozenAt hown1 0;have hst:=World.ownsRow.stored hown1 0 (.int .i64 x);have HST:=hid hst.1;clear hst hown1 hg1 hl1 hv;go_wp2_with (fail)
  go_loopw [8] (fun i wr=>i = .int .i64 0/\wr=w1) (fun i _=>(intOf i).toNat)
  case atStart=>exact⟨rfl,rfl⟩
  case round=>
   obtain⟨rfl,rfl⟩:=hrel;go_wp2_with (fail);go_ret;refine⟨_,[x],rfl,?_,List.pairwise_singleton _ _,fun y=>by simp,by simp,HB1.out.setCell hbg _⟩;have:=HST.out;simpa[bD]using this
theorem p8 (base:Nat) (v:Value) (xs:List Int) (x:Int) (w:World) (hown:bD w base v xs) (hbase:base<=w.heap.size) (hs:Srt xs) (hlen:xs.length<=1099511627776) :
  Calls Tryz.prog 78 #[v,.int .i64 x] w (oW w base xs x):=by
 rcases hown.2 with⟨rfl,hn⟩ | ⟨g,cap,cur,rfl,hg,hr⟩
 ·obtain rfl:=List.eq_nil_of_length_eq_zero hn
  exact zF base x w hbase
 ·exact wM base g cap xs x w hown hbase hs hlen
def RN (w:World) (B:Nat) (A:Option Addr) (n:Nat) (l:List Int):Prop:=
 l.length=n/\(0<n->∃b off,A=some ⟨b,off,none⟩/\b<B/\∀(j:Nat) (h:j<l.length),w.cell? ⟨b,off+j,none⟩=some (.int .i64 l[j]))
theorem RN.dS (w:World) (B:Nat) (A:Option Addr):RN w B A 0 []:=⟨rfl,fun h=>absurd h (by omega)⟩
theorem RN.ah {w w':World} {A:Option Addr} {n:Nat} {l:List Int} (h:RN w w.heap.size A n l) (hb:Below w.heap.size w w'):RN w' w'.heap.size A n l:=
 ⟨h.1,fun hn=>by
  obtain⟨b,off,e,hlt,hc⟩:=h.2 hn;exact⟨b,off,e,by have:=hb.size;omega,fun j hj=>(hb.cell hlt).trans (hc j hj)⟩⟩
theorem RN.iV {w:World} {base:Nat} {v:Value} {l:List Int} (h:bD w base v l):∃A c,v = .slice A l.length c/\l.length<=c/\RN w w.heap.size A l.length l:=by
 rcases h.2 with⟨rfl,hn⟩ | ⟨g,cap,cur,rfl,hg,hr⟩
 ·obtain rfl:=List.eq_nil_of_length_eq_zero hn
  exact⟨none,0,rfl,Nat.le_refl _,RN.dS _ _ _⟩
 ·refine⟨some ⟨g,0,none⟩,cap,rfl,hr.2.1,⟨rfl,fun _=>⟨g,0,rfl,(h.lt g rfl).2,fun j hj=>?_⟩⟩⟩
  rw[Nat.zero_add,World.ownsRow.cellAt h j (by omega)];simp[hj]
theorem lK {w w':World} {base:Nat} {v:Value} {l:List Int} (h:bD w base v l) (hb:Below w.heap.size w w'):bD w' base v l:=
 World.ownsRow.kept h (row:=none) ⟨hb.os,hb.tape,hb.output,hb.size,fun k hk _=>hb.block k hk⟩ (by cases v.ownBlock <;> simp)
theorem lJ (w:World) (base:Nat):bD w base (.slice none 0 0) []:=World.ownsRow_nil _ _ _ _
def oR (l:List Bool):List Value:=l.map Value.bool
theorem AY:(Tryz.prog.info? 4).map (fun i=>(i.zero,i.size,i.bytes))=some (some (.bool false),1,1):=by kernel_rfl
def dW (w:World) (g N:Nat) (f:Nat->Bool):Prop:=w.ownsRow g 4 1 (.slice (some ⟨g,0,none⟩) N N) N (oR ((List.range N).map f))
def Jh (f:Nat->Bool) (q:Nat):Nat->Bool:=fun x=>if x=q then true else f x
section
variable {w w':World} {g N q:Nat} {f:Nat->Bool}
theorem dW.cell (h:dW w g N f) (hq:q<N):w.cell? ⟨g,q,none⟩=some (.bool (f q)):=by
 rw[World.ownsRow.cellAt h q (by omega)];simp[oR,hq]
theorem dW.frozen (h:dW w g N f) (q:Nat):w.frozen? ⟨g,q,none⟩=false:=World.ownsRow.frozenAt h q
theorem dW.stored (h:dW w g N f) (q:Nat):dW (w.setCell ⟨g,q,none⟩ (.bool true)) g N (Jh f q):=by
 have:=(World.ownsRow.stored h q (.bool true)).1;unfold dW;have e:oR ((List.range N).map (Jh f q))=(oR ((List.range N).map f)).set q (.bool true):=List.ext_getElem (by simp[oR]) fun j h1 h2=>by
  simp only[oR,List.getElem_map,List.getElem_range,List.getElem_set,Jh];by_cases e:j=q
  ·rw[if_pos e,if_pos e.symm]
  ·rw[if_neg e,if_neg fun k=>e k.symm]
 rw[e];exact this
theorem dW.lt (h:dW w g N f):g<w.heap.size:=(World.ownsRow.lt h g rfl).2
theorem dW.eq {f':Nat->Bool} (h:dW w g N f) (e:∀q,q<N->f q=f' q):dW w g N f':=by
 unfold dW at h ⊢;rw[show(List.range N).map f'=(List.range N).map f from List.map_congr_left fun q hq=>(e q (List.mem_range.1 hq)).symm];exact h
theorem dW.drewN (h:dW w g N f) (n:Nat):dW (w.drewN n) g N f:=h
theorem zT (w:World) (N:Nat) (hN:N<=10000000):dW (w.alloc (.cells (madeCells #[.bool false] N) 4)) w.heap.size N (fun _=>false):=by
 have:=World.ownsRow_lit (base:=w.heap.size) (e:=4) (size:=1) w (madeCells #[.bool false] N) N (Nat.le_refl _) (by simp only[maxLen];omega) (by simp[madeCells]);rw[toList_madeCells_one]at this;unfold dW;rw[show oR ((List.range N).map fun _=>false)=List.replicate N (.bool false)from List.ext_getElem (by simp[oR]) fun j h1 h2=>by simp[oR]];exact this
end
def plL (a b:List Int):List Int:=a.flatMap fun x=>b.map fun y=>x+y
theorem uz {a b:List Int} {k:Nat} (hk:k<a.length):plL (a.take (k+1)) b=plL (a.take k) b++b.map fun y=>a[k]+y:=by
 unfold plL;rw[List.take_succ_eq_append_getElem hk,List.flatMap_append];simp
theorem r9 {a b:List Int} {z:Int} : z∈plL a b↔∃x∈a,∃y∈b,x+y=z:=by
 unfold plL;rw[List.mem_flatMap]
 constructor
 ·rintro⟨x,hx,hz⟩
  obtain⟨y,hy,e⟩:=List.mem_map.1 hz;exact⟨x,hx,y,hy,e⟩
 ·rintro⟨x,hx,y,hy,e⟩
  exact⟨x,hx,List.mem_map.2 ⟨y,hy,e⟩⟩
def InS (P L:List Int):Prop:=Srt L/\(∀z,z∈L↔z∈P)/\∀z∈P,z<=1114111
theorem InS.nil:InS [] []:=⟨List.Pairwise.nil,fun _=>Iff.rfl,fun _ h=>by cases h⟩
theorem InS.put {P L ys:List Int} {x:Int} (h:InS P L) (hx:x<=1114111) (hs:Srt ys) (hm:∀y,y∈ys↔y=x\/y∈L):InS (P++[x]) ys:=
 ⟨hs,fun z=>by
  rw[hm,List.mem_append,List.mem_singleton,h.2.1];exact or_comm,fun z hz=>by
  rcases List.mem_append.1 hz with q | q
  ·exact h.2.2 z q
  ·rw[List.mem_singleton]at q;omega⟩
def tI (a b:List Int) (w:World) (e:Ending) (w':World):Prop:=∃A c L ok,e = .returned (.tuple #[.slice A L.length c,.bool ok])/\(ok=true↔∀z∈plL a b,z<=1114111)/\(ok=true->Srt L/\∀z,z∈L↔z∈plL a b)/\L.length<=c/\RN w' w'.heap.size A L.length L/\Below w.heap.size w w'
def qM (f:Nat->Bool) (k:Nat):List Int:=((List.range k).filter f).map fun j:Nat=>(j:Int)-1114111
theorem qL (f:Nat->Bool) (k:Nat):qM f (k+1)=if f k=true then qM f k++[(k:Int)-1114111]else qM f k:=by
 unfold qM;rw[List.range_succ,List.filter_append,List.map_append];by_cases h:f k=true
 all_goals
  simp[h]
theorem uY (f:Nat->Bool):∀k,Srt (qM f k)/\∀z∈qM f k,z<(k:Int)-1114111
 | 0=>⟨List.Pairwise.nil,fun z hz=>by simp[qM]at hz⟩
 | k+1=>by
  obtain⟨h1,h2⟩:=uY f k;rw[qL]
  split
  ·refine⟨List.pairwise_append.2 ⟨h1,List.pairwise_singleton _ _,fun x hx y hy=>?_⟩,fun z hz=>?_⟩
   ·rw[List.mem_singleton]at hy;subst hy;exact h2 x hx
   ·rcases List.mem_append.1 hz with q | q
    ·have:=h2 z q;omega
    ·rw[List.mem_singleton]at q;omega
  ·exact⟨h1,fun z hz=>by have:=h2 z hz;omega⟩
theorem Ey (f:Nat->Bool) (k:Nat) (z:Int):z∈qM f k↔∃j,j<k/\f j=true/\(j:Int)-1114111=z:=by
 unfold qM;rw[List.mem_map]
 constructor
 ·rintro⟨j,hj,e⟩
  rw[List.mem_filter,List.mem_range]at hj;exact⟨j,hj.1,hj.2,e⟩
 ·rintro⟨j,h1,h2,e⟩
  exact⟨j,List.mem_filter.2 ⟨List.mem_range.2 h1,h2⟩,e⟩
theorem Ez (f:Nat->Bool) (k:Nat):(qM f k).length<=k:=by
 unfold qM;rw[List.length_map];exact Nat.le_trans (List.length_filter_le _ _) (by simp)
def mkF (P:List Int) (j:Nat):Bool:=decide ((j:Int)-1114111∈P)
theorem DQ {P:List Int} {x:Int} {m:Nat} (hm:(m:Int)=x+1114111):mkF (P++[x])=Jh (mkF P) m:=by
 funext j
 unfold mkF Jh;by_cases e:j=m
 ·rw[if_pos e]
  exact decide_eq_true (List.mem_append_right _ (List.mem_singleton.2 (by omega)))
 ·rw[if_neg e]
  refine decide_eq_decide.2 ?_;rw[List.mem_append,List.mem_singleton];exact⟨fun q=>q.elim id fun q=>absurd q (by omega),.inl⟩
theorem GP {P:List Int} (h:∀z∈P,-1114111<=z/\z<=1114111):Srt (qM (mkF P) 2228223)/\∀z,z∈qM (mkF P) 2228223↔z∈P:=by
 refine⟨(uY _ _).1,fun z=>?_⟩;rw[Ey]
 constructor
 ·rintro⟨j,_,h2,rfl⟩
  exact of_decide_eq_true h2
 ·intro hz
  obtain⟨h1,h2⟩:=h z hz;refine⟨(z+1114111).toNat,by omega,decide_eq_true ?_,by omega⟩;rw[show(((z+1114111).toNat:Nat):Int)-1114111=z by omega];exact hz
end Go.Proofs.YtbdmcibcenhpnaaGreatDoor.Rg
