import Derived.Test.YtbdmcibcenhpnaaGreatDoorF4
import Derived.Test.YtbdmcibcenhpnaaGreatDoorF11
set_option maxRecDepth 100000
namespace Go.Proofs.YtbdmcibcenhpnaaGreatDoor.De
set_option maxHeartbeats 64000000
open Go Go.RowKit Sp Pa Te Mi
theorem Hh (f t eat:Int) (A':Option Addr) (g c':Nat) (O:Value) (w:World) :
  Calls Tryz.prog 56 #[.agg #[.int .i64 f,.int .i64 t,.slice A' g c',.int .i64 eat,O]] w (dY (decide (g=0)) w):=by
 obtain⟨w1,hw1⟩:∃w1,w.alloc (.cells #[.int .i64 f,.int .i64 t,.slice A' g c',.int .i64 eat,O] 43)=w1:=⟨_,rfl⟩;have hc:w1.cell? ⟨w.heap.size,2,none⟩=some (.slice A' g c'):=by rw[<- hw1];simp
 have HB:=Lib.hid (show Below w.heap.size w w1 by rw[<- hw1];exact(Below.refl _ _).alloc (Nat.le_refl _) _);rcases Nat.eq_zero_or_pos g with hz | hz
 ·subst hz
  go_enter Tryz.func56,Tryz.ntmps56;go_wp2_with (fail);go_ret;exact⟨rfl,HB.out⟩
 ·have hd:((g:Int) == 0)=false:=by simp;omega
  have he:decide (g=0)=false:=by simp;omega
  rw[he];go_enter Tryz.func56,Tryz.ntmps56;go_wp2_with (fail);go_ret;exact⟨rfl,HB.out⟩
def yG (r:RuL):Bool:=decide (r.gs.length=0)
end Go.Proofs.YtbdmcibcenhpnaaGreatDoor.De
namespace Go.Proofs.YtbdmcibcenhpnaaGreatDoor.De
set_option maxHeartbeats 64000000
open Go Go.RowKit Sp Pa Te Mi
open Go.Lib (hid)
def dK (k:Int):List (Int×Int):=if k=1 then[(0,255)]else if k=2 then[(0,55295),(57344,1114111)]else[]
theorem uD {w:World} : Sp.RS (w.alloc (.cells #[.int .i64 0,.int .i64 255] 47)) (w.alloc (.cells #[.int .i64 0,.int .i64 255] 47)).heap.size (some ⟨w.heap.size,0,none⟩) 1 [(0,255)]:=by
 refine⟨rfl,fun _=>⟨w.heap.size,0,rfl,by simp,fun j hj=>?_⟩⟩;have:j=0:=by simp at hj;exact hj
 subst this;exact⟨by simp,by simp⟩
theorem tQ {w:World} : Sp.RS (w.alloc (.cells #[.int .i64 0,.int .i64 55295,.int .i64 57344,.int .i64 1114111] 47)) (w.alloc (.cells #[.int .i64 0,.int .i64 55295,.int .i64 57344,.int .i64 1114111] 47)).heap.size (some ⟨w.heap.size,0,none⟩) 2 [(0,55295),(57344,1114111)]:=by
 refine⟨rfl,fun _=>⟨w.heap.size,0,rfl,by simp,fun j hj=>?_⟩⟩;have:j=0\/j=1:=by simp at hj;omega
 rcases this with rfl | rfl;all_goals
  exact⟨by simp,by simp⟩
def Li (k:Int) (w:World) (e:Ending) (w':World):Prop:=∃A c,e = .returned (.slice A (dK k).length c)/\Sp.RS w' w'.heap.size A (dK k).length (dK k)/\Below w.heap.size w w'/\(dK k).length<=c
theorem kJ (k:Int) (w:World):Calls Tryz.prog 52 #[.int .i64 k] w (Li k w):=by
 by_cases k1:k=1
 ·subst k1
  go_enter Tryz.func52,Tryz.ntmps52;go_wp2_with (fail);go_ret;exact⟨_,1,rfl,uD,(Below.refl _ _).alloc (Nat.le_refl _) _,by decide⟩
 ·by_cases k2:k=2
  ·subst k2
   go_enter Tryz.func52,Tryz.ntmps52;go_wp2_with (fail);go_ret;exact⟨_,2,rfl,tQ,(Below.refl _ _).alloc (Nat.le_refl _) _,by decide⟩
  ·have h1:(k == 1)=false:=by simpa using k1
   have h2:(k == 2)=false:=by simpa using k2
   have HV:=hid (show dK k=[]by unfold dK;rw[if_neg k1,if_neg k2]);clear k1 k2;go_enter Tryz.func52,Tryz.ntmps52;go_wp2_with (fail);go_ret;exact⟨none,0,by rw[HV.out];rfl,by rw[HV.out];exact Sp.RS.dS _ _ _,Below.refl _ _,by rw[HV.out];exact Nat.le_refl _⟩
def DB (w:World) (x:Nat) (i o n s:Int) (A:Option Addr) (r cr:Nat) (B:Option Addr) (f cf:Nat):Prop:=
 w.cell? ⟨x,0,none⟩=some (.int .i64 i)/\w.cell? ⟨x,1,none⟩=some (.int .i64 o)/\w.cell? ⟨x,2,none⟩=some (.int .i64 n)/\w.cell? ⟨x,3,none⟩=some (.int .i64 s)/\w.cell? ⟨x,4,none⟩=some (.slice A r cr)/\w.cell? ⟨x,5,none⟩=some (.slice B f cf)
section
variable {w W W':World} {x:Nat} {i o n s:Int} {A:Option Addr} {r cr:Nat} {B:Option Addr} {f cf:Nat}
theorem DB.below (h:DB W x i o n s A r cr B f cf) {b:Nat} (hx:x<b) (hb:Below b W W'):DB W' x i o n s A r cr B f cf:=
 ⟨(hb.cell hx).trans h.1,(hb.cell hx).trans h.2.1,(hb.cell hx).trans h.2.2.1,(hb.cell hx).trans h.2.2.2.1,(hb.cell hx).trans h.2.2.2.2.1,(hb.cell hx).trans h.2.2.2.2.2⟩
theorem DB.boxed:DB (w.alloc (.cells #[.int .i64 i,.int .i64 o,.int .i64 n,.int .i64 s,.slice A r cr,.slice B f cf] 26)) w.heap.size i o n s A r cr B f cf:=
 ⟨by simp,by simp,by simp,by simp,by simp,by simp⟩
end
def stB (n q:Int):Bool:=decide (0<=q/\q<n)
theorem tZ {n q:Int} (h : ¬ 0<=q):stB n q=false:=decide_eq_false fun k=>h k.1
theorem ud {n q:Int} (h : ¬ q<n):stB n q=false:=decide_eq_false fun k=>h k.2
theorem zw {n q:Int} (h:0<=q) (h2:q<n):stB n q=true:=decide_eq_true ⟨h,h2⟩
theorem iM (i o n s:Int) (A:Option Addr) (r cr:Nat) (B:Option Addr) (f cf:Nat) (q:Int) (w:World) :
  Calls Tryz.prog 42 #[dsc i o n s A r cr B f cf,.int .i64 q] w (dY (stB n q) w):=by
 obtain⟨w1,hw1⟩:∃w1,w.alloc (.cells #[.int .i64 i,.int .i64 o,.int .i64 n,.int .i64 s,.slice A r cr,.slice B f cf] 26)=w1:=⟨_,rfl⟩;have hb1:=hid (show Below w.heap.size w w1 by rw[<- hw1];exact(Below.refl _ _).alloc (Nat.le_refl _) _);have hc2:w1.cell? ⟨w.heap.size,2,none⟩=some (.int .i64 n):=by rw[<- hw1];simp
 by_cases h0:0<=q
 ·by_cases h1:q<n
  ·rw[zw h0 h1]
   go_enter Tryz.func42,Tryz.ntmps42;go_wp2_with (fail);go_ret;exact⟨rfl,hb1.out⟩
  ·rw[ud h1]
   go_enter Tryz.func42,Tryz.ntmps42;go_wp2_with (fail);go_ret;exact⟨rfl,hb1.out⟩
 ·rw[tZ h0]
  go_enter Tryz.func42,Tryz.ntmps42;go_wp2_with (fail);go_ret;exact⟨rfl,hb1.out⟩
def iN (k:Int):Bool:=decide (k=1\/k=2)
theorem BL {k:Int} : (decide (0<(dK k).length))=iN k:=by
 unfold dK iN;by_cases h1:k=1
 ·subst h1;rfl
 ·rw[if_neg h1]
  by_cases h2:k=2
  ·subst h2;rfl
  ·rw[if_neg h2];simp[h1,h2]
def bn (i o n s:Int) (r f:Nat):Bool:=iN i && (iN o && (decide (1<=n) && (decide (n<=1024) && (stB n s && (decide (r<=4096) && decide (f<=4096))))))
theorem Es (i o n s:Int) (A:Option Addr) (r cr:Nat) (B:Option Addr) (f cf:Nat) (w:World) :
  Calls Tryz.prog 40 #[dsc i o n s A r cr B f cf] w (dY (bn i o n s r f) w):=by
 obtain⟨w1,hw1⟩:∃w1,w.alloc (.cells #[.int .i64 i,.int .i64 o,.int .i64 n,.int .i64 s,.slice A r cr,.slice B f cf] 26)=w1:=⟨_,rfl⟩;have hs1:w1.heap.size=w.heap.size+1:=by rw[<- hw1];simp
 have hb1:=hid (show Below w.heap.size w w1 by rw[<- hw1];exact(Below.refl _ _).alloc (Nat.le_refl _) _);have hd1:DB w1 w.heap.size i o n s A r cr B f cf:=by rw[<- hw1];exact DB.boxed
 have HD1:=hid hd1;obtain⟨p0,p1,p2,p3,p4,p5⟩:=hd1;have HP1:=hid (BL (k:=i));have HP2:=hid (BL (k:=o));have HDA:=hid (fun k W=>kJ k W);obtain⟨v,hv⟩:∃v,bn i o n s r f=v:=⟨_,rfl⟩;rw[hv];have HV:=hid hv;clear hv;go_enter Tryz.func40,Tryz.ntmps40;go_wp2_with (fail);refine(HDA.out i w1).mono ?_;rintro e w2 ⟨A2,c2,rfl,_,hb2,_⟩;have hq2:=hb2.size;obtain⟨p0,p1,p2,p3,p4,p5⟩:=HD1.out.below (by omega) hb2;have HB2:=hid (hb1.out.trans (hb2.mono (by omega)));have HD2:=hid (show DB w2 w.heap.size i o n s A r cr B f cf from⟨p0,p1,p2,p3,p4,p5⟩);clear hb2;obtain⟨m,hm⟩:∃m,(dK i).length=m:=⟨_,rfl⟩;rw[hm]at HP1 ⊢;clear hm;rcases Nat.eq_zero_or_pos m with z | z
 ·subst z
  obtain rfl:v=false:=by rw[<- HV.out];unfold bn;rw[<- HP1.out];rfl
  go_wp2_with (fail);go_ret;exact⟨rfl,HB2.out⟩
 have hz:(0:Int)<(m:Int):=by omega
 have HI:=hid (show iN i=true by rw[<- HP1.out];exact decide_eq_true z);go_wp2_with (fail);refine(HDA.out o w2).mono ?_;rintro e w3 ⟨A3,c3,rfl,_,hb3,_⟩;have hq3:=hb3.size;obtain⟨p0,p1,p2,p3,p4,p5⟩:=HD2.out.below (by omega) hb3;have HB3:=hid (HB2.out.trans (hb3.mono (by omega)));have HD3:=hid (show DB w3 w.heap.size i o n s A r cr B f cf from⟨p0,p1,p2,p3,p4,p5⟩);clear hb3;obtain⟨m3,hm3⟩:∃m3,(dK o).length=m3:=⟨_,rfl⟩;rw[hm3]at HP2 ⊢;clear hm3;rcases Nat.eq_zero_or_pos m3 with z3 | z3
 ·subst z3
  obtain rfl:v=false:=by rw[<- HV.out];unfold bn;rw[HI.out,<- HP2.out];rfl
  go_wp2_with (fail);go_ret;exact⟨rfl,HB3.out⟩
 have hz3:(0:Int)<(m3:Int):=by omega
 have HO:=hid (show iN o=true by rw[<- HP2.out];exact decide_eq_true z3);by_cases k1:1<=n
 case neg=>
  obtain rfl:v=false:=by rw[<- HV.out];unfold bn;rw[HI.out,HO.out,decide_eq_false k1];rfl
  go_wp2_with (fail);go_ret;exact⟨rfl,HB3.out⟩
 by_cases k2:n<=1024
 case neg=>
  obtain rfl:v=false:=by rw[<- HV.out];unfold bn;rw[HI.out,HO.out,decide_eq_true k1,decide_eq_false k2];rfl
  go_wp2_with (fail);go_ret;exact⟨rfl,HB3.out⟩
 go_wp2_with (fail);refine(iM i o n s A r cr B f cf s w3).mono ?_;rintro e w4 ⟨rfl,hb4⟩;have hq4:=hb4.size;obtain⟨p0,p1,p2,p3,p4,p5⟩:=HD3.out.below (by omega) hb4;have HB4:=hid (HB3.out.trans (hb4.mono (by omega)));clear hb4;obtain⟨b,hbq⟩:∃b,stB n s=b:=⟨_,rfl⟩;have HQ:=hid hbq;rw[hbq];clear hbq
 cases b
 ·obtain rfl:v=false:=by rw[<- HV.out];unfold bn;rw[HI.out,HO.out,decide_eq_true k1,decide_eq_true k2,HQ.out];rfl
  go_wp2_with (fail);go_ret;exact⟨rfl,HB4.out⟩
 by_cases k3:r<=4096
 case neg=>
  obtain rfl:v=false:=by rw[<- HV.out];unfold bn;rw[HI.out,HO.out,decide_eq_true k1,decide_eq_true k2,HQ.out,decide_eq_false k3];rfl
  have k3' : ¬ (r:Int)<=4096:=by omega
  go_wp2_with (fail);go_ret;exact⟨rfl,HB4.out⟩
 have k3':(r:Int)<=4096:=by omega
 by_cases k4:f<=4096
 case neg=>
  obtain rfl:v=false:=by rw[<- HV.out];unfold bn;rw[HI.out,HO.out,decide_eq_true k1,decide_eq_true k2,HQ.out,decide_eq_true k3,decide_eq_false k4];rfl
  have k4' : ¬ (f:Int)<=4096:=by omega
  go_wp2_with (fail);go_ret;exact⟨by show Ending.returned (Value.bool (decide ((f:Int)<=4096)))=_;rw[decide_eq_false (by omega)],HB4.out⟩
 have k4':(f:Int)<=4096:=by omega
 obtain rfl:v=true:=by rw[<- HV.out];unfold bn;rw[HI.out,HO.out,decide_eq_true k1,decide_eq_true k2,HQ.out,decide_eq_true k3,decide_eq_true k4];rfl
 go_wp2_with (fail);go_ret;exact⟨rfl,HB4.out⟩
noncomputable def CK (i:Int) (g:List Span):Bool:=@decide (∀x,¬ (mem g x/\¬ mem (dK i) x)) (Classical.propDecidable _)
noncomputable def bp (i:Int) (g:List Span):Bool:=decide (0<g.length) && (decide (g.length<=64) && (dP g && CK i g))
noncomputable def aG (i:Int) (gs:List (List Span)):Bool:=decide (gs.length<=4) && gs.all (bp i)
def M9 (i:Int) (gs:List (List Span)) (w:World) (x:Nat) (i0 o n s:Int) (A:Option Addr) (r cr:Nat) (B:Option Addr) (f cf:Nat) (v:Value) (wr:World):Prop:=∃k:Nat,k<=gs.length/\v = .int .i64 k/\(∀j (hj:j<gs.length),j<k->bp i gs[j]=true)/\Below w.heap.size w wr/\x<wr.heap.size/\DB wr x i0 o n s A r cr B f cf
theorem uX {i:Int} {gs:List (List Span)} {k:Nat} (h:k<gs.length) (hf:bp i gs[k]=false):gs.all (bp i)=false:=by
 rw[List.all_eq_false];exact⟨_,List.getElem_mem h,by simp[hf]⟩
theorem uW {i:Int} {gs:List (List Span)} {k:Nat} (h : ¬ k<gs.length) (hk:k<=gs.length) (ht:∀j (hj:j<gs.length),j<k->bp i gs[j]=true):gs.all (bp i)=true:=by
 rw[List.all_eq_true];intro g hg;obtain⟨j,hj,rfl⟩:=List.getElem_of_mem hg;exact ht j hj (by omega)
theorem nQ (i o n s:Int) (A:Option Addr) (r cr:Nat) (B:Option Addr) (f cf:Nat) (G:Option Addr) (gc:Nat) (gs:List (List Span)) (w:World) (hg:RGs w G gs.length gs) (hl:gs.length<=maxLen) (hm:∀g∈gs,g.length<=maxLen) :
  Calls Tryz.prog 43 #[dsc i o n s A r cr B f cf,.slice G gs.length gc] w (dY (aG i gs) w):=by
 obtain⟨w1,hw1⟩:∃w1,w.alloc (.cells #[.int .i64 i,.int .i64 o,.int .i64 n,.int .i64 s,.slice A r cr,.slice B f cf] 26)=w1:=⟨_,rfl⟩;have hs1:w1.heap.size=w.heap.size+1:=by rw[<- hw1];simp
 have HB1:=hid (show Below w.heap.size w w1 by rw[<- hw1];exact(Below.refl _ _).alloc (Nat.le_refl _) _);have hd1:DB w1 w.heap.size i o n s A r cr B f cf:=by rw[<- hw1];exact DB.boxed
 have HD1:=hid hd1;have HG:=hid hg;have HM:=hid hm;have HL:=hid hl;have HDA:=hid (fun k W=>kJ k W);clear hd1 hg hm hl;obtain⟨v,hv⟩:∃v,aG i gs=v:=⟨_,rfl⟩;rw[hv];have HV:=hid hv;clear hv;by_cases k4:gs.length<=4
 case neg=>
  obtain rfl:v=false:=by rw[<- HV.out];unfold aG;rw[decide_eq_false k4];rfl
  have k4':(4:Int)<(gs.length:Int):=by omega
  go_enter Tryz.func43,Tryz.ntmps43;go_wp2_with (fail);go_ret;exact⟨rfl,HB1.out⟩
 have k4' : ¬ (4:Int)<(gs.length:Int):=by omega
 go_enter Tryz.func43,Tryz.ntmps43;go_wp2_with (fail)
 go_loopw [12] (fun v wr=>M9 i gs w w.heap.size i o n s A r cr B f cf v wr) (fun v _=>gs.length-(intOf v).toNat)
 case atStart=>exact⟨0,Nat.zero_le _,rfl,fun j _ h=>absurd h (by omega),HB1.out,by omega,HD1.out⟩
 case round=>
  obtain⟨k,hk,rfl,hok,hb,hx,hd⟩:=hrel;have HB:=hid hb;have HOK:=hid hok;have HD:=hid hd;by_cases hlt:k<gs.length
  case neg=>
   obtain rfl:v=true:=by rw[<- HV.out];unfold aG;rw[decide_eq_true k4,uW hlt hk hok];rfl
   clear hok hb hd;go_wp2_with (fail);go_ret;exact⟨rfl,HB.out⟩
  obtain⟨p0,p1,p2,p3,p4,p5⟩:=hd;obtain⟨b,off,Aj,cj,hA,hbB,hcj,hrj,hcc,_⟩:=(HG.out.ah hb).at_ hlt;have HCC:=hid hcc;have HMX:=hid (HM.out _ (List.getElem_mem hlt));have HRJ:=hid hrj;rw[hA];clear hA hrj hb hok hcc;have HVF:=hid (fun(h:bp i gs[k]=false)=>show v=false by rw[<- HV.out];unfold aG;rw[uX hlt h,Bool.and_false]);obtain⟨g,hgk⟩:∃g,gs[k]=g:=⟨_,rfl⟩;have HNX:=hid (fun(h:bp i g=true)=>show∀j (hj:j<gs.length),j<k+1->bp i gs[j]=true from fun j hj hjk=>by
   rcases Nat.lt_or_ge j k with q | q
   ·exact HOK.out j hj q
   ·obtain rfl:j=k:=by omega
    rw[hgk];exact h)
  rw[hgk]at hcj HCC HMX HRJ HVF;clear hgk;obtain⟨nk,hnk⟩:∃nk,g.length=nk:=⟨_,rfl⟩;have HNK:=hid hnk;rw[hnk]at hcj HCC HMX HRJ;clear hnk;rcases Nat.eq_zero_or_pos nk with z | z
  ·subst z
   obtain rfl:v=false:=HVF.out (by unfold bp;rw[HNK.out];rfl);go_wp2_with (fail);go_ret;exact⟨rfl,HB.out⟩
  have hz:((nk:Int) == 0)=false:=by simp;omega
  by_cases k64:nk<=64
  case neg=>
   obtain rfl:v=false:=HVF.out (by unfold bp;rw[HNK.out,decide_eq_false k64];simp);have LA:(64:Int)<(nk:Int):=by omega
   go_wp2_with (fail);go_ret;exact⟨rfl,HB.out⟩
  have LA : ¬ (64:Int)<(nk:Int):=by omega
  go_wp2_with (fail);refine(mo Aj nk cj g wr HRJ.out (by omega)).mono ?_;rintro e w2 ⟨rfl,hb2⟩;have hq2:=hb2.size;obtain⟨p0,p1,p2,p3,p4,p5⟩:=HD.out.below (by omega) hb2;have HB2:=hid (HB.out.trans (hb2.mono (by have:=HB.out.size;omega)));have HD2:=hid (show DB w2 w.heap.size i o n s A r cr B f cf from⟨p0,p1,p2,p3,p4,p5⟩);have Lc:=hid (HRJ.out.ah hb2);clear hb2;obtain⟨b2,hbq⟩:∃b2,dP g=b2:=⟨_,rfl⟩;have HQ:=hid hbq;rw[hbq];clear hbq
  cases b2
  ·obtain rfl:v=false:=HVF.out (by unfold bp;rw[HQ.out];simp)
   go_wp2_with (fail);go_ret;exact⟨rfl,HB2.out⟩
  go_wp2_with (fail);refine(HDA.out i w2).mono ?_;rintro e w3 ⟨A3,c3,rfl,hr3,hb3,hc3⟩;have hq3:=hb3.size;obtain⟨p0,p1,p2,p3,p4,p5⟩:=HD2.out.below (by omega) hb3;have HB3:=hid (HB2.out.trans (hb3.mono (by have:=HB.out.size;omega)));have HD3:=hid (show DB w3 w.heap.size i o n s A r cr B f cf from⟨p0,p1,p2,p3,p4,p5⟩);have HW:=hid (fun bb h=>gE Aj A3 nk (dK i).length cj c3 g (dK i) bb w3 (Lc.out.ah hb3) hr3 (by omega) (by unfold dK;split <;> (try split) <;> simp) HCC.out hc3 h);clear hb3 hr3 hc3;go_wp2_with (fail);refine(HW.out (CK i g) (by unfold CK;exact @decide_eq_true_iff _ (Classical.propDecidable _))).mono ?_;rintro e w4 ⟨rfl,hb4⟩;have hq4:=hb4.size;have HB4:=hid (HB3.out.trans (hb4.mono (by have:=HB.out.size;omega)));have HD4:=hid (HD3.out.below (by omega) hb4);clear hb4;obtain⟨b4,hbq⟩:∃b4,CK i g=b4:=⟨_,rfl⟩;have HQ4:=hid hbq;rw[hbq];clear hbq
  cases b4
  ·obtain rfl:v=false:=HVF.out (by unfold bp;rw[HQ4.out];simp)
   go_wp2_with (fail);go_ret;exact⟨rfl,HB4.out⟩
  go_wp2_with (fail)
  go_roundw
  case rel=>exact⟨k+1,by omega,by go_num,HNX.out (by unfold bp;rw[HNK.out,decide_eq_true z,decide_eq_true k64,HQ.out,HQ4.out];rfl),HB4.out,by omega,HD4.out⟩
  case measure=>simp[intOf];omega
end Go.Proofs.YtbdmcibcenhpnaaGreatDoor.De
namespace Go.Proofs.YtbdmcibcenhpnaaGreatDoor.De
set_option maxHeartbeats 64000000
open Go Go.RowKit Sp Pa Te Mi
open Go.Lib (hid)
def jT (F:TmL->Bool) (i o:Int) (gs:List (List Span)) (t:TmL) (w:World):Prop:=
 ∀(W:World),Below w.heap.size w W->∀(A':Option Addr) (c':Nat) (G:Option Addr) (gc:Nat),RP W W.heap.size A' t.ps.length t.ps->t.ps.length<=c'->t.ps.length<=maxLen->RGs W G gs.length gs->gs.length<=gc ->
  Calls Tryz.prog 55 #[trm t.b t.d t.t t.u t.s A' t.ps.length c',.int .i64 i,.int .i64 o,.slice G gs.length gc] W (dY (F t) W)
theorem jT.mono {F:TmL->Bool} {i o:Int} {gs:List (List Span)} {t:TmL} {w w':World} (h:jT F i o gs t w) (hb:Below w.heap.size w w'):jT F i o gs t w':=fun W hW=>h W (hb.trans (hW.mono hb.size))
def bH (F:TmL->Bool) (ts:List TmL):Bool:=decide (ts.length<=64) && ts.all F
def Mn (F:TmL->Bool) (ts:List TmL) (w:World) (x:Nat) (i0 o n s:Int) (A:Option Addr) (r cr:Nat) (B:Option Addr) (f cf:Nat) (v:Value) (wr:World):Prop:=∃k:Nat,k<=ts.length/\v = .int .i64 k/\(∀j (hj:j<ts.length),j<k->F ts[j]=true)/\Below w.heap.size w wr/\x<wr.heap.size/\DB wr x i0 o n s A r cr B f cf
theorem J8 {α:Type} {F:α->Bool} {ts:List α} {k:Nat} (h:k<ts.length) (hf:F ts[k]=false):ts.all F=false:=by
 rw[List.all_eq_false];exact⟨_,List.getElem_mem h,by simp[hf]⟩
theorem J7 {α:Type} {F:α->Bool} {ts:List α} {k:Nat} (h : ¬ k<ts.length) (ht:∀j (hj:j<ts.length),j<k->F ts[j]=true):ts.all F=true:=by
 rw[List.all_eq_true];intro g hg;obtain⟨j,hj,rfl⟩:=List.getElem_of_mem hg;exact ht j hj (by omega)
theorem pK (F:TmL->Bool) (i o n s:Int) (A:Option Addr) (r cr:Nat) (B:Option Addr) (f cf:Nat) (T:Option Addr) (tc:Nat) (ts:List TmL) (G:Option Addr) (gc:Nat) (gs:List (List Span)) (w:World) (ht:RTm w T ts.length ts) (hg:RGs w G gs.length gs) (hgc:gs.length<=gc) (hF:ts.length<=64->∀t∈ts,jT F i o gs t w) :
  Calls Tryz.prog 44 #[dsc i o n s A r cr B f cf,.slice T ts.length tc,.slice G gs.length gc] w (dY (bH F ts) w):=by
 obtain⟨w1,hw1⟩:∃w1,w.alloc (.cells #[.int .i64 i,.int .i64 o,.int .i64 n,.int .i64 s,.slice A r cr,.slice B f cf] 26)=w1:=⟨_,rfl⟩;have hs1:w1.heap.size=w.heap.size+1:=by rw[<- hw1];simp
 have HB1:=hid (show Below w.heap.size w w1 by rw[<- hw1];exact(Below.refl _ _).alloc (Nat.le_refl _) _);have hd1:DB w1 w.heap.size i o n s A r cr B f cf:=by rw[<- hw1];exact DB.boxed
 have HD1:=hid hd1;have HG:=hid hg;have HGC:=hid hgc;have HT:=hid ht;have HF:=hid hF;clear hd1 hg ht hF hgc;obtain⟨v,hv⟩:∃v,bH F ts=v:=⟨_,rfl⟩;rw[hv];have HV:=hid hv;clear hv;by_cases k4:ts.length<=64
 case neg=>
  obtain rfl:v=false:=by rw[<- HV.out];unfold bH;rw[decide_eq_false k4];rfl
  have k4':(64:Int)<(ts.length:Int):=by omega
  go_enter Tryz.func44,Tryz.ntmps44;go_wp2_with (fail);go_ret;exact⟨rfl,HB1.out⟩
 have k4' : ¬ (64:Int)<(ts.length:Int):=by omega
 go_enter Tryz.func44,Tryz.ntmps44;go_wp2_with (fail)
 go_loopw [14] (fun v wr=>Mn F ts w w.heap.size i o n s A r cr B f cf v wr) (fun v _=>ts.length-(intOf v).toNat)
 case atStart=>exact⟨0,Nat.zero_le _,rfl,fun j _ h=>absurd h (by omega),HB1.out,by omega,HD1.out⟩
 case round=>
  obtain⟨k,hk,rfl,hok,hb,hx,hd⟩:=hrel;have HB:=hid hb;have HOK:=hid hok;have HD:=hid hd;by_cases hlt:k<ts.length
  case neg=>
   obtain rfl:v=true:=by rw[<- HV.out];unfold bH;rw[decide_eq_true k4,J7 hlt hok];rfl
   clear hok hb hd;go_wp2_with (fail);go_ret;exact⟨rfl,HB.out⟩
  obtain⟨b,off,hA,hbB,d0,d1,d2,d3,d4,A',c',d5,hp,hc,hm⟩:=(HT.out.ah hb).at_ hlt;obtain⟨w5,hw5⟩:∃w5,wr.alloc (.cells #[.int .i64 ts[k].b,.int .i64 ts[k].d,.int .i64 ts[k].t,.int .i64 ts[k].u,.int .i64 ts[k].s,.slice A' ts[k].ps.length c'] 51)=w5:=⟨_,rfl⟩;have hb5:Below wr.heap.size wr w5:=by rw[<- hw5];exact(Below.refl _ _).alloc (Nat.le_refl _) _
  have hs5:w5.heap.size=wr.heap.size+1:=by rw[<- hw5];simp
  have q0:w5.cell? ⟨wr.heap.size,0,none⟩=some (.int .i64 ts[k].b):=by rw[<- hw5];simp
  have q1:w5.cell? ⟨wr.heap.size,1,none⟩=some (.int .i64 ts[k].d):=by rw[<- hw5];simp
  have q2:w5.cell? ⟨wr.heap.size,2,none⟩=some (.int .i64 ts[k].t):=by rw[<- hw5];simp
  have q3:w5.cell? ⟨wr.heap.size,3,none⟩=some (.int .i64 ts[k].u):=by rw[<- hw5];simp
  have q4:w5.cell? ⟨wr.heap.size,4,none⟩=some (.int .i64 ts[k].s):=by rw[<- hw5];simp
  have q5:w5.cell? ⟨wr.heap.size,5,none⟩=some (.slice A' ts[k].ps.length c'):=by rw[<- hw5];simp
  have HB5:=hid (hb.trans (hb5.mono hb.size));obtain⟨p0,p1,p2,p3,p4,p5⟩:=hd.below hx hb5;have HD5:=hid (show DB w5 w.heap.size i o n s A r cr B f cf from⟨p0,p1,p2,p3,p4,p5⟩);have HC:=hid (HF.out k4 _ (List.getElem_mem hlt) w5 HB5.out A' c' G gc (hp.ah hb5) hc hm (HG.out.ah HB5.out) HGC.out);rw[hA];clear hA hb hok hd hp hc hm hb5;obtain⟨b2,hbq⟩:∃b2,F ts[k]=b2:=⟨_,rfl⟩;have HQ:=hid hbq;rw[hbq]at HC;clear hbq;go_wp2_with (fail);refine HC.out.mono ?_;rintro e w6 ⟨rfl,hb6⟩;have hq6:=hb6.size;have HB6:=hid (HB5.out.trans (hb6.mono (by omega)));have HD6:=hid (HD5.out.below (by omega) hb6);clear hb6
  cases b2
  ·obtain rfl:v=false:=by rw[<- HV.out];unfold bH;rw[J8 hlt HQ.out,Bool.and_false]
   go_wp2_with (fail);go_ret;exact⟨rfl,HB6.out⟩
  have HNX:=hid (show∀j (hj:j<ts.length),j<k+1->F ts[j]=true from fun j hj hjk=>by
   rcases Nat.lt_or_ge j k with q | q
   ·exact HOK.out j hj q
   ·obtain rfl:j=k:=by omega
    exact HQ.out)
  go_wp2_with (fail)
  go_roundw
  case rel=>exact⟨k+1,by omega,by go_num,HNX.out,HB6.out,by omega,HD6.out⟩
  case measure=>simp[intOf];omega
def RB (w:World) (x:Nat) (a b:Int) (G:Option Addr) (g gc:Nat) (e:Int) (T:Option Addr) (t tc:Nat):Prop:=
 w.cell? ⟨x,0,none⟩=some (.int .i64 a)/\w.cell? ⟨x,1,none⟩=some (.int .i64 b)/\w.cell? ⟨x,2,none⟩=some (.slice G g gc)/\w.cell? ⟨x,3,none⟩=some (.int .i64 e)/\w.cell? ⟨x,4,none⟩=some (.slice T t tc)
section
variable {w W W':World} {x:Nat} {a b e:Int} {G:Option Addr} {g gc:Nat} {T:Option Addr} {t tc:Nat}
theorem RB.below (h:RB W x a b G g gc e T t tc) {q:Nat} (hx:x<q) (hb:Below q W W'):RB W' x a b G g gc e T t tc:=
 ⟨(hb.cell hx).trans h.1,(hb.cell hx).trans h.2.1,(hb.cell hx).trans h.2.2.1,(hb.cell hx).trans h.2.2.2.1,(hb.cell hx).trans h.2.2.2.2⟩
theorem RB.boxed:RB (w.alloc (.cells #[.int .i64 a,.int .i64 b,.slice G g gc,.int .i64 e,.slice T t tc] 43)) w.heap.size a b G g gc e T t tc:=
 ⟨by simp,by simp,by simp,by simp,by simp⟩
end
abbrev rul (a b:Int) (G:Option Addr) (g gc:Nat) (e:Int) (T:Option Addr) (t tc:Nat):Value:=.agg #[.int .i64 a,.int .i64 b,.slice G g gc,.int .i64 e,.slice T t tc]
def oP (g:Nat) (e:Int):Bool:=decide ((if g=0 then 0 else 1)<=e/\e<=g)
noncomputable def dw (i n:Int) (F:List (List Span)->TmL->Bool) (r:RuL):Bool:=stB n r.frm && (stB n r.to_ && (aG i r.gs && (oP r.gs.length r.eat && bH (F r.gs) r.out)))
theorem Dp (F:List (List Span)->TmL->Bool) (i o n s:Int) (A:Option Addr) (r cr:Nat) (B:Option Addr) (f cf:Nat) (G T:Option Addr) (gc tc:Nat) (q:RuL) (w:World) (hg:RGs w G q.gs.length q.gs) (hgc:q.gs.length<=gc) (hgl:q.gs.length<=maxLen) (hgm:∀g∈q.gs,g.length<=maxLen) (ht:RTm w T q.out.length q.out) (hF:aG i q.gs=true->q.out.length<=64->∀t∈q.out,jT (F q.gs) i o q.gs t w) :
  Calls Tryz.prog 41 #[dsc i o n s A r cr B f cf,rul q.frm q.to_ G q.gs.length gc q.eat T q.out.length tc] w (dY (dw i n F q) w):=by
 obtain⟨w0,hw0⟩:∃w0,w.alloc (.cells #[.int .i64 i,.int .i64 o,.int .i64 n,.int .i64 s,.slice A r cr,.slice B f cf] 26)=w0:=⟨_,rfl⟩;have hs0:w0.heap.size=w.heap.size+1:=by rw[<- hw0];simp
 have hb0:Below w.heap.size w w0:=by rw[<- hw0];exact(Below.refl _ _).alloc (Nat.le_refl _) _
 have hd0:DB w0 w.heap.size i o n s A r cr B f cf:=by rw[<- hw0];exact DB.boxed
 obtain⟨w1,hw1⟩:∃w1,w0.alloc (.cells #[.int .i64 q.frm,.int .i64 q.to_,.slice G q.gs.length gc,.int .i64 q.eat,.slice T q.out.length tc] 43)=w1:=⟨_,rfl⟩;have hb1:Below w0.heap.size w0 w1:=by rw[<- hw1];exact(Below.refl _ _).alloc (Nat.le_refl _) _
 have hs1:w1.heap.size=w.heap.size+1+1:=by rw[<- hw1,<- hs0];simp
 have hr1:RB w1 (w.heap.size+1) q.frm q.to_ G q.gs.length gc q.eat T q.out.length tc:=by rw[<- hw1,<- hs0];exact RB.boxed
 have HB1:=hid (hb0.trans (hb1.mono (by omega)));have HD1:=hid (hd0.below (by omega) hb1);have HR1:=hid hr1;have HG:=hid hg;have HGC:=hid hgc;have HT:=hid ht;have HF:=hid hF;have HGL:=hid hgl;have HGM:=hid hgm;clear hb0 hb1 hd0 hr1 hg ht hF hgc hgl hgm;obtain⟨v,hv⟩:∃v,dw i n F q=v:=⟨_,rfl⟩;rw[hv];have HV:=hid hv;clear hv;obtain⟨p0,p1,p2,p3,p4,p5⟩:=HD1.out;obtain⟨r0,r1,r2,r3,r4⟩:=HR1.out;go_enter Tryz.func41,Tryz.ntmps41;go_wp2_with (fail);refine(iM i o n s A r cr B f cf q.frm w1).mono ?_;rintro e w2 ⟨rfl,hb2⟩;have hq2:=hb2.size;obtain⟨p0,p1,p2,p3,p4,p5⟩:=HD1.out.below (by omega) hb2;obtain⟨r0,r1,r2,r3,r4⟩:=HR1.out.below (by omega) hb2;have HB2:=hid (HB1.out.trans (hb2.mono (by omega)));have HD2:=hid (show DB w2 w.heap.size i o n s A r cr B f cf from⟨p0,p1,p2,p3,p4,p5⟩);have HR2:=hid (show RB w2 (w.heap.size+1) q.frm q.to_ G q.gs.length gc q.eat T q.out.length tc from⟨r0,r1,r2,r3,r4⟩);clear hb2;obtain⟨b1,hbq⟩:∃b1,stB n q.frm=b1:=⟨_,rfl⟩;have HQ1:=hid hbq;rw[hbq];clear hbq
 cases b1
 ·obtain rfl:v=false:=by rw[<- HV.out];unfold dw;rw[HQ1.out];rfl
  go_wp2_with (fail);go_ret;exact⟨rfl,HB2.out⟩
 go_wp2_with (fail);refine(iM i o n s A r cr B f cf q.to_ w2).mono ?_;rintro e w3 ⟨rfl,hb3⟩;have hq3:=hb3.size;obtain⟨p0,p1,p2,p3,p4,p5⟩:=HD2.out.below (by omega) hb3;obtain⟨r0,r1,r2,r3,r4⟩:=HR2.out.below (by omega) hb3;have HB3:=hid (HB2.out.trans (hb3.mono (by omega)));have HD3:=hid (show DB w3 w.heap.size i o n s A r cr B f cf from⟨p0,p1,p2,p3,p4,p5⟩);have HR3:=hid (show RB w3 (w.heap.size+1) q.frm q.to_ G q.gs.length gc q.eat T q.out.length tc from⟨r0,r1,r2,r3,r4⟩);clear hb3;obtain⟨b2,hbq⟩:∃b2,stB n q.to_=b2:=⟨_,rfl⟩;have HQ2:=hid hbq;rw[hbq];clear hbq
 cases b2
 ·obtain rfl:v=false:=by rw[<- HV.out];unfold dw;rw[HQ1.out,HQ2.out];rfl
  go_wp2_with (fail);go_ret;exact⟨rfl,HB3.out⟩
 go_wp2_with (fail);refine(nQ i o n s A r cr B f cf G gc q.gs w3 (HG.out.ah HB3.out) HGL.out HGM.out).mono ?_;rintro e w4 ⟨rfl,hb4⟩;have hq4:=hb4.size;obtain⟨p0,p1,p2,p3,p4,p5⟩:=HD3.out.below (by omega) hb4;obtain⟨r0,r1,r2,r3,r4⟩:=HR3.out.below (by omega) hb4;have HB4:=hid (HB3.out.trans (hb4.mono (by omega)));clear hb4;obtain⟨b3,hbq⟩:∃b3,aG i q.gs=b3:=⟨_,rfl⟩;have HQ3:=hid hbq;rw[hbq];clear hbq
 cases b3
 ·obtain rfl:v=false:=by rw[<- HV.out];unfold dw;rw[HQ1.out,HQ2.out,HQ3.out];rfl
  go_wp2_with (fail);go_ret;exact⟨rfl,HB4.out⟩
 have HC:=hid (pK (F q.gs) i o n s A r cr B f cf T tc q.out G gc q.gs w4 (HT.out.ah HB4.out) (HG.out.ah HB4.out) HGC.out (fun h64 t ht=>(HF.out HQ3.out h64 t ht).mono HB4.out));obtain⟨b4,hbq⟩:∃b4,bH (F q.gs) q.out=b4:=⟨_,rfl⟩;have HQ4:=hid hbq;rw[hbq]at HC;clear hbq;obtain⟨g,hgq⟩:∃g,q.gs.length=g:=⟨_,rfl⟩;have HGE:=hid hgq;rw[hgq]at r2 HC ⊢;clear hgq;obtain⟨x,hxq⟩:∃x,q.eat=x:=⟨_,rfl⟩;have HXE:=hid hxq;rw[hxq]at r3 ⊢;clear hxq;have HE:v=(oP g x && b4):=by rw[<- HV.out];unfold dw;rw[HQ1.out,HQ2.out,HQ3.out,HQ4.out,HGE.out,HXE.out];rfl
 have HEV:=hid HE;clear HE;by_cases g0:g=0
 ·subst g0
  by_cases x0:0<=x
  case neg=>
   obtain rfl:v=false:=by rw[HEV.out];unfold oP;rw[decide_eq_false (by simp;omega)];rfl
   go_wp2_with (fail);go_ret;exact⟨rfl,HB4.out⟩
  by_cases x1:x<=0
  case neg=>
   obtain rfl:v=false:=by rw[HEV.out];unfold oP;rw[decide_eq_false (by simp;omega)];rfl
   go_wp2_with (fail);go_ret;exact⟨rfl,HB4.out⟩
  obtain rfl:v=b4:=by rw[HEV.out];unfold oP;rw[decide_eq_true (by simp;omega)];rfl
  go_wp2_with (fail);refine HC.out.mono ?_;rintro e w5 ⟨rfl,hb5⟩;have HB5:=hid (HB4.out.trans (hb5.mono (by omega)));clear hb5
  cases v
  all_goals
   go_wp2_with (fail);go_ret;exact⟨rfl,HB5.out⟩
 ·have g1:(1:Int)<=(g:Int):=by omega
  have g2 : ¬ (g:Int)<1:=by omega
  by_cases x0:1<=x
  case neg=>
   obtain rfl:v=false:=by rw[HEV.out];unfold oP;rw[decide_eq_false (by simp[g0];omega)];rfl
   go_wp2_with (fail);go_ret;exact⟨rfl,HB4.out⟩
  by_cases x1:x<=g
  case neg=>
   obtain rfl:v=false:=by rw[HEV.out];unfold oP;rw[decide_eq_false (by simp[g0];omega)];rfl
   go_wp2_with (fail);go_ret;exact⟨rfl,HB4.out⟩
  obtain rfl:v=b4:=by rw[HEV.out];unfold oP;rw[decide_eq_true (by simp[g0];omega)];rfl
  go_wp2_with (fail);refine HC.out.mono ?_;rintro e w5 ⟨rfl,hb5⟩;have HB5:=hid (HB4.out.trans (hb5.mono (by omega)));clear hb5
  cases v
  all_goals
   go_wp2_with (fail);go_ret;exact⟨rfl,HB5.out⟩
end Go.Proofs.YtbdmcibcenhpnaaGreatDoor.De
namespace Go.Proofs.YtbdmcibcenhpnaaGreatDoor.De
abbrev Eg:=Nat×Nat
def inw (E:List Eg) (q:Nat):Nat:=E.countP fun e=>decide (e.2=q)
def bT (E:List Eg) (p:Nat):List Nat:=(E.filter fun e=>decide (e.1=p)).map (·.2)
def rmn (E:List Eg) (D:List Nat) (q:Nat):Nat:=E.countP fun e=>decide (e.2=q/\e.1∉D)
def Walk (E:List Eg):Nat->Nat->Prop
 | 0,_=>True
 | k+1,q=>∃e∈E,e.2=q/\Walk E k e.1
theorem Walk.less {E:List Eg} : ∀{k q:Nat},Walk E (k+1) q->Walk E k q
 | 0,_,_=>trivial
 | _+1,_,⟨e,he,h,hw⟩=>⟨e,he,h,hw.less⟩
theorem Walk.D2 {E:List Eg} {k q:Nat} : ∀{d:Nat},Walk E (k+d) q->Walk E k q
 | 0,h=>h
 | d+1,h=>Walk.D2 (d:=d) (Walk.less h)
theorem zJ (E:List Eg) (q:Nat):rmn E [] q=inw E q:=by unfold rmn inw;congr 1;funext e;simp
theorem oC {E:List Eg} {D:List Nat} {p:Nat} (hp:p∉D) (q:Nat):rmn E (D++[p]) q+(bT E p).count q=rmn E D q:=by
 unfold rmn bT;simp only[List.mem_append,List.mem_singleton]
 induction E with
 | nil=>rfl
 | cons e E ih=>
  simp only[List.countP_cons,List.filter_cons];by_cases h1:e.1=p
  ·simp only[h1,decide_true,if_true,List.map_cons,List.count_cons,or_true,not_true_eq_false,and_false,decide_false,hp,not_false_eq_true,and_true,Bool.false_eq_true,if_false,beq_iff_eq]
   by_cases h2:e.2=q
   ·simp only[h2,if_true,decide_true];omega
   ·simp only[h2,if_false,decide_false,Bool.false_eq_true];omega
  ·simp only[h1,decide_false,Bool.false_eq_true,if_false,or_false]
   omega
theorem Gs {E:List Eg} {D:List Nat} {q:Nat} (h:0<rmn E D q):∃e∈E,e.2=q/\e.1∉D:=by
 unfold rmn at h;obtain⟨e,he,h2⟩:=List.countP_pos_iff.1 h;exact⟨e,he,by simpa using h2⟩
theorem um {E:List Eg} {D:List Nat} {q:Nat} (h:rmn E D q=0) {e:Eg} (he:e∈E) (hq:e.2=q):e.1∈D:=by
 unfold rmn at h;have:=List.countP_eq_zero.1 h e he;simp only[hq,decide_eq_true_eq,true_and,Classical.not_not]at this;exact this
theorem GD {E:List Eg} {p q:Nat} (h:q∈bT E p):(p,q)∈E:=by
 unfold bT at h;obtain⟨e,he,rfl⟩:=List.mem_map.1 h;obtain⟨h1,h2⟩:=List.mem_filter.1 he;have:e.1=p:=by simpa using h2
 rw[<- this];exact h1
def upd (W:Nat->Nat) (q v:Nat):Nat->Nat:=fun x=>if x=q then v else W x
structure fS (E:List Eg) (N:Nat) (gone:List Nat) (i:Nat) (W:Nat->Nat) (j:Nat):Prop where
 nodup:gone.Nodup
 lt:∀q∈gone,q<N
 mem:∀q,q<N->(q∈gone↔W q=0)
 le:i<=gone.length
 top:∀m (h:m<gone.length),¬ Walk E (m+1) gone[m]
 ways:∀q,q<N->W q+((bT E (gone.getD i 0)).take j).count q=rmn E (gone.take i) q
theorem lP:∀{l m:List Nat},l.Nodup->(∀q∈l,q∈m)->l.length<=m.length
 | [],_,_,_=>Nat.zero_le _
 | x::l,m,hd,hs=>by
  obtain⟨hx,hd⟩:=List.nodup_cons.1 hd;have:=lP (m:=m.erase x) hd fun q hq=>(List.mem_erase_of_ne (fun e:q=x=>hx (e ▸ hq))).2 (hs q (List.mem_cons_of_mem _ hq))
  rw[List.length_erase_of_mem (hs x List.mem_cons_self)]at this;have:=List.length_pos_of_mem (hs x List.mem_cons_self);simp only[List.length_cons];omega
theorem qA {N:Nat} {l:List Nat} (h:l.Nodup) (hl:∀q∈l,q<N):l.length<=N:=by
 have:=lP (m:=List.range N) h fun q hq=>List.mem_range.2 (hl q hq)
 simpa using this
theorem fS.start {E:List Eg} {N:Nat} : fS E N ((List.range N).filter fun q=>decide (inw E q=0)) 0 (inw E) 0 where
 nodup:=List.Pairwise.sublist List.filter_sublist List.nodup_range
 lt:=fun q hq=>List.mem_range.1 (List.mem_filter.1 hq).1
 mem:=fun q hq=>by simp[List.mem_filter,hq]
 le:=Nat.zero_le _
 top:=fun m h hw=>by
  have hm:=List.getElem_mem h;obtain⟨q,hq⟩:∃q,((List.range N).filter fun q=>decide (inw E q=0))[m]=q:=⟨_,rfl⟩;rw[hq]at hm hw;have h0:inw E q=0:=by simpa using(List.mem_filter.1 hm).2
  obtain⟨e,he,h2,_⟩:=hw;rw[<- zJ]at h0;exact absurd (um h0 he h2) (by simp)
 ways:=fun q _=>by simp[zJ]
theorem fS.pos {E:List Eg} {N i j:Nat} {gone:List Nat} {W:Nat->Nat} (h:fS E N gone i W j) (hE:∀e∈E,e.2<N) (hi:i<gone.length) (hj:j<(bT E gone[i]).length):(bT E gone[i])[j]<N/\0<W (bT E gone[i])[j]:=by
 have hlt:(bT E gone[i])[j]<N:=hE _ (GD (List.getElem_mem hj));refine⟨hlt,?_⟩;have hw:=h.ways _ hlt;rw[List.getD_eq_getElem?_getD,List.getElem?_eq_getElem hi,Option.getD_some]at hw;have hp:gone[i]∉gone.take i:=fun hm=>by
  obtain⟨x,hx,e⟩:=List.getElem_of_mem hm;rw[List.getElem_take]at e;have hx':x<i:=by simp at hx;omega
  exact absurd ((List.getElem_inj h.nodup).1 e) (by omega)
 have hs:=oC (E:=E) hp (bT E gone[i])[j];have hc:((bT E gone[i]).take (j+1)).count (bT E gone[i])[j]<=(bT E gone[i]).count (bT E gone[i])[j]:=(List.take_sublist _ _).count_le _;rw[List.take_succ_eq_append_getElem hj,List.count_append,List.count_singleton_self]at hc;omega
theorem fS.dec {E:List Eg} {N i j:Nat} {gone:List Nat} {W:Nat->Nat} (h:fS E N gone i W j) (hE:∀e∈E,e.2<N) (hi:i<gone.length) (hj:j<(bT E gone[i]).length) (h2:W (bT E gone[i])[j]-1≠0) :
  fS E N gone i (upd W (bT E gone[i])[j] (W (bT E gone[i])[j]-1)) (j+1):=by
 obtain⟨hlt,hpos⟩:=h.pos hE hi hj;refine⟨h.nodup,h.lt,fun q hq=>?_,h.le,h.top,fun q hq=>?_⟩
 ·unfold upd
  by_cases e:q=(bT E gone[i])[j]
  ·rw[if_pos e,h.mem q hq,e];omega
  ·rw[if_neg e];exact h.mem q hq
 ·have hw:=h.ways q hq
  rw[List.getD_eq_getElem?_getD,List.getElem?_eq_getElem hi,Option.getD_some]at hw ⊢;rw[List.take_succ_eq_append_getElem hj,List.count_append];unfold upd;by_cases e:q=(bT E gone[i])[j]
  ·rw[if_pos e,e,List.count_singleton_self]
   rw[e]at hw;omega
  ·rw[if_neg e,List.count_singleton,if_neg (by simp;exact fun k=>e k.symm)]
   exact hw
theorem fS.add {E:List Eg} {N i j:Nat} {gone:List Nat} {W:Nat->Nat} (h:fS E N gone i W j) (hE:∀e∈E,e.2<N) (hi:i<gone.length) (hj:j<(bT E gone[i]).length) (h2:W (bT E gone[i])[j]-1=0) :
  fS E N (gone++[(bT E gone[i])[j]]) i (upd W (bT E gone[i])[j] 0) (j+1):=by
 obtain⟨hlt,hpos⟩:=h.pos hE hi hj;have hn:(bT E gone[i])[j]∉gone:=fun k=>by have:=(h.mem _ hlt).1 k;omega
 have hgi:(gone++[(bT E gone[i])[j]]).getD i 0=gone[i]:=by
  rw[List.getD_eq_getElem?_getD,List.getElem?_append_left hi,List.getElem?_eq_getElem hi,Option.getD_some]
 have JD:∀q,q<N->upd W (bT E gone[i])[j] 0 q+((bT E gone[i]).take (j+1)).count q=rmn E (gone.take i) q:=fun q hq=>by
  have hw:=h.ways q hq;rw[List.getD_eq_getElem?_getD,List.getElem?_eq_getElem hi,Option.getD_some]at hw;rw[List.take_succ_eq_append_getElem hj,List.count_append];unfold upd;by_cases e:q=(bT E gone[i])[j]
  ·rw[if_pos e,e,List.count_singleton_self]
   rw[e]at hw;omega
  ·rw[if_neg e,List.count_singleton,if_neg (by simp;exact fun k=>e k.symm)]
   exact hw
 refine⟨?_,fun q hq=>?_,fun q hq=>?_,by simp;omega,fun m hm hw=>?_,fun q hq=>?_⟩
 ·rw[List.nodup_append]
  exact⟨h.nodup,by simp,fun a ha b hb=>by rw[List.mem_singleton]at hb;rintro rfl;exact hn (hb ▸ ha)⟩
 ·rcases List.mem_append.1 hq with hq | hq
  ·exact h.lt q hq
  ·rw[List.mem_singleton]at hq;rw[hq];exact hlt
 ·unfold upd
  rw[List.mem_append,List.mem_singleton];by_cases e:q=(bT E gone[i])[j]
  ·rw[if_pos e];exact⟨fun _=>rfl,fun _=>.inr e⟩
  ·rw[if_neg e,<- h.mem q hq];exact⟨fun k=>k.resolve_right e,.inl⟩
 ·by_cases hm2:m<gone.length
  ·rw[List.getElem_append_left hm2]at hw
   exact h.top m hm2 hw
  ·have hml:m=gone.length:=by simp at hm;omega
   subst hml;rw[List.getElem_append_right (Nat.le_refl _)]at hw;simp only[Nat.sub_self,List.getElem_singleton]at hw;obtain⟨e,he,h3,hw⟩:=hw;have hz:=JD _ hlt;have hp:gone[i]∉gone.take i:=fun hm=>by
    obtain⟨x,hx,e⟩:=List.getElem_of_mem hm;rw[List.getElem_take]at e;have hx':x<i:=by simp at hx;omega
    exact absurd ((List.getElem_inj h.nodup).1 e) (by omega)
   have hs:=oC (E:=E) hp (bT E gone[i])[j];have hc:((bT E gone[i]).take (j+1)).count (bT E gone[i])[j]<=(bT E gone[i]).count (bT E gone[i])[j]:=(List.take_sublist _ _).count_le _;have hu:upd W (bT E gone[i])[j] 0 (bT E gone[i])[j]=0:=if_pos rfl;have hzero:rmn E (gone.take i++[gone[i]]) (bT E gone[i])[j]=0:=by omega
   have hmem:=um hzero he h3;rw[<- List.take_succ_eq_append_getElem hi]at hmem;obtain⟨x,hx,e2⟩:=List.getElem_of_mem hmem;rw[List.getElem_take]at e2;have hx':x<gone.length:=by simp at hx;omega
   rw[<- e2]at hw;obtain⟨d,hd⟩:∃d,gone.length=x+1+d:=⟨gone.length-(x+1),by omega⟩;have hxt:=h.top x hx';obtain⟨q,hq⟩:∃q,gone[x]=q:=⟨_,rfl⟩;rw[hq]at hw hxt;rw[hd]at hw;exact hxt hw.D2
 ·rw[hgi,List.take_append_of_le_length (by omega)]
  exact JD q hq
theorem fS.next {E:List Eg} {N i:Nat} {gone:List Nat} {W:Nat->Nat} (hi:i<gone.length) (h:fS E N gone i W (bT E gone[i]).length):fS E N gone (i+1) W 0:=by
 refine⟨h.nodup,h.lt,h.mem,hi,h.top,fun q hq=>?_⟩;have hw:=h.ways q hq;rw[List.getD_eq_getElem?_getD,List.getElem?_eq_getElem hi,Option.getD_some,List.take_length]at hw;have hp:gone[i]∉gone.take i:=fun hm=>by
  obtain⟨x,hx,e⟩:=List.getElem_of_mem hm;rw[List.getElem_take]at e;have hx':x<i:=by simp at hx;omega
  exact absurd ((List.getElem_inj h.nodup).1 e) (by omega)
 have hs:=oC (E:=E) hp q;rw[List.take_succ_eq_append_getElem hi];simp only[List.take_zero,List.count_nil];omega
theorem fS.few {E:List Eg} {N i j:Nat} {gone:List Nat} {W:Nat->Nat} (h:fS E N gone i W j):gone.length<=N:=qA h.nodup h.lt
noncomputable def jo (E:List Eg) (N:Nat):Bool:=@decide (∃q,Walk E (N+1) q) (Classical.propDecidable _)
theorem fS.done {E:List Eg} {N i:Nat} {gone:List Nat} {W:Nat->Nat} (h:fS E N gone i W 0) (hE:∀e∈E,e.1<N/\e.2<N) (hi:gone.length<=i):jo E N=decide (gone.length<N):=by
 have hw:∀q,q<N->W q=rmn E gone q:=fun q hq=>by
  have:=h.ways q hq;rw[List.take_of_length_le hi]at this;simpa using this
 by_cases hc:gone.length<N
 ·rw[decide_eq_true hc]
  have hex:∃q,q<N/\q∉gone:=by
   apply Classical.byContradiction;intro hno;have hsub:∀q∈List.range N,q∈gone:=fun q hq=>Classical.byContradiction fun k=>hno ⟨q,List.mem_range.1 hq,k⟩
   have:=lP List.nodup_range hsub;simp at this;omega
  obtain⟨q,hq,hqg⟩:=hex;have key:∀k q,q<N->q∉gone->Walk E k q:=fun k=>by
   induction k with
   | zero=>intro q _ _;trivial
   | succ k ih=>
    intro q hq hqg;have:W q≠0:=fun k=>hqg ((h.mem q hq).2 k)
    rw[hw q hq]at this;obtain⟨e,he,h2,h3⟩:=Gs (Nat.pos_of_ne_zero this);exact⟨e,he,h2,ih _ (hE e he).1 h3⟩
  exact @decide_eq_true _ (Classical.propDecidable _) ⟨q,key _ q hq hqg⟩
 ·rw[decide_eq_false hc]
  refine @decide_eq_false _ (Classical.propDecidable _) ?_;rintro⟨q,hq⟩;have hqN:q<N:=by
   obtain⟨e,he,h2,_⟩:=hq;rw[<- h2];exact(hE e he).2
  have hmem:q∈gone:=by
   apply Classical.byContradiction;intro hno;have hd:(q::gone).Nodup:=List.nodup_cons.2 ⟨hno,h.nodup⟩;have:=qA (N:=N) hd (fun x hx=>(List.mem_cons.1 hx).elim (fun e:x=q=>e ▸ hqN) (h.lt x));simp at this;omega
  obtain⟨x,hx,rfl⟩:=List.getElem_of_mem hmem;have hxN:x<N:=by have:=h.few;omega
  obtain⟨d,hd⟩:∃d,N+1=x+1+d:=⟨N-x,by omega⟩;rw[hd]at hq;exact h.top x hx hq.D2
end Go.Proofs.YtbdmcibcenhpnaaGreatDoor.De
namespace Go.Proofs.YtbdmcibcenhpnaaGreatDoor.De
set_option maxHeartbeats 64000000
open Go Go.RowKit Sp Pa Te Mi
open Go.Lib (hid)
noncomputable def mK (i n:Int) (F:List (List Span)->TmL->Bool) (f:FiL):Bool:=stB n f.frm && (aG i f.gs && bH (F f.gs) f.out)
noncomputable def rA {α:Type} (P:α->Bool) (l:List α):Option Nat:=l.findIdx? fun x=>!P x
theorem vH {α:Type} {P:α->Bool} {l:List α} {k:Nat} (hk:k<l.length) (h:P l[k]=false) (hb:∀j (hj:j<l.length),j<k->P l[j]=true):rA P l=some k:=
 List.findIdx?_eq_some_iff_getElem.2 ⟨hk,by simp[h],fun j hj=>by simp[hb j (by omega) hj]⟩
theorem je {α:Type} {P:α->Bool} {l:List α} {k:Nat} (hk : ¬ k<l.length) (hb:∀j (hj:j<l.length),j<k->P l[j]=true):rA P l=none:=
 List.findIdx?_eq_none_iff.2 fun x hx=>by
  obtain⟨j,hj,rfl⟩:=List.getElem_of_mem hx;simp[hb j hj (by omega)]
noncomputable def dO (i o n s:Int) (F:List (List Span)->TmL->Bool) (cyc:Bool) (rs:List RuL) (fs:List FiL):Int×Int:=
 if bn i o n s rs.length fs.length=true then
  match rA (dw i n F) rs with
  | some j=>(2,(j:Int))
  | none=>match rA (mK i n F) fs with
   | some j=>(3,(j:Int))
   | none=>if cyc=true then(4,0)else(0,0)
 else(1,0)
def Ck (v:Int×Int) (w:World) (e:Ending) (w':World):Prop:=e = .returned (.tuple #[.int .i64 v.1,.int .i64 v.2])/\Below w.heap.size w w'
def Od {α:Type} (P:α->Bool) (l:List α) (w:World) (x:Nat) (i0 o n s:Int) (A:Option Addr) (r cr:Nat) (B:Option Addr) (f cf:Nat) (v:Value) (wr:World):Prop:=∃k:Nat,k<=l.length/\v = .int .i64 k/\(∀j (hj:j<l.length),j<k->P l[j]=true)/\Below w.heap.size w wr/\x<wr.heap.size/\DB wr x i0 o n s A r cr B f cf
theorem oK {α:Type} {P:α->Bool} {l:List α} {k:Nat} (hlt:k<l.length) (h:P l[k]=true) (hb:∀j (hj:j<l.length),j<k->P l[j]=true):∀j (hj:j<l.length),j<k+1->P l[j]=true:=fun j hj hjk=>by
 rcases Nat.lt_or_ge j k with q | q
 ·exact hb j hj q
 ·obtain rfl:j=k:=by omega
  exact h
theorem yP (F:List (List Span)->TmL->Bool) (cyc:Bool) (i o n s:Int) (A:Option Addr) (cr:Nat) (B:Option Addr) (cf:Nat) (rs:List RuL) (fs:List FiL) (w:World) (hr:RRu w A rs.length rs) (hrl:rs.length<=maxLen) (hf:RFi w B fs.length fs) (hfl:fs.length<=maxLen)
  (hFr:∀q∈rs,aG i q.gs=true->q.out.length<=64->∀t∈q.out,jT (F q.gs) i o q.gs t w)
  (hFf:∀q∈fs,aG i q.gs=true->q.out.length<=64->∀t∈q.out,jT (F q.gs) i o q.gs t w)
  (hC:bn i o n s rs.length fs.length=true->(∀j (hj:j<rs.length),dw i n F rs[j]=true)->∀W,RRu W A rs.length rs->Calls Tryz.prog 45 #[dsc i o n s A rs.length cr B fs.length cf] W (dY cyc W)) :
  Calls Tryz.prog 30 #[dsc i o n s A rs.length cr B fs.length cf] w (Ck (dO i o n s F cyc rs fs) w):=by
 obtain⟨w1,hw1⟩:∃w1,w.alloc (.cells #[.int .i64 i,.int .i64 o,.int .i64 n,.int .i64 s,.slice A rs.length cr,.slice B fs.length cf] 26)=w1:=⟨_,rfl⟩;have hs1:w1.heap.size=w.heap.size+1:=by rw[<- hw1];simp
 have HB1:=hid (show Below w.heap.size w w1 by rw[<- hw1];exact(Below.refl _ _).alloc (Nat.le_refl _) _);have hd1:DB w1 w.heap.size i o n s A rs.length cr B fs.length cf:=by rw[<- hw1];exact DB.boxed
 have HD1:=hid hd1;have HR:=hid hr;have HF:=hid hf;have HFR:=hid hFr;have HFF:=hid hFf;have HC:=hid hC;obtain⟨p0,p1,p2,p3,p4,p5⟩:=hd1;clear hr hf hFr hFf hC;obtain⟨v,hv⟩:∃v,dO i o n s F cyc rs fs=v:=⟨_,rfl⟩;rw[hv];have HV:=hid hv;clear hv;unfold maxLen at hrl hfl;go_enter Tryz.func30,Tryz.ntmps30;go_wp2_with (fail);refine(Es i o n s A rs.length cr B fs.length cf w1).mono ?_;rintro e w2 ⟨rfl,hb2⟩;have hq2:=hb2.size;have HB2:=hid (HB1.out.trans (hb2.mono (by omega)));have hd2:=HD1.out.below (by omega) hb2;have HD2:=hid hd2;obtain⟨p0,p1,p2,p3,p4,p5⟩:=hd2;clear hb2;obtain⟨b1,hbq⟩:∃b1,bn i o n s rs.length fs.length=b1:=⟨_,rfl⟩;have HQ1:=hid hbq;rw[hbq];clear hbq
 cases b1
 ·obtain rfl:v=(1,0):=by rw[<- HV.out];unfold dO;rw[HQ1.out];rfl
  go_wp2_with (fail);go_ret2;exact⟨rfl,HB2.out⟩
 go_wp2_with (fail)
 go_loopw [14] (fun v wr=>Od (dw i n F) rs w w.heap.size i o n s A rs.length cr B fs.length cf v wr) (fun v _=>rs.length-(intOf v).toNat)
 case atStart=>exact⟨0,Nat.zero_le _,rfl,fun j _ h=>absurd h (by omega),HB2.out,by omega,HD2.out⟩
 case round=>
  obtain⟨k,hk,rfl,hok,hb,hx,hd⟩:=hrel;have HB:=hid hb;have HOK:=hid hok;have HD:=hid hd;by_cases hlt:k<rs.length
  case pos=>
   obtain⟨b,off,A',c',A2,c2,hA,hbB,d0,d1,d2,d3,d4,⟨hg,hgc,hgl,hgm⟩,ht,_,_,_⟩:=(HR.out.ah hb).at_ hlt;obtain⟨w5,hw5⟩:∃w5,wr.alloc (.cells #[.int .i64 rs[k].frm,.int .i64 rs[k].to_,.slice A' rs[k].gs.length c',.int .i64 rs[k].eat,.slice A2 rs[k].out.length c2] 43)=w5:=⟨_,rfl⟩;have hb5:Below wr.heap.size wr w5:=by rw[<- hw5];exact(Below.refl _ _).alloc (Nat.le_refl _) _
   have hs5:w5.heap.size=wr.heap.size+1:=by rw[<- hw5];simp
   obtain⟨q0,q1,q2,q3,q4⟩:RB w5 wr.heap.size rs[k].frm rs[k].to_ A' rs[k].gs.length c' rs[k].eat A2 rs[k].out.length c2:=by rw[<- hw5];exact RB.boxed
   have HB5:=hid (hb.trans (hb5.mono hb.size));obtain⟨p0,p1,p2,p3,p4,p5⟩:=hd.below hx hb5;have HD5:=hid (show DB w5 w.heap.size i o n s A rs.length cr B fs.length cf from⟨p0,p1,p2,p3,p4,p5⟩);have HCR:=hid (Dp F i o n s A rs.length cr B fs.length cf A' A2 c' c2 rs[k] w5 (hg.ah hb5) hgc hgl hgm (ht.ah hb5) (fun h1 h2 t ht=>(HFR.out _ (List.getElem_mem hlt) h1 h2 t ht).mono HB5.out));subst hA;clear hb hok hd hg ht hgm hb5;obtain⟨b2,hbq⟩:∃b2,dw i n F rs[k]=b2:=⟨_,rfl⟩;have HQ:=hid hbq;rw[hbq]at HCR;clear hbq;go_wp2_with (fail);refine HCR.out.mono ?_;rintro e w6 ⟨rfl,hb6⟩;have hq6:=hb6.size;have HB6:=hid (HB5.out.trans (hb6.mono (by omega)));have HD6:=hid (HD5.out.below (by omega) hb6);clear hb6
   cases b2
   ·obtain rfl:v=(2,(k:Int)):=by rw[<- HV.out];unfold dO;rw[HQ1.out,vH hlt HQ.out HOK.out];rfl
    go_wp2_with (fail);go_ret2;exact⟨rfl,HB6.out⟩
   have HNX:=hid (oK hlt HQ.out HOK.out);go_wp2_with (fail)
   go_roundw
   case rel=>exact⟨k+1,by omega,by go_num,HNX.out,HB6.out,by omega,HD6.out⟩
   case measure=>simp[intOf];omega
  have HBN:=hid (je hlt hok);have HCY:=hid (HC.out HQ1.out (fun j hj=>hok j hj (by omega)));obtain⟨p0,p1,p2,p3,p4,p5⟩:=hd
  rename World=>w7
  clear hok hb;go_wp2_with (fail)
  go_loopw [28] (fun v wr=>Od (mK i n F) fs w w.heap.size i o n s A rs.length cr B fs.length cf v wr) (fun v _=>fs.length-(intOf v).toNat)
  case atStart=>exact⟨0,Nat.zero_le _,rfl,fun j _ h=>absurd h (by omega),HB.out,hx,HD.out⟩
  case round=>
   obtain⟨m,hm,rfl,hok2,hb8,hx8,hd8⟩:=hrel;have HB8:=hid hb8;have Ku:=hid hok2;have HD8:=hid hd8;by_cases hlt2:m<fs.length
   case neg=>
    have OB:=hid (je hlt2 hok2);have HCC:=hid (HCY.out _ (HR.out.ah hb8));obtain⟨p0,p1,p2,p3,p4,p5⟩:=hd8;clear hok2 hb8;go_wp2_with (fail);refine HCC.out.mono ?_;rintro e w9 ⟨rfl,hb9⟩;have HB9:=hid (HB8.out.trans (hb9.mono HB8.out.size));clear hb9
    cases cyc
    ·obtain rfl:v=(0,0):=by rw[<- HV.out];unfold dO;rw[HQ1.out,HBN.out,OB.out];rfl
     go_wp2_with (fail);go_ret2;exact⟨rfl,HB9.out⟩
    ·obtain rfl:v=(4,0):=by rw[<- HV.out];unfold dO;rw[HQ1.out,HBN.out,OB.out];rfl
     go_wp2_with (fail);go_ret2;exact⟨rfl,HB9.out⟩
   obtain⟨b,off,A',c',A2,c2,hA,hbB,d0,d1,d2,⟨hg,hgc,hgl,hgm⟩,ht,_,_⟩:=(HF.out.ah hb8).at_ hlt2;obtain⟨w5,hw5⟩:∃w5,wr.alloc (.cells #[.int .i64 fs[m].frm,.slice A' fs[m].gs.length c',.slice A2 fs[m].out.length c2] 45)=w5:=⟨_,rfl⟩;have hb5:Below wr.heap.size wr w5:=by rw[<- hw5];exact(Below.refl _ _).alloc (Nat.le_refl _) _
   have hs5:w5.heap.size=wr.heap.size+1:=by rw[<- hw5];simp
   have q0:w5.cell? ⟨wr.heap.size,0,none⟩=some (.int .i64 fs[m].frm):=by rw[<- hw5];simp
   have q1:w5.cell? ⟨wr.heap.size,1,none⟩=some (.slice A' fs[m].gs.length c'):=by rw[<- hw5];simp
   have q2:w5.cell? ⟨wr.heap.size,2,none⟩=some (.slice A2 fs[m].out.length c2):=by rw[<- hw5];simp
   have HB5:=hid (hb8.trans (hb5.mono hb8.size));obtain⟨p0,p1,p2,p3,p4,p5⟩:=hd8.below hx8 hb5;have HD5:=hid (show DB w5 w.heap.size i o n s A rs.length cr B fs.length cf from⟨p0,p1,p2,p3,p4,p5⟩);have HG:=hid (hg.ah hb5);have HT:=hid (ht.ah hb5);have HGM:=hid hgm;have HGC:=hid hgc;have HGL:=hid hgl;have HFK:=hid (HFF.out _ (List.getElem_mem hlt2));subst hA;clear hb8 hok2 hd8 hg ht hgm hb5 hgc hgl;obtain⟨q,hqq⟩:∃q,fs[m]=q:=⟨_,rfl⟩;have HQQ:=hid hqq;rw[hqq]at d0 d1 d2 q0 q1 q2 hw5 HG HT HGM HGC HGL HFK;clear hqq;have HVF:=hid (fun(h:mK i n F q=false)=>show v=(3,(m:Int))by rw[<- HV.out];unfold dO;rw[HQ1.out,HBN.out,vH hlt2 (by rw[HQQ.out];exact h) Ku.out];rfl);go_wp2_with (fail);refine(iM i o n s _ _ _ _ _ _ q.frm w5).mono ?_;rintro e w6 ⟨rfl,hb6⟩;have hq6:=hb6.size;have HB6:=hid (HB5.out.trans (hb6.mono (by omega)));have hd6:=HD5.out.below (by omega) hb6;have HD6:=hid hd6;obtain⟨p0,p1,p2,p3,p4,p5⟩:=hd6;have q0':=(hb6.cell (p:=⟨wr.heap.size,0,none⟩) (by show wr.heap.size<_;omega)).trans q0;have q1':=(hb6.cell (p:=⟨wr.heap.size,1,none⟩) (by show wr.heap.size<_;omega)).trans q1;have q2':=(hb6.cell (p:=⟨wr.heap.size,2,none⟩) (by show wr.heap.size<_;omega)).trans q2;have HG6:=hid (HG.out.ah hb6);have HT6:=hid (HT.out.ah hb6);clear hb6;obtain⟨b2,hbq⟩:∃b2,stB n q.frm=b2:=⟨_,rfl⟩;have HQ2:=hid hbq;rw[hbq];clear hbq
   cases b2
   ·obtain rfl:v=(3,(m:Int)):=HVF.out (by unfold mK;rw[HQ2.out];rfl)
    go_wp2_with (fail);go_ret2;exact⟨rfl,HB6.out⟩
   go_wp2_with (fail);refine(nQ i o n s _ _ _ _ _ _ A' c' q.gs w6 HG6.out HGL.out HGM.out).mono ?_;rintro e w8 ⟨rfl,hb8⟩;have hq8:=hb8.size;have M8:=hid (HB6.out.trans (hb8.mono (by omega)));have hd8:=HD6.out.below (by omega) hb8;have Qb:=hid hd8;obtain⟨p0,p1,p2,p3,p4,p5⟩:=hd8;have Qn:=(hb8.cell (p:=⟨wr.heap.size,0,none⟩) (by show wr.heap.size<_;omega)).trans q0';have Qm:=(hb8.cell (p:=⟨wr.heap.size,1,none⟩) (by show wr.heap.size<_;omega)).trans q1';have Ql:=(hb8.cell (p:=⟨wr.heap.size,2,none⟩) (by show wr.heap.size<_;omega)).trans q2';have HG8:=hid (HG6.out.ah hb8);have HT8:=hid (HT6.out.ah hb8);clear hb8;obtain⟨b3,hbq⟩:∃b3,aG i q.gs=b3:=⟨_,rfl⟩;have HQ3:=hid hbq;rw[hbq];clear hbq
   cases b3
   ·obtain rfl:v=(3,(m:Int)):=HVF.out (by unfold mK;rw[HQ2.out,HQ3.out];rfl)
    go_wp2_with (fail);go_ret2;exact⟨rfl,M8.out⟩
   have HCT:=hid (pK (F q.gs) i o n s A rs.length cr (some ⟨b,off,none⟩) fs.length cf A2 c2 q.out A' c' q.gs w8 HT8.out HG8.out HGC.out (fun h64 t ht=>(HFK.out HQ3.out h64 t ht).mono M8.out));go_wp2_with (fail);refine HCT.out.mono ?_;rintro e w9 ⟨rfl,hb9⟩;have hq9:=hb9.size;have HB9:=hid (M8.out.trans (hb9.mono (by omega)));have HD9:=hid (Qb.out.below (by omega) hb9);clear hb9;obtain⟨b4,hbq⟩:∃b4,bH (F q.gs) q.out=b4:=⟨_,rfl⟩;have HQ4:=hid hbq;rw[hbq];clear hbq
   cases b4
   ·obtain rfl:v=(3,(m:Int)):=HVF.out (by unfold mK;rw[HQ2.out,HQ3.out,HQ4.out];rfl)
    go_wp2_with (fail);go_ret2;exact⟨rfl,HB9.out⟩
   have HNX:=hid (oK hlt2 (show mK i n F fs[m]=true by rw[HQQ.out];unfold mK;rw[HQ2.out,HQ3.out,HQ4.out];rfl) Ku.out);go_wp2_with (fail)
   go_roundw
   case rel=>exact⟨m+1,by omega,by go_num,HNX.out,HB9.out,by omega,HD9.out⟩
   case measure=>simp[intOf];omega
end Go.Proofs.YtbdmcibcenhpnaaGreatDoor.De
namespace Go.Proofs.YtbdmcibcenhpnaaGreatDoor.De
set_option maxHeartbeats 64000000
open Go Go.RowKit Sp Pa Te Mi
theorem x5 (v:Int×Int) (i o n s:Int) (A:Option Addr) (r cr:Nat) (B:Option Addr) (f cf:Nat) (w:World) (hW:∀W,Below w.heap.size w W->Calls Tryz.prog 30 #[dsc i o n s A r cr B f cf] W (Ck v W)) :
  Calls Tryz.prog 15 #[dsc i o n s A r cr B f cf] w (Kj (if v.1=0 then 0 else 2) w):=by
 obtain⟨w1,hw1⟩:∃w1,w.alloc (.cells #[.int .i64 i,.int .i64 o,.int .i64 n,.int .i64 s,.slice A r cr,.slice B f cf] 26)=w1:=⟨_,rfl⟩;have hb1:Below w.heap.size w w1:=by rw[<- hw1];exact(Below.refl _ _).alloc (Nat.le_refl _) _
 have hd1:DB w1 w.heap.size i o n s A r cr B f cf:=by rw[<- hw1];exact DB.boxed
 have HW:=Lib.hid (hW w1 hb1);have HB:=Lib.hid hb1;obtain⟨p0,p1,p2,p3,p4,p5⟩:=hd1;obtain⟨k,at_⟩:=v;clear hW hb1;by_cases hk:k=0
 ·subst hk
  go_enter Tryz.func15,Tryz.ntmps15;go_wp2_with (fail);refine HW.out.mono ?_;rintro e w2 ⟨rfl,hb2⟩;have HB2:=Lib.hid (HB.out.trans (hb2.mono HB.out.size));clear hb2;go_wp2_with (fail);go_ret;exact⟨rfl,HB2.out⟩
 ·have hk1:(k == 0)=false:=by simpa using hk
  go_enter Tryz.func15,Tryz.ntmps15;go_wp2_with (fail);refine HW.out.mono ?_;rintro e w2 ⟨rfl,hb2⟩;have HB2:=Lib.hid (HB.out.trans (hb2.mono HB.out.size));clear hb2;go_wp2_with (fail);go_ret;exact⟨rfl,HB2.out⟩
end Go.Proofs.YtbdmcibcenhpnaaGreatDoor.De
namespace Go.Proofs.YtbdmcibcenhpnaaGreatDoor.De
noncomputable def dp (E:List Eg) (N q:Nat):Nat:=(List.range (N+1)).countP fun k=>@decide (Walk E k q) (Classical.propDecidable _)
theorem qZ {p q:Nat->Bool} : ∀{l:List Nat},(∀x∈l,p x=true->q x=true)->l.countP p<=l.countP q:=by
 intro l
 induction l with
 | nil=>intro _;exact Nat.le_refl _
 | cons a l ih=>
  intro h;have h1:=ih fun x hx=>h x (by simp[hx])
  have h2:=h a (by simp);rw[List.countP_cons,List.countP_cons]
  split <;> split <;> first | omega | (rename_i z1 z2;exact absurd (h2 z1) z2)
theorem Mf {E:List Eg} {N x t:Nat} (hc:jo E N=false) (h:(x,t)∈E):dp E N x<dp E N t:=by
 have hno:∀q,¬ Walk E (N+1) q:=fun q hq=>by
  unfold jo at hc;simp only[decide_eq_false_iff_not]at hc;exact hc ⟨q,hq⟩
 have hup:∀k,Walk E k x->Walk E (k+1) t:=fun k hk=>⟨(x,t),h,rfl,hk⟩
 have hN : ¬ Walk E N x:=fun q=>hno t (hup N q)
 unfold dp
 conv=>lhs;rw[List.range_succ,List.countP_append]
 conv=>rhs;rw[List.range_succ_eq_map,List.countP_cons]
 have e1:[N].countP (fun k=>@decide (Walk E k x) (Classical.propDecidable _))=0:=by simp[hN]
 have e2:(@decide (Walk E 0 t) (Classical.propDecidable _))=true:=@decide_eq_true _ (Classical.propDecidable _) (show Walk E 0 t from trivial);rw[e1,if_pos e2,List.countP_map];have:=qZ (p:=fun k=>@decide (Walk E k x) (Classical.propDecidable _)) (q:=(fun k=>@decide (Walk E k t) (Classical.propDecidable _)) ∘ Nat.succ) (l:=List.range N) (fun k _ hk=>by
  simp only[decide_eq_true_eq,Function.comp_apply]at hk ⊢;exact hup k hk)
 omega
theorem Mg (E:List Eg) (N q:Nat):dp E N q<=N+1:=by
 unfold dp;have:=List.countP_le_length (p:=fun k=>@decide (Walk E k q) (Classical.propDecidable _)) (l:=List.range (N+1));rw[List.length_range]at this;exact this
noncomputable def rkE (E:List Eg) (N q:Nat):Nat:=N+1-dp E N q
theorem j9 {E:List Eg} {N x t:Nat} (hc:jo E N=false) (h:(x,t)∈E):rkE E N t<rkE E N x:=by
 unfold rkE;have h1:=Mf hc h;have h2:=Mg E N t;omega
end Go.Proofs.YtbdmcibcenhpnaaGreatDoor.De
namespace Go.Proofs.YtbdmcibcenhpnaaGreatDoor.Rg
set_option maxHeartbeats 64000000
open Go Go.RowKit Sp Pa Te Mi De
open Go.Lib (hid)
def SzN (n:Nat) (b0:Int) (w:World) (v i:Value) (wr:World):Prop:=∃(k:Nat) (z:Int),k<=n/\i = .int .i64 k/\v = .int .i64 z/\0<=z/\z<=b0+4001*k/\wr=w
def Ic (m:Nat) (w:World) (e:Ending) (w':World):Prop:=∃z:Int,e = .returned (.int .i64 z)/\0<=z/\z<=2000000/\(200<m->z=4000)/\w'=w
theorem p7 (G T:Option Addr) (gc tc:Nat) (gs:List (List Span)) (ts:List TmL) (w:World) (hg:RGs w G gs.length gs) (ht:RTm w T ts.length ts) :
  Calls Tryz.prog 14 #[.slice G gs.length gc,.slice T ts.length tc] w (Ic ts.length w):=by
 have HG:=hid hg;have HT:=hid ht;clear hg ht;by_cases k1:gs.length<=100
 case neg=>
  have d1:decide ((100:Int)<(gs.length:Int))=true:=decide_eq_true (by omega);go_enter Tryz.func14,Tryz.ntmps14;go_wp2_with (fail);go_ret;exact⟨4000,rfl,by omega,by omega,fun _=>rfl,rfl⟩
 have d1:decide ((100:Int)<(gs.length:Int))=false:=decide_eq_false (by omega);by_cases k2:ts.length<=200
 case neg=>
  have d2:decide ((200:Int)<(ts.length:Int))=true:=decide_eq_true (by omega);go_enter Tryz.func14,Tryz.ntmps14;go_wp2_with (fail);go_ret;exact⟨4000,rfl,by omega,by omega,fun _=>rfl,rfl⟩
 have d2:decide ((200:Int)<(ts.length:Int))=false:=decide_eq_false (by omega);go_enter Tryz.func14,Tryz.ntmps14;go_wp2_with (fail)
 go_loopw [5,6] (fun v i wr=>SzN gs.length 1 w v i wr) (fun _ i _=>gs.length-(intOf i).toNat)
 case atStart=>exact⟨0,1,Nat.zero_le _,rfl,rfl,by omega,by omega,rfl⟩
 case round=>
  obtain⟨k,z,hk,rfl,rfl,hz0,hz1,rfl⟩:=hrel;have s1:IntKind.i64.wrap ((k:Int)+1)=(k:Int)+1:=IntWalk.i64_in _ (by omega);have i1:(0:Int)<=(k:Int):=Int.natCast_nonneg _;by_cases hlt:k<gs.length
  ·obtain⟨b,off,Aj,cj,hA,hbB,hcj,_,_,_⟩:=HG.out.at_ hlt
   obtain⟨gl,hgl⟩:∃gl,gs[k].length=gl:=⟨_,rfl⟩;rw[hgl]at hcj;have i2:(k:Int)<(gs.length:Int):=by omega
   subst hA;clear hgl;go_wp2_with (fail)
   go_roundw
   case rel=>exact⟨k+1,z+min (gl:Int) 4000,hlt,by go_num,by first | rfl | rw[IntWalk.wrap64_in _ (by omega)],by omega,by omega,rfl⟩
   case measure=>simp[intOf];omega
  ·rename World=>w9
   go_wp2_with (fail)
   go_loopw [5,7] (fun v i wr=>SzN ts.length 400101 w9 v i wr) (fun _ i _=>ts.length-(intOf i).toNat)
   case atStart=>exact⟨0,z,Nat.zero_le _,rfl,rfl,hz0,by omega,rfl⟩
   case round=>
    obtain⟨m,y,hm,rfl,rfl,hy0,hy1,rfl⟩:=hrel;have s2:IntKind.i64.wrap ((m:Int)+1)=(m:Int)+1:=IntWalk.i64_in _ (by omega);have j1:(0:Int)<=(m:Int):=Int.natCast_nonneg _;by_cases hlt2:m<ts.length
    ·obtain⟨b,off,hA,hbB,_,_,_,_,_,A',c',d5,_,_,_⟩:=HT.out.at_ hlt2
     obtain⟨gl,hgl⟩:∃gl,ts[m].ps.length=gl:=⟨_,rfl⟩;rw[hgl]at d5;have j2:(m:Int)<(ts.length:Int):=by omega
     subst hA;clear hgl;go_wp2_with (fail)
     go_roundw
     case rel=>exact⟨m+1,y+1+min (gl:Int) 4000,hlt2,by go_num,by first | rfl | rw[IntWalk.wrap64_in (y+1) (by omega),IntWalk.wrap64_in _ (by omega)],by omega,by omega,rfl⟩
     case measure=>simp[intOf];omega
    ·go_wp2_with (fail)
     go_ret;exact⟨_,rfl,hy0,by omega,fun q=>by omega,rfl⟩
def SmR (n:Nat) (P:Nat->Int->Prop) (b0:Int) (w:World) (v i:Value) (wr:World):Prop:=∃(k:Nat) (z:Int),k<=n/\i = .int .i64 k/\v = .int .i64 z/\0<=z/\z<=b0+2000000*k/\P k z/\Below w.heap.size w wr
def Kn (rs:List RuL) (k:Nat) (z:Int):Prop:=∀j (hj:j<rs.length),j<k->200<rs[j].out.length->4000<=z
def EY (rs:List RuL) (fs:List FiL) (w:World) (e:Ending) (w':World):Prop:=∃b:Bool,e = .returned (.bool b)/\(b=true->rs.length<=80/\fs.length<=80/\∀q∈rs,q.out.length<=200)/\Below w.heap.size w w'
theorem dM (i o n s:Int) (A:Option Addr) (cr:Nat) (B:Option Addr) (cf:Nat) (rs:List RuL) (fs:List FiL) (w:World) (hr:RRu w A rs.length rs) (hf:RFi w B fs.length fs) :
  Calls Tryz.prog 6 #[dsc i o n s A rs.length cr B fs.length cf] w (EY rs fs w):=by
 obtain⟨w1,hw1⟩:∃w1,w.alloc (.cells #[.int .i64 i,.int .i64 o,.int .i64 n,.int .i64 s,.slice A rs.length cr,.slice B fs.length cf] 26)=w1:=⟨_,rfl⟩;have hs1:w1.heap.size=w.heap.size+1:=by rw[<- hw1];simp
 have hb1:Below w.heap.size w w1:=by rw[<- hw1];exact(Below.refl _ _).alloc (Nat.le_refl _) _
 have hd1:DB w1 w.heap.size i o n s A rs.length cr B fs.length cf:=by rw[<- hw1];exact DB.boxed
 have HD1:=hid hd1;have HB1:=hid hb1;have HR:=hid (hr.ah hb1);have HF:=hid (hf.ah hb1);obtain⟨p0,p1,p2,p3,p4,p5⟩:=hd1;clear hr hf hb1;by_cases k1:rs.length<=80
 case neg=>
  have d1:decide ((80:Int)<(rs.length:Int))=true:=decide_eq_true (by omega);go_enter Tryz.func6,Tryz.ntmps6;go_wp2_with (fail);go_ret;exact⟨false,rfl,fun e=>(by cases e),HB1.out⟩
 have d1:decide ((80:Int)<(rs.length:Int))=false:=decide_eq_false (by omega);by_cases k2:fs.length<=80
 case neg=>
  have d2:decide ((80:Int)<(fs.length:Int))=true:=decide_eq_true (by omega);go_enter Tryz.func6,Tryz.ntmps6;go_wp2_with (fail);go_ret;exact⟨false,rfl,fun e=>(by cases e),HB1.out⟩
 have d2:decide ((80:Int)<(fs.length:Int))=false:=decide_eq_false (by omega);have HK:=hid (And.intro k1 k2);go_enter Tryz.func6,Tryz.ntmps6;go_wp2_with (fail)
 go_loopw [3,4] (fun v i wr=>SmR rs.length (Kn rs) 0 w1 v i wr) (fun _ i _=>rs.length-(intOf i).toNat)
 case atStart=>exact⟨0,0,Nat.zero_le _,rfl,rfl,by omega,by omega,fun j _ h=>absurd h (by omega),Below.refl _ _⟩
 case round=>
  obtain⟨k,z,hk,rfl,rfl,hz0,hz1,hlp,hb⟩:=hrel;have HLP:=hid hlp;clear hlp;have HB:=hid hb;have hwr:=hb.size;obtain⟨p0,p1,p2,p3,p4,p5⟩:=HD1.out.below (by omega) hb;have s1:IntKind.i64.wrap ((k:Int)+1)=(k:Int)+1:=IntWalk.i64_in _ (by omega);have i1:(0:Int)<=(k:Int):=Int.natCast_nonneg _;by_cases hlt:k<rs.length
  ·obtain⟨b,off,A',c',A2,c2,hA,hbB,_,_,e2,_,e4,⟨hg,_,_,_⟩,ht,_,_,_⟩:=(HR.out.ah hb).at_ hlt
   obtain⟨q,hq⟩:∃q,rs[k]=q:=⟨_,rfl⟩;rw[hq]at e2 e4 hg ht;have HSZ:=hid (fun W (hW:Below wr.heap.size wr W)=>p7 A' A2 c' c2 q.gs q.out W (hg.ah hW) (ht.ah hW));have i2:(k:Int)<(rs.length:Int):=by omega
   have hx:w.heap.size<wr.heap.size:=by omega
   have HLQ:=hid hq;have HNX:=hid (fun y (y0:0<=y) (y1:y<=2000000) (y2:200<q.out.length->y=4000) (W:World) (hW:Below wr.heap.size wr W)=>show SmR rs.length (Kn rs) 0 w1 (.int .i64 (IntKind.i64.wrap (z+y))) (.int .i64 ((k:Int)+1)) W from⟨k+1,z+y,hlt,rfl,by rw[IntWalk.i64_in _ (by omega)],by omega,by omega,fun j hj hjk h200=>by
    by_cases e:j=k
    ·subst e;rw[HLQ.out]at h200;have:=y2 h200;omega
    ·have:=HLP.out j hj (by omega) h200;omega,HB.out.trans (hW.mono hwr)⟩)
   obtain⟨rl,hrl⟩:∃rl,rs.length=rl:=⟨_,rfl⟩;subst hA;clear hb hg ht hq hrl rl;go_wp2_with (fail)
   go_region_held3 (fun w'=>w'.cell? ⟨w.heap.size,4,none⟩=some (.slice (some ⟨b,off,none⟩) rs.length cr)/\w'.cell? ⟨b,off+k*5+2,none⟩=some (.slice A' q.gs.length c')/\w'.cell? ⟨b,off+k*5+4,none⟩=some (.slice A2 q.out.length c2))
    (first
     | go_keep
     | (subst hw6;go_keep)
     | (go_split_ands;refine⟨?_,?_,?_⟩ <;> assumption))
    (first
     | (go_at_call 14;refine(HSZ.out _ (Below.refl _ wr).drew).mono ?_;rintro e w6 ⟨y,rfl,y0,y1,y2,hw6⟩;subst hw6))
   have HN:=hid (HNX.out y y0 y1 y2 _ (Below.refl wr.heap.size wr).drew);go_wp2_with (fail)
   go_roundw
   case rel=>exact HN.out
   case measure=>simp[intOf];omega
  ·have HBA:=hid hb
   rename World=>wa
   have HL1:=hid (show∀q∈rs,200<q.out.length->4000<=z from fun q hq h=>by
    obtain⟨j,hj,rfl⟩:=List.getElem_of_mem hq;exact HLP.out j hj (by omega) h)
   have HST2:=hid (show SmR fs.length (fun _ y=>z<=y) 160000000 wa (.int .i64 z) (.int .i64 (0:Nat)) wa from⟨0,z,Nat.zero_le _,rfl,rfl,hz0,by omega,Int.le_refl _,Below.refl _ _⟩);clear hb;go_wp2_with (fail)
   go_loopw [3,5] (fun v i wr=>SmR fs.length (fun _ y=>z<=y) 160000000 wa v i wr) (fun _ i _=>fs.length-(intOf i).toNat)
   case atStart=>exact HST2.out
   case round=>
    obtain⟨m,u0,hm,rfl,rfl,hu0,hu1,hzu,hb⟩:=hrel;have HB2:=hid hb;have hwr2:=hb.size;have hbb:Below w1.heap.size w1 wr:=HBA.out.trans (hb.mono hwr);obtain⟨p0,p1,p2,p3,p4,p5⟩:=HD1.out.below (by omega) hbb;have s1:IntKind.i64.wrap ((m:Int)+1)=(m:Int)+1:=IntWalk.i64_in _ (by omega);have j1:(0:Int)<=(m:Int):=Int.natCast_nonneg _;by_cases hlt2:m<fs.length
    ·obtain⟨b,off,A',c',A2,c2,hA,hbB,_,e2,e4,⟨hg,_,_,_⟩,ht,_,_⟩:=(HF.out.ah hbb).at_ hlt2
     obtain⟨q,hq⟩:∃q,fs[m]=q:=⟨_,rfl⟩;rw[hq]at e2 e4 hg ht;have HSZ:=hid (fun W (hW:Below wr.heap.size wr W)=>p7 A' A2 c' c2 q.gs q.out W (hg.ah hW) (ht.ah hW));have j2:(m:Int)<(fs.length:Int):=by omega
     have HNX:=hid (fun y (y0:0<=y) (y1:y<=2000000) (W:World) (hW:Below wr.heap.size wr W)=>show SmR fs.length (fun _ y=>z<=y) 160000000 wa (.int .i64 (IntKind.i64.wrap (u0+y))) (.int .i64 ((m:Int)+1)) W from⟨m+1,u0+y,hlt2,rfl,by rw[IntWalk.i64_in _ (by omega)],by omega,by omega,by omega,HB2.out.trans (hW.mono hwr2)⟩);subst hA;clear hb hbb hg ht hq;go_wp2_with (fail)
     go_region_held3 (fun w'=>w'.cell? ⟨w.heap.size,5,none⟩=some (.slice (some ⟨b,off,none⟩) fs.length cf)/\w'.cell? ⟨b,off+m*3+1,none⟩=some (.slice A' q.gs.length c')/\w'.cell? ⟨b,off+m*3+2,none⟩=some (.slice A2 q.out.length c2))
      (first
       | go_keep
       | (go_split_ands;refine⟨?_,?_,?_⟩ <;> assumption))
      (first
       | (go_at_call 14;refine(HSZ.out _ (Below.refl _ wr).drew).mono ?_;rintro e w6 ⟨y,rfl,y0,y1,_,hw6⟩;subst hw6))
     have HN:=hid (HNX.out y y0 y1 _ (Below.refl wr.heap.size wr).drew);go_wp2_with (fail)
     go_roundw
     case rel=>exact HN.out
     case measure=>simp[intOf];omega
    ·have HF1:=hid (HB1.out.trans (hbb.mono (by omega)))
     clear hb hbb;go_wp2_with (fail);go_ret;exact⟨_,rfl,fun q=>⟨HK.out.1,HK.out.2,fun r hr=>by
      rcases Nat.lt_or_ge 200 r.out.length with h | h
      ·have h4:=HL1.out r hr h
       have h5:=of_decide_eq_true q;omega
      ·exact h⟩,HF1.out⟩
end Go.Proofs.YtbdmcibcenhpnaaGreatDoor.Rg
namespace Go.Proofs.YtbdmcibcenhpnaaGreatDoor.De
set_option maxHeartbeats 64000000
open Go Go.RowKit Sp Pa Te Mi
open Go.Lib (hid)
def rV (n:Nat) (w:World) (i:Value) (wr:World):Prop:=∃k:Nat,k<=n/\i = .int .i64 k/\Below w.heap.size w wr
theorem uj (A A':Option Addr) (c c':Nat) (L:List (List Span)) (w:World) (h:RGs w A L.length L) (h':RGs w A' L.length L) (hl:L.length<=maxLen) (hs:∀l∈L,l.length<=1099511627776) :
  Calls Tryz.prog 26 #[.slice A L.length c,.slice A' L.length c'] w (dY true w):=by
 unfold maxLen at hl;have H:=hid h;have H':=hid h';have HS:=hid hs;clear hs;clear h h';obtain⟨n,hn⟩:∃n,L.length=n:=⟨_,rfl⟩;have HNL:=hid hn;have hd:((n:Int) != (n:Int))=false:=by simp
 rw[hn]at hl ⊢;clear hn;go_enter Tryz.func26,Tryz.ntmps26;go_wp2_with (fail)
 go_loopw [5] (fun i wr=>rV n w i wr) (fun i _=>n-(intOf i).toNat)
 case atStart=>exact⟨0,Nat.zero_le _,rfl,Below.refl _ _⟩
 case round=>
  obtain⟨k,hk,rfl,hb⟩:=hrel;by_cases hlt:k<n
  ·have hkL:k<L.length:=by have:=HNL.out;omega
   obtain⟨b1,off1,A1,c1,hA1,hb1,hc1,hr1,_,_⟩:=(H.out.ah hb).at_ hkL;obtain⟨b2,off2,A2,c2,hA2,hb2,hc2,hr2,_,_⟩:=(H'.out.ah hb).at_ hkL;have hlk1:=HS.out _ (List.getElem_mem hkL);obtain⟨lk,hlk⟩:∃lk,L[k]=lk:=⟨_,rfl⟩;rw[hlk]at hc1 hr1 hlk1 hc2 hr2;have hdr:Below wr.heap.size wr wr.drew:=(Below.refl _ _).drew;have HC:=hid (Sp.uh A1 A2 lk.length lk.length c1 c2 lk lk wr.drew (hr1.ah hdr) (hr2.ah hdr) hlk1 hlk1);rw[decide_eq_true rfl]at HC;have HB:=hid (hb.drew);rw[hA1,hA2];have i1:(0:Int)<=(k:Int):=Int.natCast_nonneg _;have i2:(k:Int)<(n:Int):=by omega
   obtain⟨n1,hn1⟩:∃n1,lk.length=n1:=⟨_,rfl⟩;rw[hn1]at hc1 hc2 HC;clear hA1 hA2 hr1 hr2 hlk hn1 hb hlk1;go_wp2_with (fail)
   go_still_tail 8,(by kernel_rfl)
   change wpList _ _ _ _ _ wr.drew
   go_wp2_with (fail);refine HC.out.mono ?_;rintro e w3 ⟨rfl,hb3⟩;have HB3:=hid (HB.out.trans (hb3.mono HB.out.size));clear hb3;go_wp2_with (fail)
   go_roundw
   case rel=>exact⟨k+1,by omega,by go_num,HB3.out⟩
   case measure=>simp[intOf];omega
  ·have HB:=hid hb
   clear hb;go_wp2_with (fail);go_ret;exact⟨rfl,HB.out⟩
def pY (n:Nat) (w:World) (i:Value) (wr:World):Prop:=∃k:Nat,k<=n/\i = .int .i64 k/\Below w.heap.size w wr
theorem pZ (A A':Option Addr) (c c':Nat) (L:List TmL) (w:World) (h:RTm w A L.length L) (h':RTm w A' L.length L) (hl:L.length<=maxLen) :
  Calls Tryz.prog 27 #[.slice A L.length c,.slice A' L.length c'] w (dY true w):=by
 unfold maxLen at hl;have H:=hid h;have H':=hid h';clear h h';obtain⟨n,hn⟩:∃n,L.length=n:=⟨_,rfl⟩;have HNL:=hid hn;have hd:((n:Int) != (n:Int))=false:=by simp
 rw[hn]at hl ⊢;clear hn;go_enter Tryz.func27,Tryz.ntmps27;go_wp2_with (fail)
 go_loopw [5] (fun i wr=>pY n w i wr) (fun i _=>n-(intOf i).toNat)
 case atStart=>exact⟨0,Nat.zero_le _,rfl,Below.refl _ _⟩
 case round=>
  obtain⟨k,hk,rfl,hb⟩:=hrel;by_cases hlt:k<n
  ·have hkL:k<L.length:=by have:=HNL.out;omega
   obtain⟨b1,off1,hA1,hb1,d0,d1,d2,d3,d4,A1,c1,d5,hr1,_,hm1⟩:=(H.out.ah hb).at_ hkL;obtain⟨b2,off2,hA2,hb2,e0,e1,e2,e3,e4,A2,c2,e5,hr2,_,hm2⟩:=(H'.out.ah hb).at_ hkL;obtain⟨tk,htk⟩:∃tk,L[k]=tk:=⟨_,rfl⟩;rw[htk]at d0 d1 d2 d3 d4 d5 hr1 hm1 e0 e1 e2 e3 e4 e5 hr2;have hdr:Below wr.heap.size wr wr.drew:=(Below.refl _ _).drew;have HC:=hid (Dq tk.b tk.d tk.t tk.u tk.s A1 A2 tk.ps.length c1 c2 tk.ps wr.drew (hr1.ah hdr) (hr2.ah hdr) hm1);have HB:=hid (hb.drew);rw[hA1,hA2];have i1:(0:Int)<=(k:Int):=Int.natCast_nonneg _;have i2:(k:Int)<(n:Int):=by omega
   clear hA1 hA2 hr1 hr2 htk hb hm1 hm2;go_wp2_with (fail)
   go_still_tail 8,(by kernel_rfl)
   change wpList _ _ _ _ _ wr.drew
   go_wp2_with (fail);refine HC.out.mono ?_;rintro e w3 ⟨rfl,hb3⟩;have HB3:=hid (HB.out.trans (hb3.mono HB.out.size));clear hb3;go_wp2_with (fail)
   go_roundw
   case rel=>exact⟨k+1,by omega,by go_num,HB3.out⟩
   case measure=>simp[intOf];omega
  ·have HB:=hid hb
   clear hb;go_wp2_with (fail);go_ret;exact⟨rfl,HB.out⟩
theorem Dr (q:RuL) (G G' T T':Option Addr) (gc gc' tc tc':Nat) (w:World) (hg:RGs w G q.gs.length q.gs) (hg':RGs w G' q.gs.length q.gs) (hgl:q.gs.length<=maxLen) (hgs:∀g∈q.gs,g.length<=1099511627776) (ht:RTm w T q.out.length q.out) (ht':RTm w T' q.out.length q.out) (hol:q.out.length<=maxLen) :
  Calls Tryz.prog 25 #[rul q.frm q.to_ G q.gs.length gc q.eat T q.out.length tc,rul q.frm q.to_ G' q.gs.length gc' q.eat T' q.out.length tc'] w (dY true w):=by
 obtain⟨w0,hw0⟩:∃w0,w.alloc (.cells #[.int .i64 q.frm,.int .i64 q.to_,.slice G q.gs.length gc,.int .i64 q.eat,.slice T q.out.length tc] 43)=w0:=⟨_,rfl⟩;have hs0:w0.heap.size=w.heap.size+1:=by rw[<- hw0];simp
 have hb0:Below w.heap.size w w0:=by rw[<- hw0];exact(Below.refl _ _).alloc (Nat.le_refl _) _
 have hr0:RB w0 w.heap.size q.frm q.to_ G q.gs.length gc q.eat T q.out.length tc:=by rw[<- hw0];exact RB.boxed
 obtain⟨w1,hw1⟩:∃w1,w0.alloc (.cells #[.int .i64 q.frm,.int .i64 q.to_,.slice G' q.gs.length gc',.int .i64 q.eat,.slice T' q.out.length tc'] 43)=w1:=⟨_,rfl⟩;have hb1:Below w0.heap.size w0 w1:=by rw[<- hw1];exact(Below.refl _ _).alloc (Nat.le_refl _) _
 have hs1:w1.heap.size=w.heap.size+1+1:=by rw[<- hw1,<- hs0];simp
 have hr1:RB w1 (w.heap.size+1) q.frm q.to_ G' q.gs.length gc' q.eat T' q.out.length tc':=by rw[<- hw1,<- hs0];exact RB.boxed
 have HB1:=hid (hb0.trans (hb1.mono (by omega)));have NA:=hr0.below (by omega) hb1;have HR0:=hid NA;have HR1:=hid hr1;obtain⟨p0,p1,p2,p3,p4⟩:=NA;obtain⟨y0,y1,y2,y3,y4⟩:=hr1;have HC1:=hid (uj G G' gc gc' q.gs w1 (hg.ah HB1.out) (hg'.ah HB1.out) hgl hgs);have HT:=hid ht;have HT':=hid ht';have HOL:=hid hol;clear hb0 hb1 hr0 hg hg' hgl hgs ht ht' hol;go_enter Tryz.func25,Tryz.ntmps25;go_wp2_with (fail);refine HC1.out.mono ?_;rintro e w2 ⟨rfl,hb2⟩;have HB2:=hid (HB1.out.trans (hb2.mono (by omega)));obtain⟨p0,p1,p2,p3,p4⟩:=HR0.out.below (by omega) hb2;obtain⟨y0,y1,y2,y3,y4⟩:=HR1.out.below (by omega) hb2;have hq2:=hb2.size;have HC2:=hid (pZ T T' tc tc' q.out w2 (HT.out.ah HB2.out) (HT'.out.ah HB2.out) HOL.out);clear hb2;go_wp2_with (fail);refine HC2.out.mono ?_;rintro e w3 ⟨rfl,hb3⟩;have HB3:=hid (HB2.out.trans (hb3.mono (by omega)));clear hb3;go_wp2_with (fail);go_ret;exact⟨rfl,HB3.out⟩
end Go.Proofs.YtbdmcibcenhpnaaGreatDoor.De
