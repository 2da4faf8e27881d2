import Derived.Test.YtbdmcibcenhpnaaGreatDoorF46
import Derived.Deep.DeepCutAuto
set_option maxRecDepth 100000
namespace Go.Proofs.YtbdmcibcenhpnaaGreatDoor.Rg
set_option maxHeartbeats 64000000
open Go Go.RowKit Go.Shelf Go.Maps Sp Pa Te Mi Sh Fi De
open Go.Lib (hid)
def RgW {α:Type} (P:α->Bool) (l:List α) (w:World) (v:Value) (wr:World):Prop:=∃k:Nat,k<=l.length/\v = .int .i64 k/\(∀j (hj:j<l.length),j<k->P l[j]=true)/\Below w.heap.size w wr
theorem wI (i o n s:Int) (A:Option Addr) (cr:Nat) (B:Option Addr) (cf:Nat) (rs:List RuL) (fs:List FiL) (w:World) (hrl:rs.length<=maxLen) (hfl:fs.length<=maxLen) (oN:bn i o n s rs.length fs.length=false) :
  Calls Tryz.prog 20 #[dsc i o n s A rs.length cr B fs.length cf] w (Ck (aW i o n s rs fs) w):=by
 obtain⟨w1,hw1⟩:∃w1,w.alloc (.cells #[.int .i64 i,.int .i64 o,.int .i64 n,.int .i64 s,.slice A rs.length cr,.slice B fs.length cf] 26)=w1:=⟨_,rfl⟩;have hs1:w1.heap.size=w.heap.size+1:=by rw[<- hw1];simp
 have hb1:Below w.heap.size w w1:=by rw[<- hw1];exact(Below.refl _ _).alloc (Nat.le_refl _) _
 have hd1:DB w1 w.heap.size i o n s A rs.length cr B fs.length cf:=by rw[<- hw1];exact DB.boxed
 have HB1:=hid hb1;obtain⟨p0,p1,p2,p3,p4,p5⟩:=hd1;clear hb1;obtain⟨v,hv⟩:∃v,aW i o n s rs fs=v:=⟨_,rfl⟩;rw[hv];have HV:=hid hv;clear hv;unfold maxLen at hrl hfl;go_enter Tryz.func20,Tryz.ntmps20;go_upto_region 1 with(fail)
 go_cut [61] (fun v wx=>wx=w1/\v = .bool (!(bn i o n s rs.length fs.length)))
 ·by_cases a1:i=1\/i=2
  case neg=>
   have b3:(i == 1)=false:=by simp;omega
   have b4:(i == 2)=false:=by simp;omega
   have HHH:=hid (show bn i o n s rs.length fs.length=false by unfold bn iN;rw[decide_eq_false a1];rfl);go_wp2_with (fail);go_meet;exact⟨rfl,by rw[HHH.out];rfl⟩
  by_cases a2:o=1\/o=2
  case neg=>
   have b3:(o == 1)=false:=by simp;omega
   have b4:(o == 2)=false:=by simp;omega
   have HHH:=hid (show bn i o n s rs.length fs.length=false by unfold bn iN;rw[decide_eq_false a2];simp);rcases a1 with rfl | rfl;all_goals
    go_wp2_with (fail);go_meet;exact⟨rfl,by rw[HHH.out];rfl⟩
  by_cases a3:1<=n
  case neg=>
   have d_:decide (n<1)=true:=decide_eq_true (by omega);have HHH:=hid (show bn i o n s rs.length fs.length=false by unfold bn;rw[decide_eq_false a3];simp);rcases a1 with rfl | rfl <;> rcases a2 with rfl | rfl;all_goals
    go_wp2_with (fail);go_meet;exact⟨rfl,by rw[HHH.out];rfl⟩
  have d3:decide (n<1)=false:=decide_eq_false (by omega);by_cases a4:n<=1024
  case neg=>
   have d_:decide (1024<n)=true:=decide_eq_true (by omega);have HHH:=hid (show bn i o n s rs.length fs.length=false by unfold bn;rw[decide_eq_false a4];simp);rcases a1 with rfl | rfl <;> rcases a2 with rfl | rfl;all_goals
    go_wp2_with (fail);go_meet;exact⟨rfl,by rw[HHH.out];rfl⟩
  have d4:decide (1024<n)=false:=decide_eq_false (by omega);by_cases a5:0<=s
  case neg=>
   have d_:decide (s<0)=true:=decide_eq_true (by omega);have HHH:=hid (show bn i o n s rs.length fs.length=false by unfold bn stB;rw[decide_eq_false (show ¬ (0<=s/\s<n)from fun q=>a5 q.1)];simp);rcases a1 with rfl | rfl <;> rcases a2 with rfl | rfl;all_goals
    go_wp2_with (fail);go_meet;exact⟨rfl,by rw[HHH.out];rfl⟩
  have d5:decide (s<0)=false:=decide_eq_false (by omega);by_cases a6:s<n
  case neg=>
   have d_:decide (n<=s)=true:=decide_eq_true (by omega);have HHH:=hid (show bn i o n s rs.length fs.length=false by unfold bn stB;rw[decide_eq_false (show ¬ (0<=s/\s<n)from fun q=>a6 q.2)];simp);rcases a1 with rfl | rfl <;> rcases a2 with rfl | rfl;all_goals
    go_wp2_with (fail);go_meet;exact⟨rfl,by rw[HHH.out];rfl⟩
  have d6:decide (n<=s)=false:=decide_eq_false (by omega);by_cases a7:rs.length<=4096
  case neg=>
   have d_:decide ((4096:Int)<(rs.length:Int))=true:=decide_eq_true (by omega);have HHH:=hid (show bn i o n s rs.length fs.length=false by unfold bn;rw[decide_eq_false a7];simp);rcases a1 with rfl | rfl <;> rcases a2 with rfl | rfl;all_goals
    go_wp2_with (fail);go_meet;exact⟨rfl,by rw[HHH.out];rfl⟩
  have d7:decide ((4096:Int)<(rs.length:Int))=false:=decide_eq_false (by omega);by_cases a8:fs.length<=4096
  case neg=>
   have d_:decide ((4096:Int)<(fs.length:Int))=true:=decide_eq_true (by omega);have HHH:=hid (show bn i o n s rs.length fs.length=false by unfold bn;rw[decide_eq_false a8];simp);rcases a1 with rfl | rfl <;> rcases a2 with rfl | rfl;all_goals
    go_wp2_with (fail);go_meet;exact⟨rfl,by rw[HHH.out];rfl⟩
  have d8:decide ((4096:Int)<(fs.length:Int))=false:=decide_eq_false (by omega);exact absurd oN (by
   unfold bn iN stB;rw[decide_eq_true a1,decide_eq_true a2,decide_eq_true a3,decide_eq_true a4,decide_eq_true (show 0<=s/\s<n from⟨a5,a6⟩),decide_eq_true a7,decide_eq_true a8];decide)
 obtain⟨hwc,hu⟩:=hcut;subst hwc hu;rw[oN,show(!false)=true from rfl];have hvv:v=(1,0):=by rw[<- HV.out];unfold aW dO;rw[if_neg (by rw[oN];decide)]
 subst hvv;clear hw1 oN;go_wp2_with (fail);go_ret2;exact⟨rfl,HB1.out⟩
end Go.Proofs.YtbdmcibcenhpnaaGreatDoor.Rg
namespace Go.Proofs.YtbdmcibcenhpnaaGreatDoor.Rg
set_option maxHeartbeats 64000000
open Go Go.RowKit Go.Shelf Go.Maps Sp Pa Te Mi Sh Fi De
open Go.Lib (hid)
theorem wJ (i o n s:Int) (A:Option Addr) (cr:Nat) (B:Option Addr) (cf:Nat) (rs:List RuL) (fs:List FiL) (w:World) (hr:RRu w A rs.length rs) (hrl:rs.length<=maxLen) (hf:RFi w B fs.length fs) (hfl:fs.length<=maxLen) :
  Calls Tryz.prog 20 #[dsc i o n s A rs.length cr B fs.length cf] w (Ck (aW i o n s rs fs) w):=by
 obtain⟨w1,hw1⟩:∃w1,w.alloc (.cells #[.int .i64 i,.int .i64 o,.int .i64 n,.int .i64 s,.slice A rs.length cr,.slice B fs.length cf] 26)=w1:=⟨_,rfl⟩;have hs1:w1.heap.size=w.heap.size+1:=by rw[<- hw1];simp
 have hb1:Below w.heap.size w w1:=by rw[<- hw1];exact(Below.refl _ _).alloc (Nat.le_refl _) _
 have hd1:DB w1 w.heap.size i o n s A rs.length cr B fs.length cf:=by rw[<- hw1];exact DB.boxed
 have HD1:=hid hd1;have HB1:=hid hb1;have HR:=hid (hr.ah hb1);have HF:=hid (hf.ah hb1);obtain⟨p0,p1,p2,p3,p4,p5⟩:=hd1;have HST:=hid (show RgW (dw i n (eB i o)) rs w1 (.int .i64 (0:Nat)) w1 from⟨0,Nat.zero_le _,rfl,fun j _ h=>absurd h (by omega),Below.refl _ _⟩);clear hr hf hb1;obtain⟨v,hv⟩:∃v,aW i o n s rs fs=v:=⟨_,rfl⟩;rw[hv];have HV:=hid hv;clear hv;by_cases hh0:bn i o n s rs.length fs.length=true
 case neg=>
  have q:=wI i o n s A cr B cf rs fs w hrl hfl (by simpa using hh0);rw[HV.out]at q;exact q
 have HH0:=hid hh0;clear hh0;unfold maxLen at hrl hfl;go_enter Tryz.func20,Tryz.ntmps20;go_upto_region 1 with(fail)
 go_cut [61] (fun v wx=>wx=w1/\v = .bool (!(bn i o n s rs.length fs.length)))
 ·have hh2:=HH0.out
  unfold bn iN stB at hh2;simp only[Bool.and_eq_true,decide_eq_true_eq]at hh2;obtain⟨a1,a2,a3,a4,⟨a5,a6⟩,a7,a8⟩:=hh2;have d3:decide (n<1)=false:=decide_eq_false (by omega);have d4:decide (1024<n)=false:=decide_eq_false (by omega);have d5:decide (s<0)=false:=decide_eq_false (by omega);have d6:decide (n<=s)=false:=decide_eq_false (by omega);have d7:decide ((4096:Int)<(rs.length:Int))=false:=decide_eq_false (by omega);have d8:decide ((4096:Int)<(fs.length:Int))=false:=decide_eq_false (by omega);rcases a1 with rfl | rfl <;> rcases a2 with rfl | rfl;all_goals
   go_wp2_with (fail);go_meet;exact⟨rfl,by rw[HH0.out];rfl⟩
 obtain⟨hwc,hu⟩:=hcut;subst hwc hu;clear hw1;have hhd:=HH0.out;rw[hhd,show(!true)=false from rfl];have HHD:=hid hhd;have hh2:=hhd;unfold bn iN stB at hh2;simp only[Bool.and_eq_true,decide_eq_true_eq]at hh2;obtain⟨hii,hoo,hn1,hn2,⟨hs0,hs2⟩,hr4,hf4⟩:=hh2;have HII:=hid hii;have HVB:=hid (fun(k:Nat) (hk:k<rs.length) (hok:∀j (hj:j<rs.length),j<k->dw i n (eB i o) rs[j]=true) (hb:dw i n (eB i o) rs[k]=false)=>show v=(2,(k:Int))by rw[<- HV.out];unfold aW dO;rw[if_pos HHD.out,vH hk hb hok]);have HVF:=hid (fun(hrs:∀j (hj:j<rs.length),dw i n (eB i o) rs[j]=true) (k:Nat) (hk:k<fs.length) (hok:∀j (hj:j<fs.length),j<k->mK i n (eB i o) fs[j]=true) (hb:mK i n (eB i o) fs[k]=false)=>show v=(3,(k:Int))by rw[<- HV.out];unfold aW dO;rw[if_pos HHD.out,je (k:=rs.length) (by omega) (fun j hj _=>hrs j hj),vH hk hb hok]);have HVC:=hid (fun(hrs:∀j (hj:j<rs.length),dw i n (eB i o) rs[j]=true) (hfs:∀j (hj:j<fs.length),mK i n (eB i o) fs[j]=true)=>show v=if jo (bF rs) n.toNat=true then(4,0)else(0,0)by rw[<- HV.out];unfold aW dO;rw[if_pos HHD.out,je (k:=rs.length) (by omega) (fun j hj _=>hrs j hj),je (k:=fs.length) (by omega) (fun j hj _=>hfs j hj)]);clear hhd hii hoo;go_wp2_with (fail)
 go_loopw [4] (fun v wr=>RgW (dw i n (eB i o)) rs wc v wr) (fun v _=>rs.length-(intOf v).toNat)
 case atStart=>exact HST.out
 case round=>
  obtain⟨k,hk,rfl,hok,hb⟩:=hrel;have HB:=hid hb;have HOK:=hid hok;have hwr:=hb.size;obtain⟨p0,p1,p2,p3,p4,p5⟩:=HD1.out.below (by omega) hb;by_cases hlt:k<rs.length
  case pos=>
   obtain⟨b,off,A',c',A2,c2,hA,hbB,d0,d1,d2,d3,d4,⟨hg,hgc,hgl,hgm⟩,ht,_,_,_⟩:=(HR.out.ah hb).at_ hlt;obtain⟨q,hq⟩:∃q,rs[k]=q:=⟨_,rfl⟩;have HVK:=hid (fun h=>HVB.out k hlt HOK.out h);have HNX:=hid (fun(h:dw i n (eB i o) q=true) W (hW:Below wc.heap.size wc W)=>show RgW (dw i n (eB i o)) rs wc (.int .i64 ((k:Int)+1)) W from⟨k+1,hlt,rfl,oK hlt (by rw[hq];exact h) HOK.out,hW⟩);rw[hq]at d0 d1 d2 d3 d4 hg hgc hgl hgm ht HVK;obtain⟨w5,hw5⟩:∃w5,wr.alloc (.cells #[.int .i64 q.frm,.int .i64 q.to_,.slice A' q.gs.length c',.int .i64 q.eat,.slice A2 q.out.length c2] 43)=w5:=⟨_,rfl⟩;have hb5:Below wr.heap.size wr w5:=by rw[<- hw5];exact(Below.refl _ _).alloc (Nat.le_refl _) _
   have hs5:w5.heap.size=wr.heap.size+1:=by rw[<- hw5];simp
   have hr5:RB w5 wr.heap.size q.frm q.to_ A' q.gs.length c' q.eat A2 q.out.length c2:=by rw[<- hw5];exact RB.boxed
   have hb15:Below wc.heap.size wc w5:=bJ hb hb5;have HB5:=hid hb15;have HR5:=hid hr5;have HG5:=hid (hg.ah hb5);have HT5:=hid (ht.ah hb5);have HGM:=hid hgm;obtain⟨q0,q1,q2,q3,q4⟩:=hr5;obtain⟨y0,y1,y2,y3,y4,y5⟩:=HD1.out.below (by omega) hb15;have HRQ:=hid (show dw i n (eB i o) q=(stB n q.frm && (stB n q.to_ && (aG i q.gs && (oP q.gs.length q.eat && bH (eB i o q.gs) q.out))))from rfl);subst hA;clear hb hok hg ht hgm hb5 hb15 hq;have s1:IntKind.i64.wrap ((k:Int)+1)=(k:Int)+1:=IntWalk.i64_in _ (by omega);have i1:(0:Int)<=(k:Int):=Int.natCast_nonneg _;have i2:(k:Int)<(rs.length:Int):=by omega
   obtain⟨g,hgq⟩:∃g,q.gs.length=g:=⟨_,rfl⟩;obtain⟨x,hxq⟩:∃x,q.eat=x:=⟨_,rfl⟩;have HGX:=hid (And.intro hgq hxq);rw[hgq]at q2 d2 hgl hgc HRQ;rw[hxq]at q3 d3 HRQ;unfold maxLen at hgl;have hrb2:RB w5 wr.heap.size q.frm q.to_ A' g c' x A2 q.out.length c2:=⟨q0,q1,q2,q3,q4⟩;have Px:=hid hrb2;rw[hgq,hxq]at hw5;clear hgq hxq hrb2 HR5;go_upto_region 8 with(fail)
   go_cut [7] (fun vx wx=>vx = .bool (oP g x)/\wx=w5)
   ·rcases Nat.eq_zero_or_pos g with g0 | g0
    ·subst g0
     by_cases x0:x=0
     ·subst x0
      have HE:=hid (show oP 0 0=true from rfl);go_wp2_with (fail);go_meet;exact⟨by rw[HE.out],rfl⟩
     ·have e1:(x == 0)=false:=by simpa using x0
      have HE:=hid (show oP 0 x=false from decide_eq_false fun z=>x0 (by have:=z.1;have:=z.2;rw[if_pos rfl]at *;omega));by_cases x1:1<=x
      ·have e2:decide (1<=x)=true:=decide_eq_true x1
       have e3:decide (x<=0)=false:=decide_eq_false (by omega);go_wp2_with (fail);go_meet;exact⟨by rw[HE.out],rfl⟩
      ·have e2:decide (1<=x)=false:=decide_eq_false x1
       go_wp2_with (fail);go_meet;exact⟨by rw[HE.out],rfl⟩
    ·have e0:((g:Int) == 0)=false:=by simp;omega
     have e0':decide ((g:Int)=0)=false:=decide_eq_false (by omega);by_cases x1:1<=x
     ·have e2:decide (1<=x)=true:=decide_eq_true x1
      by_cases x2:x<=g
      ·have e3:decide (x<=(g:Int))=true:=decide_eq_true x2
       have HE:=hid (show oP g x=true from decide_eq_true ⟨by rw[if_neg (by omega)];exact x1,x2⟩);go_wp2_with (fail);go_meet;exact⟨by rw[HE.out],rfl⟩
      ·have e3:decide (x<=(g:Int))=false:=decide_eq_false x2
       have HE:=hid (show oP g x=false from decide_eq_false fun z=>x2 z.2);go_wp2_with (fail);go_meet;exact⟨by rw[HE.out],rfl⟩
     ·have e2:decide (1<=x)=false:=decide_eq_false x1
      have HE:=hid (show oP g x=false from decide_eq_false fun z=>x1 (by have:=z.1;rw[if_neg (by omega)]at this;exact this));go_wp2_with (fail);go_meet;exact⟨by rw[HE.out],rfl⟩
   obtain⟨h7,hw7⟩:=hcut;subst h7 hw7;clear hw5
   rename World=>w5
   have HGU:=hid (lu i A' c' q.gs w5 HG5.out (by rw[HGX.out.1];unfold maxLen;exact hgl) HGM.out);rw[HGX.out.1]at HGU;have HWR:=hid (fun(hgv:aG i q.gs=true) W (hW:Below w5.heap.size w5 W)=>kY i o n s (some ⟨b,off,none⟩) rs.length cr B fs.length cf A2 c2 q.out A' c' q.gs W (HT5.out.ah hW) (HG5.out.ah hW) (JU hgv HII.out));rw[HGX.out.1]at HWR;by_cases f0:0<=q.frm
   case neg=>
    have e_:decide (q.frm<0)=true:=decide_eq_true (by omega);obtain rfl:=HVK.out (by rw[HRQ.out,tZ f0];rfl);go_wp2_with (fail);go_ret2;exact⟨rfl,HB1.out.trans (HB5.out.mono (by omega))⟩
   have f0d:decide (q.frm<0)=false:=decide_eq_false (by omega);by_cases f1:q.frm<n
   case neg=>
    have e_:decide (n<=q.frm)=true:=decide_eq_true (by omega);obtain rfl:=HVK.out (by rw[HRQ.out,ud f1];rfl);go_wp2_with (fail);go_ret2;exact⟨rfl,HB1.out.trans (HB5.out.mono (by omega))⟩
   have f1d:decide (n<=q.frm)=false:=decide_eq_false (by omega);by_cases f2:0<=q.to_
   case neg=>
    have e_:decide (q.to_<0)=true:=decide_eq_true (by omega);obtain rfl:=HVK.out (by rw[HRQ.out,tZ f2];simp);go_wp2_with (fail);go_ret2;exact⟨rfl,HB1.out.trans (HB5.out.mono (by omega))⟩
   have f2d:decide (q.to_<0)=false:=decide_eq_false (by omega);by_cases f3:q.to_<n
   case neg=>
    have e_:decide (n<=q.to_)=true:=decide_eq_true (by omega);obtain rfl:=HVK.out (by rw[HRQ.out,ud f3];simp);go_wp2_with (fail);go_ret2;exact⟨rfl,HB1.out.trans (HB5.out.mono (by omega))⟩
   have f3d:decide (n<=q.to_)=false:=decide_eq_false (by omega);obtain⟨eb,heb⟩:∃eb,oP g x=eb:=⟨_,rfl⟩;rw[heb]at HRQ;rw[heb];clear heb
   cases eb
   ·obtain rfl:=HVK.out (by rw[HRQ.out];simp)
    go_wp2_with (fail);go_ret2;exact⟨rfl,HB1.out.trans (HB5.out.mono (by omega))⟩
   obtain⟨gv,hgv⟩:∃gv,aG i q.gs=gv:=⟨_,rfl⟩;have HGV:=hid hgv;rw[hgv]at HGU HRQ;clear hgv;go_wp2_with (fail);refine HGU.out.mono ?_;rintro e w6 ⟨rfl,hb6⟩;have hz6:=hb6.size;have HB6:=hid (bJ HB5.out hb6);obtain⟨q0,q1,q2,q3,q4⟩:=Px.out.below (by omega) hb6;obtain⟨y0,y1,y2,y3,y4,y5⟩:=HD1.out.below (by omega) HB6.out
   cases gv
   ·obtain rfl:=HVK.out (by rw[HRQ.out];simp)
    go_wp2_with (fail);go_ret2;exact⟨rfl,HB1.out.trans (HB6.out.mono (by omega))⟩
   have HW6:=hid (HWR.out HGV.out w6 hb6);obtain⟨tv,htv⟩:∃tv,bH (eB i o q.gs) q.out=tv:=⟨_,rfl⟩;rw[htv]at HW6 HRQ;clear htv hb6;go_wp2_with (fail);refine HW6.out.mono ?_;rintro e w7 ⟨rfl,hb7⟩;have HB7:=hid (bJ HB6.out hb7);clear hb7
   cases tv
   ·obtain rfl:=HVK.out (by rw[HRQ.out];simp)
    go_wp2_with (fail);go_ret2;exact⟨rfl,HB1.out.trans (HB7.out.mono (by omega))⟩
   have HNW:=hid (HNX.out (by rw[HRQ.out,zw f0 f1,zw f2 f3];rfl) w7 HB7.out);go_wp2_with (fail)
   go_roundw
   case rel=>exact HNW.out
   case measure=>simp[intOf];omega
  have HAR:=hid (show∀j (hj:j<rs.length),dw i n (eB i o) rs[j]=true from fun j hj=>hok j hj (by omega));have HBA:=hid hb;have HRA:=hid (HR.out.ah hb)
  rename World=>wa
  have HST2:=hid (show RgW (mK i n (eB i o)) fs wa (.int .i64 (0:Nat)) wa from⟨0,Nat.zero_le _,rfl,fun j _ h=>absurd h (by omega),Below.refl _ _⟩);clear hok hb;go_wp2_with (fail)
  go_loopw [8] (fun v wr=>RgW (mK i n (eB i o)) fs wa v wr) (fun v _=>fs.length-(intOf v).toNat)
  case atStart=>exact HST2.out
  case round=>
   obtain⟨m,hm,rfl,hok,hb⟩:=hrel;have HB:=hid hb;have Ku:=hid hok;have hwr2:=hb.size;have HBC:=hid (bJ HBA.out hb);obtain⟨p0,p1,p2,p3,p4,p5⟩:=HD1.out.below (by omega) HBC.out;by_cases hlt2:m<fs.length
   case pos=>
    obtain⟨b,off,A',c',A2,c2,hA,hbB,d0,d1,d2,⟨hg,hgc,hgl,hgm⟩,ht,_,_⟩:=(HF.out.ah HBC.out).at_ hlt2;obtain⟨q,hq⟩:∃q,fs[m]=q:=⟨_,rfl⟩;have HVK:=hid (fun h=>HVF.out HAR.out m hlt2 Ku.out h);have HNX:=hid (fun(h:mK i n (eB i o) q=true) W (hW:Below wa.heap.size wa W)=>show RgW (mK i n (eB i o)) fs wa (.int .i64 ((m:Int)+1)) W from⟨m+1,hlt2,rfl,oK hlt2 (by rw[hq];exact h) Ku.out,hW⟩);rw[hq]at d0 d1 d2 hg hgc hgl hgm ht HVK;obtain⟨g,hgq⟩:∃g,q.gs.length=g:=⟨_,rfl⟩;have HGQ:=hid hgq;rw[hgq]at d1 hgc hgl;obtain⟨w5,hw5⟩:∃w5,wr.alloc (.cells #[.int .i64 q.frm,.slice A' g c',.slice A2 q.out.length c2] 45)=w5:=⟨_,rfl⟩;have hb5:Below wr.heap.size wr w5:=by rw[<- hw5];exact(Below.refl _ _).alloc (Nat.le_refl _) _
    have hs5:w5.heap.size=wr.heap.size+1:=by rw[<- hw5];simp
    have q0:w5.cell? ⟨wr.heap.size,0,none⟩=some (.int .i64 q.frm):=by rw[<- hw5];simp
    have q1:w5.cell? ⟨wr.heap.size,1,none⟩=some (.slice A' g c'):=by rw[<- hw5];simp
    have q2:w5.cell? ⟨wr.heap.size,2,none⟩=some (.slice A2 q.out.length c2):=by rw[<- hw5];simp
    have HQ5:=hid (And.intro q0 (And.intro q1 q2));have HB5:=hid (bJ hb hb5);have HC5:=hid (bJ HBC.out hb5);have HG5:=hid (hg.ah hb5);have HT5:=hid (ht.ah hb5);have HGM:=hid hgm;obtain⟨y0,y1,y2,y3,y4,y5⟩:=HD1.out.below (by omega) HC5.out;have HRQ:=hid (show mK i n (eB i o) q=(stB n q.frm && (aG i q.gs && bH (eB i o q.gs) q.out))from rfl);unfold maxLen at hgl;have HGU:=hid (lu i A' c' q.gs w5 HG5.out (by rw[HGQ.out];unfold maxLen;exact hgl) HGM.out);rw[HGQ.out]at HGU;have HWR:=hid (fun(hgv:aG i q.gs=true) W (hW:Below w5.heap.size w5 W)=>kY i o n s A rs.length cr B fs.length cf A2 c2 q.out A' c' q.gs W (HT5.out.ah hW) (HG5.out.ah hW) (JU hgv HII.out));rw[HGQ.out]at HWR;subst hA;clear hb hok hg ht hgm hb5 hq hgq;have s1:IntKind.i64.wrap ((m:Int)+1)=(m:Int)+1:=IntWalk.i64_in _ (by omega);have i1:(0:Int)<=(m:Int):=Int.natCast_nonneg _;have i2:(m:Int)<(fs.length:Int):=by omega
    by_cases f0:0<=q.frm
    case neg=>
     have e_:decide (q.frm<0)=true:=decide_eq_true (by omega);obtain rfl:=HVK.out (by rw[HRQ.out,tZ f0];rfl);go_wp2_with (fail);go_ret2;exact⟨rfl,HB1.out.trans (HC5.out.mono (by omega))⟩
    have f0d:decide (q.frm<0)=false:=decide_eq_false (by omega);by_cases f1:q.frm<n
    case neg=>
     have e_:decide (n<=q.frm)=true:=decide_eq_true (by omega);obtain rfl:=HVK.out (by rw[HRQ.out,ud f1];rfl);go_wp2_with (fail);go_ret2;exact⟨rfl,HB1.out.trans (HC5.out.mono (by omega))⟩
    have f1d:decide (n<=q.frm)=false:=decide_eq_false (by omega);obtain⟨gv,hgv⟩:∃gv,aG i q.gs=gv:=⟨_,rfl⟩;have HGV:=hid hgv;rw[hgv]at HGU HRQ;clear hgv;go_wp2_with (fail);refine HGU.out.mono ?_;rintro e w6 ⟨rfl,hb6⟩;have hz6:=hb6.size;have HB6:=hid (bJ HB5.out hb6);have HC6:=hid (bJ HC5.out hb6);have q0:=(hb6.cell (p:=⟨wr.heap.size,0,none⟩) (by show wr.heap.size<_;omega)).trans HQ5.out.1;have q1:=(hb6.cell (p:=⟨wr.heap.size,1,none⟩) (by show wr.heap.size<_;omega)).trans HQ5.out.2.1;have q2:=(hb6.cell (p:=⟨wr.heap.size,2,none⟩) (by show wr.heap.size<_;omega)).trans HQ5.out.2.2;obtain⟨y0,y1,y2,y3,y4,y5⟩:=HD1.out.below (by omega) HC6.out
    cases gv
    ·obtain rfl:=HVK.out (by rw[HRQ.out];simp)
     go_wp2_with (fail);go_ret2;exact⟨rfl,HB1.out.trans (HC6.out.mono (by omega))⟩
    have HW6:=hid (HWR.out HGV.out w6 hb6);obtain⟨tv,htv⟩:∃tv,bH (eB i o q.gs) q.out=tv:=⟨_,rfl⟩;rw[htv]at HW6 HRQ;clear htv hb6;go_wp2_with (fail);refine HW6.out.mono ?_;rintro e w7 ⟨rfl,hb7⟩;have HB7:=hid (bJ HB6.out hb7);have HC7:=hid (bJ HC6.out hb7);clear hb7
    cases tv
    ·obtain rfl:=HVK.out (by rw[HRQ.out];simp)
     go_wp2_with (fail);go_ret2;exact⟨rfl,HB1.out.trans (HC7.out.mono (by omega))⟩
    have HNW:=hid (HNX.out (by rw[HRQ.out,zw f0 f1];rfl) w7 HB7.out);go_wp2_with (fail)
    go_roundw
    case rel=>exact HNW.out
    case measure=>simp[intOf];omega
   have HAF:=hid (show∀j (hj:j<fs.length),mK i n (eB i o) fs[j]=true from fun j hj=>hok j hj (by omega));have hvc:=HVC.out HAR.out HAF.out;obtain⟨N,hN⟩:=Int.eq_ofNat_of_zero_le (show 0<=n by omega);subst hN;have HCY:=hid (wQ N i o s A cr B fs.length cf rs wr (HRA.out.ah hb) hr4 (by omega) (fun j hj=>by
    have h2:=HAR.out j hj;unfold dw at h2;simp only[Bool.and_eq_true]at h2;exact⟨h2.1,h2.2.1⟩))
   rw[Int.toNat_natCast]at hvc;obtain⟨cy,hcy⟩:∃cy,jo (bF rs) N=cy:=⟨_,rfl⟩;rw[hcy]at HCY hvc;have HBZ:=hid (HB1.out.trans (HBC.out.mono (by omega)));clear hok hb hcy
   cases cy
   ·obtain rfl:v=(0,0):=hvc
    go_wp2_with (fail);refine HCY.out.mono ?_;rintro e w9 ⟨rfl,hb9⟩;have HB9:=hid (bJ HBZ.out hb9);clear hb9;go_wp2_with (fail);go_ret2;exact⟨rfl,HB9.out⟩
   ·obtain rfl:v=(4,0):=hvc
    go_wp2_with (fail);refine HCY.out.mono ?_;rintro e w9 ⟨rfl,hb9⟩;have HB9:=hid (bJ HBZ.out hb9);clear hb9;go_wp2_with (fail);go_ret2;exact⟨rfl,HB9.out⟩
end Go.Proofs.YtbdmcibcenhpnaaGreatDoor.Rg
namespace Go.Proofs.YtbdmcibcenhpnaaGreatDoor.De
set_option maxHeartbeats 64000000
open Go Go.RowKit Sp Pa Te Mi Rg
theorem cw (i o n s:Int) (A:Option Addr) (cr:Nat) (B:Option Addr) (cf:Nat) (rs:List RuL) (fs:List FiL) (w:World) (hr:RRu w A rs.length rs) (hrl:rs.length<=maxLen) (hf:RFi w B fs.length fs) (hfl:fs.length<=maxLen) :
  Calls Tryz.prog 9 #[dsc i o n s A rs.length cr B fs.length cf] w (dY (decide ((aW i o n s rs fs).1=0)) w):=by
 obtain⟨w1,hw1⟩:∃w1,w.alloc (.cells #[.int .i64 i,.int .i64 o,.int .i64 n,.int .i64 s,.slice A rs.length cr,.slice B fs.length cf] 26)=w1:=⟨_,rfl⟩;have hb1:Below w.heap.size w w1:=by rw[<- hw1];exact(Below.refl _ _).alloc (Nat.le_refl _) _
 have hd1:DB w1 w.heap.size i o n s A rs.length cr B fs.length cf:=by rw[<- hw1];exact DB.boxed
 have HB1:=Lib.hid hb1;have HW:=Lib.hid (wJ i o n s A cr B cf rs fs w1 (hr.ah hb1) hrl (hf.ah hb1) hfl);obtain⟨p0,p1,p2,p3,p4,p5⟩:=hd1;obtain⟨⟨k,a⟩,hka⟩:∃q,aW i o n s rs fs=q:=⟨_,rfl⟩;rw[hka]at HW;rw[hka];clear hr hrl hf hfl hb1 hka;go_enter Tryz.func9,Tryz.ntmps9;go_wp2_with (fail);refine HW.out.mono ?_;rintro e w2 ⟨rfl,hb2⟩;have HB2:=Lib.hid (bJ HB1.out hb2);clear hb2;by_cases hk:k=0
 ·subst hk
  go_wp2_with (fail);go_ret;exact⟨rfl,HB2.out⟩
 ·have e1:(k == 0)=false:=by simpa using hk
  have e2:decide (k=0)=false:=decide_eq_false hk;clear hk;go_wp2_with (fail);go_ret;exact⟨by rw[show decide ((k,a).1=0)=false from e2];rfl,HB2.out⟩
end Go.Proofs.YtbdmcibcenhpnaaGreatDoor.De
