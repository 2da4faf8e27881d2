import Derived.Test.YtbdmcibcenhpnaaGreatDoorF6
import Derived.Deep.OwnRows
import Derived.Deep.RegionHeld3
namespace Go.Proofs.YtbdmcibcenhpnaaGreatDoor.Rg
set_option maxHeartbeats 64000000
set_option maxRecDepth 100000
open Go Go.RowKit Sp
open Go.Lib (hid)
def Su1 (a b:List Int) (base:Nat) (w0:World) (v i:Value) (wr:World):Prop:=∃(k:Nat) (L:List Int),k<=a.length/\i = .int .i64 k/\bD wr base v L/\InS (plL (a.take k) b) L/\L.length<=k*b.length/\Below base w0 wr
def Su2 (pre:List Int) (x:Int) (b:List Int) (K base:Nat) (w0:World) (v i:Value) (wr:World):Prop:=∃(j:Nat) (L:List Int),j<=b.length/\i = .int .i64 j/\bD wr base v L/\InS (pre++(b.take j).map fun y=>x+y) L/\L.length<=K+j/\Below base w0 wr
def Su3 (a b:List Int) (g N base:Nat) (w0:World) (i:Value) (wr:World):Prop:=∃k:Nat,k<=a.length/\i = .int .i64 k/\dW wr g N (mkF (plL (a.take k) b))/\(∀z∈plL (a.take k) b,z<=1114111)/\Below base w0 wr
def Su4 (pre:List Int) (x:Int) (b:List Int) (g N base:Nat) (w0:World) (i:Value) (wr:World):Prop:=∃j:Nat,j<=b.length/\i = .int .i64 j/\dW wr g N (mkF (pre++(b.take j).map fun y=>x+y))/\(∀z∈pre++(b.take j).map (fun y=>x+y),z<=1114111)/\Below base w0 wr
def Su5 (f:Nat->Bool) (N base:Nat) (w0:World) (v i:Value) (wr:World):Prop:=∃k:Nat,k<=N/\i = .int .i64 k/\bD wr base v (qM f k)/\Below base w0 wr
theorem zu (pre:List Int) (x:Int) {b:List Int} {j:Nat} (hj:j<b.length) {y:Int} (hy:b[j]=y):pre++(b.take (j+1)).map (fun y=>x+y)=(pre++(b.take j).map fun y=>x+y)++[x+y]:=by
 rw[List.take_succ_eq_append_getElem hj,List.map_append,List.append_assoc,hy];rfl
theorem oz (A A':Option Addr) (n n' c c':Nat) (a b:List Int) (w:World) (h:RN w w.heap.size A n a) (h':RN w w.heap.size A' n' b) (hn:n<=4000000) (hn':n'<=1000) (ha:∀x∈a,-1114111<=x/\x<=1114111) (hb:∀y∈b,0<=y/\y<=300000000) :
  Calls Tryz.prog 79 #[.slice A n c,.slice A' n' c'] w (tI a b w):=by
 obtain⟨i0,hi0,hz0,hz1,hz2⟩:=info_parts gh;have hla:=h.1;have hlb:=h'.1;have H:=hid h;have H':=hid h';have HA:=hid ha;have HB:=hid hb;have hnn:n*n'<=4000000000:=Nat.mul_le_mul hn hn';have m1:IntKind.i64.wrap ((n:Int)*(n':Int))=((n*n':Nat):Int):=by rw[<- Int.natCast_mul];exact IntWalk.i64_in _ (by omega)
 obtain⟨NN,hNN⟩:∃NN,n*n'=NN:=⟨_,rfl⟩;rw[hNN]at m1 hnn;have HNN:=hid hNN;obtain⟨base,hbase⟩:∃base,w.heap.size=base:=⟨_,rfl⟩;have HNO:=hid (fun(k j:Nat) (hk:k<a.length) (hj:j<b.length) (oN:1114111<a[k]+b[j])=>show ¬ ∀z∈plL a b,z<=1114111 from fun q=>by
  have:=q _ (r9.2 ⟨a[k],List.getElem_mem hk,b[j],List.getElem_mem hj,rfl⟩);omega)
 clear h h' ha hb hNN;by_cases sO:NN<=4000
 ·have d1:decide ((NN:Int)<=4000)=true:=decide_eq_true (by omega)
  have HST:=hid (show Su1 a b base w (.slice none 0 0) (.int .i64 (0:Nat)) w from⟨0,[],Nat.zero_le _,rfl,lJ _ _,by rw[List.take_zero];exact InS.nil,by simp,Below.refl _ _⟩);go_enter Tryz.func79,Tryz.ntmps79;go_wp2_with (fail)
  go_loopw [6,7] (fun v i wr=>Su1 a b base w v i wr) (fun _ i _=>n-(intOf i).toNat)
  case atStart=>exact HST.out
  case round=>
   obtain⟨k,L,hk,rfl,ho,hin,hlen,hb⟩:=hrel;have HO:=hid ho;have HIN:=hid hin;have HBB:=hid hb;have hwb:=hb.size;by_cases hlt:k<n
   ·have hka:k<a.length:=by omega
    obtain⟨x,hx⟩:∃x,a[k]=x:=⟨_,rfl⟩;obtain⟨bA,KS,hA,hbA,hcA⟩:=H.out.2 (by omega);rw[hbase]at hbA;have HCA:=hid (fun(W:World) (hW:Below base w W)=>show W.cell? ⟨bA,KS+k,none⟩=some (.int .i64 x)from by rw[hW.cell (by exact hbA),hcA k hka,hx]);have hxb:=HA.out x (by rw[<- hx];exact List.getElem_mem hka);have HX:=hid hx;subst hA;clear ho hin hb hcA hx;obtain⟨pre,hpre⟩:∃pre,plL (a.take k) b=pre:=⟨_,rfl⟩;have HPR:=hid hpre;rw[hpre]at HIN;obtain⟨K,hK⟩:∃K,k*b.length=K:=⟨_,rfl⟩;rw[hK]at hlen;have hKn:K+n'<=4000:=by
     have h1:(k+1)*n'<=n*n':=Nat.mul_le_mul_right _ (by omega);rw[HNN.out,Nat.add_mul,<- hlb,hK]at h1;omega
    have HK:=hid hK;have HST2:=hid (show Su2 pre x b K base w u6 (.int .i64 (0:Nat)) wr from⟨0,L,Nat.zero_le _,rfl,HO.out,by rw[List.take_zero,List.map_nil,List.append_nil];exact HIN.out,by omega,HBB.out⟩);clear hpre hK hlen;go_wp2_with (fail)
    go_loopw [6,8] (fun v i wr=>Su2 pre x b K base w v i wr) (fun _ i _=>n'-(intOf i).toNat)
    case atStart=>exact HST2.out
    case round=>
     obtain⟨j,L,hj,rfl,ho,hin,hlen,hb⟩:=hrel;have HO:=hid ho;have HIN:=hid hin;have HB2:=hid hb;have OI:=hb.size;by_cases hjt:j<n'
     ·have hjb:j<b.length:=by omega
      obtain⟨y,hy⟩:∃y,b[j]=y:=⟨_,rfl⟩;obtain⟨bB,KR,hA',hbB,hcB⟩:=H'.out.2 (by omega);rw[hbase]at hbB;have HCB:=hid (fun(W:World) (hW:Below base w W)=>show W.cell? ⟨bB,KR+j,none⟩=some (.int .i64 y)from by rw[hW.cell (by exact hbB),hcB j hjb,hy]);have hyb:=HB.out y (by rw[<- hy];exact List.getElem_mem hjb);have HNX:=hid (zu pre x hjb hy);have CQ:=hid (HNO.out k j hka hjb);rw[HX.out,hy]at CQ;subst hA';clear ho hin hcB hy;have s1:IntKind.i64.wrap (x+y)=x+y:=IntWalk.i64_in _ (by omega);have s2:IntKind.i64.wrap ((k:Int)+1)=(k:Int)+1:=IntWalk.i64_in _ (by omega);have s3:IntKind.i64.wrap ((j:Int)+1)=(j:Int)+1:=IntWalk.i64_in _ (by omega);have i1:(0:Int)<=(k:Int):=Int.natCast_nonneg _;have i2:(k:Int)<(n:Int):=by omega
      have i3:(0:Int)<=(j:Int):=Int.natCast_nonneg _;have i4:(j:Int)<(n':Int):=by omega
      have f1:=HCA.out wr hb;have f2:=HCB.out wr hb;clear hb;by_cases hbig:1114111<x+y
      ·have d2:decide (1114111<x+y)=true:=decide_eq_true hbig
       have HBD:=hid (CQ.out hbig);clear hbig;go_wp2_with (fail);go_quiet (fail);go_wp2_with (fail);go_ret2;exact⟨none,0,[],false,rfl,⟨fun e=>(by cases e),fun q=>absurd q HBD.out⟩,fun e=>(by cases e),Nat.le_refl _,RN.dS _ _ _,by rw[hbase];exact below_drewN HB2.out _⟩
      ·have d2:decide (1114111<x+y)=false:=decide_eq_false hbig
       go_wp2_with (fail);go_quiet (fail);obtain⟨w5,hw5⟩:∃w5,wr.drewN nq=w5:=⟨_,rfl⟩;have hB5:Below base w w5:=by rw[<- hw5];exact below_drewN HB2.out _
       have HB5:=hid hB5;have ho5:bD w5 base u6 L:=by rw[<- hw5];exact HO.out
       have f3:=HCA.out w5 hB5;have f4:=HCB.out w5 hB5;have HPU:=hid (fun(W:World) (hW:Below w5.heap.size w5 W)=>p8 base u6 L (x+y) W (lK ho5 hW) (by have:=hB5.size;have:=hW.size;omega) HIN.out.1 (by omega));have Qs:=hB5.size;rw[hw5];clear hB5 ho5 hw5;go_wp2_with (fail)
       go_region_held3 (fun w'=>w'.cell? ⟨bA,KS+k,none⟩=some (.int .i64 x)/\w'.cell? ⟨bB,KR+j,none⟩=some (.int .i64 y))
        (first
         | go_keep
         | (go_split_ands;refine⟨?_,?_⟩;all_goals (rw[hb6.cell (by simp;omega)];assumption)))
        (first
         | (go_at_call 78;refine(HPU.out _ ((Below.refl _ w5).drew)).mono ?_;rintro e w6 ⟨v6,ys,rfl,ho6,hs6,hm6,hl6,hb6⟩))
       have HNW:=hid (show Su2 pre x b K base w v6 (.int .i64 ((j:Int)+1)) w6 from⟨j+1,ys,hjb,rfl,ho6,by rw[HNX.out];exact HIN.out.put (by omega) hs6 hm6,by omega,(HB5.out.drew).trans hb6⟩);clear ho6 hs6 hm6 hl6 hb6;go_wp2_with (fail)
       go_roundw
       case rel=>exact HNW.out
       case measure=>simp[intOf];omega
     ·have hjn:j=n':=by omega
      have HNW:=hid (show Su1 a b base w u6 (.int .i64 ((k:Int)+1)) wr from⟨k+1,L,hka,rfl,ho,by
       rw[uz hka,HPR.out,HX.out];have:=HIN.out;rw[List.take_of_length_le (by omega)]at this;exact this,by rw[Nat.add_mul,HK.out];omega,hb⟩)
      have s2:IntKind.i64.wrap ((k:Int)+1)=(k:Int)+1:=IntWalk.i64_in _ (by omega);clear ho hin hb;go_wp2_with (fail)
      go_roundw
      case rel=>exact HNW.out
      case measure=>simp[intOf];omega
   ·have hkn:k=a.length:=by omega
    have hin2:=HIN.out;rw[hkn,List.take_length]at hin2;obtain⟨Ao,co,hvo,hco,hro⟩:=RN.iV ho;subst hvo;have HFI:=hid (show tI a b w (.returned (.tuple #[.slice Ao L.length co,.bool true])) wr from⟨Ao,co,L,true,rfl,⟨fun _=>hin2.2.2,fun _=>rfl⟩,fun _=>⟨hin2.1,hin2.2.1⟩,hco,hro,by rw[hbase];exact hb⟩);clear ho hin hb hin2 hro;go_wp2_with (fail);go_ret2;exact HFI.out
 ·have d1:decide ((NN:Int)<=4000)=false:=decide_eq_false (by omega)
  obtain⟨N,hN⟩:∃N:Nat,N=2228223:=⟨_,rfl⟩;have hNi:(N:Int)=2228223:=by omega
  obtain⟨w2,hw2⟩:∃w2,w.alloc (.cells (madeCells #[.bool false] N) 4)=w2:=⟨_,rfl⟩;have hmk:=run_make_row' (P:=Tryz.prog) 75 4 (.bool false) 1 Tryz.underlying75 AY rfl .i64 .i64 N (by omega) (by omega) w;rw[hw2,hNi,hbase]at hmk;have hsz2:w2.heap.size=base+1:=by rw[<- hw2,<- hbase];simp
  have hb2:Below base w w2:=by rw[<- hw2,<- hbase];exact(Below.refl _ _).alloc (Nat.le_refl _) _
  have hom:dW w2 base N (fun _=>false):=by rw[<- hw2,<- hbase];exact zT w N (by omega)
  have HB2:=hid hb2;have HST:=hid (show Su3 a b base N base w (.int .i64 (0:Nat)) w2 from⟨0,Nat.zero_le _,rfl,hom.eq fun q _=>by simp[mkF,plL],by simp[plL],hb2⟩);have HN:=hid hN;clear hb2 hom hw2 hN hNi;go_enter Tryz.func79,Tryz.ntmps79;go_wp2_with (fail)
  go_loopw [10] (fun i wr=>Su3 a b base N base w i wr) (fun i _=>n-(intOf i).toNat)
  case atStart=>exact HST.out
  case round=>
   obtain⟨k,hk,rfl,ho,hle,hb⟩:=hrel;have HO:=hid ho;have HLE:=hid hle;have HBB:=hid hb;have hwb:=hb.size;by_cases hlt:k<n
   ·have hka:k<a.length:=by omega
    obtain⟨x,hx⟩:∃x,a[k]=x:=⟨_,rfl⟩;obtain⟨bA,KS,hA,hbA,hcA⟩:=H.out.2 (by omega);rw[hbase]at hbA;have HCA:=hid (fun(W:World) (hW:Below base w W)=>show W.cell? ⟨bA,KS+k,none⟩=some (.int .i64 x)from by rw[hW.cell (by exact hbA),hcA k hka,hx]);have hxb:=HA.out x (by rw[<- hx];exact List.getElem_mem hka);have HX:=hid hx;subst hA;clear ho hle hb hcA hx;obtain⟨pre,hpre⟩:∃pre,plL (a.take k) b=pre:=⟨_,rfl⟩;have HPR:=hid hpre;rw[hpre]at HO HLE;have HST2:=hid (show Su4 pre x b base N base w (.int .i64 (0:Nat)) wr from⟨0,Nat.zero_le _,rfl,by rw[List.take_zero,List.map_nil,List.append_nil];exact HO.out,by rw[List.take_zero,List.map_nil,List.append_nil];exact HLE.out,HBB.out⟩);clear hpre;go_wp2_with (fail)
    go_loopw [11] (fun i wr=>Su4 pre x b base N base w i wr) (fun i _=>n'-(intOf i).toNat)
    case atStart=>exact HST2.out
    case round=>
     obtain⟨j,hj,rfl,ho,hle,hb⟩:=hrel;have HO2:=hid ho;have PU:=hid hle;have HB3:=hid hb;have OI:=hb.size;by_cases hjt:j<n'
     ·have hjb:j<b.length:=by omega
      obtain⟨y,hy⟩:∃y,b[j]=y:=⟨_,rfl⟩;obtain⟨bB,KR,hA',hbB,hcB⟩:=H'.out.2 (by omega);rw[hbase]at hbB;have HCB:=hid (fun(W:World) (hW:Below base w W)=>show W.cell? ⟨bB,KR+j,none⟩=some (.int .i64 y)from by rw[hW.cell (by exact hbB),hcB j hjb,hy]);have hyb:=HB.out y (by rw[<- hy];exact List.getElem_mem hjb);have HNX:=hid (zu pre x hjb hy);have CQ:=hid (HNO.out k j hka hjb);rw[HX.out,hy]at CQ;subst hA';clear ho hle hcB hy;have s1:IntKind.i64.wrap (x+y)=x+y:=IntWalk.i64_in _ (by omega);have s2:IntKind.i64.wrap ((k:Int)+1)=(k:Int)+1:=IntWalk.i64_in _ (by omega);have s3:IntKind.i64.wrap ((j:Int)+1)=(j:Int)+1:=IntWalk.i64_in _ (by omega);have i1:(0:Int)<=(k:Int):=Int.natCast_nonneg _;have i2:(k:Int)<(n:Int):=by omega
      have i3:(0:Int)<=(j:Int):=Int.natCast_nonneg _;have i4:(j:Int)<(n':Int):=by omega
      have f1:=HCA.out wr hb;have f2:=HCB.out wr hb;clear hb;by_cases hbig:1114111<x+y
      ·have d2:decide (1114111<x+y)=true:=decide_eq_true hbig
       have HBD:=hid (CQ.out hbig);clear hbig;go_wp2_with (fail);go_quiet (fail);go_wp2_with (fail);go_ret2;exact⟨none,0,[],false,rfl,⟨fun e=>(by cases e),fun q=>absurd q HBD.out⟩,fun e=>(by cases e),Nat.le_refl _,RN.dS _ _ _,by rw[hbase];exact below_drewN HB3.out _⟩
      ·have d2:decide (1114111<x+y)=false:=decide_eq_false hbig
       obtain⟨m,hm⟩:=Int.eq_ofNat_of_zero_le (show 0<=x+y+1114111 by omega);have hmN:m<N:=by have:=HN.out;omega
       have s4:IntKind.i64.wrap (x+y+1114111)=(m:Int):=by rw[IntWalk.i64_in _ (by omega)];exact hm
       have HMK:=hid (DQ (P:=pre++(b.take j).map fun y=>x+y) (x:=x+y) (m:=m) (by omega));have i5:(0:Int)<=(m:Int):=Int.natCast_nonneg _;have i6:(m:Int)<(N:Int):=by omega
       go_wp2_with (fail);go_quiet (fail);obtain⟨w5,hw5⟩:∃w5,wr.drewN nq=w5:=⟨_,rfl⟩;have hB5:Below base w w5:=by rw[<- hw5];exact below_drewN HB3.out _
       have HB5:=hid hB5;have ho5:dW w5 base N (mkF (pre++(b.take j).map fun y=>x+y)):=by rw[<- hw5];exact HO2.out
       have f3:=HCA.out w5 hB5;have f4:=HCB.out w5 hB5;have f5:=ho5.cell hmN;have f6:=ho5.frozen m;have HNW:=hid (fun q=>show Su4 pre x b base N base w (.int .i64 ((j:Int)+1)) ((w5.drewN q).setCell ⟨base,m,none⟩ (.bool true))from⟨j+1,hjb,rfl,by rw[HNX.out,HMK.out];exact(ho5.drewN q).stored m,by
        rw[HNX.out];intro z hz;rcases List.mem_append.1 hz with h1 | h1
        ·exact PU.out z h1
        ·rw[List.mem_singleton]at h1;omega,(below_drewN HB5.out q).setCell (Nat.le_refl _) _⟩)
       rw[hw5];clear hB5 ho5 hw5 hm;go_wp2_with (fail)
       go_region
       all_goals go_wp2_with (fail)
       all_goals go_roundw
       case rel=>exact HNW.out _
       case measure=>simp[intOf];omega
     ·have hjn:j=n':=by omega
      have hst:(pre++(b.take j).map fun y=>x+y)=plL (a.take (k+1)) b:=by
       rw[uz hka,HPR.out,HX.out,List.take_of_length_le (by omega)]
      rw[hst]at ho hle;have HNW:=hid (show Su3 a b base N base w (.int .i64 ((k:Int)+1)) wr from⟨k+1,hka,rfl,ho,hle,hb⟩);have s2:IntKind.i64.wrap ((k:Int)+1)=(k:Int)+1:=IntWalk.i64_in _ (by omega);clear ho hle hb hst;go_wp2_with (fail)
      go_roundw
      case rel=>exact HNW.out
      case measure=>simp[intOf];omega
   ·have hkn:k=a.length:=by omega
    rw[hkn,List.take_length]at ho hle;obtain⟨P,hP⟩:∃P,plL a b=P:=⟨_,rfl⟩;rw[hP]at ho hle;have HG:=hid (GP (P:=P) (fun z hz=>by
     refine⟨?_,hle z hz⟩;rw[<- hP]at hz;obtain⟨x,hx,y,hy,rfl⟩:=r9.1 hz;have h1:=HA.out x hx;have h2:=HB.out y hy;omega))
    rw[<- HN.out]at HG;have HPE:=hid hP;have HOP:=hid ho;have HLP:=hid hle;obtain⟨F,hF⟩:∃F,mkF P=F:=⟨_,rfl⟩;rw[hF]at HG HOP;have HWR:=hid hb;have hgl:=ho.lt;obtain⟨b2,hb2⟩:∃b2,wr.heap.size=b2:=⟨_,rfl⟩;have HST3:=hid (show Su5 F N b2 wr (.slice none 0 0) (.int .i64 (0:Nat)) wr from⟨0,Nat.zero_le _,rfl,lJ _ _,Below.refl _ _⟩)
    rename World=>ws
    have hNb:N<=3000000:=by have:=HN.out;omega
    clear ho hle hb hP hF hmk hkn;go_wp2_with (fail)
    go_loopw [12,13] (fun v i wr=>Su5 F N b2 ws v i wr) (fun _ i _=>N-(intOf i).toNat)
    case atStart=>exact HST3.out
    case round=>
     obtain⟨k2,hk2,rfl,ho,hb⟩:=hrel;have HO:=hid ho;have HB4:=hid hb;have Qr:=hb.size;by_cases hlt2:k2<N
     ·have hmc:wr.cell? ⟨base,k2,none⟩=some (.bool (F k2)):=(hb.cell (p:=⟨base,k2,none⟩) (by show base<b2;omega)).trans (HOP.out.cell hlt2)
      have HNX:=hid (qL F k2);have hgl2:=Ez F k2;have s3:IntKind.i64.wrap ((k2:Int)+1)=(k2:Int)+1:=IntWalk.i64_in _ (by omega);have s4:IntKind.i64.wrap ((k2:Int)-1114111)=(k2:Int)-1114111:=IntWalk.i64_in _ (by omega);have i1:(0:Int)<=(k2:Int):=Int.natCast_nonneg _;have i2:(k2:Int)<(N:Int):=by omega
      obtain⟨L,hL⟩:∃L,qM F k2=L:=⟨_,rfl⟩;rw[hL]at ho hgl2;have HL:=hid hL
      cases hf:F k2 with
      | false=>
       rw[hf]at hmc;have HNW:=hid (show Su5 F N b2 ws u12 (.int .i64 ((k2:Int)+1)) wr from⟨k2+1,hlt2,rfl,by rw[HNX.out,hf];exact HO.out,HB4.out⟩);clear ho hb hL hf;go_wp2_with (fail)
       go_roundw
       case rel=>exact HNW.out
       case measure=>simp[intOf];omega
      | true=>
       rw[hf]at hmc;obtain⟨Ao,co,hvo,hco,hro⟩:=RN.iV ho;subst hvo;have HOL:=hid ho;have HNL:=hid (show qM F (k2+1)=L++[(k2:Int)-1114111]from by rw[HNX.out,hf,HL.out];rfl);clear ho hb hL hf hro;go_wp2_with (at_builtin;go_must (refine wpList_append_own _ rfl _ _ 56 rfl b2 3 i0 _ 1 8 Tryz.underlying56 hi0 hz0 hz1 hz2 rfl (by decide) (.slice Ao L.length co) L.length (L.map (Value.int .i64)) rfl (World.ownsRow.alloc HOL.out _) ⟨wr.heap.size,0,none⟩ 1 1 [.int .i64 ((k2:Int)-1114111)] rfl rfl (cell_one_new _ _ _) ?c2 ?c3 ?c4 ?c5 ?_))
       case c2=>first | rfl | (intro u hu;simp at hu;subst hu;rfl) | simp[Value.oneCell']
       case c3=>simp only[maxLen];omega
       case c4=>omega
       case c5=>first | omega | (simp only[World.size_alloc];omega)
       intro v6 w6 hown6 hg6 _;have HNW:=hid (show Su5 F N b2 ws v6 (.int .i64 ((k2:Int)+1)) w6 from⟨k2+1,hlt2,rfl,by
        rw[HNL.out];unfold bD;rw[List.length_append,List.map_append];exact hown6,((HB4.out.alloc (by omega) _).grown hg6 (by simp;omega) (fun q hq=>(World.ownsRow.lt HOL.out q hq).1))⟩)
       clear hown6 hg6;go_wp2_with (fail)
       go_roundw
       case rel=>exact HNW.out
       case measure=>simp[intOf];omega
     ·have hkN:k2=N:=by omega
      rw[hkN]at ho;obtain⟨Ao,co,hvo,hco,hro⟩:=RN.iV ho;subst hvo;obtain⟨L,hL⟩:∃L,qM F N=L:=⟨_,rfl⟩;rw[hL]at HG hco hro ⊢;have HFI:=hid (show tI a b w (.returned (.tuple #[.slice Ao L.length co,.bool true])) wr from⟨Ao,co,L,true,rfl,⟨fun _=>by rw[HPE.out];exact HLP.out,fun _=>rfl⟩,fun _=>by rw[HPE.out];exact HG.out,hco,hro,by rw[hbase];exact HWR.out.trans (hb.mono (by have:=HWR.out.size;omega))⟩);clear ho hb hL hro;go_wp2_with (fail);go_ret2;exact HFI.out
end Go.Proofs.YtbdmcibcenhpnaaGreatDoor.Rg
