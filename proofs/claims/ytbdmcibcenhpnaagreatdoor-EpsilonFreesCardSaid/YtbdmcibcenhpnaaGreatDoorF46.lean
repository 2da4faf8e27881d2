import Derived.Test.YtbdmcibcenhpnaaGreatDoorF35
import Derived.Test.YtbdmcibcenhpnaaGreatDoorF45
namespace Go.Proofs.YtbdmcibcenhpnaaGreatDoor.Rg
set_option maxHeartbeats 64000000
set_option maxRecDepth 100000
open Go Go.RowKit Go.Shelf Go.Maps Sp Pa Te Mi Sh Fi De
open Go.Lib (hid)
theorem bJ {w W W':World} (h1:Below w.heap.size w W) (h2:Below W.heap.size W W'):Below w.heap.size w W':=h1.trans (h2.mono h1.size)
theorem Hl (i:Int):(Fi.dK i).length<=2:=by
 unfold Fi.dK;by_cases h1:i=1
 ·rw[if_pos h1];decide
 ·rw[if_neg h1]
  by_cases h2:i=2
  ·rw[if_pos h2];decide
  ·rw[if_neg h2];decide
def Mr (i:Int) (gs:List (List Span)) (w:World) (v:Value) (wr:World):Prop:=∃k:Nat,k<=gs.length/\v = .int .i64 k/\(∀j (hj:j<gs.length),j<k->bp i gs[j]=true)/\Below w.heap.size w wr
theorem zq {i:Int} {g:List Span} : CK i g=true↔∀x,¬ (mem g x/\¬ mem (Fi.dK i) x):=by unfold CK;exact @decide_eq_true_iff _ (Classical.propDecidable _)
theorem lH {g:List Span} : dP g=true↔Plain g:=by unfold dP;exact @decide_eq_true_iff _ (Classical.propDecidable _)
theorem lu (i:Int) (G:Option Addr) (gc:Nat) (gs:List (List Span)) (w:World) (hg:RGs w G gs.length gs) (hl:gs.length<=maxLen) (hm:∀g∈gs,g.length<=maxLen) :
  Calls Tryz.prog 32 #[.int .i64 i,.slice G gs.length gc] w (dY (aG i gs) w):=by
 have HG:=hid hg;have HM:=hid hm;clear hg hm;unfold maxLen at hl;obtain⟨v,hv⟩:∃v,aG i gs=v:=⟨_,rfl⟩;rw[hv];have HV:=hid hv;clear hv;have HST:=hid (show Mr i gs w (.int .i64 (0:Nat)) w from⟨0,Nat.zero_le _,rfl,fun j _ h=>absurd h (by omega),Below.refl _ _⟩);go_enter Tryz.func32,Tryz.ntmps32;go_wp2_with (fail)
 go_loopw [5] (fun v wr=>Mr i gs w v wr) (fun v _=>gs.length-(intOf v).toNat)
 case atStart=>exact HST.out
 case round=>
  obtain⟨k,hk,rfl,hok,hb⟩:=hrel;have HB:=hid hb;have HOK:=hid hok;by_cases hlt:k<gs.length
  case neg=>
   have hvl:v=decide ((gs.length:Int)<=4):=by
    rw[<- HV.out];unfold aG;rw[uW hlt hk hok,Bool.and_true];exact decide_eq_decide.2 ⟨fun q=>by omega,fun q=>by omega⟩
   have HVL:=hid hvl;clear hok hb hvl;go_wp2_with (fail);go_ret;exact⟨by rw[HVL.out];rfl,HB.out⟩
  obtain⟨b,off,Aj,cj,hA,hbB,hcj,hrj,hcc,_⟩:=(HG.out.ah hb).at_ hlt;have HMX:=hid (HM.out _ (List.getElem_mem hlt));have HRJ:=hid hrj;subst hA;clear hrj hb hok hcc;have HVF:=hid (fun(h:bp i gs[k]=false)=>show v=false by rw[<- HV.out];unfold aG;rw[uX hlt h,Bool.and_false]);obtain⟨g,hgk⟩:∃g,gs[k]=g:=⟨_,rfl⟩;have HNX:=hid (fun(h:bp i g=true) W (hW:Below w.heap.size w W)=>show Mr i gs w (.int .i64 ((k:Int)+1)) W from⟨k+1,hlt,rfl,fun j hj hjk=>by
   rcases Nat.lt_or_ge j k with q | q
   ·exact HOK.out j hj q
   ·obtain rfl:j=k:=by omega
    rw[hgk];exact h,hW⟩)
  rw[hgk]at hcj HMX HRJ HVF;clear hgk;obtain⟨nk,hnk⟩:∃nk,g.length=nk:=⟨_,rfl⟩;have HNK:=hid hnk;rw[hnk]at hcj HMX HRJ;clear hnk;have s1:IntKind.i64.wrap ((k:Int)+1)=(k:Int)+1:=IntWalk.i64_in _ (by omega);have i1:(0:Int)<=(k:Int):=Int.natCast_nonneg _;have i2:(k:Int)<(gs.length:Int):=by omega
  rcases Nat.eq_zero_or_pos nk with z | z
  ·subst z
   obtain rfl:v=false:=HVF.out (by unfold bp;rw[HNK.out];rfl);go_wp2_with (fail);go_ret;exact⟨rfl,HB.out⟩
  have hz:((nk:Int) == 0)=false:=by simp;omega
  have hz2:decide ((nk:Int)=0)=false:=decide_eq_false (by omega);by_cases k64:nk<=64
  case neg=>
   obtain rfl:v=false:=HVF.out (by unfold bp;rw[HNK.out,decide_eq_false k64];simp);have LA:decide ((64:Int)<(nk:Int))=true:=decide_eq_true (by omega);go_wp2_with (fail);go_ret;exact⟨rfl,HB.out⟩
  have LA:decide ((64:Int)<(nk:Int))=false:=decide_eq_false (by omega);go_wp2_with (fail);refine(iO Aj nk cj g wr HRJ.out (by omega)).mono ?_;rintro e w2 ⟨v2,o2,rfl,his2,ho2,hb2⟩;obtain⟨A2,c2,rfl,hc2,hr2⟩:=aF ho2;have HB2:=hid (bJ HB.out hb2);have Lc:=hid (HRJ.out.ah hb2);have hsh2:=his2.1.short;have HSA:=hid (Sp.uh Aj A2 nk o2.length cj c2 g o2 w2 Lc.out hr2 (by omega) (by omega));have hpl:decide (g=o2)=dP g:=by
   by_cases e:Plain g
   ·rw[lH.2 e]
    exact decide_eq_true (Is.eq (Is.self e) his2 fun _=>Iff.rfl)
   ·rw[show dP g=false from by rw[Bool.eq_false_iff];exact fun q=>e (lH.1 q)]
    exact decide_eq_false fun q=>e (by rw[q];exact his2.1)
  rw[hpl]at HSA;clear his2 ho2 hb2 hr2 hpl;obtain⟨b2,hbq⟩:∃b2,dP g=b2:=⟨_,rfl⟩;have HQ:=hid hbq;rw[hbq]at HSA;clear hbq;go_wp2_with (fail);refine HSA.out.mono ?_;rintro e w3 ⟨rfl,hb3⟩;have HB3:=hid (bJ HB2.out hb3);have Pw:=hid (Lc.out.ah hb3);clear hb3
  cases b2
  ·obtain rfl:v=false:=HVF.out (by unfold bp;rw[HQ.out];simp)
   go_wp2_with (fail);go_ret;exact⟨rfl,HB3.out⟩
  go_wp2_with (fail);refine(ql i w3).mono ?_;rintro e w4 ⟨A4,c4,rfl,hr4,hb4,hc4⟩;have HB4:=hid (bJ HB3.out hb4);have hd2:=Hl i;have HMK:=hid (Ft Aj A4 nk (Fi.dK i).length cj c4 g (Fi.dK i) w4 (Pw.out.ah hb4) hr4 (by omega) (by omega));clear hr4 hb4 hc4;go_wp2_with (fail);refine HMK.out.mono ?_;rintro e w5 ⟨v5,o5,rfl,his5,ho5,hb5⟩;obtain⟨A5,c5,rfl,hc5,hr5⟩:=aF ho5;have HB5:=hid (bJ HB4.out hb5);have hz5:o5=[]↔CK i g=true:=by
   rw[his5.cQ,zq]
   constructor
   ·rintro q y ⟨hy,z⟩
    refine q y ⟨hy.1,?_⟩;unfold inP;simp[eP hy,eT z]
   ·rintro q y ⟨_,hy⟩
    unfold inP at hy;rw[if_neg (by decide),if_pos rfl]at hy;simp only[Bool.and_eq_true,Bool.not_eq_true']at hy;exact q y ⟨fH.1 hy.1,fun z=>by rw[eP z]at hy;exact absurd hy.2 (by decide)⟩
  have HZ5:=hid hz5;obtain⟨n5,hn5⟩:∃n5,o5.length=n5:=⟨_,rfl⟩;have HN5:=hid hn5;rw[hn5]at hc5 hr5 ⊢;clear his5 ho5 hb5 hr5 hz5 hn5;obtain⟨b4,hbq⟩:∃b4,CK i g=b4:=⟨_,rfl⟩;have HQ4:=hid hbq;clear hbq
  cases b4
  ·obtain rfl:v=false:=HVF.out (by unfold bp;rw[HQ4.out];simp)
   have hn0:0<n5:=by
    rcases Nat.eq_zero_or_pos n5 with q | q
    ·have:=HZ5.out.1 (List.eq_nil_of_length_eq_zero (by rw[HN5.out];exact q))
     rw[HQ4.out]at this;cases this
    ·exact q
   have d0:decide ((0:Int)<(n5:Int))=true:=decide_eq_true (by omega);go_wp2_with (fail);go_ret;exact⟨rfl,HB5.out⟩
  ·have hn0:n5=0:=by rw[<- HN5.out,HZ5.out.2 HQ4.out];rfl
   subst hn0;have HNW:=hid (HNX.out (by unfold bp;rw[HNK.out,decide_eq_true z,decide_eq_true k64,HQ.out,HQ4.out];rfl) w5 HB5.out);go_wp2_with (fail)
   go_roundw
   case rel=>exact HNW.out
   case measure=>simp[intOf];omega
theorem JU {i:Int} {gs:List (List Span)} (h:aG i gs=true) (hi:i=1\/i=2):IL i gs:=by
 unfold aG at h;rw[Bool.and_eq_true,decide_eq_true_eq]at h;have key:∀g∈gs,0<g.length/\g.length<=64/\Plain g/\∀x,¬ (mem g x/\¬ mem (Fi.dK i) x):=fun g hg=>by
  have:=List.all_eq_true.1 h.2 g hg;unfold bp at this;simp only[Bool.and_eq_true,decide_eq_true_eq]at this;exact⟨this.1,this.2.1,lH.1 this.2.2.1,zq.1 this.2.2.2⟩
 have hin:∀g∈gs,∀x,mem g x->mem (Fi.dK i) x:=fun g hg x hx=>Classical.byContradiction fun q=>(key g hg).2.2.2 x ⟨hx,q⟩
 have hd1:∀x,mem (Fi.dK 1) x->0<=x/\x<=255:=fun x hx=>by
  have:mem [(0,255)] x:=hx;rw[aN]at this;exact this.2
 refine⟨h.1,fun g hg=>by have:=(key g hg).2.1;omega,fun g hg=>?_,fun g hg x hx=>?_,fun e g hg x hx=>?_⟩
 ·obtain⟨h1,_,h3,_⟩:=key g hg
  exact⟨_,(dB h3 (fun e=>by rw[e]at h1;simp at h1)).1⟩
 ·have:=hin g hg x hx
  rcases hi with rfl | rfl
  ·have:=hd1 x this
   unfold Sy;omega
  ·obtain⟨_,p,hp,a,b⟩:=this
   have hp':p=(0,55295)\/p=(57344,1114111):=by simpa[Fi.dK]using hp
   unfold Sy;rcases hp' with rfl | rfl;all_goals
    simp only at a b;omega
 ·subst e
  exact hd1 x (hin g hg x hx)
def Mq (F:TmL->Bool) (ts:List TmL) (w:World) (v:Value) (wr:World):Prop:=∃k:Nat,k<=ts.length/\v = .int .i64 k/\(∀j (hj:j<ts.length),j<k->F ts[j]=true)/\Below w.heap.size w wr
theorem kY (i o n s:Int) (A:Option Addr) (r cr:Nat) (B:Option Addr) (f cf:Nat) (T:Option Addr) (tc:Nat) (ts:List TmL) (G:Option Addr) (gc:Nat) (gs:List (List Span)) (w:World) (ht:RTm w T ts.length ts) (hg:RGs w G gs.length gs) (hgs:IL i gs) :
  Calls Tryz.prog 33 #[dsc i o n s A r cr B f cf,.slice T ts.length tc,.slice G gs.length gc] w (dY (bH (eB i o gs) ts) w):=by
 obtain⟨w1,hw1⟩:∃w1,w.alloc (.cells #[.int .i64 i,.int .i64 o,.int .i64 n,.int .i64 s,.slice A r cr,.slice B f cf] 26)=w1:=⟨_,rfl⟩;have hs1:w1.heap.size=w.heap.size+1:=by rw[<- hw1];simp
 have hb1:Below w.heap.size w w1:=by rw[<- hw1];exact(Below.refl _ _).alloc (Nat.le_refl _) _
 have hd1:DB w1 w.heap.size i o n s A r cr B f cf:=by rw[<- hw1];exact DB.boxed
 have HD1:=hid hd1;have HB1:=hid hb1;have HT:=hid (ht.ah hb1);have HG:=hid (hg.ah hb1);have HGS:=hid hgs;obtain⟨v,hv⟩:∃v,bH (eB i o gs) ts=v:=⟨_,rfl⟩;rw[hv];have HV:=hid hv;have HST:=hid (show Mq (eB i o gs) ts w1 (.int .i64 (0:Nat)) w1 from⟨0,Nat.zero_le _,rfl,fun j _ h=>absurd h (by omega),Below.refl _ _⟩);clear hd1 hb1 ht hg hgs hv;by_cases k64:ts.length<=64
 case neg=>
  obtain rfl:v=false:=by rw[<- HV.out];unfold bH;rw[decide_eq_false k64];rfl
  have d1:decide ((ts.length:Int)<=64)=false:=decide_eq_false (by omega);have d0:decide ((0:Int)<(ts.length:Int))=true:=decide_eq_true (by omega);go_enter Tryz.func33,Tryz.ntmps33;go_wp2_with (fail)
  go_loopw [7] (fun v wr=>v = .int .i64 0/\wr=w1) (fun v _=>ts.length-(intOf v).toNat)
  case atStart=>exact⟨rfl,rfl⟩
  case round=>
   obtain⟨rfl,rfl⟩:=hrel;go_wp2_with (fail);go_ret;exact⟨rfl,HB1.out⟩
 have d1:decide ((ts.length:Int)<=64)=true:=decide_eq_true (by omega);go_enter Tryz.func33,Tryz.ntmps33;go_wp2_with (fail)
 go_loopw [7] (fun v wr=>Mq (eB i o gs) ts w1 v wr) (fun v _=>ts.length-(intOf v).toNat)
 case atStart=>exact HST.out
 case round=>
  obtain⟨k,hk,rfl,hok,hb⟩:=hrel;have HB:=hid hb;have HOK:=hid hok;have hwr:=hb.size;by_cases hlt:k<ts.length
  case neg=>
   obtain rfl:v=true:=by rw[<- HV.out];unfold bH;rw[decide_eq_true k64,J7 hlt hok];rfl
   have d2:decide ((k:Int)<(ts.length:Int))=false:=decide_eq_false (by omega);clear hok hb;go_wp2_with (fail);go_ret;exact⟨rfl,HB1.out.trans (HB.out.mono (by omega))⟩
  have d2:decide ((k:Int)<(ts.length:Int))=true:=decide_eq_true (by omega);obtain⟨b,off,hA,hbB,d3,d4,d5,d6,d7,A',c',d8,hp,hc,hm⟩:=(HT.out.ah hb).at_ hlt;obtain⟨q0,q1,q2,q3,q4,q5⟩:=HD1.out.below (by omega) hb;obtain⟨t,htt⟩:∃t,ts[k]=t:=⟨_,rfl⟩;have HVF:=hid (fun(h:eB i o gs ts[k]=false)=>show v=false by rw[<- HV.out];unfold bH;rw[J8 hlt h,Bool.and_false]);have HNX:=hid (fun(h:eB i o gs t=true) W (hW:Below w1.heap.size w1 W)=>show Mq (eB i o gs) ts w1 (.int .i64 ((k:Int)+1)) W from⟨k+1,hlt,rfl,fun j hj hjk=>by
   rcases Nat.lt_or_ge j k with q | q
   ·exact HOK.out j hj q
   ·obtain rfl:j=k:=by omega
    rw[htt];exact h,hW⟩)
  rw[htt]at d3 d4 d5 d6 d7 d8 hp hc hm HVF;obtain⟨np,hnp⟩:∃np,t.ps.length=np:=⟨_,rfl⟩;rw[hnp]at d8 hp hc hm;have HFI:=hid (fun W (hW:Below wr.heap.size wr W)=>Bw t.b t.d t.t t.u t.s i o A' np c' t.ps G gc gs (eB i o gs t) W (hp.ah hW) hm ((HG.out.ah HB.out).ah hW) HGS.out (kF i o gs t));subst hA;have s1:IntKind.i64.wrap ((k:Int)+1)=(k:Int)+1:=IntWalk.i64_in _ (by omega);have i1:(0:Int)<=(k:Int):=Int.natCast_nonneg _;have i2:(k:Int)<(ts.length:Int):=by omega
  clear hok hb hp hc hm htt hnp q2 q3 q4 q5;obtain⟨fv,hfv⟩:∃fv,eB i o gs t=fv:=⟨_,rfl⟩;have HFV:=hid hfv;rw[hfv]at HFI;clear hfv;go_wp2_with (fail)
  go_region_held3 (fun w'=>w'.cell? ⟨b,off+k*6,none⟩=some (.int .i64 t.b)/\w'.cell? ⟨b,off+k*6+1,none⟩=some (.int .i64 t.d)/\w'.cell? ⟨b,off+k*6+2,none⟩=some (.int .i64 t.t)/\w'.cell? ⟨b,off+k*6+3,none⟩=some (.int .i64 t.u)/\w'.cell? ⟨b,off+k*6+4,none⟩=some (.int .i64 t.s)/\w'.cell? ⟨b,off+k*6+5,none⟩=some (.slice A' np c')/\w'.cell? ⟨w.heap.size,0,none⟩=some (.int .i64 i)/\w'.cell? ⟨w.heap.size,1,none⟩=some (.int .i64 o))
   (first
    | go_keep
    | (go_split_ands;refine⟨?_,?_,?_,?_,?_,?_,?_,?_⟩;all_goals (rw[hb6.cell (by simp;omega)];assumption)))
   (first
    | (go_at_call 49;refine(HFI.out _ (Below.refl _ wr).drew).mono ?_;rintro e w6 ⟨rfl,hb6⟩))
  have uU:Below w1.heap.size w1 w6:=HB.out.trans (((Below.refl wr.heap.size wr).drew.trans hb6).mono hwr);have HB6:=hid uU;clear hb6 uU
  cases fv with
  | false=>
   obtain rfl:v=false:=HVF.out HFV.out;go_wp2_with (fail);go_ret;exact⟨rfl,HB1.out.trans (HB6.out.mono (by omega))⟩
  | true=>
   have HNW:=hid (HNX.out HFV.out w6 HB6.out);go_wp2_with (fail)
   go_roundw
   case rel=>exact HNW.out
   case measure=>simp[intOf];omega
end Go.Proofs.YtbdmcibcenhpnaaGreatDoor.Rg
