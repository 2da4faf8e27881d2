import Derived.Test.YtbdmcibcenhpnaaGreatDoorF26
import Derived.Test.YtbdmcibcenhpnaaGreatDoorF31
namespace Go.Proofs.YtbdmcibcenhpnaaGreatDoor.Fi
set_option maxHeartbeats 64000000
set_option maxRecDepth 100000
open Go Go.RowKit Sp Pa Te Mi
open Go.Lib (hid)
theorem Dz (n:Nat):(2:Int) ^ n=pw (n:Int):=by unfold pw;rw[Int.toNat_natCast]
attribute [local go_sem] jw Dz
theorem Bb {d t u:Int} {a:Int} {s:List Span} (hb:Bits d t u) (hs:∀x,mem s x->Sy x) (y:Int):Iu d t u s y↔gX [(a,d,t,u)] s y:=by
 unfold Iu gX CR
 constructor
 ·rintro⟨x,⟨_,hm,_,_⟩,rfl⟩
  exact⟨x,hm,jZ _ _⟩
 ·rintro⟨x,hm,rfl⟩
  have:=hs x hm;unfold Sy at this;exact⟨x,⟨hb,hm,by omega,by omega⟩,(jZ (a,d,t,u) x).symm⟩
theorem AB (A G:Option Addr) (c n cg:Nat) (a d t u:Int) (s:List Span) (w:World) (h:RP w w.heap.size A 1 [(a,d,t,u)]) (hb:Bits d t u) (hg:RS w w.heap.size G n s) (hn:n<=1099511627776) (hc:n<=cg) (hs:∀x,mem s x->Sy x) :
  Calls Tryz.prog 109 #[.slice A 1 c,.slice G n cg] w (aP (gX [(a,d,t,u)] s) w):=by
 obtain⟨bb,off,a',d',t',u',hA',hbB,⟨_,hlk⟩,c1,c2,c3,c4⟩:=h.at_ (k:=0) (by omega);simp only[List.getElem_cons_zero,Prod.mk.injEq]at hlk;obtain⟨rfl,rfl,rfl,rfl⟩:=hlk;subst hA';simp only[Nat.zero_mul,Nat.add_zero]at c1 c2 c3 c4;have HI:=hid (qI a d t u G n cg s w hg hn hc);have HJ:=hid (Bb (a:=a) hb hs);clear h hg;go_enter Tryz.func109,Tryz.ntmps109;go_wp2_with (fail);refine HI.out.mono ?_;intro e w1 hq;obtain⟨v,out,rfl,h1,h2,h3⟩:=hq;have HF:=hid (show aP (gX [(a,d,t,u)] s) w (.returned v) w1 from⟨v,out,rfl,h1.congr HJ.out,h2,h3⟩);clear h1 h2 h3;go_wp2_with (fail);go_ret;exact HF.out
def Aside (w:World) (v o:Value) (b:Nat):Prop:=b<w.heap.size/\v.ownBlock≠some b/\o.ownBlock≠some b
theorem Aside.below {w w':World} {v o:Value} {b:Nat} (h:Aside w v o b) (hs:w.heap.size<=w'.heap.size):Aside w' v o b:=⟨Nat.lt_of_lt_of_le h.1 hs,h.2⟩
def Apart (w:World) (v o:Value) (A:Option Addr) (p:List Span):Prop:=RS w w.heap.size A p.length p/\∀b off,A=some ⟨b,off,none⟩->Aside w v o b
theorem Apart.below {w w':World} {v o:Value} {A:Option Addr} {p:List Span} (h:Apart w v o A p) (hb:Below w.heap.size w w'):Apart w' v o A p:=⟨h.1.ah hb,fun b off e=>(h.2 b off e).below hb.size⟩
theorem Aside.low {w w':World} {v v' o:Value} {b g H:Nat} (h:Aside w v o b) (hg:w.grownBy w' v.ownBlock) (hv:v'.ownBlock=some g) (hat:v.ownBlock=some g\/g=H) (hH:w.heap.size<=H):Aside w' v' o b/\∀i,w'.cell? ⟨b,i,none⟩=w.cell? ⟨b,i,none⟩:=by
 obtain⟨h1,h2,h3⟩:=h;refine⟨⟨by have:=hg.size;omega,fun e=>?_,h3⟩,fun i=>World.cell?_of_block (a:=⟨b,i,none⟩) (hg.block b h1 (fun e=>h2 e.symm))⟩;rw[hv]at e;injection e with e;rcases hat with k | k
 ·exact h2 (by rw[k,e])
 ·omega
theorem Aside.out {w w':World} {v o o':Value} {b g H:Nat} (h:Aside w v o b) (hg:w.grownBy w' o.ownBlock) (hv:o'.ownBlock=some g) (hat:o.ownBlock=some g\/g=H) (hH:w.heap.size<=H):Aside w' v o' b/\∀i,w'.cell? ⟨b,i,none⟩=w.cell? ⟨b,i,none⟩:=by
 obtain⟨h1,h2,h3⟩:=h;refine⟨⟨by have:=hg.size;omega,h2,fun e=>?_⟩,fun i=>World.cell?_of_block (a:=⟨b,i,none⟩) (hg.block b h1 (fun e=>h3 e.symm))⟩;rw[hv]at e;injection e with e;rcases hat with k | k
 ·exact h3 (by rw[k,e])
 ·omega
theorem Apart.low {w w':World} {v v' o:Value} {g H:Nat} {A:Option Addr} {p:List Span} (h:Apart w v o A p) (hg:w.grownBy w' v.ownBlock) (hv:v'.ownBlock=some g) (hat:v.ownBlock=some g\/g=H) (hH:w.heap.size<=H):Apart w' v' o A p:=
 ⟨fu h.1 hg (fun b off e=>(h.2 b off e).2.1),fun b off e=>((h.2 b off e).low hg hv hat hH).1⟩
theorem Apart.out {w w':World} {v o o':Value} {g H:Nat} {A:Option Addr} {p:List Span} (h:Apart w v o A p) (hg:w.grownBy w' o.ownBlock) (hv:o'.ownBlock=some g) (hat:o.ownBlock=some g\/g=H) (hH:w.heap.size<=H):Apart w' v o' A p:=
 ⟨fu h.1 hg (fun b off e=>(h.2 b off e).2.2),fun b off e=>((h.2 b off e).out hg hv hat hH).1⟩
def Km (ps:List PT) (L:List (List Span)):Prop:=0<L.length/\L.length<=22/\∀(j:Nat) (h:j<L.length),Is L[j] (yJ ps j)
def JoS (ps:List PT) (w:World) (Ap:Option Addr) (p:List Span) (S:Int->Prop) (N:Int) (L:List (List Span)) (v o:Value) (wr:World):Prop:=
 ∃X,dH wr w.heap.size v o L X/\Km ps L/\(∀y,mem X y↔S y)/\(X.length:Int)<=N/\Below w.heap.size w wr/\Apart wr v o Ap p
def Cu (ps:List PT) (w:World) (Ap:Option Addr) (p:List Span) (v o i:Value) (wr:World):Prop:=∃(k:Nat) (L:List (List Span)),k<=p.length/\i = .int .i64 k/\JoS ps w Ap p (gX ps (p.take k)) (cnt (p.take k)) L v o wr
def SpB (wr:World) (v o:Value) (B:Nat) (lo hi:Int):Prop:=Aside wr v o B/\wr.cell? ⟨B,0,none⟩=some (.int .i64 lo)/\wr.cell? ⟨B,1,none⟩=some (.int .i64 hi)
theorem SpB.below {wr w':World} {v o:Value} {B:Nat} {lo hi:Int} (h:SpB wr v o B lo hi) (hb:Below wr.heap.size wr w'):SpB w' v o B lo hi:=⟨h.1.below hb.size,(hb.cell (p:=⟨B,0,none⟩) h.1.1).trans h.2.1,(hb.cell (p:=⟨B,1,none⟩) h.1.1).trans h.2.2⟩
def Ct (ps:List PT) (w:World) (Ap:Option Addr) (p:List Span) (S:Int->Prop) (N lo hi:Int) (B:Nat) (v o x:Value) (wr:World):Prop:=∃(z:Int) (L:List (List Span)),x = .int .i64 z/\lo<=z/\z<=hi+1/\JoS ps w Ap p (fun y=>S y\/tJ ps lo z y) (N+(z-lo)) L v o wr/\SpB wr v o B lo hi
def Cr (ps:List PT) (w:World) (Ap:Option Addr) (p:List Span) (S:Int->Prop) (N lo hi:Int) (B:Nat) (o v k:Value) (wr:World):Prop:=∃(L:List (List Span)),k = .int .i64 ((L.length-1:Nat):Int)/\JoS ps w Ap p S N L v o wr/\SpB wr v o B lo hi
theorem DX {ps:List PT} (h:BitsAll ps) (hl:ps.length<=8) {k:Nat} {l out:List Span} (hi:Is l (yJ ps k)) (ho:Is out (fun y=>mem l y\/(Rng y/\mem l (y-dJ ps (pw k))))):Is out (yJ ps (k+1)):=by
 refine ho.congr fun y=>?_
 rw[Ai h,<- hi.2,<- hi.2]
 constructor
 ·rintro(q | ⟨_,q⟩)
  ·exact .inl q
  ·exact .inr q
 ·rintro(q | q)
  ·exact .inl q
  ·refine .inr ⟨?_,q⟩
   obtain⟨z,_,_,e⟩:=(hi.2 _).1 q;have h1:=bk h z;have h2:=bk h (pw k);unfold Rng;omega
theorem CZ (A A':Option Addr) (n c1 c2:Nat) (l r:List Span) (w:World) (hnl:l.length=n) (h:RS w w.heap.size A n l) (h':RS w w.heap.size A' r.length r) (hn:n<=68719476736) (hn':r.length<=68719476736) (hnil:A=none->l=[]/\c1=0) (sN:A'=none->r=[]/\c2=0) :
  Calls Tryz.prog 125 #[.slice A n c1,.slice A' r.length c2] w (aP (fun x=>mem l x\/mem r x) w):=by
 subst hnl;exact yU A A' c1 c2 l r w h h' hn hn' hnil sN
theorem AF (A G:Option Addr) (m c n cg:Nat) (ps:List PT) (s:List Span) (w:World) (h:RP w w.heap.size A m ps) (hb:BitsAll ps) (hm:m<=8) (hg:RS w w.heap.size G n s) (hn:n<=1099511627776) (hc:n<=cg) (hs:∀x,mem s x->Sy x) (hne:∃x,mem s x) (hT:jh w) :
  Calls Tryz.prog 109 #[.slice A m c,.slice G n cg] w (aP (gX ps s) w):=by
 have hlen:=h.1;by_cases h1:m=1
 ·subst h1
  match ps,hlen,hb,h with
  | [(a,d,t,u)],_,hb,h=>exact AB A G c n cg a d t u s w h (hb _ (List.mem_singleton.2 rfl)) hg hn hc hs
 by_cases h0:m=0
 ·subst h0
  obtain rfl:ps=[]:=List.eq_nil_of_length_eq_zero hlen;obtain⟨u1,hu1⟩:∃u1,w.alloc (.cells #[.int .i64 0,.int .i64 0] 47)=u1:=⟨_,rfl⟩;have Le:=hid (show aP (gX [] s) w (.returned (.slice (some ⟨w.heap.size,0,none⟩) 1 1)) u1 from by
   refine⟨_,[(0,0)],rfl,⟨⟨List.pairwise_singleton _ _,fun q hq=>by obtain rfl:=List.mem_singleton.1 hq;unfold Ok;simp only;omega⟩,fun y=>?_⟩,?_,by rw[<- hu1];exact(Below.refl _ _).alloc (Nat.le_refl _) _⟩
   ·rw[aN]
    unfold Rng gX;obtain⟨x,hx⟩:=hne
    constructor
    ·rintro⟨_,q1,q2⟩
     exact⟨x,hx,by rw[j7];simp only at q1 q2;omega⟩
    ·rintro⟨x',_,q⟩
     rw[j7]at q;simp only;omega
   ·have:=World.ownsRow_lit (base:=w.heap.size) (e:=47) (size:=2) w #[.int .i64 0,.int .i64 0] 1 (Nat.le_refl _) (by simp only[maxLen];omega) rfl
    rw[hu1]at this;exact this)
  clear h hb hg hs hne hT;go_enter Tryz.func109,Tryz.ntmps109;go_wp2_with (fail);go_ret;exact Le.out
 clear hne;obtain⟨i0,hi0,hz0,hz1,hz2⟩:=info_parts oM;obtain⟨j0,hj0,hx0,hx1,hx2⟩:=info_parts bQ;have hm1:((m:Int) == 1)=false:=by simp;omega
 have hm0:((m:Int) == 0)=false:=by simp;omega
 subst hlen;obtain⟨u1,hu1⟩:∃u1,w.alloc (.cells #[.int .i64 0,.int .i64 0] 47)=u1:=⟨_,rfl⟩;have k1:Below w.heap.size w u1:=by rw[<- hu1];exact(Below.refl _ _).alloc (Nat.le_refl _) _
 have hsu1:u1.heap.size=w.heap.size+1:=by rw[<- hu1];simp
 have hr1:RS u1 u1.heap.size (some ⟨w.heap.size,0,none⟩) 1 [(0,0)]:=uK (by omega) (by rw[<- hu1];exact heap_alloc_new w _);obtain⟨u2,hu2⟩:∃u2,u1.alloc (.cells #[.slice (some ⟨w.heap.size,0,none⟩) 1 1] 48)=u2:=⟨_,rfl⟩;have k2:Below u1.heap.size u1 u2:=by rw[<- hu2];exact(Below.refl _ _).alloc (Nat.le_refl _) _
 have hsu2:u2.heap.size=w.heap.size+1+1:=by rw[<- hu2];simp[hsu1]
 have hlow:dH u2 w.heap.size (.slice (some ⟨w.heap.size+1,0,none⟩) 1 1) (.slice none 0 0) [[(0,0)]] []:=by
  refine⟨[.slice (some ⟨w.heap.size,0,none⟩) 1 1],?_,fun j hj=>?_,World.ownsRow_nil _ _ _ _,fun b _=>by simp[Value.ownBlock]⟩
  ·have:=World.ownsRow_lit (base:=w.heap.size) (e:=48) (size:=1) u1 #[.slice (some ⟨w.heap.size,0,none⟩) 1 1] 1 (by omega) (by simp only[maxLen];omega) rfl
   rw[hu2,hsu1]at this;exact this
  ·obtain rfl:j=0:=by simp at hj;omega
   refine⟨some ⟨w.heap.size,0,none⟩,1,rfl,hr1.ah k2,Nat.le_refl _,(fun e=>by cases e),fun b off e=>?_⟩;injection e with e;injection e with e1 e2;refine⟨by omega,?_,by simp[Value.ownBlock]⟩;intro q;have q:w.heap.size+1=b:=by simpa[Value.ownBlock]using q
   omega
 have jJ:=hid hlow;have HB2:=hid (k1.trans (k2.mono (by omega)));have HG:=hid (hg.ah HB2.out);have HN:=hid (fF G n cg s u2 HG.out hn);have H:=hid h;have HBT:=hid hb;have HS:=hid hs;have HTB:=hid hT;have hml:ps.length<=8:=hm;clear h hg hb hs hT hlow k1 k2 hr1;go_enter Tryz.func109,Tryz.ntmps109;go_wp2_with (fail);refine HN.out.mono ?_;intro e w3 hq;obtain⟨v3,p,rfl,his,ho3,hb3⟩:=hq;obtain⟨Ap,cp,hv3,hcp,hr3⟩:=aF ho3;have hlt3:=fun b off (e:Ap=some ⟨b,off,none⟩)=>World.ownsRow.lt ho3 b (by rw[hv3,e];rfl)
 subst hv3;have hps:=his.1.short;have HP:=hid his;have HB3:=hid (HB2.out.trans (hb3.mono HB2.out.size));have hsz3:=hb3.size;have HST:=hid (show Cu ps w Ap p (.slice (some ⟨w.heap.size+1,0,none⟩) 1 1) (.slice none 0 0) (.int .i64 (0:Nat)) w3 from⟨0,[[(0,0)]],Nat.zero_le _,rfl,[],jJ.out.below hb3,⟨by simp,by simp,fun j hj=>by
   obtain rfl:j=0:=by simp at hj;omega
   refine⟨⟨List.pairwise_singleton _ _,fun q hq=>by obtain rfl:=List.mem_singleton.1 hq;unfold Ok;simp only;omega⟩,fun y=>?_⟩;rw[Ah];show mem [(0,0)] y↔_;rw[aN];unfold Rng;simp only;omega⟩,fun y=>⟨fun q=>absurd q (aI y),fun⟨x,hx,_⟩=>absurd hx (aI x)⟩,by simp[cnt],HB3.out,hr3,fun b off e=>by
    have:=hlt3 b off e;refine⟨this.2,fun q=>?_,by simp[Value.ownBlock]⟩;have q:w.heap.size+1=b:=by simpa[Value.ownBlock]using q
    omega⟩)
 clear his ho3 hb3 hr3 hlt3;go_wp2_with (fail)
 go_loopw [5,6,31] (fun v o i wr=>Cu ps w Ap p v o i wr) (fun _ _ i _=>p.length-(intOf i).toNat)
 case atStart=>exact HST.out
 case round=>
  obtain⟨k,L,hk,rfl,hjo⟩:=hrel;by_cases hlt:k<p.length
  ·obtain⟨X0,y1,y2,y3,y4,y5,y6⟩:=hjo
   obtain⟨b,off,lo,hi,hA,hbB,hlk,f1,f2⟩:=y6.1.at_ hlt;have hok:=zY HP.out.1 hlk;have hmk:=fun x=>iW (x:=x) hlk
   have hin:∀x,lo<=x->x<=hi->Sy x:=fun x q1 q2=>HS.out x ((HP.out.2 x).1 (by
    obtain⟨hl,e⟩:=hlk;exact⟨by unfold Rng;omega,p[k],List.getElem_mem hl,by rw[e];exact q1,by rw[e];exact q2⟩))
   have hlo:=hin lo (by omega) hok.1;have hhi:=hin hi hok.1 (by omega);unfold Sy at hlo hhi;have hct:=vC hlk;obtain⟨w5,hw5⟩:∃w5,wr.alloc (.cells #[.int .i64 lo,.int .i64 hi] 47)=w5:=⟨_,rfl⟩;have b5:Below wr.heap.size wr w5:=by rw[<- hw5];exact(Below.refl _ _).alloc (Nat.le_refl _) _
   obtain⟨B,hB⟩:∃B,wr.heap.size=B:=⟨_,rfl⟩;have g1:w5.cell? ⟨B,0,none⟩=some (.int .i64 lo):=by rw[<- hw5,<- hB];simp
   have g2:w5.cell? ⟨B,1,none⟩=some (.int .i64 hi):=by rw[<- hw5,<- hB];simp
   have hs5:w5.heap.size=B+1:=by rw[<- hw5,<- hB];simp
   obtain⟨N,hN⟩:∃N,cnt (p.take k)=N:=⟨_,rfl⟩;obtain⟨S,hS⟩:∃S,gX ps (p.take k)=S:=⟨_,rfl⟩;have hNN:N<=2147483650:=by rw[<- hN];exact vD (HP.out.1.take k)
   have HNS:=hid (And.intro hN hS);have HMK:=hid hmk;have HCT:=hid hct;have HST2:=hid (show Ct ps w Ap p S N lo hi B u5 u6 (.int .i64 lo) w5 from⟨lo,L,rfl,Int.le_refl _,by omega,⟨X0,y1.below b5,y2,fun y=>by
     rw[y3,hS];exact⟨.inl,fun q=>q.elim id fun⟨x,q1,q2,_⟩=>by omega⟩,by rw[<- hN];omega,y5.trans (b5.mono y5.size),y6.below b5⟩,⟨⟨by omega,fun e=>by
      obtain⟨vs,hv⟩:=y1.row;have:=(World.ownsRow.lt hv _ e).2;omega,fun e=>by
      have:=(World.ownsRow.lt y1.out _ e).2;omega⟩,g1,g2⟩⟩)
   subst hA;clear y1 y2 y3 y4 y5 y6 hlk hmk hin hct hN hS b5;go_wp2_with (fail)
   go_loopw [5,6,9] (fun v o x wr=>Ct ps w (some ⟨b,off,none⟩) p S N lo hi B v o x wr) (fun _ _ x _=>(hi+1-intOf x).toNat)
   case atStart=>exact HST2.out
   case round=>
    obtain⟨z,L,rfl,hzl,hzh,hjo,hsp⟩:=hrel;obtain⟨r0,r1,r2⟩:=hsp;by_cases hzt:z<=hi
    ·obtain⟨X,y1,y2,y3,y4,y5,y6⟩:=hjo
     have HFR:=hid (ED z hi wr (by omega) hzt (by omega) (HTB.out.below y5 HTB.out.2 y5.size));have HJ:=hid (show JoS ps w (some ⟨b,off,none⟩) p (fun y=>S y\/tJ ps lo z y) (N+(z-lo)) L u5 u6 wr from⟨X,y1,y2,y3,y4,y5,y6⟩);obtain⟨vs0,hvs0⟩:=y1.row;obtain⟨Al,cl,hvl⟩:=aX hvs0;have hL1:=y2.1;have hL2:=y2.2.1;have HSP:=hid (show SpB wr u5 u6 B lo hi from⟨r0,r1,r2⟩);clear y1 y2 y3 y4 y5 y6 hvs0;have HVL:=hid hvl;rw[hvl];clear hvl;go_wp2_with (fail);refine HFR.out.mono ?_;intro e w6 hq;obtain⟨nb,rfl,hdv,hle,hn40,hw6⟩:=hq;subst hw6;have HDV:=hid hdv;have hpp:=aU (nb:Int);have hnb:nb<=20:=by
      rcases Nat.lt_or_ge 20 nb with q | q
      ·have:=fA 21 (nb:Int) (by omega)
       rw[pw21]at this;omega
      ·exact q
     have s1:IntKind.i64.wrap ((L.length:Int)-1)=((L.length-1:Nat):Int):=by rw[IntWalk.i64_in _ (by omega)];omega
     have HST3:=hid (show Cr ps w (some ⟨b,off,none⟩) p (fun y=>S y\/tJ ps lo z y) (N+(z-lo)) lo hi B u6 (.slice Al L.length cl) (.int .i64 ((L.length-1:Nat):Int)) wr from⟨L,rfl,by rw[<- HVL.out];exact HJ.out,by rw[<- HVL.out];exact HSP.out⟩);clear r1 r2 hdv;go_wp2_with (fail)
     go_loopw [5,11] (fun v k wr=>Cr ps w (some ⟨b,off,none⟩) p (fun y=>S y\/tJ ps lo z y) (N+(z-lo)) lo hi B u6 v k wr) (fun _ k _=>nb-(intOf k).toNat)
     case atStart=>exact HST3.out
     case round=>
      obtain⟨L3,rfl,hjo,hsp⟩:=hrel;obtain⟨X,y1,y2,y3,y4,y5,y6⟩:=hjo;have hL1:=y2.1;have hL2:=y2.2.1;obtain⟨K,hK⟩:∃K,L3.length-1=K:=⟨_,rfl⟩;rw[hK];have hLK:L3.length=K+1:=by omega
      by_cases hKt:K<nb
      ·obtain⟨g,cap,Ak,ck,hv5,hgb,hgl,hcell,hrk,hck,hnk⟩:=y1.at_ (j:=K) (by omega)
       obtain⟨vs,hvs⟩:=y1.row;have hlk0:=y2.2.2 K (by omega);obtain⟨lk,hlk⟩:∃lk,L3[K]'(by omega)=lk:=⟨_,rfl⟩;rw[hlk]at hcell hrk hck hnk hlk0;have hsh:=hlk0.1.short;rw[hLK]at hv5 hvs;subst hv5;obtain⟨nk,FH⟩:∃nk,lk.length=nk:=⟨_,rfl⟩;have HNK:=hid FH;have hnk1:=hnk;rw[FH]at hcell hck hsh;have JH:RS wr wr.heap.size Ak nk lk:=by rw[<- FH];exact hrk
       have hp1:=aU (K:Int);have hp2:=fA (K:Int) 19 (by omega);have hp3:pw 19=524288:=by unfold pw;rfl
       have s3:IntKind.i64.wrap (pw (K:Int))=pw (K:Int):=IntWalk.i64_in _ (by omega);have s4:IntKind.i64.wrap ((K:Int)+1)=(K:Int)+1:=IntWalk.i64_in _ (by omega);have HTO:=hid (fun W (hW:Below wr.heap.size wr W)=>pI A ps.length c ps (pw (K:Int)) W (H.out.ah (y5.trans (hW.mono y5.size))) (by omega) HBT.out (by omega) (by omega));have HRK:=hid JH;have HNL:=hid hnk1;have HLK:=hid hlk0;have HUN:=hid (fun(W:World) (A7:Option Addr) (c7:Nat) (m7:List Span) (hW:Below wr.heap.size wr W) (hr7:RS W W.heap.size A7 m7.length m7) (hs7:m7.length<=1073741825) (hn7:A7=none->m7=[]/\c7=0)=>CZ Ak A7 nk ck c7 lk m7 W HNK.out (HRK.out.ah hW) hr7 (by omega) (by omega) HNL.out hn7);have HVS:=hid hvs;have HVR:=hid (fun(W:World) (o:Obj) (hW:Below wr.heap.size wr W)=>show(W.alloc o).ownsRow w.heap.size 48 1 (.slice (some ⟨g,0,none⟩) (K+1) cap) (K+1) vs from aQ hvs fun q e=>(hW.trans (((Below.refl W.heap.size W).alloc (Nat.le_refl _) o).mono hW.size)).block q (World.ownsRow.lt hvs q e).2);have HY1:=hid y1;have HY2:=hid y2;have HY3:=hid y3;have HY4:=hid y4;have HY5:=hid y5;have HY6:=hid y6;have MH:=hid hsp;have F3:=hid hLK;have NG:∀q,u6.ownBlock=some q->q<wr.heap.size:=fun q e=>(World.ownsRow.lt y1.out q e).2
       have PB:=hid NG;have hcl:∀W,Below wr.heap.size wr W->W.cell? ⟨g,K,none⟩=some (.slice Ak nk ck):=fun W hW=>(hW.cell (p:=⟨g,K,none⟩) hgl).trans hcell
       have HCL:=hid hcl;obtain⟨tt,htt⟩:∃tt,dJ ps (pw (K:Int))=tt:=⟨_,rfl⟩;have HTT:=hid htt;rw[htt]at HTO;have i1:(0:Int)<=(K:Int):=Int.natCast_nonneg _;have i2:(K:Int)<((K+1:Nat):Int):=by omega
       have i3:(K:Int)<(K:Int)+1:=by omega
       have hdl:decide (K<nb)=true:=decide_eq_true hKt;have hdl2:decide ((K:Int)<(nb:Int))=true:=decide_eq_true (by omega);have vK:=hid (fun(out8:List Span) (A8:Option Addr) (c8:Nat) (w7 w8 w9:World) (gg bX:Nat) (his8:Is out8 (fun y=>mem lk y\/(Rng y/\mem lk (y-tt)))) (ho8:av w8 w7.heap.size (.slice A8 out8.length c8) out8) (hw7:wr.heap.size<=w7.heap.size) (hb8:Below wr.heap.size wr w8)
         (hown9:w9.ownsRow w.heap.size 48 1 (.slice (some ⟨gg,0,none⟩) (K+1+1) bX) (K+1+1) (vs++[.slice A8 out8.length c8])) (hg9:(w8.alloc (.cells #[.slice A8 out8.length c8] 48)).grownBy w9 (Value.slice (some ⟨g,0,none⟩) (K+1) cap).ownBlock) (hat9:(Value.slice (some ⟨g,0,none⟩) (K+1) cap).ownBlock=some gg\/gg=w8.heap.size+1)=>
         show Cr ps w (some ⟨b,off,none⟩) p (fun y=>S y\/tJ ps lo z y) (N+(z-lo)) lo hi B u6 (.slice (some ⟨gg,0,none⟩) (K+1+1) bX) (.int .i64 ((K:Int)+1)) w9 from by
        have hba:Below w8.heap.size w8 (w8.alloc (.cells #[.slice A8 out8.length c8] 48)):=(Below.refl _ _).alloc (Nat.le_refl _) _;have hb9:Below wr.heap.size wr (w8.alloc (.cells #[.slice A8 out8.length c8] 48)):=hb8.trans (hba.mono hb8.size);have hH:(w8.alloc (.cells #[.slice A8 out8.length c8] 48)).heap.size<=w8.heap.size+1:=by simp
        have hr8:RS w8 w8.heap.size A8 out8.length out8:=RS.iV ho8;have hlow:=(HY1.out.below hb9).more (vs:=vs) (l:=out8) (A:=A8) (c:=c8) (g:=gg) (cap:=bX) (H:=w8.heap.size+1) (w':=w9) (by rw[F3.out];exact aQ HVS.out fun q e=>hb9.block q (World.ownsRow.lt HVS.out q e).2) (hr8.ah hba) (by
          obtain⟨A',c',e,h,_⟩:=aF ho8;injection e with _ _ e;omega) (iC ho8) (fun b' off' e=>by
          have hl:=World.ownsRow.lt ho8 b' (by rw[e];rfl);refine⟨by simp;omega,fun q=>?_,fun q=>?_⟩
          ·have q:g=b':=by simpa[Value.ownBlock]using q
           omega
          ·have:=PB.out _ q
           omega) hg9 (by rw[F3.out];exact hown9) hat9 hH
        refine⟨L3++[out8],by rw[List.length_append,List.length_singleton,F3.out];rfl,⟨X,?_,?_,HY3.out,HY4.out,?_,(HY6.out.below hb9).low hg9 rfl hat9 hH⟩,?_⟩
        ·rw[F3.out]at hlow
         exact hlow
        ·have:=HY2.out
         refine⟨by simp,by rw[List.length_append,List.length_singleton,F3.out];omega,fun j hj=>?_⟩;by_cases q:j<L3.length
         ·rw[List.getElem_append_left q]
          exact this.2.2 j q
         ·obtain rfl:j=K+1:=by rw[List.length_append,List.length_singleton,F3.out]at hj;rw[F3.out]at q;omega
          have e:(L3++[out8])[K+1]'hj=out8:=by
           rw[List.getElem_append_right (by rw[F3.out];exact Nat.le_refl _)];simp
          rw[e];exact DX HBT.out hml HLK.out (by rw[HTT.out];exact his8)
        ·exact(HY5.out.trans (hb9.mono HY5.out.size)).grown hg9 (by have:=HY5.out.size;have:=hb9.size;omega) (fun q e=>by
          have e:g=q:=by simpa[Value.ownBlock]using e
          omega)
        ·obtain⟨t1,t2,t3⟩:=MH.out.below hb9
         obtain⟨t4,t5⟩:=t1.low (v':=.slice (some ⟨gg,0,none⟩) (K+1+1) bX) hg9 rfl hat9 hH;exact⟨t4,(t5 0).trans t2,(t5 1).trans t3⟩)
       clear y1 y2 y3 y4 y5 y6 hsp hvs hlk hlk0 FH hrk JH hnk hnk1 NG hcl htt hLK hK hp3;go_wp2_with (fail)
       go_region_law ((first
        | (go_simp;(with_reducible refine(HTO.out _ (by first | exact Below.refl _ _ | exact(Below.refl _ _).drew)).mono ?_);rintro q6 w6 ⟨rfl,hb6⟩;have uU:Below wr.heap.size wr w6:=(Below.refl _ wr).drew.trans (hb6.mono (by simp));have hc6:=HCL.out w6 uU)
        | (go_simp;(with_reducible refine(kA Ak nk ck lk tt _ (HRK.out.ah uU) (by omega) hck).mono ?_);rintro q7 w7 ⟨v7,m7,rfl,his7,ho7,hb7⟩;obtain⟨A7,c7,hv7,hc7,hr7⟩:=aF ho7;subst hv7;have hs7:=his7.1.short;have hn7:=iC ho7;have pF:Below wr.heap.size wr w7:=uU.trans (hb7.mono uU.size);have hcc7:=HCL.out w7 pF)
        | (go_simp;(with_reducible refine(HUN.out _ A7 c7 m7 pF hr7 hs7 hn7).mono ?_);rintro q8 w8 ⟨v8,out8,rfl,his8,ho8,hb8⟩;obtain⟨A8,c8,hv8,hc8,hr8⟩:=aF ho8;subst hv8;have K2:Below wr.heap.size wr w8:=pF.trans (hb8.mono pF.size);have hz8:=K2.size)
        | (refine step_append_lies _ (by rfl) _ _ _ (by rfl) w.heap.size 48 i0 _ 1 24 Tryz.underlying40 hi0 hz0 hz1 hz2 rfl (by omega) (.slice (some ⟨g,0,none⟩) (K+1) cap) (K+1) vs (by rfl) (HVR.out _ _ K2) ⟨w8.heap.size,0,none⟩ 1 1 [.slice A8 out8.length c8] (by rfl) (by rfl) (World.news_of_block (cs:=#[.slice A8 out8.length c8]) (t:=48) (fr:=(0,0)) (heap_alloc_new w8 _)) (by simp[Value.oneCell']) (by omega) (by simp only[maxLen];omega) (by omega) (by have:=HY5.out.size;simp;omega) (w8.heap.size+1) (by simp) ?_;intro gg bX w9 hown9 hg9 hat9 hlt9)))
       all_goals have HSS:=hid (vK.out out8 A8 c8 w7 w8 w9 gg bX (his8.congr fun y=>or_congr Iff.rfl (his7.2 y)) ho8 pF.size K2 hown9 hg9 hat9)
       all_goals clear hown9 hg9 hat9 hlt9 his8 ho8 hb8 K2 hb7 pF hb6 uU his7 ho7 hs7 hn7 hr7 hr8 hc6 hcc7 hcell
       all_goals go_wp2_with (fail)
       all_goals go_roundw
       all_goals first
        | exact HSS.out
        | (simp[intOf];done)
        | (simp[intOf];omega)
      ·obtain⟨g,cap,Ak,ck,hv5,hgb,hgl,hcell,hrk,hck,hnk⟩:=y1.at_ (j:=nb) (by omega)
       have hlk0:=y2.2.2 nb (by omega);obtain⟨lk,hlk⟩:∃lk,L3[nb]'(by omega)=lk:=⟨_,rfl⟩;rw[hlk]at hcell hrk hck hnk hlk0;have hsh:=hlk0.1.short;rw[hLK]at hv5;subst hv5;obtain⟨nk,FH⟩:∃nk,lk.length=nk:=⟨_,rfl⟩;rw[FH]at hcell hck hsh;have JH:RS wr wr.heap.size Ak nk lk:=by rw[<- FH];exact hrk
       have hp1:=aU (nb:Int);have hp2:=fA (nb:Int) 20 (by omega);have hp3:pw 20=1048576:=pw20;have s5:IntKind.i64.wrap (pw (nb:Int))=pw (nb:Int):=IntWalk.i64_in _ (by omega);have s6:IntKind.i64.wrap (z+pw (nb:Int))=z+pw (nb:Int):=IntWalk.i64_in _ (by omega);have HTO:=hid (fun W (hW:Below wr.heap.size wr W)=>pI A ps.length c ps z W (H.out.ah (y5.trans (hW.mono y5.size))) (by omega) HBT.out (by omega) (by omega));have HMV:=hid (fun(W:World) (hW:Below wr.heap.size wr W) (tt:Int)=>kA Ak nk ck lk tt W (JH.ah hW) (by omega) hck);have HLK:=hid hlk0;have HY1:=hid y1;have HY2:=hid y2;have HY3:=hid y3;have HY4:=hid y4;have HY5:=hid y5;have HY6:=hid y6;have MH:=hid hsp;have hcl:∀W,Below wr.heap.size wr W->W.cell? ⟨g,nb,none⟩=some (.slice Ak nk ck):=fun W hW=>(hW.cell (p:=⟨g,nb,none⟩) hgl).trans hcell
       have HCL:=hid hcl;have ho6:=y1.out;obtain⟨A6,c6,hv6,Qx,_⟩:=aF ho6;obtain⟨nx,hnx⟩:∃nx,X.length=nx:=⟨_,rfl⟩;have HNX:=hid hnx;rw[hnx]at hv6 y4;subst hv6;have hnx2:nx<=2147483650+1114112:=by omega
       have HVR:=hid (fun(W:World) (hW:Below wr.heap.size wr W)=>show W.ownsRow w.heap.size 47 2 (.slice A6 nx c6) nx (flat X)from by
        have h1:=ho6;unfold av at h1;rw[hnx]at h1;exact aQ h1 fun q e=>hW.block q (World.ownsRow.lt h1 q e).2)
       obtain⟨tt,htt⟩:∃tt,dJ ps z=tt:=⟨_,rfl⟩;have HTT:=hid htt;rw[htt]at HTO;have i1:(0:Int)<=(nb:Int):=Int.natCast_nonneg _;have i2:(nb:Int)<((K+1:Nat):Int):=by omega
       have i3:(nb:Int)<(K:Int)+1:=by omega
       have hdl:decide (K<nb)=false:=decide_eq_false hKt;have hdl2:decide ((K:Int)<(nb:Int))=false:=decide_eq_false (by omega);have HM7:=hid (fun(m7:List Span) (his7:Is m7 (fun x=>Rng x/\mem lk (x-tt)))=>show(m7.length:Int)<=pw (nb:Int)/\0<m7.length/\∀y,mem m7 y↔tJ ps z (z+pw (nb:Int)) y from by
        have hkey:∀y,mem m7 y↔yJ ps nb (y-tt):=fun y=>by
         rw[his7.2];show Rng y/\mem lk (y-tt)↔_;rw[hlk0.2];refine⟨fun q=>q.2,fun q=>⟨?_,q⟩⟩;obtain⟨zz,_,_,e⟩:=q;have h1:=bk HBT.out zz;have h2:=bk HBT.out z;unfold Rng;omega
        refine⟨?_,?_,fun y=>?_⟩
        ·obtain⟨M,hM⟩:=Int.eq_ofNat_of_zero_le (show 0<=pw (nb:Int)by omega)
         have:=zR his7.1 (N:=M) (fun i=>tt+dJ ps (i:Int)) (fun y hy=>by
          obtain⟨zz,q0,q1,q2⟩:=(hkey y).1 hy;exact⟨zz.toNat,by omega,by rw[Int.toNat_of_nonneg q0];omega⟩)
         rw[hM];exact Int.ofNat_le.2 this
        ·rcases Nat.eq_zero_or_pos m7.length with q | q
         ·have e:=List.eq_nil_of_length_eq_zero q
          have h3:=(hkey (tt+dJ ps 0)).2 ⟨0,by omega,by omega,by omega⟩;rw[e]at h3;exact absurd h3 (aI _)
         ·exact q
        ·obtain⟨mm,hmm⟩:=HDV.out
         rw[hkey,wH HBT.out hmm,htt])
       have vK:=hid (fun(m7:List Span) (A7:Option Addr) (c7:Nat) (w6 w7 w9:World) (gg bX:Nat) (his7:Is m7 (fun x=>Rng x/\mem lk (x-tt))) (hb7:Below wr.heap.size wr w7)
         (hown9:w9.ownsRow w.heap.size 47 2 (.slice (some ⟨gg,0,none⟩) (nx+m7.length) bX) (nx+m7.length) (flat X++flat m7)) (hg9:w7.grownBy w9 (Value.slice A6 nx c6).ownBlock) (hat9:(Value.slice A6 nx c6).ownBlock=some gg\/gg=w7.heap.size)=>
         show Ct ps w (some ⟨b,off,none⟩) p S N lo hi B (.slice (some ⟨g,0,none⟩) (K+1) cap) (.slice (some ⟨gg,0,none⟩) (nx+m7.length) bX) (.int .i64 (z+pw (nb:Int))) w9 from by
        obtain⟨q1,q2,q3⟩:=HM7.out m7 his7;have hlo:=(HY1.out.below hb7).longer (Y:=m7) (g:=gg) (cap:=bX) (H:=w7.heap.size) (w':=w9) hg9 (by
         unfold av;rw[HNX.out,List.length_append,HNX.out,aA];exact hown9) hat9 (Nat.le_refl _)
        rw[HNX.out]at hlo;refine⟨z+pw (nb:Int),L3,rfl,by omega,by omega,⟨X++m7,hlo,HY2.out,fun y=>?_,by rw[List.length_append,HNX.out,Int.natCast_add];omega,(HY5.out.trans (hb7.mono HY5.out.size)).grown hg9 (by have:=HY5.out.size;have:=hb7.size;omega) (fun q e=>(World.ownsRow.lt HY1.out.out q e).1),(HY6.out.below hb7).out hg9 rfl hat9 (Nat.le_refl _)⟩,?_⟩
        ·have h3:mem X y↔S y\/tJ ps lo z y:=HY3.out y
         show mem (X++m7) y↔S y\/tJ ps lo (z+pw (nb:Int)) y;rw[mem_append,h3,q3,rS (ps:=ps) (a:=lo) (b:=z) (c:=z+pw (nb:Int)) (by omega) (by omega),or_assoc]
        ·obtain⟨t1,t2,t3⟩:=MH.out.below hb7
         obtain⟨t4,t5⟩:=t1.out (o':=.slice (some ⟨gg,0,none⟩) (nx+m7.length) bX) hg9 rfl hat9 (Nat.le_refl _);exact⟨t4,(t5 0).trans t2,(t5 1).trans t3⟩)
       clear y1 y2 y3 y4 y5 y6 hsp hlk hlk0 FH hrk JH hnk hcl htt hLK hK hp3 ho6 hnx;go_wp2_with (fail)
       go_region_law ((first
        | (go_simp;(with_reducible refine(HTO.out _ (by first | exact Below.refl _ _ | exact(Below.refl _ _).drew)).mono ?_);rintro q6 w6 ⟨rfl,hb6⟩;have uU:Below wr.heap.size wr w6:=(Below.refl _ wr).drew.trans (hb6.mono (by simp));have hcc6:=HCL.out w6 uU)
        | (go_simp;(with_reducible refine(HMV.out _ uU tt).mono ?_);rintro q7 w7 ⟨v7,m7,rfl,his7,ho7,hb7⟩;obtain⟨g7,c7,hv7,hgb7,hgl7⟩:=World.ownsRow.form ho7 (HM7.out m7 his7).2.1;subst hv7;have pF:Below wr.heap.size wr w7:=uU.trans (hb7.mono uU.size);have hpos7:=(HM7.out m7 his7).2.1;have hle7:=(HM7.out m7 his7).1;have hr7:=oV (RS.iV ho7);have hz7:=pF.size)
        | (refine step_append_lies _ (by rfl) _ _ _ (by rfl) w.heap.size 47 j0 _ 2 16 Tryz.underlying48 hj0 hx0 hx1 hx2 rfl (by omega) (.slice A6 nx c6) nx (flat X) (by rfl) (HVR.out _ pF) ⟨g7,0,none⟩ m7.length c7 (flat m7) (by rfl) (aH m7) hr7 (kE m7) hpos7 (by simp only[maxLen];omega) (by omega) (by have:=HY5.out.size;omega) w7.heap.size rfl ?_;intro gg bX w9 hown9 hg9 hat9 hlt9)))
       all_goals have HSS:=hid (vK.out m7 (some ⟨g7,0,none⟩) c7 w6 w7 w9 gg bX his7 pF hown9 hg9 hat9)
       all_goals clear hown9 hg9 hat9 hlt9 hb7 pF hb6 uU his7 ho7 hr7 hcc6 hcell hpos7 hle7
       all_goals go_wp2_with (fail)
       all_goals go_roundw
       all_goals first
        | exact HSS.out
        | (simp[intOf];done)
        | (simp[intOf];omega)
    ·have hzz:z=hi+1:=by omega
     obtain⟨X,y1,y2,y3,y4,y5,y6⟩:=hjo;have HSS:=hid (show Cu ps w (some ⟨b,off,none⟩) p u5 u6 (.int .i64 ((k:Int)+1)) wr from⟨k+1,L,by omega,by go_num,X,y1,y2,fun y=>by
      rw[y3,hzz,<- HNS.out.2];unfold gX tJ
      constructor
      ·rintro(⟨x,q1,q2⟩ | ⟨x,q1,q2,q3⟩)
       ·exact⟨x,(HMK.out x).2 (.inl q1),q2⟩
       ·exact⟨x,(HMK.out x).2 (.inr ⟨by unfold Rng;omega,q1,by omega⟩),q3⟩
      ·rintro⟨x,q1,q2⟩
       rcases (HMK.out x).1 q1 with q | ⟨_,q3,q4⟩
       ·exact .inl ⟨x,q,q2⟩
       ·exact .inr ⟨x,q3,by omega,q2⟩,by rw[HCT.out,HNS.out.1];omega,y5,y6⟩)
     have hdz:decide (z<=hi)=false:=decide_eq_false hzt;have s9:IntKind.i64.wrap ((k:Int)+1)=(k:Int)+1:=IntWalk.i64_in _ (by omega);clear y1 y2 y3 y4 y5 y6 hzz;go_wp2_with (fail)
     go_roundw
     case rel=>exact HSS.out
     case measure=>simp[intOf];omega
  ·obtain rfl:k=p.length:=by omega
   obtain⟨X,y1,y2,y3,y4,y5,y6⟩:=hjo;rw[List.take_length]at y3 y4;obtain⟨A6,c6,hv6,hc6,hr6⟩:=aF y1.out;have hcl:=vD HP.out.1;have HNO:=hid (fF A6 X.length c6 X wr hr6 (by omega));have HC:=hid (fun y=>show mem X y↔gX ps s y by
    rw[y3];unfold gX;exact⟨fun⟨x,q1,q2⟩=>⟨x,(HP.out.2 x).1 q1,q2⟩,fun⟨x,q1,q2⟩=>⟨x,(HP.out.2 x).2 q1,q2⟩⟩)
   have HB:=hid y5;subst hv6;clear y1 y2 y3 y4 y5 y6 hr6;go_wp2_with (fail);refine HNO.out.mono ?_;intro e w9 hq;obtain⟨v9,o9,rfl,his9,ho9,hb9⟩:=hq;have HFI:=hid (show aP (gX ps s) w (.returned v9) w9 from⟨v9,o9,rfl,his9.congr HC.out,aL ho9 HB.out.size,HB.out.trans (hb9.mono HB.out.size)⟩);clear his9 ho9 hb9;go_wp2_with (fail);go_ret;exact HFI.out
end Go.Proofs.YtbdmcibcenhpnaaGreatDoor.Fi
