import Derived.Test.YtbdmcibcenhpnaaGreatDoorF0
import Derived.Test.YtbdmcibcenhpnaaGreatDoorF00
import Derived.Test.YtbdmcibcenhpnaaGreatDoorF16
import Derived.Test.YtbdmcibcenhpnaaGreatDoorF43
import Derived.Test.YtbdmcibcenhpnaaGreatDoorF44
set_option maxRecDepth 100000
namespace Go.Proofs.YtbdmcibcenhpnaaGreatDoor.Rg
set_option maxHeartbeats 64000000
open Go Go.RowKit Go.Shelf Go.Maps Sp Pa Te Mi Sh Fi
open Go.Lib (hid)
def gB (S:Int->Prop) (w:World) (e:Ending) (w':World):Prop:=∃A c L ok,e = .returned (.tuple #[.slice A L.length c,.bool ok])/\(ok=true↔∀y,S y->Sy y)/\(ok=true->Is L S)/\L.length<=c/\RS w' w'.heap.size A L.length L/\Below w.heap.size w w'
structure IL (i:Int) (gs:List (List Span)):Prop where
 four:gs.length<=4
 few:∀g∈gs,g.length<=1000
 some_:∀g∈gs,∃x,mem g x
 sym:∀g∈gs,∀x,mem g x->Sy x
 byte:i=1->∀g∈gs,∀x,mem g x->0<=x/\x<=255
theorem BH {L:List Span} {S:Int->Prop} (h:Is L S) {k:Nat} (hk:L.length=k+1):(∃(h0:0<L.length) (h1:k<L.length),∀P:Int->Prop,(∀a b c,P a->P c->a<=b->b<=c->P b)->((∀y,S y->P y)↔P L[0].1/\P L[k].2)):=by
 refine⟨by omega,by omega,fun P hP=>?_⟩;have hne:L≠[]:=fun e=>by rw[e]at hk;simp at hk
 have e0:least L=L[0].1:=by
  unfold least JX
  cases L with
  | nil=>exact absurd rfl hne
  | cons q l=>rfl
 have e1:most L=L[k].2:=by
  unfold most DW;have:L.getLast hne=L[k]:=by rw[List.getLast_eq_getElem];congr 1;omega
  rw[List.getLast?_eq_some_getLast hne,this]
 obtain⟨a1,a2⟩:=dB h.1 hne;obtain⟨b1,b2⟩:=d9 h.1 hne;rw[e0]at a1 a2;rw[e1]at b1 b2
 constructor
 ·exact fun q=>⟨q _ ((h.2 _).1 a1),q _ ((h.2 _).1 b1)⟩
 ·rintro⟨q1,q2⟩ y hy
  have hy':=(h.2 y).2 hy;exact hP _ _ _ q1 q2 (a2 y hy') (b2 y hy')
theorem Jj:∀a b c,Sy a->Sy c->a<=b->b<=c->Sy b:=fun a b c h1 h2 h3 h4=>by unfold Sy at *;omega
theorem AO (b d t u s:Int) (A:Option Addr) (c:Nat) (q:PT) (G:Option Addr) (gc:Nat) (gs:List (List Span)) (w:World) (h:RP w w.heap.size A 1 [q]) (hg:RGs w G gs.length gs) (hok:IL 2 gs) (hq:bh q=true) {k:Nat} (hk:q.1=(k:Int)) (hkl:k<gs.length) (hs:Sm s) :
  Calls Tryz.prog 60 #[trm b d t u s A 1 c,.int .i64 2,.slice G gs.length gc] w (gB (jR gs s [q]) w):=by
 obtain⟨w0,hw0⟩:∃w0,w.alloc (.cells (aR b d t u s A 1 c) 51)=w0:=⟨_,rfl⟩;have hbw:Below w.heap.size w w0:=by rw[<- hw0];exact(Below.refl _ w).alloc (Nat.le_refl _) _
 have hsz0:w0.heap.size=w.heap.size+1:=by rw[<- hw0];simp
 have X6:=hid (fun W (hb:Below w0.heap.size w0 W)=>show Boxed6 W w.heap.size b d t u s A 1 c from by rw[<- hw0]at hb;exact boxed6 hb);obtain⟨r0,r1,r2,r3,r4,r5⟩:=X6.out w0 (Below.refl _ _);obtain⟨bP,Lv,a',d',t',u',hA,hbP,⟨_,hlk⟩,p0,p1,p2,p3⟩:=(h.ah hbw).at_ (k:=0) (by omega);obtain rfl:a'=(k:Int):=by have e:q=(a',d',t',u'):=hlk;rw[<- hk,e]
 obtain⟨bG,Nl,Ag,cg,hG,hbG,hcg,hrg,hgc,hgn⟩:=(hg.ah hbw).at_ hkl;obtain⟨g,hgk⟩:∃g,gs[k]=g:=⟨_,rfl⟩;rw[hgk]at hcg hrg hgc;have hgl:g.length<=1000:=hok.few g (by rw[<- hgk];exact List.getElem_mem hkl);have hgs:∃x,mem g x:=hok.some_ g (by rw[<- hgk];exact List.getElem_mem hkl);have hgy:∀x,mem g x->Sy x:=hok.sym g (by rw[<- hgk];exact List.getElem_mem hkl);have HIN:=hid (show∀y,jR gs s [q] y↔mem g (y-s)from fun y=>by rw[GU hq hk hkl hok.some_ hok.sym,hgk]);obtain⟨S,hS⟩:∃S,jR gs s [q]=S:=⟨_,rfl⟩;rw[hS]at HIN ⊢;obtain⟨gl,hgl2⟩:∃gl,g.length=gl:=⟨_,rfl⟩;rw[hgl2]at hcg hrg hgc hgl;have HNO:=hid (fun W (hW:Below w0.heap.size w0 W)=>iO Ag gl cg g W (hrg.ah hW) (by omega));have HMV:=hid (fun W A' n' c' l' (h':RS W W.heap.size A' n' l') (hn':n'<=68719476736)=>zI A' n' c' l' s W h' hn');have HGY:=hid hgy;have HGS:=hid hgs;have HW:=hid hbw;subst hA hG;have i1:(0:Int)<=(k:Int):=Int.natCast_nonneg _;have i2:(k:Int)<(gs.length:Int):=by omega
 simp only[Nat.zero_mul,Nat.add_zero]at p0;have Qz:bP<w0.heap.size:=hbP;clear h hg hok hq hlk p1 p2 p3 hrg hgs hgy hgk hgn hS hbw hgl2 r0 r1 r2 r3;unfold Sm at hs;go_enter Tryz.func60,Tryz.ntmps60;go_wp2_with (fail)
 go_region_held3 (fun w'=>w'.cell? ⟨w.heap.size,4,none⟩=some (.int .i64 s)/\w'.cell? ⟨w.heap.size,5,none⟩=some (.slice (some ⟨bP,Lv,none⟩) 1 c)/\w'.cell? ⟨bP,Lv,none⟩=some (.int .i64 (k:Int))/\w'.cell? ⟨bG,Nl+k,none⟩=some (.slice Ag gl cg))
  (first
   | go_keep
   | (go_split_ands;refine⟨?_,?_,?_,?_⟩;all_goals (rw[hb7.cell (by simp;omega)];assumption))
   | (go_split_ands;refine⟨?_,?_,?_,?_⟩;all_goals (rw[hb6.cell (by simp;omega)];assumption)))
  (first
   | (go_at_call 46;refine(HNO.out _ (Below.refl _ w0).drew).mono ?_;rintro e w6 ⟨v6,o6,rfl,his6,ho6,hb6⟩;obtain⟨A6,c6,rfl,hc6,hr6⟩:=aF ho6;have hz6:w0.heap.size<=w6.heap.size:=by(have:=hb6.size;simpa using this))
   | (go_at_call 76;refine(HMV.out _ A6 o6.length c6 o6 hr6 (by have:=his6.1.short;omega)).mono ?_;rintro e w7 ⟨v7,o7,rfl,his7,ho7,hb7⟩;obtain⟨A7,c7,rfl,hc7,hr7⟩:=aF ho7))
 have hS7:Is o7 S:=his7.congr fun y=>by
  rw[HIN.out,his6.2];exact⟨fun q=>q.2,fun q=>⟨by have:=HGY.out _ q;unfold Sy at this;unfold Rng;omega,q⟩⟩
 have hSn:∃y,S y:=by
  obtain⟨x,hx⟩:=HGS.out;exact⟨x+s,(HIN.out _).2 (by rw[show x+s-s=x by omega];exact hx)⟩
 have hsh:=hS7.1.short;obtain⟨m,hm⟩:∃m,o7.length=m+1:=by
  rcases Nat.eq_zero_or_pos o7.length with q | q
  ·obtain⟨y,hy⟩:=hSn
   exact absurd ((hS7.2 y).2 hy) (by rw[List.eq_nil_of_length_eq_zero q];exact aI y)
  ·exact⟨o7.length-1,by omega⟩
 obtain⟨h0,h1,hend⟩:=BH hS7 hm;have hend:=hend Sy Jj;obtain⟨b1,off1,lo,x1,hA1,hb1,⟨_,e1⟩,c1,_⟩:=hr7.at_ (k:=0) h0;obtain⟨b2,off2,x2,hi,hA2,hb2,⟨_,e2⟩,_,c2⟩:=hr7.at_ (k:=m) (by omega);rw[hA1]at hA2;injection hA2 with hA2;injection hA2 with q1 q2 _;subst q1 q2;rw[e1,e2]at hend;simp only at hend;simp only[Nat.zero_mul,Nat.add_zero]at c1;have HE:=hid hend;have hb67:Below w0.heap.size w0 w7:=((Below.refl w0.heap.size w0).drew.trans hb6).trans (hb7.mono hz6);have HF:=hid (fun(ok:Bool) (hok:ok=true↔Sy lo/\Sy hi) (n:Nat)=>show gB S w (.returned (.tuple #[.slice A7 o7.length c7,.bool ok])) (w7.drewN n)from⟨A7,c7,o7,ok,rfl,hok.trans hend.symm,fun _=>hS7,hc7,hr7,below_drewN (HW.out.trans (hb67.mono (by omega))) n⟩);have hlh:lo<=hi:=by
  have a:=dB hS7.1 (fun e=>by rw[e]at hm;simp at hm);have b:=d9 hS7.1 (fun e=>by rw[e]at hm;simp at hm);have:=BH hS7 hm;obtain⟨_,_,hq⟩:=this;have hq:=(hq (fun z=>o7[0].1<=z) (fun a b c h1 h2 h3 h4=>by omega)).1 (fun y hy=>by
   have e0:least o7=o7[0].1:=by
    unfold least JX
    cases o7 with
    | nil=>simp at hm
    | cons q l=>rfl
   rw[<- e0];exact a.2 y ((hS7.2 y).2 hy))
  have:=hq.2;rw[e1,e2]at this;exact this
 subst hA1;have s9:IntKind.i64.wrap (((m+1:Nat):Int)-1)=(m:Int):=by rw[IntWalk.i64_in _ (by omega)];omega
 have s9':IntKind.i64.wrap ((m:Int)+1-1)=(m:Int):=by rw[IntWalk.i64_in _ (by omega)];omega
 have s10:IntKind.i64.wrap (m:Int)=(m:Int):=IntWalk.i64_in _ (by omega);have j1:(0:Int)<=(m:Int):=Int.natCast_nonneg _;have j6:(-1:Int)<(m:Int):=by omega
 have hm1:m<=1073741825:=by omega
 rw[hm]at HF ⊢;have j2:(m:Int)<((m+1:Nat):Int):=by omega
 have j3:(0:Int)<((m+1:Nat):Int):=by omega
 have j4:(m:Int)<(m:Int)+1:=by omega
 have j5:(0:Int)<(m:Int)+1:=by omega
 clear his6 ho6 hb6 hr6 his7 ho7 hb7 hr7 hS7 hSn hend e1 e2 hm hsh hc6 hc7 HIN p0 r4 r5 hcg;by_cases k1:0<=lo
 ·have d1:decide (0<=lo)=true:=decide_eq_true k1
  by_cases k2:hi<=1114111
  ·have d2:decide (hi<=1114111)=true:=decide_eq_true k2
   have HG:=hid (HF.out true ⟨fun _=>⟨⟨k1,by omega⟩,⟨by omega,k2⟩⟩,fun _=>rfl⟩);clear HF;go_wp2_with (fail);go_quiet (fail);go_wp2_with (fail);go_ret2;exact HG.out _
  ·have d2:decide (hi<=1114111)=false:=decide_eq_false k2
   have HG:=hid (HF.out false ⟨fun e=>(by cases e),fun q=>absurd q.2.2 k2⟩);clear HF;go_wp2_with (fail);go_quiet (fail);go_wp2_with (fail);go_ret2;exact HG.out _
 ·have d1:decide (0<=lo)=false:=decide_eq_false k1
  have HG:=hid (HF.out false ⟨fun e=>(by cases e),fun q=>absurd q.1.1 k1⟩);clear HF;go_wp2_with (fail);go_quiet (fail);go_wp2_with (fail);go_ret2;exact HG.out _
end Go.Proofs.YtbdmcibcenhpnaaGreatDoor.Rg
namespace Go.Proofs.YtbdmcibcenhpnaaGreatDoor.Rg
set_option maxHeartbeats 64000000
open Go Go.RowKit Go.Shelf Go.Maps Sp Pa Te Mi Sh Fi
open Go.Lib (hid)
theorem zx:∀(L:List Int) (a b:Int),Srt L->(∀y∈L,a<=y/\y<=b)->a<=b+1->(L.length:Int)<=b-a+1
 | [],a,b,_,_,h=>by simp;omega
 | x::L,a,b,hs,hb,h=>by
  obtain⟨h1,h2⟩:=List.pairwise_cons.1 hs;have hx:=hb x (List.mem_cons_self ..);have:=zx L (x+1) b h2 (fun y hy=>⟨by have:=h1 y hy;omega,(hb y (List.mem_cons_of_mem _ hy)).2⟩) (by omega);rw[List.length_cons];omega
structure Now (gs:List (List Span)) (l:List PT) (s:Int) (k:Nat) (L:List Int):Prop where
 srt:Srt L
 set:∀y,y∈L↔rL gs l s k y
 rng:∀y∈L,-1114111<=y/\y<=1114111
theorem Now.len {gs:List (List Span)} {l:List PT} {s:Int} {k:Nat} {L:List Int} (h:Now gs l s k L):L.length<=2228223:=by
 have:=zx L (-1114111) 1114111 h.srt h.rng (by omega);omega
structure Own (g:List Span) (ps:List PT) (X:Nat) (ys:List Int) (sb:Bool):Prop where
 srt:Srt ys
 set:∀y,y∈ys↔∃x:Int,0<=x/\x<X/\mem g x/\dJ ps x=y
 some_:sb=true↔ps≠[]/\∃x:Int,0<=x/\x<X/\mem g x
 few:ys.length<=X
theorem Own.start (g:List Span) (ps:List PT):Own g ps 0 [] false:=
 ⟨List.Pairwise.nil,fun y=>⟨fun h=>(by cases h),fun⟨x,h0,h1,_⟩=>(by omega)⟩,⟨fun h=>(by cases h),fun⟨_,x,h0,h1,_⟩=>(by omega)⟩,Nat.le_refl _⟩
theorem Own.skip {g:List Span} {ps:List PT} {X:Nat} {ys:List Int} {sb:Bool} (h:Own g ps X ys sb) (hx : ¬ mem g X):Own g ps (X+1) ys sb:=by
 have key:∀x:Int,mem g x->(x<((X+1:Nat):Int)↔x<X):=fun x hm=>⟨fun q=>by
  rcases Int.lt_or_le x X with e | e
  ·exact e
  ·obtain rfl:x=X:=by omega
   exact absurd hm hx,fun q=>by omega⟩
 refine⟨h.srt,fun y=>?_,?_,by have:=h.few;omega⟩
 ·rw[h.set]
  exact⟨fun⟨x,a,b,c,d⟩=>⟨x,a,(key x c).2 b,c,d⟩,fun⟨x,a,b,c,d⟩=>⟨x,a,(key x c).1 b,c,d⟩⟩
 ·rw[h.some_]
  exact and_congr_right fun _=>⟨fun⟨x,a,b,c⟩=>⟨x,a,(key x c).2 b,c⟩,fun⟨x,a,b,c⟩=>⟨x,a,(key x c).1 b,c⟩⟩
theorem Own.more {g:List Span} {ps:List PT} {X:Nat} {ys zs:List Int} {sb sb':Bool} (h:Own g ps X ys sb) (hx:mem g X) (hs:Srt zs) (hm:∀y,y∈zs↔y=dJ ps X\/y∈ys) (hl:zs.length<=ys.length+1) (hb:sb'=true↔sb=true\/ps≠[]):Own g ps (X+1) zs sb':=by
 refine⟨hs,fun y=>?_,?_,by have:=h.few;omega⟩
 ·rw[hm,h.set]
  constructor
  ·rintro(rfl | ⟨x,a,b,c,d⟩)
   ·exact⟨X,by omega,by omega,hx,rfl⟩
   ·exact⟨x,a,by omega,c,d⟩
  ·rintro⟨x,a,b,c,d⟩
   rcases Int.lt_or_le x X with e | e
   ·exact .inr ⟨x,a,e,c,d⟩
   ·obtain rfl:x=X:=by omega
    exact .inl d.symm
 ·rw[hb,h.some_]
  constructor
  ·rintro(⟨a,x,b,c,d⟩ | a)
   ·exact⟨a,x,b,by omega,d⟩
   ·exact⟨a,X,by omega,by omega,hx⟩
  ·exact fun q=>.inr q.1
theorem Own.done {g:List Span} {ps:List PT} {ys:List Int} {sb:Bool} (h:Own g ps 256 ys sb) (hg:∀x,mem g x->0<=x/\x<=255) (hn:∃x,mem g x):(sb=true↔ps≠[])/\∀y,y∈ys↔∃x,mem g x/\dJ ps x=y:=by
 refine⟨?_,fun y=>?_⟩
 ·rw[h.some_]
  obtain⟨x,hx⟩:=hn;exact⟨fun q=>q.1,fun q=>⟨q,x,(hg x hx).1,by have:=(hg x hx).2;omega,hx⟩⟩
 ·rw[h.set]
  exact⟨fun⟨x,_,_,c,d⟩=>⟨x,c,d⟩,fun⟨x,c,d⟩=>⟨x,(hg x c).1,by have:=(hg x c).2;omega,c,d⟩⟩
theorem nG {w:World} {base base':Nat} {v:Value} {xs:List Span} (h:av w base v xs) (hb:base'<=base):av w base' v xs:=aL h hb
def In1 (gs:List (List Span)) (l:List PT) (s:Int) (w0:World) (v i:Value) (wr:World):Prop:=∃(k:Nat) (L:List Int) (A:Option Addr) (c:Nat),k<=gs.length/\i = .int .i64 k/\v = .slice A L.length c/\RN wr wr.heap.size A L.length L/\Now gs l s k L/\Below w0.heap.size w0 wr
def In2 (g:List Span) (ps:List PT) (wk:World) (v sv xv:Value) (wr:World):Prop:=∃(X:Nat) (ys:List Int) (sb:Bool),X<=256/\xv = .int .i64 X/\sv = .bool sb/\bD wr wk.heap.size v ys/\Own g ps X ys sb/\Below wk.heap.size wk wr
def In3 (l:List PT) (k:Int) (x:Int) (sb0:Bool) (wj:World) (sv uv iv:Value) (wr:World):Prop:=∃(j:Nat) (sb:Bool),j<=l.length/\iv = .int .i64 j/\sv = .bool sb/\uv = .int .i64 (dJ (plP (l.take j) k) x)/\(sb=true↔sb0=true\/plP (l.take j) k≠[])/\Below wj.heap.size wj wr
theorem DC {l:List PT} {j:Nat} {k a d t u:Int} (hj:∃hl:j<l.length,l[j]=(a,d,t,u)):plP (l.take (j+1)) k=if a=k then plP (l.take j) k++[(a,d,t,u)]else plP (l.take j) k:=by
 obtain⟨hl,e⟩:=hj;rw[List.take_succ_eq_append_getElem hl,nD,e,oF,jy]
 split
 ·rfl
 ·exact List.append_nil _
theorem xL (b d t u s:Int) (A:Option Addr) (c:Nat) (l:List PT) (G:Option Addr) (gc:Nat) (gs:List (List Span)) (w:World) (h:RP w w.heap.size A l.length l) (hl4:l.length<=4) (hg:RGs w G gs.length gs) (hok:IL 1 gs) (hb:BitsAll l) (hc:∀q∈l,0<=q.1/\q.1<gs.length) (hs:Sm s) :
  Calls Tryz.prog 60 #[trm b d t u s A l.length c,.int .i64 1,.slice G gs.length gc] w (gB (jR gs s l) w):=by
 obtain⟨w0,hw0⟩:∃w0,w.alloc (.cells (aR b d t u s A l.length c) 51)=w0:=⟨_,rfl⟩;have hbw:Below w.heap.size w w0:=by rw[<- hw0];exact(Below.refl _ w).alloc (Nat.le_refl _) _
 have hsz0:w0.heap.size=w.heap.size+1:=by rw[<- hw0];simp
 have X6:=hid (fun W (hb:Below w0.heap.size w0 W)=>show Boxed6 W w.heap.size b d t u s A l.length c from by rw[<- hw0]at hb;exact boxed6 hb);obtain⟨r0,r1,r2,r3,r4,r5⟩:=X6.out w0 (Below.refl _ _);have HP0:=hid (h.ah hbw);have HG0:=hid (hg.ah hbw);have HW:=hid hbw;have HOK:=hid hok;have HBI:=hid hb;have HC:=hid hc;have hg4:=hok.four;have hsm:=hs;unfold Sm at hsm;obtain⟨w1,hw1⟩:∃w1,w0.alloc (.cells #[.int .i64 s] 3)=w1:=⟨_,rfl⟩;have hb1:Below w0.heap.size w0 w1:=by rw[<- hw1];exact(Below.refl _ _).alloc (Nat.le_refl _) _
 have hr1:RN w1 w1.heap.size (some ⟨w0.heap.size,0,none⟩) 1 [s]:=⟨rfl,fun _=>⟨w0.heap.size,0,rfl,by rw[<- hw1];simp,fun j hj=>by
  obtain rfl:j=0:=by simp at hj;exact hj
  rw[<- hw1];simp⟩⟩
 have HST:=hid (show In1 gs l s w0 (.slice (some ⟨w0.heap.size,0,none⟩) 1 1) (.int .i64 (0:Nat)) w1 from⟨0,[s],_,_,Nat.zero_le _,rfl,rfl,hr1,⟨List.pairwise_singleton _ _,fun y=>by rw[List.mem_singleton];exact Iff.rfl,fun y hy=>by rw[List.mem_singleton]at hy;omega⟩,hb1⟩);clear h hg hok hb hc hbw hb1 hr1;go_enter Tryz.func60,Tryz.ntmps60;go_wp2_with (fail)
 go_loopw [9,10] (fun v i wr=>In1 gs l s w0 v i wr) (fun _ i _=>gs.length-(intOf i).toNat)
 case atStart=>exact(by rw[<- hsz0];exact HST.out)
 case round=>
  obtain⟨k,L,AL,cL,hk,rfl,rfl,hrL,lW,hbr⟩:=hrel;have CB:=hid lW;have HBR:=hid hbr;have HRL:=hid hrL;have hLl:=lW.len;obtain⟨p0,p1,p2,p3,p4,p5⟩:=X6.out wr hbr;have hwr:=hbr.size;by_cases hlt:k<gs.length
  ·obtain⟨g,hgk⟩:∃g,gs[k]=g:=⟨_,rfl⟩
   have hgm:g∈gs:=by rw[<- hgk];exact List.getElem_mem hlt
   have hgl:=HOK.out.few g hgm;obtain⟨ps,hps⟩:∃ps,plP l (k:Int)=ps:=⟨_,rfl⟩;have HST2:=hid (show In2 g ps wr (.slice none 0 0) (.bool false) (.int .i64 (0:Nat)) wr from⟨0,[],false,Nat.zero_le _,rfl,rfl,lJ _ _,Own.start g ps,Below.refl _ _⟩);have HPS:=hid hps;have HGK:=hid hgk;have HGM:=hid hgm;clear lW hrL hps hgk hgm
   rename World=>wk
   go_wp2_with (fail)
   go_loopw [11,12,13] (fun v sv xv wr=>In2 g ps wk v sv xv wr) (fun _ _ xv _=>256-(intOf xv).toNat)
   case atStart=>exact HST2.out
   case round=>
    obtain⟨X,ys,sb,hX,rfl,rfl,ho,hown,hb2⟩:=hrel;have HO:=hid ho;have HOW:=hid hown;have HB2:=hid hb2;have sO:=hown.few;have hwk2:=hb2.size;have hbx:Below w0.heap.size w0 wr:=HBR.out.trans (hb2.mono hwr);obtain⟨p0,p1,p2,p3,p4,p5⟩:=X6.out wr hbx;have HBX:=hid hbx;have s1:IntKind.i64.wrap ((k:Int)+1)=(k:Int)+1:=IntWalk.i64_in _ (by omega);have s2:IntKind.i64.wrap ((X:Int)+1)=(X:Int)+1:=IntWalk.i64_in _ (by omega);have i1:(0:Int)<=(k:Int):=Int.natCast_nonneg _;have i2:(k:Int)<(gs.length:Int):=by omega
    by_cases hlx:X<256
    ·have hdx:decide ((X:Int)<256)=true:=decide_eq_true (by omega)
     obtain⟨bG,Nl,Ag,cg,hG,hbG,hcg,hrg,hgc,hgn⟩:=(HG0.out.ah hbx).at_ hlt;rw[HGK.out]at hcg hrg hgc;obtain⟨gl,hgl2⟩:∃gl,g.length=gl:=⟨_,rfl⟩;rw[hgl2]at hcg hrg hgc hgl;have HHA:=hid (iP Ag gl cg g (X:Int) wr hrg (by omega));subst hG;clear ho hown hb2 hbx hrg hgc hgn hgl2;by_cases hm:mem g X
     ·rw[show bC g (X:Int)=true from eP hm]at HHA
      have HM:=hid hm;clear hm;have HST3:=hid (show In3 l (k:Int) (X:Int) sb wr (.bool sb) (.int .i64 0) (.int .i64 (0:Nat)) wr from⟨0,sb,Nat.zero_le _,rfl,rfl,by rw[List.take_zero,jy];rfl,by rw[List.take_zero,jy];simp,Below.refl _ _⟩)
      rename World=>wj
      go_wp2_with (fail);refine HHA.out.mono ?_;rintro e w5 ⟨rfl,rfl⟩;go_wp2_with (fail)
      go_loopw [12,14,15] (fun sv uv iv wr=>In3 l (k:Int) (X:Int) sb wj sv uv iv wr) (fun _ _ iv _=>l.length-(intOf iv).toNat)
      case atStart=>exact HST3.out
      case round=>
       obtain⟨j,sb2,hj,rfl,rfl,rfl,hsb,hb3⟩:=hrel;have HSB:=hid hsb;have HB3:=hid hb3;have hwj:=hb3.size;have hbx3:Below w0.heap.size w0 wr:=HBX.out.trans (hb3.mono HBX.out.size);obtain⟨p0,p1,p2,p3,p4,p5⟩:=X6.out wr hbx3;have QI:=hid hbx3;obtain⟨tt,htt⟩:∃tt,dJ (plP (l.take j) (k:Int)) (X:Int)=tt:=⟨_,rfl⟩;have htb:=bk (fE (fun q hq=>HBI.out q (List.mem_of_mem_take hq)) (k:Int)) (X:Int) (ps:=plP (l.take j) (k:Int));have hpl:(plP (l.take j) (k:Int)).length<=4:=Nat.le_trans (iB _ _) (by rw[List.length_take];omega);rw[htt]at htb;have htb':0<=tt/\tt<=264241152:=⟨htb.1,by have:=htb.2;omega⟩;have HTT:=hid htt;rw[htt];clear htb hpl htt hsb;by_cases hlj:j<l.length
       ·obtain⟨bP,Lv,a',d',t',u',hA,hbP,hlk,y0,y1,y2,y3⟩:=(HP0.out.ah hbx3).at_ hlj
        have HNX:=hid (DC (k:=(k:Int)) hlk);have lX:Bits d' t' u':=by
         obtain⟨hl,e⟩:=hlk;have:=HBI.out l[j] (List.getElem_mem hl);rw[e]at this;exact this
        have HLK:=hid hlk;have s3:IntKind.i64.wrap ((j:Int)+1)=(j:Int)+1:=IntWalk.i64_in _ (by omega);have i3:(0:Int)<=(j:Int):=Int.natCast_nonneg _;have i4:(j:Int)<(l.length:Int):=by omega
        by_cases e:a'=(k:Int)
        ·subst e
         have hvb:=bw lX (X:Int);have HV:=hid (wL (k:Int) d' t' u' (X:Int) wr (by omega));rw[show Gi d' t' u' (X:Int)=(dc d' t' u' (X:Int),true)from if_pos ⟨lX,by omega,by omega⟩]at HV;have HTN:=hid (show dJ (plP (l.take (j+1)) (k:Int)) (X:Int)=tt+dc d' t' u' (X:Int)from by rw[HNX.out,if_pos rfl,kP,jZ,HTT.out]);have HNE:=hid (show plP (l.take (j+1)) (k:Int)≠[]from by rw[HNX.out,if_pos rfl];simp);obtain⟨vv,hvv⟩:∃vv,dc d' t' u' (X:Int)=vv:=⟨_,rfl⟩;rw[hvv]at hvb HV HTN;have s4:IntKind.i64.wrap (tt+vv)=tt+vv:=IntWalk.i64_in _ (by omega);have HNW:=hid (fun W (hW:Below wr.heap.size wr W)=>show In3 l (k:Int) (X:Int) sb wj (.bool true) (.int .i64 (tt+vv)) (.int .i64 ((j:Int)+1)) W from⟨j+1,true,hlj,rfl,rfl,by rw[HTN.out],⟨fun _=>.inr HNE.out,fun _=>rfl⟩,HB3.out.trans (hW.mono hwj)⟩);subst hA;clear hb3 hbx3 hlk lX hvv;go_wp2_with (fail);refine HV.out.mono ?_;rintro e w6 ⟨rfl,hb6⟩;have HN6:=hid (HNW.out w6 hb6);clear hb6;go_wp2_with (fail)
         go_roundw
         case rel=>exact HN6.out
         case measure=>simp[intOf];omega
        ·have e1:decide (a'=(k:Int))=false:=decide_eq_false e
         have e2:(a' == (k:Int))=false:=by simpa using e
         have HNW:=hid (show In3 l (k:Int) (X:Int) sb wj (.bool sb2) (.int .i64 tt) (.int .i64 ((j:Int)+1)) wr from⟨j+1,sb2,hlj,rfl,rfl,by rw[HNX.out,if_neg e,HTT.out],by rw[HNX.out,if_neg e];exact HSB.out,HB3.out⟩);subst hA;clear hb3 hbx3 hlk lX e;go_wp2_with (fail)
         go_roundw
         case rel=>exact HNW.out
         case measure=>simp[intOf];omega
       ·have htk:l.take j=l:=List.take_of_length_le (by omega)
        have Nw:dJ ps (X:Int)=tt:=by rw[<- HPS.out,<- htk,HTT.out]
        have hsb2:sb2=true↔sb=true\/ps≠[]:=by rw[<- HPS.out,<- htk];exact HSB.out
        have HPU:=hid (p8 wk.heap.size u11 ys tt wr (lK HO.out hb3) (by omega) HOW.out.srt (by omega));have HNW:=hid (fun v' zs W (h1:bD W wk.heap.size v' zs) (h2:Srt zs) (h3:∀y,y∈zs↔y=tt\/y∈ys) (h4:zs.length<=ys.length+1) (h5:Below wk.heap.size wr W)=>show In2 g ps wk v' (.bool sb2) (.int .i64 ((X:Int)+1)) W from⟨X+1,zs,sb2,hlx,rfl,rfl,h1,HOW.out.more HM.out h2 (fun y=>by rw[h3,Nw]) h4 hsb2,(HB2.out.trans (HB3.out.mono hwk2)).trans h5⟩);clear hb3 hbx3 htk Nw hsb2;go_wp2_with (fail);refine HPU.out.mono ?_;rintro e w6 ⟨v6,zs,rfl,ho6,hs6,hm6,hl6,hb6⟩;have HN6:=hid (HNW.out v6 zs w6 ho6 hs6 hm6 hl6 hb6);clear ho6 hs6 hm6 hl6 hb6;go_wp2_with (fail)
        go_roundw
        case rel=>exact HN6.out
        case measure=>simp[intOf];omega
     ·rw[show bC g (X:Int)=false from eT hm]at HHA
      have HNW:=hid (show In2 g ps wk u11 (.bool sb) (.int .i64 ((X:Int)+1)) wr from⟨X+1,ys,sb,hlx,rfl,rfl,HO.out,HOW.out.skip hm,HB2.out⟩);clear hm;go_wp2_with (fail);refine HHA.out.mono ?_;rintro e w5 ⟨rfl,rfl⟩;go_wp2_with (fail)
      go_roundw
      case rel=>exact HNW.out
      case measure=>simp[intOf];omega
    ·have hX6:X=256:=by omega
     subst hX6;obtain⟨hsd,hyd⟩:=HOW.out.done (HOK.out.byte rfl g HGM.out) (HOK.out.some_ g HGM.out);have HYD:=hid hyd;have HSD:=hid hsd;have hdx:decide ((256:Int)<256)=false:=by decide
     clear hown hsd hyd
     cases sb with
     | false=>
      have hps:ps=[]:=Classical.byContradiction fun q=>by have:=HSD.out.2 q;cases this
      have HNW:=hid (show In1 gs l s w0 (.slice AL L.length cL) (.int .i64 ((k:Int)+1)) wr from⟨k+1,L,AL,cL,hlt,rfl,rfl,HRL.out.ah hb2,⟨CB.out.srt,fun y=>by rw[CB.out.set,uw hlt (by rw[HGK.out];exact HOK.out.some_ g HGM.out) (by rw[HPS.out];exact hps)],CB.out.rng⟩,hbx⟩);clear ho hb2 hbx hps;go_wp2_with (fail)
      go_roundw
      case rel=>exact HNW.out
      case measure=>simp[intOf];omega
     | true=>
      obtain⟨Ao,co,hvo,hco,hro⟩:=RN.iV ho;subst hvo;have hyb:∀y∈ys,0<=y/\y<=300000000:=fun y hy=>by
       obtain⟨x,_,rfl⟩:=(HYD.out y).1 hy;have h1:=bk (ps:=ps) (by rw[<- HPS.out];exact fE HBI.out _) x;have h2:ps.length<=4:=by rw[<- HPS.out];exact Nat.le_trans (iB _ _) hl4
       omega
      have HSU:=hid (oz AL Ao L.length ys.length cL co L ys wr (HRL.out.ah hb2) hro (by omega) (by omega) CB.out.rng hyb);have HPZ:=hid (show∀z,z∈plL L ys↔rL gs l s (k+1) z from fun z=>by
       rw[r9];exact(DA hlt CB.out.set (fun y=>by rw[HYD.out,HGK.out,HPS.out]) z).symm)
      have QK:=hid hb2;clear ho hb2 hbx hro hyb hco;go_wp2_with (fail);refine HSU.out.mono ?_;rintro e w6 ⟨A6,c6,L6,ok,rfl,hok6,hL6,hc6,hr6,hb6⟩;have hbx6:Below w0.heap.size w0 w6:=HBX.out.trans (hb6.mono HBX.out.size)
      cases ok with
      | false=>
       have hno : ¬ ∀y,jR gs s l y->Sy y:=by
        have h1 : ¬ ∀z∈plL L ys,z<=1114111:=fun q=>by have:=hok6.2 q;cases this
        intro q;refine h1 fun z hz=>?_
        rcases Int.lt_or_le 1114111 z with e | e
        ·exact absurd q (Gw HBI.out HC.out HOK.out.some_ (Nat.succ_le_of_lt hlt) ((HPZ.out z).1 hz) e)
        ·exact e
       have HFI:=hid (show gB (jR gs s l) w (.returned (.tuple #[.slice none 0 0,.bool false])) w6 from⟨none,0,[],false,rfl,⟨fun e=>(by cases e),fun q=>absurd q hno⟩,fun e=>(by cases e),Nat.le_refl _,RS.dS _ _ _,HW.out.trans (hbx6.mono (by omega))⟩);clear hok6 hL6 hc6 hr6 hb6 hbx6 hno;go_wp2_with (fail);go_ret2;exact HFI.out
      | true=>
       obtain⟨g1,g2⟩:=hL6 rfl;have g3:=hok6.1 rfl;have HNW:=hid (show In1 gs l s w0 (.slice A6 L6.length c6) (.int .i64 ((k:Int)+1)) w6 from⟨k+1,L6,A6,c6,hlt,rfl,rfl,hr6,⟨g1,fun y=>by rw[g2,HPZ.out],fun y hy=>⟨by
        have:=(zQ HBI.out _ _ ((HPZ.out y).1 ((g2 y).1 hy))).1;unfold Sm at hs;omega,g3 y ((g2 y).1 hy)⟩⟩,hbx6⟩)
       clear hok6 hL6 hc6 hr6 hb6 hbx6 g1 g2 g3;go_wp2_with (fail)
       go_roundw
       case rel=>exact HNW.out
       case measure=>simp[intOf];omega
  ·have hkn:k=gs.length:=by omega
   have hset:∀y,y∈L↔jR gs s l y:=fun y=>by rw[lW.set,hkn,r8 HC.out]
   have hR:∀y∈L,Rng y:=fun y hy=>by have:=lW.rng y hy;unfold Rng;omega
   have HSP:=hid (fun W (hW:Below wr.heap.size wr W)=>pT AL L.length cL L W (HRL.out.ah hW) (by omega) CB.out.srt hR);obtain⟨m,hm⟩:∃m,L.length=m+1:=by
    rcases Nat.eq_zero_or_pos L.length with q | q
    ·obtain⟨y,hy⟩:=pre_some (l:=l) HOK.out.some_ (s:=s) gs.length (Nat.le_refl _)
     rw[<- hkn,<- lW.set,List.eq_nil_of_length_eq_zero q]at hy
     cases hy
    ·exact⟨L.length-1,by omega⟩
   obtain⟨bL,ku,hA,hbL,hcL⟩:=hrL.2 (by omega);have h0:0<L.length:=by omega
   have h1:m<L.length:=by omega
   obtain⟨lo,hlo⟩:∃lo,L[0]=lo:=⟨_,rfl⟩;obtain⟨hi,hhi⟩:∃hi,L[m]=hi:=⟨_,rfl⟩;have c0:=hcL 0 h0;have c1:=hcL m h1;rw[hlo]at c0;rw[hhi]at c1;simp only[Nat.add_zero]at c0;have hlb:=lW.rng lo (by rw[<- hlo];exact List.getElem_mem h0);have hhb:=lW.rng hi (by rw[<- hhi];exact List.getElem_mem h1);have yC:=hid (show(∀y,jR gs s l y->Sy y)↔0<=lo/\hi<=1114111 from by
    constructor
    ·intro q
     have q0:=q lo ((hset _).1 (by rw[<- hlo];exact List.getElem_mem h0));have q1:=q hi ((hset _).1 (by rw[<- hhi];exact List.getElem_mem h1));unfold Sy at q0 q1;exact⟨q0.1,q1.2⟩
    ·rintro⟨q0,q1⟩ y hy
     obtain⟨j,hj,rfl⟩:=List.getElem_of_mem ((hset y).2 hy);have e0:lo<=L[j]:=by
      rcases Nat.eq_zero_or_pos j with e | e
      ·subst e;omega
      ·have:=lW.srt.lt e hj;omega
     have e1:L[j]<=hi:=by
      rcases Nat.lt_or_ge j m with e | e
      ·have:=lW.srt.lt e h1;omega
      ·obtain rfl:j=m:=by omega
       omega
     unfold Sy;omega)
   have Cx:=hid hset;subst hA;have s9:IntKind.i64.wrap (((m+1:Nat):Int)-1)=(m:Int):=by rw[IntWalk.i64_in _ (by omega)];omega
   have s9':IntKind.i64.wrap ((m:Int)+1-1)=(m:Int):=by rw[IntWalk.i64_in _ (by omega)];omega
   have s10:IntKind.i64.wrap (m:Int)=(m:Int):=IntWalk.i64_in _ (by omega);have j1:(0:Int)<=(m:Int):=Int.natCast_nonneg _;have j6:(-1:Int)<(m:Int):=by omega
   have hm1:m<=2228223:=by omega
   rw[hm]at HSP ⊢;have j2:(m:Int)<((m+1:Nat):Int):=by omega
   have j3:(0:Int)<((m+1:Nat):Int):=by omega
   have j4:(m:Int)<(m:Int)+1:=by omega
   have j5:(0:Int)<(m:Int)+1:=by omega
   have HFB:=hid (fun(v:Value) (o:List Span) W (h1:Is o (·∈L)) (h2:av W wr.heap.size v o) (h3:Below wr.heap.size wr W) (ok:Bool) (hok:ok=true↔0<=lo/\hi<=1114111)=>show gB (jR gs s l) w (.returned (.tuple #[v,.bool ok])) W from by
    obtain⟨A',c',rfl,hc',hr'⟩:=aF h2;exact⟨A',c',o,ok,rfl,hok.trans yC.out.symm,fun _=>h1.congr Cx.out,hc',hr',HW.out.trans ((HBR.out.trans (h3.mono hwr)).mono (by omega))⟩)
   clear lW hrL hbr hset hR hcL hlo hhi hkn hm;by_cases k1:0<=lo
   ·have d1:decide (0<=lo)=true:=decide_eq_true k1
    by_cases k2:hi<=1114111
    ·have d2:decide (hi<=1114111)=true:=decide_eq_true k2
     have Iy:=hid (fun v o W h1 h2 h3=>HFB.out v o W h1 h2 h3 true ⟨fun _=>⟨k1,k2⟩,fun _=>rfl⟩);go_wp2_with (fail)
     go_region_held3 (fun w'=>w'.cell? ⟨bL,ku,none⟩=some (.int .i64 lo)/\w'.cell? ⟨bL,ku+m,none⟩=some (.int .i64 hi))
      (first
       | go_keep
       | (go_split_ands;refine⟨?_,?_⟩;all_goals (rw[hb6.cell (by simp;omega)];assumption)))
      (first
       | (go_at_call 80;refine(HSP.out _ (Below.refl _ wr).drew).mono ?_;rintro e w6 ⟨v6,o6,rfl,his6,ho6,hb6⟩))
     have HFI:=hid (Iy.out v6 o6 w6 his6 ho6 (((Below.refl wr.heap.size wr).drew).trans hb6));clear his6 ho6 hb6;go_wp2_with (fail);go_ret2;exact HFI.out
    ·exact absurd hhb.2 k2
   ·have d1:decide (0<=lo)=false:=decide_eq_false k1
    have Iy:=hid (fun v o W h1 h2 h3=>HFB.out v o W h1 h2 h3 false ⟨fun e=>(by cases e),fun q=>absurd q.1 k1⟩);go_wp2_with (fail);obtain⟨wd,hwd⟩:∃wd,wr.drew=wd:=⟨_,rfl⟩;have hBx:Below wr.heap.size wr wd:=by rw[<- hwd];exact(Below.refl _ _).drew
    have hQW:wd.cell? ⟨bL,ku,none⟩=some (.int .i64 lo)/\wd.cell? ⟨bL,ku+m,none⟩=some (.int .i64 hi):=⟨(hBx.cell hbL).trans c0,(hBx.cell (p:=⟨bL,ku+m,none⟩) hbL).trans c1⟩;refine wp_region_held_drew (S:=fun w'=>w'.cell? ⟨bL,ku,none⟩=some (.int .i64 lo)/\w'.cell? ⟨bL,ku+m,none⟩=some (.int .i64 hi)) (by kernel_rfl) (by rw[hwd];exact hQW) (fun hHeld=>?_);rw[hwd]at hHeld ⊢;refine tk 0 ⟨some 120,.move (.tmp 9),_,_,_,none⟩ ?_ rfl ?_ ?_;rotate_left
    ·intro w' hSw
     (try dsimp only at hSw)
     obtain⟨y0,y1⟩:=hSw;go_simp;all_goals with_reducible rfl
    try simp only[Act.put,sA,sB,sC]
    refine tk 2 ⟨some 122,.move (.tmp 9),_,_,_,none⟩ ?_ rfl ?_ ?_;rotate_left
    ·intro w' hSw
     (try dsimp only at hSw)
     obtain⟨y0,y1⟩:=hSw;go_simp;all_goals with_reducible rfl
    try simp only[Act.put,sA,sB,sC]
    refine tk 3 ⟨some 123,.indexAddr 56 (.tmp 122) (.const (Go.Value.int IntKind.i64 0)),_,_,_,none⟩ ?_ rfl ?_ ?_;rotate_left
    ·intro w' hSw
     (try dsimp only at hSw)
     obtain⟨y0,y1⟩:=hSw;go_simp;all_goals with_reducible rfl
    try simp only[Act.put,sA,sB,sC]
    refine tk 4 ⟨some 124,.load 3 (.tmp 123),_,_,_,none⟩ ?_ rfl ?_ ?_;rotate_left
    ·intro w' hSw
     (try dsimp only at hSw)
     obtain⟨y0,y1⟩:=hSw;go_simp;all_goals with_reducible rfl
    try simp only[Act.put,sA,sB,sC]
    refine tk 5 ⟨some 125,.binOp .geq 3 (.tmp 124) (.const (Go.Value.int IntKind.i64 0)) 3,_,_,_,none⟩ ?_ rfl ?_ ?_;rotate_left
    ·intro w' hSw
     (try dsimp only at hSw)
     obtain⟨y0,y1⟩:=hSw;go_simp;all_goals with_reducible rfl
    try simp only[Act.put,sA,sB,sC]
    refine wpAnyH_ready (rs:=[1]) (by kernel_rfl) (by simp) ?_;refine AllReadyH.cons (o:=⟨some 121,.call { callee:=.value (.func 80),args:=#[.tmp 120],argTypes:=#[56] },_,_,_,none⟩) rfl (fun K hK=>?_) AllReadyH.nil;go_simp;refine(HSP.out _ hBx).mono ?_;rintro e w6 ⟨v6,o6,rfl,his6,ho6,hb6⟩;have hz6:=hBx.size;have hQ6:w6.cell? ⟨bL,ku,none⟩=some (.int .i64 lo)/\w6.cell? ⟨bL,ku+m,none⟩=some (.int .i64 hi):=⟨(hb6.cell (p:=⟨bL,ku,none⟩) (by show bL<_;omega)).trans hQW.1,(hb6.cell (p:=⟨bL,ku+m,none⟩) (by show bL<_;omega)).trans hQW.2⟩;go_simp;refine hK.out _ _ ?_ (fun hHeld=>?_)
    ·exact hQ6
    clear hK K;try simp only[Act.put,sA,sB,sC]
    refine tk 6 ⟨some 126,.move (.tmp 125),_,_,_,none⟩ ?_ rfl ?_ ?_;rotate_left
    ·intro w' hSw
     (try dsimp only at hSw)
     obtain⟨y0,y1⟩:=hSw;go_simp;all_goals with_reducible rfl
    try simp only[Act.put,sA,sB,sC]
    refine wpAnyH_take (i:=7) (oi:=⟨some 127,.move (.tmp 9),_,_,_,some (6,true)⟩) (v:=undef) rfl (by kernel_rfl) (by kernel_rfl) (by kernel_rfl) (fun _ _ _ h=>h) (Or.inr ⟨by rfl,rfl⟩) (by assumption) ?_;try simp only[Act.put,sA,sB,sC]
    refine wpAnyH_take (i:=8) (oi:=⟨some 128,.move (.tmp 9),_,_,_,some (6,true)⟩) (v:=undef) rfl (by kernel_rfl) (by kernel_rfl) (by kernel_rfl) (fun _ _ _ h=>h) (Or.inr ⟨by rfl,rfl⟩) (by assumption) ?_;try simp only[Act.put,sA,sB,sC]
    refine wpAnyH_take (i:=9) (oi:=⟨some 129,.call { callee:=.builtin .len,args:=#[.tmp 128],argTypes:=#[56] },_,_,_,some (6,true)⟩) (v:=undef) rfl (by kernel_rfl) (by kernel_rfl) (by kernel_rfl) (fun _ _ _ h=>h) (Or.inr ⟨by rfl,rfl⟩) (by assumption) ?_;try simp only[Act.put,sA,sB,sC]
    refine wpAnyH_take (i:=10) (oi:=⟨some 130,.binOp .sub 3 (.tmp 129) (.const (Go.Value.int IntKind.i64 1)) 3,_,_,_,some (6,true)⟩) (v:=undef) rfl (by kernel_rfl) (by kernel_rfl) (by kernel_rfl) (fun _ _ _ h=>h) (Or.inr ⟨by rfl,rfl⟩) (by assumption) ?_;try simp only[Act.put,sA,sB,sC]
    refine wpAnyH_take (i:=11) (oi:=⟨some 131,.indexAddr 56 (.tmp 127) (.tmp 130),_,_,_,some (6,true)⟩) (v:=undef) rfl (by kernel_rfl) (by kernel_rfl) (by kernel_rfl) (fun _ _ _ h=>h) (Or.inr ⟨by rfl,rfl⟩) (by assumption) ?_;try simp only[Act.put,sA,sB,sC]
    refine wpAnyH_take (i:=12) (oi:=⟨some 132,.load 3 (.tmp 131),_,_,_,some (6,true)⟩) (v:=undef) rfl (by kernel_rfl) (by kernel_rfl) (by kernel_rfl) (fun _ _ _ h=>h) (Or.inr ⟨by rfl,rfl⟩) (by assumption) ?_;try simp only[Act.put,sA,sB,sC]
    refine wpAnyH_take (i:=13) (oi:=⟨some 133,.binOp .leq 3 (.tmp 132) (.const (Go.Value.int IntKind.i64 1114111)) 3,_,_,_,some (6,true)⟩) (v:=undef) rfl (by kernel_rfl) (by kernel_rfl) (by kernel_rfl) (fun _ _ _ h=>h) (Or.inr ⟨by rfl,rfl⟩) (by assumption) ?_;try simp only[Act.put,sA,sB,sC]
    refine tk 14 ⟨some 134,.pick (.tmp 126) (.tmp 133) (.const (Go.Value.bool false)),_,_,_,none⟩ ?_ rfl ?_ ?_;rotate_left
    ·intro w' hSw
     (try dsimp only at hSw)
     obtain⟨y0,y1⟩:=hSw;go_simp;all_goals with_reducible rfl
    try simp only[Act.put,sA,sB,sC]
    refine tk 15 ⟨some 6,.assign (.tmp 121),_,_,_,none⟩ ?_ rfl ?_ ?_;rotate_left
    ·intro w' hSw
     (try dsimp only at hSw)
     obtain⟨y0,y1⟩:=hSw;go_simp;all_goals with_reducible rfl
    try simp only[Act.put,sA,sB,sC]
    refine tk 16 ⟨some 7,.assign (.tmp 134),_,_,_,none⟩ ?_ rfl ?_ ?_;rotate_left
    ·intro w' hSw
     (try dsimp only at hSw)
     obtain⟨y0,y1⟩:=hSw;go_simp;all_goals with_reducible rfl
    try simp only[Act.put,sA,sB,sC]
    refine wpAnyH_done (by kernel_rfl) ?_ _;have HFI:=hid (Iy.out v6 o6 w6 his6 (nG ho6 hz6) (hBx.trans (hb6.mono hz6)));clear his6 ho6 hb6 hBx;go_wp2_with (fail);go_ret2;exact HFI.out
end Go.Proofs.YtbdmcibcenhpnaaGreatDoor.Rg
namespace Go.Proofs.YtbdmcibcenhpnaaGreatDoor.Rg
set_option maxHeartbeats 64000000
open Go Go.RowKit Go.Shelf Go.Maps Sp Pa Te Mi Sh Fi
open Go.Lib (hid)
theorem xJ (b d t u s:Int) (A:Option Addr) (c:Nat) (l:List PT) (hnil:l=[]) (G:Option Addr) (gc:Nat) (gs:List (List Span)) (w:World) (h:RP w w.heap.size A l.length l) (hg:RGs w G gs.length gs) (hok:IL 2 gs) (hb:BitsAll l) (hc:∀q∈l,0<=q.1/\q.1<gs.length) (hs:Sm s) :
  Calls Tryz.prog 60 #[trm b d t u s A l.length c,.int .i64 2,.slice G gs.length gc] w (gB (jR gs s l) w):=by
 obtain⟨w0,hw0⟩:∃w0,w.alloc (.cells (aR b d t u s A l.length c) 51)=w0:=⟨_,rfl⟩;have hbw:Below w.heap.size w w0:=by rw[<- hw0];exact(Below.refl _ w).alloc (Nat.le_refl _) _
 have hsz0:w0.heap.size=w.heap.size+1:=by rw[<- hw0];simp
 have X6:=hid (fun W (hb:Below w0.heap.size w0 W)=>show Boxed6 W w.heap.size b d t u s A l.length c from by rw[<- hw0]at hb;exact boxed6 hb);obtain⟨r0,r1,r2,r3,r4,r5⟩:=X6.out w0 (Below.refl _ _);have HP0:=hid (h.ah hbw);have HG0:=hid (hg.ah hbw);have HW:=hid hbw;have HOK:=hid hok;have HBI:=hid hb;have HC:=hid hc;have hg4:=hok.four;have hsm:=hs;unfold Sm at hsm;obtain⟨w1,hw1⟩:∃w1,w0.alloc (.cells #[.int .i64 s] 3)=w1:=⟨_,rfl⟩;have hb1:Below w0.heap.size w0 w1:=by rw[<- hw1];exact(Below.refl _ _).alloc (Nat.le_refl _) _
 have hr1:RN w1 w1.heap.size (some ⟨w0.heap.size,0,none⟩) 1 [s]:=⟨rfl,fun _=>⟨w0.heap.size,0,rfl,by rw[<- hw1];simp,fun j hj=>by
  obtain rfl:j=0:=by simp at hj;exact hj
  rw[<- hw1];simp⟩⟩
 have HST:=hid (show In1 gs l s w0 (.slice (some ⟨w0.heap.size,0,none⟩) 1 1) (.int .i64 (0:Nat)) w1 from⟨0,[s],_,_,Nat.zero_le _,rfl,rfl,hr1,⟨List.pairwise_singleton _ _,fun y=>by rw[List.mem_singleton];exact Iff.rfl,fun y hy=>by rw[List.mem_singleton]at hy;omega⟩,hb1⟩);have CD:=hid hnil;have hl0:decide ((l.length:Int)=1)=false:=by rw[hnil];rfl
 have hl1:((l.length:Int) == 1)=false:=by rw[hnil];rfl
 have hd0:decide ((0:Int)=1)=false:=by decide
 clear h hg hok hb hc hbw hb1 hr1 hnil;go_enter Tryz.func60,Tryz.ntmps60;go_wp2_with (fail)
 go_loopw [9,10] (fun v i wr=>In1 gs l s w0 v i wr) (fun _ i _=>gs.length-(intOf i).toNat)
 case atStart=>exact(by rw[<- hsz0];exact HST.out)
 case round=>
  obtain⟨k,L,AL,cL,hk,rfl,rfl,hrL,lW,hbr⟩:=hrel;have CB:=hid lW;have HBR:=hid hbr;have HRL:=hid hrL;have hLl:=lW.len;obtain⟨p0,p1,p2,p3,p4,p5⟩:=X6.out wr hbr;have hwr:=hbr.size;by_cases hlt:k<gs.length
  ·obtain⟨g,hgk⟩:∃g,gs[k]=g:=⟨_,rfl⟩
   have hgm:g∈gs:=by rw[<- hgk];exact List.getElem_mem hlt
   have s1:IntKind.i64.wrap ((k:Int)+1)=(k:Int)+1:=IntWalk.i64_in _ (by omega);have HNW:=hid (show In1 gs l s w0 (.slice AL L.length cL) (.int .i64 ((k:Int)+1)) wr from⟨k+1,L,AL,cL,hlt,rfl,rfl,hrL,⟨CB.out.srt,fun y=>by rw[CB.out.set,uw hlt (HOK.out.some_ _ (List.getElem_mem hlt)) (by rw[CD.out];rfl)],CB.out.rng⟩,hbr⟩);clear lW hrL hbr
   rename World=>wk
   go_wp2_with (fail)
   go_loopw [11,12,13] (fun v sv xv wr=>v = .slice none 0 0/\sv = .bool false/\xv = .int .i64 0/\wr=wk) (fun _ _ xv _=>256-(intOf xv).toNat)
   case atStart=>exact⟨rfl,rfl,rfl,rfl⟩
   case round=>
    obtain⟨rfl,rfl,rfl,rfl⟩:=hrel;go_wp2_with (fail)
    go_roundw
    case rel=>exact HNW.out
    case measure=>simp[intOf];omega
  ·have hkn:k=gs.length:=by omega
   have hset:∀y,y∈L↔jR gs s l y:=fun y=>by rw[lW.set,hkn,r8 HC.out]
   have hR:∀y∈L,Rng y:=fun y hy=>by have:=lW.rng y hy;unfold Rng;omega
   have HSP:=hid (fun W (hW:Below wr.heap.size wr W)=>pT AL L.length cL L W (HRL.out.ah hW) (by omega) CB.out.srt hR);obtain⟨m,hm⟩:∃m,L.length=m+1:=by
    rcases Nat.eq_zero_or_pos L.length with q | q
    ·obtain⟨y,hy⟩:=pre_some (l:=l) HOK.out.some_ (s:=s) gs.length (Nat.le_refl _)
     rw[<- hkn,<- lW.set,List.eq_nil_of_length_eq_zero q]at hy
     cases hy
    ·exact⟨L.length-1,by omega⟩
   obtain⟨bL,ku,hA,hbL,hcL⟩:=hrL.2 (by omega);have h0:0<L.length:=by omega
   have h1:m<L.length:=by omega
   obtain⟨lo,hlo⟩:∃lo,L[0]=lo:=⟨_,rfl⟩;obtain⟨hi,hhi⟩:∃hi,L[m]=hi:=⟨_,rfl⟩;have c0:=hcL 0 h0;have c1:=hcL m h1;rw[hlo]at c0;rw[hhi]at c1;simp only[Nat.add_zero]at c0;have hlb:=lW.rng lo (by rw[<- hlo];exact List.getElem_mem h0);have hhb:=lW.rng hi (by rw[<- hhi];exact List.getElem_mem h1);have yC:=hid (show(∀y,jR gs s l y->Sy y)↔0<=lo/\hi<=1114111 from by
    constructor
    ·intro q
     have q0:=q lo ((hset _).1 (by rw[<- hlo];exact List.getElem_mem h0));have q1:=q hi ((hset _).1 (by rw[<- hhi];exact List.getElem_mem h1));unfold Sy at q0 q1;exact⟨q0.1,q1.2⟩
    ·rintro⟨q0,q1⟩ y hy
     obtain⟨j,hj,rfl⟩:=List.getElem_of_mem ((hset y).2 hy);have e0:lo<=L[j]:=by
      rcases Nat.eq_zero_or_pos j with e | e
      ·subst e;omega
      ·have:=lW.srt.lt e hj;omega
     have e1:L[j]<=hi:=by
      rcases Nat.lt_or_ge j m with e | e
      ·have:=lW.srt.lt e h1;omega
      ·obtain rfl:j=m:=by omega
       omega
     unfold Sy;omega)
   have Cx:=hid hset;subst hA;have s9:IntKind.i64.wrap (((m+1:Nat):Int)-1)=(m:Int):=by rw[IntWalk.i64_in _ (by omega)];omega
   have s9':IntKind.i64.wrap ((m:Int)+1-1)=(m:Int):=by rw[IntWalk.i64_in _ (by omega)];omega
   have s10:IntKind.i64.wrap (m:Int)=(m:Int):=IntWalk.i64_in _ (by omega);have j1:(0:Int)<=(m:Int):=Int.natCast_nonneg _;have j6:(-1:Int)<(m:Int):=by omega
   have hm1:m<=2228223:=by omega
   rw[hm]at HSP ⊢;have j2:(m:Int)<((m+1:Nat):Int):=by omega
   have j3:(0:Int)<((m+1:Nat):Int):=by omega
   have j4:(m:Int)<(m:Int)+1:=by omega
   have j5:(0:Int)<(m:Int)+1:=by omega
   have HFB:=hid (fun(v:Value) (o:List Span) W (h1:Is o (·∈L)) (h2:av W wr.heap.size v o) (h3:Below wr.heap.size wr W) (ok:Bool) (hok:ok=true↔0<=lo/\hi<=1114111)=>show gB (jR gs s l) w (.returned (.tuple #[v,.bool ok])) W from by
    obtain⟨A',c',rfl,hc',hr'⟩:=aF h2;exact⟨A',c',o,ok,rfl,hok.trans yC.out.symm,fun _=>h1.congr Cx.out,hc',hr',HW.out.trans ((HBR.out.trans (h3.mono hwr)).mono (by omega))⟩)
   clear lW hrL hbr hset hR hcL hlo hhi hkn hm;by_cases k1:0<=lo
   ·have d1:decide (0<=lo)=true:=decide_eq_true k1
    by_cases k2:hi<=1114111
    ·have d2:decide (hi<=1114111)=true:=decide_eq_true k2
     have Iy:=hid (fun v o W h1 h2 h3=>HFB.out v o W h1 h2 h3 true ⟨fun _=>⟨k1,k2⟩,fun _=>rfl⟩);go_wp2_with (fail)
     go_region_held3 (fun w'=>w'.cell? ⟨bL,ku,none⟩=some (.int .i64 lo)/\w'.cell? ⟨bL,ku+m,none⟩=some (.int .i64 hi))
      (first
       | go_keep
       | (go_split_ands;refine⟨?_,?_⟩;all_goals (rw[hb6.cell (by simp;omega)];assumption)))
      (first
       | (go_at_call 80;refine(HSP.out _ (Below.refl _ wr).drew).mono ?_;rintro e w6 ⟨v6,o6,rfl,his6,ho6,hb6⟩))
     have HFI:=hid (Iy.out v6 o6 w6 his6 ho6 (((Below.refl wr.heap.size wr).drew).trans hb6));clear his6 ho6 hb6;go_wp2_with (fail);go_ret2;exact HFI.out
    ·exact absurd hhb.2 k2
   ·have d1:decide (0<=lo)=false:=decide_eq_false k1
    have Iy:=hid (fun v o W h1 h2 h3=>HFB.out v o W h1 h2 h3 false ⟨fun e=>(by cases e),fun q=>absurd q.1 k1⟩);go_wp2_with (fail);obtain⟨wd,hwd⟩:∃wd,wr.drew=wd:=⟨_,rfl⟩;have hBx:Below wr.heap.size wr wd:=by rw[<- hwd];exact(Below.refl _ _).drew
    have hQW:wd.cell? ⟨bL,ku,none⟩=some (.int .i64 lo)/\wd.cell? ⟨bL,ku+m,none⟩=some (.int .i64 hi):=⟨(hBx.cell hbL).trans c0,(hBx.cell (p:=⟨bL,ku+m,none⟩) hbL).trans c1⟩;refine wp_region_held_drew (S:=fun w'=>w'.cell? ⟨bL,ku,none⟩=some (.int .i64 lo)/\w'.cell? ⟨bL,ku+m,none⟩=some (.int .i64 hi)) (by kernel_rfl) (by rw[hwd];exact hQW) (fun hHeld=>?_);rw[hwd]at hHeld ⊢;refine tk 0 ⟨some 120,.move (.tmp 9),_,_,_,none⟩ ?_ rfl ?_ ?_;rotate_left
    ·intro w' hSw
     (try dsimp only at hSw)
     obtain⟨y0,y1⟩:=hSw;go_simp;all_goals with_reducible rfl
    try simp only[Act.put,sA,sB,sC]
    refine tk 2 ⟨some 122,.move (.tmp 9),_,_,_,none⟩ ?_ rfl ?_ ?_;rotate_left
    ·intro w' hSw
     (try dsimp only at hSw)
     obtain⟨y0,y1⟩:=hSw;go_simp;all_goals with_reducible rfl
    try simp only[Act.put,sA,sB,sC]
    refine tk 3 ⟨some 123,.indexAddr 56 (.tmp 122) (.const (Go.Value.int IntKind.i64 0)),_,_,_,none⟩ ?_ rfl ?_ ?_;rotate_left
    ·intro w' hSw
     (try dsimp only at hSw)
     obtain⟨y0,y1⟩:=hSw;go_simp;all_goals with_reducible rfl
    try simp only[Act.put,sA,sB,sC]
    refine tk 4 ⟨some 124,.load 3 (.tmp 123),_,_,_,none⟩ ?_ rfl ?_ ?_;rotate_left
    ·intro w' hSw
     (try dsimp only at hSw)
     obtain⟨y0,y1⟩:=hSw;go_simp;all_goals with_reducible rfl
    try simp only[Act.put,sA,sB,sC]
    refine tk 5 ⟨some 125,.binOp .geq 3 (.tmp 124) (.const (Go.Value.int IntKind.i64 0)) 3,_,_,_,none⟩ ?_ rfl ?_ ?_;rotate_left
    ·intro w' hSw
     (try dsimp only at hSw)
     obtain⟨y0,y1⟩:=hSw;go_simp;all_goals with_reducible rfl
    try simp only[Act.put,sA,sB,sC]
    refine wpAnyH_ready (rs:=[1]) (by kernel_rfl) (by simp) ?_;refine AllReadyH.cons (o:=⟨some 121,.call { callee:=.value (.func 80),args:=#[.tmp 120],argTypes:=#[56] },_,_,_,none⟩) rfl (fun K hK=>?_) AllReadyH.nil;go_simp;refine(HSP.out _ hBx).mono ?_;rintro e w6 ⟨v6,o6,rfl,his6,ho6,hb6⟩;have hz6:=hBx.size;have hQ6:w6.cell? ⟨bL,ku,none⟩=some (.int .i64 lo)/\w6.cell? ⟨bL,ku+m,none⟩=some (.int .i64 hi):=⟨(hb6.cell (p:=⟨bL,ku,none⟩) (by show bL<_;omega)).trans hQW.1,(hb6.cell (p:=⟨bL,ku+m,none⟩) (by show bL<_;omega)).trans hQW.2⟩;go_simp;refine hK.out _ _ ?_ (fun hHeld=>?_)
    ·exact hQ6
    clear hK K;try simp only[Act.put,sA,sB,sC]
    refine tk 6 ⟨some 126,.move (.tmp 125),_,_,_,none⟩ ?_ rfl ?_ ?_;rotate_left
    ·intro w' hSw
     (try dsimp only at hSw)
     obtain⟨y0,y1⟩:=hSw;go_simp;all_goals with_reducible rfl
    try simp only[Act.put,sA,sB,sC]
    refine wpAnyH_take (i:=7) (oi:=⟨some 127,.move (.tmp 9),_,_,_,some (6,true)⟩) (v:=undef) rfl (by kernel_rfl) (by kernel_rfl) (by kernel_rfl) (fun _ _ _ h=>h) (Or.inr ⟨by rfl,rfl⟩) (by assumption) ?_;try simp only[Act.put,sA,sB,sC]
    refine wpAnyH_take (i:=8) (oi:=⟨some 128,.move (.tmp 9),_,_,_,some (6,true)⟩) (v:=undef) rfl (by kernel_rfl) (by kernel_rfl) (by kernel_rfl) (fun _ _ _ h=>h) (Or.inr ⟨by rfl,rfl⟩) (by assumption) ?_;try simp only[Act.put,sA,sB,sC]
    refine wpAnyH_take (i:=9) (oi:=⟨some 129,.call { callee:=.builtin .len,args:=#[.tmp 128],argTypes:=#[56] },_,_,_,some (6,true)⟩) (v:=undef) rfl (by kernel_rfl) (by kernel_rfl) (by kernel_rfl) (fun _ _ _ h=>h) (Or.inr ⟨by rfl,rfl⟩) (by assumption) ?_;try simp only[Act.put,sA,sB,sC]
    refine wpAnyH_take (i:=10) (oi:=⟨some 130,.binOp .sub 3 (.tmp 129) (.const (Go.Value.int IntKind.i64 1)) 3,_,_,_,some (6,true)⟩) (v:=undef) rfl (by kernel_rfl) (by kernel_rfl) (by kernel_rfl) (fun _ _ _ h=>h) (Or.inr ⟨by rfl,rfl⟩) (by assumption) ?_;try simp only[Act.put,sA,sB,sC]
    refine wpAnyH_take (i:=11) (oi:=⟨some 131,.indexAddr 56 (.tmp 127) (.tmp 130),_,_,_,some (6,true)⟩) (v:=undef) rfl (by kernel_rfl) (by kernel_rfl) (by kernel_rfl) (fun _ _ _ h=>h) (Or.inr ⟨by rfl,rfl⟩) (by assumption) ?_;try simp only[Act.put,sA,sB,sC]
    refine wpAnyH_take (i:=12) (oi:=⟨some 132,.load 3 (.tmp 131),_,_,_,some (6,true)⟩) (v:=undef) rfl (by kernel_rfl) (by kernel_rfl) (by kernel_rfl) (fun _ _ _ h=>h) (Or.inr ⟨by rfl,rfl⟩) (by assumption) ?_;try simp only[Act.put,sA,sB,sC]
    refine wpAnyH_take (i:=13) (oi:=⟨some 133,.binOp .leq 3 (.tmp 132) (.const (Go.Value.int IntKind.i64 1114111)) 3,_,_,_,some (6,true)⟩) (v:=undef) rfl (by kernel_rfl) (by kernel_rfl) (by kernel_rfl) (fun _ _ _ h=>h) (Or.inr ⟨by rfl,rfl⟩) (by assumption) ?_;try simp only[Act.put,sA,sB,sC]
    refine tk 14 ⟨some 134,.pick (.tmp 126) (.tmp 133) (.const (Go.Value.bool false)),_,_,_,none⟩ ?_ rfl ?_ ?_;rotate_left
    ·intro w' hSw
     (try dsimp only at hSw)
     obtain⟨y0,y1⟩:=hSw;go_simp;all_goals with_reducible rfl
    try simp only[Act.put,sA,sB,sC]
    refine tk 15 ⟨some 6,.assign (.tmp 121),_,_,_,none⟩ ?_ rfl ?_ ?_;rotate_left
    ·intro w' hSw
     (try dsimp only at hSw)
     obtain⟨y0,y1⟩:=hSw;go_simp;all_goals with_reducible rfl
    try simp only[Act.put,sA,sB,sC]
    refine tk 16 ⟨some 7,.assign (.tmp 134),_,_,_,none⟩ ?_ rfl ?_ ?_;rotate_left
    ·intro w' hSw
     (try dsimp only at hSw)
     obtain⟨y0,y1⟩:=hSw;go_simp;all_goals with_reducible rfl
    try simp only[Act.put,sA,sB,sC]
    refine wpAnyH_done (by kernel_rfl) ?_ _;have HFI:=hid (Iy.out v6 o6 w6 his6 (nG ho6 hz6) (hBx.trans (hb6.mono hz6)));clear his6 ho6 hb6 hBx;go_wp2_with (fail);go_ret2;exact HFI.out
end Go.Proofs.YtbdmcibcenhpnaaGreatDoor.Rg
namespace Go.Proofs.YtbdmcibcenhpnaaGreatDoor.Rg
set_option maxHeartbeats 64000000
open Go Go.RowKit Go.Shelf Go.Maps Sp Pa Te Mi Sh Fi
open Go.Lib (hid)
theorem ql (k:Int) (w:World):Calls Tryz.prog 48 #[.int .i64 k] w (Li k w):=by
 by_cases k1:k=1
 ·subst k1
  go_enter Tryz.func48,Tryz.ntmps48;go_wp2_with (fail);go_ret;exact⟨_,1,rfl,uD,(Below.refl _ _).alloc (Nat.le_refl _) _,by decide⟩
 ·by_cases k2:k=2
  ·subst k2
   go_enter Tryz.func48,Tryz.ntmps48;go_wp2_with (fail);go_ret;exact⟨_,2,rfl,tQ,(Below.refl _ _).alloc (Nat.le_refl _) _,by decide⟩
  ·have h1:(k == 1)=false:=by simpa using k1
   have h2:(k == 2)=false:=by simpa using k2
   have HV:=hid (show dK k=[]by unfold dK;rw[if_neg k1,if_neg k2]);clear k1 k2;go_enter Tryz.func48,Tryz.ntmps48;go_wp2_with (fail);go_ret;exact⟨none,0,by rw[HV.out];rfl,by rw[HV.out];exact Sp.RS.dS _ _ _,Below.refl _ _,by rw[HV.out];exact Nat.le_refl _⟩
theorem AP (b d t u s i o:Int) (A:Option Addr) (c:Nat) (l:List PT) (G:Option Addr) (gc:Nat) (gs:List (List Span)) (w:World) (h:RP w w.heap.size A l.length l) (hg:RGs w G gs.length gs) (hok:IL i gs) (hr:aK i o gs.length b d t u s l=true) :
  Calls Tryz.prog 60 #[trm b d t u s A l.length c,.int .i64 i,.slice G gs.length gc] w (gB (jR gs s l) w):=by
 obtain⟨hn,hp⟩:=fV hr;obtain⟨_,hsm,_,hl4⟩:=eO hn;obtain⟨hbi,hpl⟩:=lI hp;have hq:=hr;unfold aK at hq;simp only[Bool.and_eq_true,decide_eq_true_eq,Bool.or_eq_true,Bool.not_eq_true']at hq;rcases hq.1 with rfl | rfl
 ·exact xL b d t u s A c l G gc gs w h hl4 hg hok hbi hpl hsm
 ·have hc:mM l=true:=by
   rcases hq.2.2.2.2.1 with e | e
   ·simp at e
   ·exact e
  match l,h,hc,hpl,hbi with
  | [],h,_,hpl,hbi=>exact xJ b d t u s A c [] rfl G gc gs w h hg hok hbi hpl hsm
  | [q],h,hc,hpl,_=>
   obtain⟨h0,h1⟩:=hpl q (List.mem_singleton.2 rfl);obtain⟨k,hk⟩:=Int.eq_ofNat_of_zero_le h0;exact AO b d t u s A c q G gc gs w h hg hok (by simpa[mM]using hc) hk (by omega) hsm
  | _::_::_,_,hc,_,_=>exact absurd hc (by rw[jG (by simp)];decide)
def Ff1 (L:List Span) (Gd:Int->Prop) (w5:World) (iv:Value) (wr:World):Prop:=∃k:Nat,k<=L.length/\iv = .int .i64 k/\(∀y,mem (L.take k) y->Gd y)/\Below w5.heap.size w5 wr
def Ff2 (b T U f e:Int) (w6:World) (qv:Value) (wr:World):Prop:=∃q:Int,qv = .int .i64 q/\f<=q/\q<=e+1/\(∀p,f<=p->p<q->gY b T U p)/\Below w6.heap.size w6 wr
theorem Bw (b d t u s i o:Int) (A:Option Addr) (n c:Nat) (l:List PT) (G:Option Addr) (gc:Nat) (gs:List (List Span)) (v:Bool) (w:World) (h:RP w w.heap.size A n l) (hn:n<=maxLen)
  (hg:RGs w G gs.length gs) (hok:IL i gs) (hv:v=true↔rJ (dK o) i o b d t u s l gs) :
  Calls Tryz.prog 49 #[trm b d t u s A n c,.int .i64 i,.int .i64 o,.slice G gs.length gc] w (dY v w):=by
 have hlen:=h.1;subst hlen;obtain⟨w0,hw0⟩:∃w0,w.alloc (.cells (aR b d t u s A l.length c) 51)=w0:=⟨_,rfl⟩;have hbw:Below w.heap.size w w0:=by rw[<- hw0];exact(Below.refl _ w).alloc (Nat.le_refl _) _
 have hsz0:w0.heap.size=w.heap.size+1:=by rw[<- hw0];simp
 have X6:=hid (fun W (hb:Below w0.heap.size w0 W)=>show Boxed6 W w.heap.size b d t u s A l.length c from by rw[<- hw0]at hb;exact boxed6 hb);obtain⟨r0,r1,r2,r3,r4,r5⟩:=X6.out w0 (Below.refl _ _);have HP0:=hid (h.ah hbw);have HG0:=hid (hg.ah hbw);have HBW:=hid hbw;have HV:=hid hv;have HOK:=hid hok;clear h hg hbw hv hok;have HRI:=hid (fun W (hW:RP W W.heap.size A l.length l)=>rW i o (gs.length:Int) b d t u s A l.length c l W hW hn);by_cases k1:aK i o gs.length b d t u s l=true
 case neg=>
  rw[Bool.not_eq_true]at k1;have hvf:v=false:=by
   cases v with
   | false=>rfl
   | true=>have q:=(HV.out.1 rfl).2.1;rw[k1]at q;exact absurd q (by decide)
  subst hvf;rw[k1]at HRI;clear k1;go_enter Tryz.func49,Tryz.ntmps49;go_wp2_with (fail);refine(HRI.out _ HP0.out).mono ?_;rintro e w1 ⟨rfl,hb1⟩;have HF:=hid (HBW.out.trans (hb1.mono HBW.out.size));clear hb1;go_wp2_with (fail);go_ret;exact⟨rfl,HF.out⟩
 have HK1:=hid k1;have HFI:=hid (HV.out.trans (EH HOK.out.four k1 HOK.out.sym));have hoo:o=1\/o=2:=by
  have q:=k1;unfold aK at q;simp only[Bool.and_eq_true,decide_eq_true_eq]at q;exact q.2.1
 have hplain:o=2->b=0/\d=0/\t=21/\u=0:=fun e=>by
  have q:=k1;unfold aK ny at q;simp only[Bool.and_eq_true,decide_eq_true_eq,Bool.or_eq_true,Bool.not_eq_true',beq_iff_eq]at q;rcases q.2.2.2.2.2 with z | z
  ·rw[e]at z;simp at z
  ·exact z
 obtain⟨hbm,_,lX,_⟩:=eO (fV k1).1;have HIA:=hid (fun W (h1:RP W W.heap.size A l.length l) (h2:RGs W G gs.length gs)=>AP b d t u s i o A c l G gc gs W h1 h2 HOK.out HK1.out);rw[k1]at HRI;clear k1;go_enter Tryz.func49,Tryz.ntmps49;go_wp2_with (fail);refine(HRI.out _ HP0.out).mono ?_;rintro e w1 ⟨rfl,hb1⟩;obtain⟨r0,r1,r2,r3,r4,r5⟩:=X6.out w1 hb1;have HP1:=hid (HP0.out.ah hb1);have HG1:=hid (HG0.out.ah hb1);have HB1:=hid hb1;clear hb1;go_wp2_with (fail);refine(HIA.out _ HP1.out HG1.out).mono ?_;rintro e w2 ⟨A2,c2,L,ok,rfl,hok2,hL2,hc2,hr2,hb2⟩;have hb02:Below w0.heap.size w0 w2:=HB1.out.trans (hb2.mono HB1.out.size);have HB2:=hid (HBW.out.trans (hb02.mono (by omega)));obtain⟨r0,r1,r2,r3,r4,r5⟩:=X6.out w2 hb02;have Qh:=hid hb02
 cases ok with
 | false=>
  have hvf:v=false:=by
   cases v with
   | false=>rfl
   | true=>exact absurd (hok2.2 fun y hy=>(HFI.out.1 rfl y hy).1) (by decide)
  subst hvf;clear hok2 hL2 hc2 hr2 hb2 hb02;go_wp2_with (fail);go_ret;exact⟨rfl,HB2.out⟩
 | true=>
  have hSy:=hok2.1 rfl;have hIs:=hL2 rfl;have hsh:=hIs.1.short;obtain⟨n2,hn2⟩:∃n2,L.length=n2:=⟨_,rfl⟩;rw[hn2]at hc2 hr2 hsh ⊢;have hVL:v=true↔∀y,mem L y->mem (dK o) (b+dc d t u y):=by
   rw[HFI.out];exact⟨fun q y hy=>(q y ((hIs.2 y).1 hy)).2,fun q y hy=>⟨hSy y hy,q y ((hIs.2 y).2 hy)⟩⟩
  have HVL:=hid hVL;have HLS:=hid (show∀y,mem L y->Sy y from fun y hy=>hSy y ((hIs.2 y).1 hy));have HPL:=hid hIs.1;have HR2:=hid hr2;rcases hoo with rfl | rfl
  ·clear hok2 hL2 hr2 hb2 hb02 hSy hIs hVL hplain
   obtain⟨b1,b2,b3,b4,b5,b6,b7⟩:=id lX;have HGD:=hid (show v=true↔∀y,mem L y->0<=b+dc d t u y/\b+dc d t u y<=255 from by
    rw[HVL.out];have e:∀z,mem (dK 1) z↔0<=z/\z<=255:=fun z=>by
     show mem [(0,255)] z↔_;rw[aN];unfold Rng;simp only;omega
    exact⟨fun q y hy=>(e _).1 (q y hy),fun q y hy=>(e _).2 (q y hy)⟩)
   have HVB:=hid (fun x=>bw lX x);have Om:=hid (fun(lo hi:Int) (hlh:lo<=hi)=>Bl (b:=b) (d:=d) (t:=t) (u:=u) hlh);have Ow:=hid (fun(f q:Int)=>EA (b:=b) (t:=t) (u:=u) (f:=f) (q:=q));have p1:=aU d;have p2:=aU t;have p3:=aU u;have p4:=mH b4 pw21;have HD1:=hid (show∀x:Int,(x*pw d) / pw d=x from fun x=>Int.mul_ediv_cancel _ (by omega));have T1:=hid (fun W=>ow d b1 (by omega) W);have T2:=hid (fun W=>ow t (by omega) (by omega) W);have T3:=hid (fun W=>ow u b5 (by omega) W);have HMB:=hid (show∀q:Int,0<=q % pw t*pw u/\q % pw t*pw u<=66060288 from fun q=>by
    have h1:=HVB.out (q*pw d);unfold dc at h1;rw[HD1.out]at h1;exact h1)
   obtain⟨D,hD⟩:∃D,pw d=D:=⟨_,rfl⟩;obtain⟨T,hT⟩:∃T,pw t=T:=⟨_,rfl⟩;obtain⟨U,hU⟩:∃U,pw u=U:=⟨_,rfl⟩;rw[hD]at T1 p1;rw[hT]at T2 p2 p4;rw[hU]at T3 p3;rw[hT,hU]at HMB;simp only[hD,hT,hU]at Om Ow;have e1:(D == 0)=false:=by simp;omega
   have e2:(T == 0)=false:=by simp;omega
   unfold Sm at hbm;clear hD hT hU HD1 b7;go_wp2_with (fail);go_quiet ((first | (go_at_call_of 61 (Value.int .i64 d);exact iT (T1.out _)) | (go_at_call_of 61 (Value.int .i64 t);exact iT (T2.out _)) | (go_at_call_of 61 (Value.int .i64 u);exact iT (T3.out _))));obtain⟨w5,hw5⟩:∃w5,w2.drewN nq=w5:=⟨_,rfl⟩;have hb5:Below w0.heap.size w0 w5:=by rw[<- hw5];exact below_drewN Qh.out _
   have h25:Below w2.heap.size w2 w5:=by rw[<- hw5];exact below_drewN (Below.refl _ _) _
   have HB5:=hid hb5;have HR5:=hid (HR2.out.ah h25);have hz5:=hb5.size;have HST:=hid (show Ff1 L (fun y=>0<=b+dc d t u y/\b+dc d t u y<=255) w5 (.int .i64 (0:Nat)) w5 from⟨0,Nat.zero_le _,rfl,fun y hy=>absurd hy (aI y),Below.refl _ _⟩);rw[hw5];obtain⟨Gd,hGd⟩:∃Gd:Int->Prop,(fun y=>0<=b+dc d t u y/\b+dc d t u y<=255)=Gd:=⟨_,rfl⟩;rw[hGd]at HST;have HGE:=hid (show∀y,Gd y↔0<=b+dc d t u y/\b+dc d t u y<=255 from fun y=>by rw[<- hGd]);clear hb5 h25 hw5 hGd r0 r1 r2 r3 r4 r5;go_wp2_with (fail)
   go_loopw [14] (fun iv wr=>Ff1 L Gd w5 iv wr) (fun iv _=>n2-(intOf iv).toNat)
   case atStart=>exact HST.out
   case round=>
    obtain⟨k,hk,rfl,hgo,hb⟩:=hrel;have HGO:=hid hgo;have HB:=hid hb;have hwr:=hb.size;by_cases hlt:k<n2
    ·obtain⟨bL,ku,lo,hi,hA,hbL,⟨hkl,hlk⟩,y1,y2⟩:=(HR5.out.ah hb).at_ hlt
     have ND:=(HPL.out.at_ hkl).1;rw[hlk]at ND;obtain⟨ok1,ok2,ok3⟩:=ND;simp only at ok1 ok2 ok3;have hml:∀y,lo<=y->y<=hi->mem L y:=fun y h1 h2=>⟨by unfold Rng;omega,L[k],List.getElem_mem hkl,by rw[hlk];exact⟨h1,h2⟩⟩
     have hl0:=HLS.out lo (hml lo (Int.le_refl _) ok1);have hh0:=HLS.out hi (hml hi ok1 (Int.le_refl _));unfold Sy at hl0 hh0;obtain⟨l0,l1⟩:=hl0;obtain⟨m0,m1⟩:=hh0;have hQ:=Om.out lo hi ok1;have f0:0<=lo / D:=Int.ediv_nonneg l0 (by omega);have f1:lo / D<=hi / D:=Int.ediv_le_ediv (by omega) ok1;have f2:hi / D<=hi:=Int.ediv_le_self _ m0;obtain⟨f,hf⟩:∃f,lo / D=f:=⟨_,rfl⟩;obtain⟨e,he⟩:∃e,hi / D=e:=⟨_,rfl⟩;have g0:0<=hi / D:=by omega
     rw[hf,he]at hQ f1;rw[hf]at f0;rw[he]at f2 g0;have HQ:=hid hQ;have HML:=hid hml;have s1:IntKind.i64.wrap ((k:Int)+1)=(k:Int)+1:=IntWalk.i64_in _ (by omega);have i1:(0:Int)<=(k:Int):=Int.natCast_nonneg _;have i2:(k:Int)<(n2:Int):=by omega
     have w1f:IntKind.i64.wrap f=f:=IntWalk.i64_in _ (by omega);have w1e:IntKind.i64.wrap e=e:=IntWalk.i64_in _ (by omega);have HNK:=hid (fun(W:World) (hW:Below w5.heap.size w5 W) (hall:∀p,f<=p->p<=e->gY b T U p)=>show Ff1 L Gd w5 (.int .i64 ((k:Int)+1)) W from⟨k+1,by omega,rfl,fun y hy=>by
      rw[aJ hkl,hlk]at hy;rcases hy with q | ⟨_,q1,q2⟩
      ·exact HGO.out y q
      ·exact(HGE.out y).2 (HQ.out.2 hall y q1 q2),hW⟩)
     have HBQ:=hid (fun(q:Int) (h1:f<=q) (h2:q<=e) (hb : ¬ gY b T U q)=>show v=false from by
      cases v with
      | false=>rfl
      | true=>exact absurd (HQ.out.1 (fun y a c=>HGD.out.1 rfl y (HML.out y a c)) q h1 h2) hb)
     subst hA;clear hgo hb hlk hml hQ;go_wp2_with (fail);go_quiet (fail);obtain⟨w6,hw6⟩:∃w6,wr.drewN nq=w6:=⟨_,rfl⟩;have hb6:Below w5.heap.size w5 w6:=by rw[<- hw6];exact below_drewN HB.out _
     have HB6:=hid hb6;have hz6:=hb6.size;have HST2:=hid (show Ff2 b T U f e w6 (.int .i64 f) w6 from⟨f,rfl,Int.le_refl _,by omega,fun p h1 h2=>by omega,Below.refl _ _⟩);rw[hw6,hf,he];clear hb6 hw6 y1 y2 hf he;go_wp2_with (fail)
     go_loopw [17] (fun qv wr=>Ff2 b T U f e w6 qv wr) (fun qv _=>(e+1-intOf qv).toNat)
     case atStart=>exact HST2.out
     case round=>
      obtain⟨q,rfl,hq1,hq2,hgd,hb7⟩:=hrel;have HGQ:=hid hgd;have HB7:=hid hb7;have hbx:Below w0.heap.size w0 wr:=(HB5.out.trans (HB6.out.mono hz5)).trans (hb7.mono (by omega));have yC:=hid (fun n=>show Below w.heap.size w (wr.drewN n)from below_drewN (HBW.out.trans (hbx.mono (by omega))) n);have Ox:=hid (show Below w5.heap.size w5 wr from HB6.out.trans (hb7.mono hz6));obtain⟨r0,r1,r2,r3,r4,r5⟩:=X6.out wr hbx;by_cases hqe:q<=e
      ·have hmb:=HMB.out q
       have hq0:0<=q:=by omega
       have hm1:=Int.emod_nonneg q (show T≠0 by omega);have hm2:=Int.emod_lt_of_pos q (show 0<T by omega);have z1:IntKind.i64.wrap (q-f)=q-f:=IntWalk.i64_in _ (by omega);have z2:IntKind.i64.wrap (q % T*U)=q % T*U:=IntWalk.i64_in _ (by omega);have z3:IntKind.i64.wrap (b+q % T*U)=b+q % T*U:=IntWalk.i64_in _ (by omega);have z4:IntKind.i64.wrap (q+1)=q+1:=IntWalk.i64_in _ (by omega);have z5:IntKind.i64.wrap (q % T)=q % T:=IntWalk.i64_in _ (by omega);have CQ:=hid (HBQ.out q hq1 hqe);have Oq:=hid (fun(hg:gY b T U q) n=>show Ff2 b T U f e w6 (.int .i64 (q+1)) (wr.drewN n)from⟨q+1,rfl,by omega,by omega,fun p h1 h2=>by
        by_cases ee:p=q
        ·rw[ee];exact hg
        ·exact HGQ.out p h1 (by omega),below_drewN HB7.out n⟩)
       have Oy:=hid (fun(hT:T<q-f)=>HNK.out wr Ox.out (fun p _ _=>EB p2 HGQ.out hT p));have HFW:=hid (fun(h3:300<T) (h7:700<q-f)=>show False from Ow.out f q h3 HGQ.out h7);clear hgd hb7 hbx hmb;by_cases c1:300<q-f
       ·have d1:decide (300<q-f)=true:=decide_eq_true c1
        by_cases c2:300<T
        ·have d2:decide (300<T)=true:=decide_eq_true c2
         by_cases c3:700<q-f
         ·exact(HFW.out c2 c3).elim
         have d3:decide (700<q-f)=false:=decide_eq_false c3;by_cases g1:b+q % T*U<0
         ·obtain rfl:=CQ.out (fun z=>by unfold gY at z;omega)
          have d5:decide (b+q % T*U<0)=true:=decide_eq_true g1;go_wp2_with (fail);go_quiet (fail);go_wp2_with (fail);go_ret;exact⟨rfl,yC.out _⟩
         ·have d5:decide (b+q % T*U<0)=false:=decide_eq_false g1
          by_cases g2:255<b+q % T*U
          ·obtain rfl:=CQ.out (fun z=>by unfold gY at z;omega)
           have d6:decide (255<b+q % T*U)=true:=decide_eq_true g2;go_wp2_with (fail);go_quiet (fail);go_wp2_with (fail);go_ret;exact⟨rfl,yC.out _⟩
          ·have d6:decide (255<b+q % T*U)=false:=decide_eq_false g2
           have HN:=hid (Oq.out (by unfold gY;omega));go_wp2_with (fail);go_quiet (fail);go_wp2_with (fail)
           go_roundw
           case rel=>exact HN.out _
           case measure=>simp[intOf];omega
        ·have d2:decide (300<T)=false:=decide_eq_false c2
         by_cases c3:T<q-f
         ·have d3:decide (T<q-f)=true:=decide_eq_true c3
          have HBK:=hid (Oy.out c3);go_wp2_with (fail)
          go_roundw
          case rel=>exact HBK.out
          case measure=>simp[intOf];omega
         exact(show False by omega).elim
       ·have d1:decide (300<q-f)=false:=decide_eq_false c1
        by_cases c3:T<q-f
        ·have d3:decide (T<q-f)=true:=decide_eq_true c3
         have HBK:=hid (Oy.out c3);go_wp2_with (fail)
         go_roundw
         case rel=>exact HBK.out
         case measure=>simp[intOf];omega
        have d3:decide (T<q-f)=false:=decide_eq_false c3;by_cases g1:b+q % T*U<0
        ·obtain rfl:=CQ.out (fun z=>by unfold gY at z;omega)
         have d5:decide (b+q % T*U<0)=true:=decide_eq_true g1;go_wp2_with (fail);go_quiet (fail);go_wp2_with (fail);go_ret;exact⟨rfl,yC.out _⟩
        ·have d5:decide (b+q % T*U<0)=false:=decide_eq_false g1
         by_cases g2:255<b+q % T*U
         ·obtain rfl:=CQ.out (fun z=>by unfold gY at z;omega)
          have d6:decide (255<b+q % T*U)=true:=decide_eq_true g2;go_wp2_with (fail);go_quiet (fail);go_wp2_with (fail);go_ret;exact⟨rfl,yC.out _⟩
         ·have d6:decide (255<b+q % T*U)=false:=decide_eq_false g2
          have HN:=hid (Oq.out (by unfold gY;omega));go_wp2_with (fail);go_quiet (fail);go_wp2_with (fail)
          go_roundw
          case rel=>exact HN.out _
          case measure=>simp[intOf];omega
      ·have HNN:=hid (HNK.out wr Ox.out (fun p h1 h2=>hgd p h1 (by omega)))
       clear hgd hb7 hbx;go_wp2_with (fail)
       go_roundw
       case rel=>exact HNN.out
       case measure=>simp[intOf];omega
    ·have hvt:v=true:=HGD.out.2 fun y hy=>(HGE.out y).1 (hgo y (by rw[List.take_of_length_le (by omega)];exact hy))
     have HFN:=hid (show Below w.heap.size w wr from HBW.out.trans ((HB5.out.trans (hb.mono hz5)).mono (by omega)));subst hvt;clear hgo hb;go_wp2_with (fail);go_ret;exact⟨rfl,HFN.out⟩
  ·obtain⟨rfl,rfl,rfl,rfl⟩:=hplain rfl
   have hVD:v=true↔∀y,mem L y->mem (dK 2) y:=by
    rw[HVL.out];have e:∀y,mem L y->(0:Int)+dc 0 21 0 y=y:=fun y hy=>by
     have:=HLS.out y hy;unfold Sy at this;rw[ou this.1 (by omega)];omega
    exact⟨fun q y hy=>by have:=q y hy;rwa [e y hy]at this,fun q y hy=>by rw[e y hy];exact q y hy⟩
   have HVD:=hid hVD;have HMK:=hid (fun W A' (c':Nat) (h1:RS W W.heap.size A2 n2 L) (h2:RS W W.heap.size A' (dK 2).length (dK 2))=>Ft A2 A' n2 (dK 2).length c2 c' L (dK 2) W h1 h2 (by omega) (by decide));clear hok2 hL2 hr2 hb2 hb02 hSy hIs hVL hplain hVD lX hbm;go_wp2_with (fail);refine(ql 2 w2).mono ?_;rintro e w3 ⟨A3,c3,rfl,hr3,hb3,hc3⟩;have HB3:=hid (HB2.out.trans (hb3.mono HB2.out.size));have HM3:=hid (HMK.out w3 A3 c3 (HR2.out.ah hb3) hr3);clear hr3 hb3 hc3;go_wp2_with (fail);refine HM3.out.mono ?_;rintro e w4 ⟨v4,o4,rfl,his4,ho4,hb4⟩;obtain⟨A4,c4,rfl,hc4,hr4⟩:=aF ho4;have HB4:=hid (HB3.out.trans (hb4.mono HB3.out.size));have hvo:v=decide ((o4.length:Int)=0):=by
    have hz:o4=[]↔v=true:=by
     rw[his4.cQ,HVD.out]
     constructor
     ·intro q y hy
      refine Classical.byContradiction fun z=>q y ⟨hy.1,?_⟩
      unfold inP;simp[eP hy,eT z]
     ·rintro q y ⟨_,hy⟩
      unfold inP at hy;rw[if_neg (by decide),if_pos rfl]at hy;simp only[Bool.and_eq_true,Bool.not_eq_true']at hy;have h1:=fH.1 hy.1;rw[eP (q y h1)]at hy;exact absurd hy.2 (by decide)
    cases v with
    | true=>rw[hz.2 rfl];rfl
    | false=>
     refine(decide_eq_false fun e=>?_).symm;have:=hz.1 (List.eq_nil_of_length_eq_zero (by omega))
     cases this
   have HVO:=hid hvo;have OJ:((o4.length:Int) == 0)=v:=by rw[HVO.out];rfl
   clear his4 ho4 hb4 hr4 hvo;go_wp2_with (fail);go_ret;exact⟨by first | rfl | rw[<- OJ],HB4.out⟩
end Go.Proofs.YtbdmcibcenhpnaaGreatDoor.Rg
