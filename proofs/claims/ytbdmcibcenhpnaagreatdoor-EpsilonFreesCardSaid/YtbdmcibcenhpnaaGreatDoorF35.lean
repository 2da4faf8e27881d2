import Derived.Test.YtbdmcibcenhpnaaGreatDoorF0
import Derived.Test.YtbdmcibcenhpnaaGreatDoorF00
import Derived.Test.YtbdmcibcenhpnaaGreatDoorF18
import Derived.Test.YtbdmcibcenhpnaaGreatDoorF24
import Derived.Test.YtbdmcibcenhpnaaGreatDoorF32
import Derived.Test.YtbdmcibcenhpnaaGreatDoorF34
set_option maxRecDepth 100000
namespace Go.Proofs.YtbdmcibcenhpnaaGreatDoor.Fi
set_option maxHeartbeats 64000000
open Go Go.RowKit Go.Shelf Go.Maps Sp Pa Te Mi Sh
open Go.Lib (hid)
attribute [local go_sem] Oper.semAt_some
def Ke (w:World) (e:Ending) (w':World):Prop:=∃g,e = .returned (.slice (some ⟨g,0,none⟩) 1 1)/\RS w' w'.heap.size (some ⟨g,0,none⟩) 1 [(0,1114111)]/\Below w.heap.size w w'
theorem kR (w:World):Calls Tryz.prog 69 #[] w (Ke w):=by
 go_enter Tryz.func69,Tryz.ntmps69;go_wp2_with (fail);go_ret;exact⟨w.heap.size,rfl,uK (by simp) (heap_alloc_new w _),(Below.refl _ _).alloc (Nat.le_refl _) _⟩
theorem rP (x:Int):mem [(0,1114111)] x↔Sy x:=by
 rw[aN];unfold Rng Sy;simp only;omega
theorem qp {α:Type} {F:Fence} {n:Nat} {P:Program} {g:Operand} {ps:Array Tmp} {assign body:Code} {Q:Exit->Act->World->Prop} {a:Act} {w:World}
  (hro:F.round=none) (h1:1<=n) {gf:Nat} {lb:Array Value} (hg:a.eval g = .func (.func gf) #[] lb) (hFg:F.fn gf) (eg:∀args w,(callFunc gf args).run P w = .ok (.enter gf args) w)
  {encs:α->Array Value} {Kp:World->World->Prop} {S Sp:List α->Prop} {N:Nat} {w0:World} (hseq:SeqStopsK F (n-1) P gf lb encs Kp S Sp N w0)
  (hKt:∀{A B C:World},Kp A B->Kp B C->Kp A C) (hKb:∀(W:World) (l:Nat) (o o':Obj),w.heap.size<=l->W.heap[l]? = some o->o.isCells=false->o.isWalk=false->Kp W (W.putObj l o')) (hb0:Below w0.heap.size w0 w) (hps:∀x,(encs x).size=ps.size)
  (I:List α->World->Prop) (Ix:Code->List α->World->Prop) (hI:OwnFrom w.heap.size I) (hIx:∀c,OwnFrom w.heap.size (Ix c)) (h0:I [] w) (A1:Act->α->Act)
  (hassign:∀(l:Nat) (x:α) (W:World) (K:Act->World->Prop),K (A1 a x) W ->
   assign.wpIn (F.inRound l) (n-1-1) P (Exit.then K (fun _ _ _=>False)) { tmps:=(ps.zip (encs x)).foldl (fun t (p,v)=>t.setIfInBounds p v) a.tmps,defers:=[] } W)
  (hbody:∀(l:Nat) (pre:List α) (x:α) (W:World),I pre W->pre.length<N->body.wpIn (F.inRound l) (n-1-1) P (ownPostK Kp I Ix (pre++[x]) W) (A1 a x) W)
  (hdone:∀(D:Nat) (xs:List α) (W:World),w.heap.size<=D->S xs->I xs W->W.heap[D]? = some (.deferred (some []))->Q .normal { a with defers:={ target:=.collected D,args:=#[] } :: a.defers } W)
  (hstop:∀(D:Nat) (c:Code) (pre:List α) (W:World),w.heap.size<=D->Sp pre->Ix c pre W->W.heap[D]? = some (.deferred (some []))->c.wpIn F n P Q { a with defers:={ target:=.collected D,args:=#[] } :: a.defers } W) :
  (Code.rangeFunc g ps assign body).wpIn F n P Q a w:=
 wpIn_rangeFunc_ownF hro h1 hg hFg eg hseq hKt hKb hb0 hps I Ix hI hIx h0 (A1 a) hassign hbody hdone hstop
def rr {l:List Int} (pre:List (El l)):List Int:=(pre.map fun x=>x.1.2).reverse
theorem Gr {l:List Int} (pre:List (El l)) (x:El l):rr (pre++[x])=x.1.2::rr pre:=by simp[rr]
theorem Fp {l:List Int} (pre:List (El l)):∀a∈rr pre,a∈l:=fun a ha=>by
 unfold rr at ha;rw[List.mem_reverse]at ha;obtain⟨x,_,rfl⟩:=List.mem_map.1 ha;exact x.2
theorem kT {own:Int->List Span} : ∀(r:List Int),(∀a∈r,∃z,mem (own a) z)->∃y,rK own r y
 | [],_=>⟨0,rfl⟩
 | a::r,h=>by
  obtain⟨x,hx⟩:=kT r fun b hb=>h b (List.mem_cons_of_mem _ hb)
  obtain⟨z,hz⟩:=h a (List.mem_cons_self ..);exact⟨x+z,x,z,hx,hz,rfl⟩
theorem kU {own:Int->List Span} : ∀(r:List Int),(∀b∈r,∀x,mem (own b) x->0<=x/\x<=264241152)->∀y,rK own r y->0<=y/\y<=264241152*(r.length:Int)
 | [],_,y,hy=>by have:y=0:=hy;subst this;simp
 | a::r,h,y,⟨x,z,q1,q2,q3⟩=>by
  have h1:=kU r (fun b hb=>h b (List.mem_cons_of_mem _ hb)) x q1;have h2:=h a (List.mem_cons_self ..) z q2;rw[List.length_cons];omega
theorem sJ {W W':World} (h:Below W.heap.size W W'):KeepsOthers W W':=⟨h.size,fun k _ hk _=>(h.block k (Array.getElem?_eq_some_iff.1 hk).1).trans hk⟩
def IsQ (own:Int->List Span) (r:List Int):Prop:=Is (BQ own r) (rK own r)
theorem FD {own:Int->List Span} {r:List Int} {p:List Span} (h:Is p (rK own r)):IsQ own r:=by unfold IsQ;rw[tg h];exact h
def In1 (gs:List (List Span)) (l:List PT) (s:Int) (E:Nat) (w3:World) (lo hi i:Value) (wr:World):Prop:=
 ∃(L:List (List Span)) (v:Value),i = .int .i64 (L.length:Int)/\lo = .int .i64 (s+(L.map least).sum)/\hi = .int .i64 (s+(L.map most).sum)/\KF gs l L/\(∀g∈gs.take L.length,∀x,mem g x->Sy x) /\
  (0<=(L.map least).sum/\(L.map least).sum<=264241152*(L.length:Int))/\(0<=(L.map most).sum/\(L.map most).sum<=264241152*(L.length:Int)) /\
  Boxed wr E 40 v/\eC wr (E+1) v L/\Below E w3 wr
def gB (gs:List (List Span)) (l:List PT) (s:Int) (w:World) (e:Ending) (w':World):Prop:=
 ∃(v:Value) (ok:Bool) (out:List Span),e = .returned (.tuple #[v,.bool ok])/\av w' w.heap.size v out/\Below w.heap.size w w'/\(ok=true↔o8 gs l s)/\(ok=true->Is out (jR gs l s))/\(ok=false->v = .slice none 0 0)
theorem AU {gs:List (List Span)} {l:List PT} {s:Int} {w w':World} {e:Ending} (hno : ¬ o8 gs l s) (hb:Below w.heap.size w w') (he:e = .returned (.tuple #[.slice none 0 0,.bool false])):gB gs l s w e w':=
 ⟨_,false,[],he,World.ownsRow_nil _ _ _ _,hb,⟨fun q=>absurd q (by decide),fun q=>absurd q hno⟩,fun q=>absurd q (by decide),fun _=>rfl⟩
theorem xI (b d t u s:Int) (A:Option Addr) (n c:Nat) (l:List PT) (G:Option Addr) (gc:Nat) (gs:List (List Span)) (w:World) (h:RP w w.heap.size A n l) (hn:l.length<=4) (hb:BitsAll l) (hq:∀q∈l,0<=q.1/\q.1<gs.length) (hs:Sm s)
  (hg:RGs w G gs.length gs) (hg4:gs.length<=4) (hgm:∀g∈gs,g.length<=1099511627776) (hne:∀g∈gs,∃x,mem g x) (hT:jh w) :
  Calls Tryz.prog 93 #[trm b d t u s A n c,.slice G gs.length gc] w (gB gs l s w):=by
 have hlen:=h.1;subst hlen;obtain⟨i0,hi0,hz0,hz1,hz2⟩:=info_parts oM;have hs':=hs;unfold Sm at hs';obtain⟨w0,hw0⟩:∃w0,w.alloc (.cells (aR b d t u s A l.length c) 51)=w0:=⟨_,rfl⟩;have hbw:Below w.heap.size w w0:=by rw[<- hw0];exact(Below.refl _ w).alloc (Nat.le_refl _) _
 have hsz0:w0.heap.size=w.heap.size+1:=by rw[<- hw0];simp
 have X6:=hid (fun W (hb:Below w0.heap.size w0 W)=>show Boxed6 W w.heap.size b d t u s A l.length c from by rw[<- hw0]at hb;exact boxed6 hb);obtain⟨q0,q1,q2,q3,q4,q5⟩:=X6.out w0 (Below.refl _ _);have HPL:=hid (wX A c l.length l w0 (h.ah hbw) (by omega) (fun q hq'=>by have:=hq q hq';unfold I64;omega));have HB0:=hid hbw;have H:=hid h;have HG:=hid hg;have HBT:=hid hb;have HQ:=hid hq;have HGM:=hid hgm;have HNE:=hid hne;have HTB:=hid hT;clear h hg hb hq hgm hne hT hbw;refine(callsIn_wide (n:=4)).1 ?_;refine callsIn_of_wp_marks Tryz.func93 rfl trivial ?_ rfl;refine wpIn_wide.2 ?_;simp only[Tryz.ntmps93,List.size_toArray,List.length_cons,List.length_nil,Nat.reduceAdd,Nat.reduceSub,Array.replicate_succ,Array.replicate_zero,List.push_toArray,List.append_toArray,List.nil_append,List.cons_append];go_wp2_with (fail);refine HPL.out.mono ?_;rintro e w3 ⟨rfl,hpm,hb3⟩;have HPM:=hid hpm;have HB3:=hid hb3;obtain⟨q0,q1,q2,q3,q4,q5⟩:=X6.out w3 hb3;have hsz3:=hb3.size;rw[hsz0]at HPM;obtain⟨E,hE⟩:∃E,w3.heap.size=E:=⟨_,rfl⟩;clear hpm hb3;obtain⟨w4,hw4⟩:∃w4,w3.alloc (.cells #[.slice none 0 0] 40)=w4:=⟨_,rfl⟩;have HBX:=hid (show Boxed w4 E 40 (.slice none 0 0)by rw[<- hw4,<- hE];exact Boxed.new w3 40 (.slice none 0 0));have hb4:Below E w3 w4:=by rw[<- hw4,<- hE];exact(Below.refl _ _).alloc (Nat.le_refl _) _
 have hE1:w.heap.size<E:=by omega
 have p4:w4.cell? ⟨w.heap.size,4,none⟩=some (.int .i64 s):=(hb4.cell (p:=⟨w.heap.size,4,none⟩) hE1).trans q4;have HB4:=hid hb4;clear hb4;go_wp2_with (fail);go_quiet (fail);obtain⟨w5,hw5⟩:∃w5,w4.drewN nq=w5:=⟨_,rfl⟩;rw[hw5];have hb5:Below E w3 w5:=by rw[<- hw5];exact below_drewN HB4.out _
 have hbx5:Boxed w5 E 40 (.slice none 0 0):=by rw[<- hw5];exact HBX.out
 have HST:=hid (show In1 gs l s E w3 (.int .i64 s) (.int .i64 s) (.int .i64 (0:Nat)) w5 from⟨[],_,rfl,by simp,by simp,⟨Nat.zero_le _,fun j hj=>by simp at hj⟩,fun g hg=>by simp at hg,⟨by simp,by simp⟩,⟨by simp,by simp⟩,hbx5,eC.dS _ _,hb5⟩);clear hb5 hbx5 hw5 hw4 HBX HB4 p4 q0 q1 q2 q3 q4 q5;go_wp2_with (fail)
 go_loopw [8,9,29] (fun lo hi i wr=>In1 gs l s E w3 lo hi i wr) (fun _ _ i _=>gs.length-(intOf i).toNat)
 case atStart=>exact HST.out
 case round=>
  obtain⟨L,v,rfl,rfl,rfl,hes,hsy,hl1,hl2,hbx,hrow,hbe⟩:=hrel;have hLg:=hes.1;have hwr:=hbe.size;have hbW:Below w.heap.size w wr:=(HB0.out.trans (HB3.out.mono HB0.out.size)).trans (hbe.mono (by omega));have HBW:=hid hbW;have Ma:Below w3.heap.size w3 wr:=by rw[hE];exact hbe
  have HPW:=hid (HPM.out.below Ma);have HES:=hid hes;have HSY:=hid hsy;have HBX:=hid hbx;have rO:=hid hrow;have HBE:=hid hbe;have hTw:=HTB.out.below hbW HTB.out.2 hbW.size;have hEl:=hbx.lt;obtain⟨k,hk⟩:∃k,L.length=k:=⟨_,rfl⟩;have HKL:=hid hk;rw[hk]at hLg hsy hl1 hl2 ⊢;obtain⟨S1,hS1⟩:∃x,(L.map least).sum=x:=⟨_,rfl⟩;obtain⟨S2,hS2⟩:∃x,(L.map most).sum=x:=⟨_,rfl⟩;have HSS:=hid (And.intro hS1 hS2);rw[hS1]at hl1 ⊢;rw[hS2]at hl2 ⊢;by_cases hlt:k<gs.length
  ·obtain⟨bb,off,Aj,cj,hA,hbB,hcg,hrg,hcj,hnj⟩:=(HG.out.ah hbW).at_ hlt
   obtain⟨g,hgk⟩:∃g,gs[k]=g:=⟨_,rfl⟩;have HGK:=hid hgk;rw[hgk]at hcg hrg hcj;have hgm:=HGM.out g (by rw[<- hgk];exact List.getElem_mem hlt);have hgn:=HNE.out g (by rw[<- hgk];exact List.getElem_mem hlt);obtain⟨nj,JJ⟩:∃nj,g.length=nj:=⟨_,rfl⟩;rw[JJ]at hcg hrg hcj hgm;have HRG:=hid hrg;have HGN:=hid hgn;subst hA;clear hes hsy hbx hrow hbe hbW Ma hS1 hS2 hrg hgn hnj JJ hgk hk;go_wp2_with (fail);refine(kR wr).mono ?_;rintro e w6 ⟨gS,rfl,hrs,hb6⟩;have HB6:=hid hb6;by_cases hin:∀x,mem g x->Sy x
   ·have HW:=hid (gE Aj (some ⟨gS,0,none⟩) nj 1 cj 1 g [(0,1114111)] true w6 (HRG.out.ah hb6) hrs hgm (by omega) hcj (Nat.le_refl _) ⟨fun _ x q=>q.2 ((rP x).2 (hin x q.1)),fun _=>rfl⟩)
    have HIN:=hid hin;clear hb6 hrs hin;go_wp2_with (fail);refine HW.out.mono ?_;rintro e w7 ⟨rfl,hb7⟩;have pF:=HB6.out.trans (hb7.mono HB6.out.size);have HB7:=hid pF;obtain⟨Ap,cp,JL,hrp,hcp⟩:=(HPW.out.below pF).look (a:=(k:Int)) (by unfold I64;omega);have N9:=hTw.next pF;obtain⟨mp,hmp⟩:∃mp,(plP l (k:Int)).length=mp:=⟨_,rfl⟩;have hmp4:mp<=4:=by rw[<- hmp];exact Nat.le_trans (iB l k) hn
    rw[hmp]at JL hrp;have HJ:=hid (AF Ap Aj mp cp nj cj (plP l (k:Int)) g w7 hrp (fE HBT.out k) (by omega) (HRG.out.ah pF) hgm hcj HIN.out HGN.out N9);have hz7:=pF.size;clear hb7 pF hrp hmp N9;go_wp2_with (fail);refine HJ.out.mono ?_;intro e w8 hq8;obtain⟨v8,own,rfl,his8,ho8,hb8⟩:=hq8;have HB8:=hid (HB7.out.trans (hb8.mono HB7.out.size));have hnil8:=fun A' c' (e:v8 = .slice A' own.length c')=>iC (by rw[e]at ho8;exact ho8)
    obtain⟨A8,c8,hv8,hc8,hr8⟩:=aF ho8;have hbl8:=fun b' off' (e:A8=some ⟨b',off',none⟩)=>World.ownsRow.lt ho8 b' (by rw[hv8,e];rfl)
    have CD:=hid (hnil8 A8 c8 hv8);subst hv8;obtain⟨j1,j2,j3,j4,j5,j6⟩:=uM (fE HBT.out k) (Nat.le_trans (iB l k) hn) HGN.out his8;have hf8:=Bn j1;have hl8:=DU j1;obtain⟨lo8,hlo8⟩:∃x,least own=x:=⟨_,rfl⟩;obtain⟨hi8,hhi8⟩:∃x,most own=x:=⟨_,rfl⟩;have HLH:=hid (And.intro hlo8 hhi8);rw[hlo8]at hf8 j3 j4;rw[hhi8]at hl8 j5 j6;have hsh8:=his8.1.short;have HF:=hid (fun W (hW:RS W W.heap.size A8 own.length own)=>Bz A8 own.length c8 own own W hW (by omega) hc8 (Is.self his8.1));have HL:=hid (fun W (hW:RS W W.heap.size A8 own.length own)=>Ea A8 own.length c8 own own W hW (by omega) hc8 (Is.self his8.1));rw[hf8]at HF;rw[hl8]at HL;have HI8:=hid his8;have HR8:=hid hr8;have M7:=hid hbl8;clear his8 ho8 hb8 hr8 hbl8 hnil8 j1 j2 hf8 hl8 hlo8 hhi8 JL;go_wp2_with (fail);refine(HF.out _ HR8.out).mono ?_;rintro e w9 ⟨rfl,hb9⟩;have HR9:=hid (HR8.out.ah hb9);have HB9:=hid (HB8.out.trans (hb9.mono HB8.out.size));have Qg:=hid hb9;clear hb9;go_wp2_with (fail);refine(HL.out _ HR9.out).mono ?_;rintro e w10 ⟨rfl,hb10⟩;have HR10:=hid (HR9.out.ah hb10);have oO:=HB9.out.trans (hb10.mono HB9.out.size);have KD:=hid oO;have hbx10:Boxed w10 E 40 v:=aO HBX.out oO hEl;have hcE:=hbx10.cell;have hfE:=hbx10.frozen;have hrow10:=rO.out.below oO;have hS10:w8.heap.size<=w10.heap.size:=Nat.le_trans Qg.out.size hb10.size;obtain⟨vs,hvs0⟩:=hrow10.row;obtain⟨Av,cv,hvv⟩:=aX hvs0;have Nv:=fun q e=>hrow10.lt (g:=q) e
    have K9:=hid Nv;rw[HKL.out]at hvs0 hvv;have Cz:=hid hrow10;have M5:=hid hbx10;subst hvv;obtain⟨w11,hw11⟩:∃w11,w10.alloc (.cells #[.slice A8 own.length c8] 48)=w11:=⟨_,rfl⟩;have hb11:Below w10.heap.size w10 w11:=by rw[<- hw11];exact(Below.refl _ _).alloc (Nat.le_refl _) _
    have hs11:w11.heap.size=w10.heap.size+1:=by rw[<- hw11];simp
    have hE10:E<w10.heap.size:=hbx10.lt;have hv11:w11.ownsRow (E+1) 48 1 (.slice Av k cv) k vs:=aQ hvs0 fun q e=>hb11.block q (World.ownsRow.lt hvs0 q e).2
    have hnews:∀jj u,[Value.slice A8 own.length c8][jj]? = some u->w11.cell? ((⟨w10.heap.size,0,none⟩:Addr).add jj)=some u:=by
     rw[<- hw11];exact World.news_of_block (cs:=#[.slice A8 own.length c8]) (t:=48) (fr:=(0,0)) (heap_alloc_new w10 _)
    have HR11:=hid (HR10.out.ah hb11);have Cy:=hid (Cz.out.below hb11);have IG:=hid (aO M5.out hb11 hE10);have KC:=hid (KD.out.trans (hb11.mono KD.out.size));have t1:IntKind.i64.wrap (s+S1+lo8)=s+S1+lo8:=IntWalk.i64_in _ (by omega);have t2:IntKind.i64.wrap (s+S2+hi8)=s+S2+hi8:=IntWalk.i64_in _ (by omega);have t3:IntKind.i64.wrap ((k:Int)+1)=(k:Int)+1:=IntWalk.i64_in _ (by omega);clear Nv hrow10 hbx10 hb10 oO hb11 hvs0;go_wp2_with (at_builtin;go_must (refine wpList_append_own_at _ rfl _ _ 40 rfl (E+1) 48 i0 _ 1 24 Tryz.underlying40 hi0 hz0 hz1 hz2 rfl (by decide) (.slice Av k cv) k vs rfl hv11 ⟨w10.heap.size,0,none⟩ 1 1 [.slice A8 own.length c8] rfl rfl hnews ?c2 ?c3 ?c4 ?c5 ?_))
    case c2=>intro u hu;simp at hu;subst hu;rfl
    case c3=>simp only[maxLen];omega
    case c4=>omega
    case c5=>omega
    intro v12 w12 hown12 hg12 _ hat12;obtain⟨g12,cap12,hv12,_,_⟩:=World.ownsRow.form hown12 (by omega);subst hv12;have LP:(Value.slice Av k cv).ownBlock≠some E:=fun e=>by have:=(K9.out E e).1;omega
    have hE11:E<w11.heap.size:=by omega
    have O7:w12.cell? ⟨E,0,none⟩=some (.slice Av k cv):=hg12.cell IG.out.cell (fun e=>LP e.symm);have O0:w12.frozen? ⟨E,0,none⟩=false:=(World.frozen?_of_block (a:=⟨E,0,none⟩) (hg12.block E hE11 (fun e=>LP e.symm))).trans IG.out.frozen;have HNX:=hid (show In1 gs l s E w3 (.int .i64 (s+S1+lo8)) (.int .i64 (s+S2+hi8)) (.int .i64 ((k:Int)+1)) (w12.setCell ⟨E,0,none⟩ (.slice (some ⟨g12,0,none⟩) (k+1) cap12))from by
     have hr12:eC w12 (E+1) (.slice (some ⟨g12,0,none⟩) (k+1) cap12) (L++[own]):=Cy.out.more (vs:=vs) (l:=own) (A:=A8) (c:=c8) (H:=w11.heap.size) (by rw[HKL.out];exact hv11) HR11.out hc8 CD.out (fun b' off' e=>by
       have h1:=M7.out b' off' e;have h2:=HB7.out.size;have h3:=HBE.out.size;refine⟨by omega,by omega,fun e2=>?_⟩;have h4:=World.ownsRow.lt hv11 b' e2;have h5:=rO.out.lt (g:=b') e2;omega) hg12 (by rw[HKL.out];exact hown12) (hat12.imp id fun e=>by rw[e,hs11]) (Nat.le_refl _)
     have hlen:(L++[own]).length=k+1:=by rw[List.length_append,List.length_singleton,HKL.out]
     refine⟨L++[own],_,by rw[hlen];rfl,by rw[List.map_append,List.sum_append,HSS.out.1];simp[HLH.out.1];omega,by rw[List.map_append,List.sum_append,HSS.out.2];simp[HLH.out.2];omega,⟨by omega,fun j hj hj'=>?_⟩,fun q hq=>?_,?_,?_,?_,hr12.aV (by omega) _,?_⟩
     ·by_cases e:j<L.length
      ·rw[List.getElem_append_left e]
       exact HES.out.2 j e hj'
      ·obtain rfl:j=k:=by have:=HKL.out;omega
       have e2:(L++[own])[j]'hj=own:=by rw[List.getElem_append_right (by omega)];simp[HKL.out]
       rw[e2,HGK.out];exact HI8.out
     ·rw[hlen,List.take_succ_eq_append_getElem hlt,List.mem_append,List.mem_singleton,HGK.out]at hq
      rcases hq with hq | rfl
      ·exact HSY.out q (by rw[HKL.out];exact hq)
      ·exact HIN.out
     ·rw[List.map_append,List.sum_append,HSS.out.1,hlen]
      simp[HLH.out.1];omega
     ·rw[List.map_append,List.sum_append,HSS.out.2,hlen]
      simp[HLH.out.2];omega
     ·exact(IG.out.kept hg12 (fun e=>LP e.symm)).set _
     ·exact(((HBE.out.trans (KC.out.mono (by have:=HBE.out.size;omega))).grown hg12 (by have:=HBE.out.size;have:=KC.out.size;omega) (fun q e=>by have:=(K9.out q e).1;omega)).setCell (Nat.le_refl _) _))
    clear hown12 hg12 hat12 hv11 hnews;go_wp2_with (fail)
    go_roundw
    case rel=>exact HNX.out
    case measure=>simp[intOf];omega
   ·have hex:∃x,mem g x/\¬ Sy x:=Classical.byContradiction fun q=>hin fun x hx=>Classical.byContradiction fun q2=>q ⟨x,hx,q2⟩
    have HW:=hid (gE Aj (some ⟨gS,0,none⟩) nj 1 cj 1 g [(0,1114111)] false w6 (HRG.out.ah hb6) hrs hgm (by omega) hcj (Nat.le_refl _) ⟨fun q=>absurd q (by decide),fun q=>by
     obtain⟨x,h1,h2⟩:=hex;exact absurd ⟨h1,fun h3=>h2 ((rP x).1 h3)⟩ (q x)⟩)
    have HNO:=hid (show ¬ o8 gs l s from fun q=>by
     obtain⟨x,h1,h2⟩:=hex;obtain⟨xs,h3,h4⟩:=CW HNE.out hlt (x:=x) (by rw[HGK.out];exact h1);exact h2 ((q xs h3).1 x h4))
    clear hb6 hrs hin hex;go_wp2_with (fail);refine HW.out.mono ?_;rintro e w7 ⟨rfl,hb7⟩;have HFI:=hid (And.intro HNO.out (HBW.out.trans ((HB6.out.trans (hb7.mono HB6.out.size)).mono HBW.out.size)));clear hb7;go_wp2_with (fail);exact⟨_,results_tmp2 rfl _ _ _,AU HFI.out.1 HFI.out.2 rfl⟩
  ·obtain rfl:k=gs.length:=by omega
   have hown:=BJ HES.out HKL.out;have LK:=AR (own:=iU L) HQ.out hown HNE.out s Sy (fun a b c h1 h2 h3 h5=>by unfold Sy at *;omega);rw[<- HKL.out,nC least,nC most,HSS.out.1,HSS.out.2]at LK;have hall:o8 gs l s↔∀xs,om gs xs->Sy (jm xs s l):=⟨fun q xs hx=>(q xs hx).2,fun q xs hx=>⟨fun x hxm=>by
    obtain⟨j,hj,rfl⟩:=List.getElem_of_mem hxm;have hj':j<gs.length:=by have:=hx.1;omega
    exact HSY.out _ (by rw[HKL.out,List.take_length];exact List.getElem_mem hj') _ (hx.2 j hj' hj),q xs hx⟩⟩
   have vL:=hid (hall.trans LK);have jS:=hid hown;have HY1:=hid (fun W=>mS (s+S1) W);have HY2:=hid (fun W=>mS (s+S2) W);clear hes hsy hbx hrow hbe Ma hS1 hS2 hown LK hall hk;by_cases c1:Sy (s+S1)
   case neg=>
    rw[decide_eq_false c1]at HY1;have HFI:=hid (And.intro (show ¬ o8 gs l s from fun q=>c1 (vL.out.1 q).1) hbW);clear hbW c1;go_wp2_with (fail);refine(HY1.out _).mono ?_;rintro e w6 ⟨rfl,rfl⟩;go_wp2_with (fail);exact⟨_,results_tmp2 rfl _ _ _,AU HFI.out.1 HFI.out.2 rfl⟩
   by_cases c2:Sy (s+S2)
   case neg=>
    rw[decide_eq_true c1]at HY1;rw[decide_eq_false c2]at HY2;have HFI:=hid (And.intro (show ¬ o8 gs l s from fun q=>c2 (vL.out.1 q).2) hbW);clear hbW c1 c2;go_wp2_with (fail);refine(HY1.out _).mono ?_;rintro e w6 ⟨rfl,rfl⟩;go_wp2_with (fail);refine(HY2.out _).mono ?_;rintro e w6 ⟨rfl,rfl⟩;go_wp2_with (fail);exact⟨_,results_tmp2 rfl _ _ _,AU HFI.out.1 HFI.out.2 rfl⟩
   rw[decide_eq_true c1]at HY1;rw[decide_eq_true c2]at HY2;have HOK:=hid (vL.out.2 ⟨c1,c2⟩);have HC2:=hid c2;have uV:Below w0.heap.size w0 wr:=HB3.out.trans (HBE.out.mono (by omega));obtain⟨q0,q1,q2,q3,q4,q5⟩:=X6.out wr uV;have CF:=hid uV;obtain⟨u1,hu1⟩:∃u1,wr.alloc (.cells #[.int .i64 0,.int .i64 0] 47)=u1:=⟨_,rfl⟩;have k1:Below wr.heap.size wr u1:=by rw[<- hu1];exact(Below.refl _ _).alloc (Nat.le_refl _) _
   have hsu1:u1.heap.size=wr.heap.size+1:=by rw[<- hu1];simp
   obtain⟨R0,hR0⟩:∃R0,wr.heap.size=R0:=⟨_,rfl⟩;have hr1:RS u1 u1.heap.size (some ⟨R0,0,none⟩) 1 [(0,0)]:=by rw[<- hR0];exact uK (by omega) (by rw[<- hu1];exact heap_alloc_new wr _)
   obtain⟨u2,hu2⟩:∃u2,u1.alloc (.cells #[.slice (some ⟨R0,0,none⟩) 1 1] 48)=u2:=⟨_,rfl⟩;have k2:Below u1.heap.size u1 u2:=by rw[<- hu2];exact(Below.refl _ _).alloc (Nat.le_refl _) _
   have hsu2:u2.heap.size=R0+1+1:=by rw[<- hu2];simp[hsu1,hR0]
   have hbS:Boxed u2 (R0+1) 48 (.slice (some ⟨R0,0,none⟩) 1 1):=by rw[<- hR0,<- hsu1,<- hu2,hR0];exact Boxed.new u1 _ _
   have k12:Below wr.heap.size wr u2:=k1.trans (k2.mono (by omega));have p5:u2.cell? ⟨w.heap.size,5,none⟩=some (.slice A l.length c):=(k12.cell (p:=⟨w.heap.size,5,none⟩) (by show w.heap.size<wr.heap.size;have:=hbW.size;have:=CF.out.size;omega)).trans q5;have HU2:=hid (And.intro k12 hbS);have how1:u1.ownsRow R0 47 2 (.slice (some ⟨R0,0,none⟩) 1 1) 1 (flat [(0,0)]):=by
    rw[<- hu1,<- hR0];exact World.ownsRow_lit wr #[.int .i64 0,.int .i64 0] 1 (Nat.le_refl _) (by decide) rfl
   have how2:u2.ownsRow R0 47 2 (.slice (some ⟨R0,0,none⟩) 1 1) 1 (flat [(0,0)]):=aQ how1 fun g e=>k2.block g (by
    have:R0=g:=by simpa[Value.ownBlock]using e
    omega)
   have Py:=hid how2;have HR1:=hid (hr1.ah k2);have Pz:=hid (zX A l.length c l u2 (H.out.ah (hbW.trans (k12.mono hbW.size))) (by omega));clear hr1 k1 k2 k12 hbS uV how1 how2 q0 q1 q2 q3 q4 q5 c1 c2 hbW hTw;go_wp2_with (fail);refine(HY1.out _).mono ?_;rintro e w6 ⟨rfl,rfl⟩;go_wp2_with (fail);refine(HY2.out _).mono ?_;rintro e w6 ⟨rfl,rfl⟩;go_wp2_with (fail);refine Pz.out.mono ?_;rintro e u3 ⟨Ao,co,rfl,hro,hco,JT,hfro⟩;obtain⟨no,hno⟩:∃no,(nI l).length=no:=⟨_,rfl⟩;have hno4:no<=4:=by rw[<- hno];exact Nat.le_trans (DJ l) hn
   have HNO:=hid hno;have PY:=hid hfro;rw[hno]at hro ⊢;have HRO:=hid hro;have OC:=hid (HU2.out.1.trans (JT.mono HU2.out.1.size));have NZ:Boxed u3 (R0+1) 48 (.slice (some ⟨R0,0,none⟩) 1 1):=aO HU2.out.2 JT (by omega);have Qf:=hid NZ;have hrow3:u3.ownsRow R0 47 2 (.slice (some ⟨R0,0,none⟩) 1 1) 1 (flat [(0,0)]):=aQ Py.out fun g e=>JT.block g (by
    have:R0=g:=by simpa[Value.ownBlock]using e
    omega)
   have MK:=hid hrow3;have hsu3:=JT.size;clear hro JT NZ hno hfro hrow3;go_wp2_with (fail);refine(Cj Ao no co u3).mono ?_;rintro e u4' ⟨rfl,hbx4,JR,hsz4⟩;have hcs:=hbx4.cell;have bO2:Boxed u4' (R0+1) 48 (.slice (some ⟨R0,0,none⟩) 1 1):=aO Qf.out JR (by omega);have Qd:=hid (OC.out.trans (JR.mono OC.out.size));have hrow4:u4'.ownsRow R0 47 2 (.slice (some ⟨R0,0,none⟩) 1 1) 1 (flat [(0,0)]):=aQ MK.out fun g e=>JR.block g (by
    have:R0=g:=by simpa[Value.ownBlock]using e
    omega)
   have hst:=rB 3 (by omega) u3.heap.size Ao no co (nI l) (by omega) (gb (R0+1)) u4'
    (fun W k hW e=>by
     have hp:=dx (aO bO2 hW (by omega));have hk:R0+2<=k:=by
      rcases e with rfl | ⟨_,off,e⟩
      ·omega
      ·have:=PY.out k off e;omega
     refine⟨by omega,fun hg=>?_⟩;rw[hp]at hg;have hg:R0=k:=by simpa[Value.ownBlock]using hg
     omega) hcs (HRO.out.ah JR)
   have hq0:Is [(0,0)] (rK (iU L) []):=⟨⟨List.pairwise_singleton _ _,fun p hp=>by
    obtain rfl:=List.mem_singleton.1 hp;unfold Ok;simp⟩,fun x=>by
    rw[aN];unfold Rng rK;simp only;omega⟩
   have pE:=tg hq0;have Kt:=hid (fun(a:Int) (ha:a∈nI l)=>show 0<=a/\a<(L.length:Int)from by
    obtain⟨q,hq,e⟩:=(oJ l a).1 ha;have:=HQ.out q hq;have:=HKL.out;omega)
   have Ld:=hid (fun(a:Int) (ha:a∈nI l)=>show iU L a≠[]/\Plain (iU L a)/\(∀x,mem (iU L a) x->0<=x/\x<=264241152)from by
    obtain⟨h1,h2⟩:=Kt.out a ha;obtain⟨j,rfl⟩:∃j:Nat,a=(j:Int):=⟨a.toNat,by omega⟩;have hj:j<gs.length:=by have:=HKL.out;omega
    have h3:=jS.out j hj;obtain⟨j1,j2,_⟩:=uM (fE HBT.out (j:Int)) (Nat.le_trans (iB l j) hn) (HNE.out _ (List.getElem_mem hj)) h3;exact⟨j1,h3.1,j2⟩)
   clear hcs hbx4 JR q0 q1 q2 q3 q4 q5;have hR4:R0+2<=u4'.heap.size:=by omega
   go_wp2_with (fail);refine(wpIn_wide (n:=4)).1 ?_;refine qp (F:=Fence.wide) rfl (by omega) (gf:=127) (lb:=#[.pointer (some ⟨u3.heap.size,0,none⟩)]) rfl trivial (enters_of Tryz.func127 (by kernel_rfl) rfl)
    hst (fun h k=>(gb _).trans h k) (fun W l o o' hl ho hc _=>lQ (by omega) ho hc) (Below.refl _ _) (fun _=>rfl)
    (fun pre W=>(∃v,Boxed W (R0+1) 48 v/\W.ownsRow R0 47 2 v (BQ (iU L) (rr pre)).length (flat (BQ (iU L) (rr pre)))/\IsQ (iU L) (rr pre))/\Below R0 wr W)
    (fun _ _ _=>False)
    (OwnFrom.and (Own.from (holdsRow_own R0 (R0+1) 48 47 2 (fun pre:List (El (nI l))=>(BQ (iU L) (rr pre)).length) (fun pre=>flat (BQ (iU L) (rr pre))) (fun pre _=>IsQ (iU L) (rr pre))) _) (ownFrom_below (by omega) (by omega)))
    (fun _ _ _ _ _ hs _ _=>hs)
    ⟨⟨_,bO2,by
     show u4'.ownsRow R0 47 2 _ (BQ (iU L) []).length (flat (BQ (iU L) []));rw[pE];exact hrow4,FD hq0⟩,by rw[<- hR0];exact Qd.out⟩
    (fun a x=>{ tmps:=((a.tmps.setIfInBounds 78 (.int .i64 (x.1.1:Int))).setIfInBounds 79 (.int .i64 x.1.2)).setIfInBounds 19 (.int .i64 x.1.2),defers:=[] }) ?assign ?body ?done ?stop
   case assign=>
    intro lp x W K hK;clear hst;dsimp only at hK;simp only[sA,sB,sC]at hK
    gi_wp2
    exact hK
   case body=>
    rintro lp pre x W ⟨⟨v,hv,hrow,JM⟩,hB⟩ hlt;rw[l8,HNO.out]at hlt;have hxm:=x.2;obtain⟨h1,h2⟩:=Kt.out _ hxm;obtain⟨o1,o2,o3⟩:=Ld.out _ hxm;obtain⟨a,ha⟩:∃a,x.1.2=a:=⟨_,rfl⟩;have HRR:=hid (Gr pre x);rw[ha]at HRR h1 h2 o1 o2 o3 ⊢;obtain⟨j,hj⟩:∃j:Nat,a=(j:Int):=⟨a.toNat,by omega⟩;subst hj;have hjl:j<L.length:=by omega
    have hB':Below wr.heap.size wr W:=by rw[hR0];exact hB
    have hWs:=hB'.size;obtain⟨g,bX,Aj,cj,hvv,hg1,hg2,hcg,LI,hcj,_⟩:=(rO.out.below hB').at_ hjl;have hgR:g<R0:=by rw[<- hR0];exact(rO.out.lt (g:=g) (by rw[hvv];rfl)).2
    have NX:Boxed W E 40 (.slice (some ⟨g,0,none⟩) L.length bX):=by rw[<- hvv];exact aO HBX.out hB' hEl
    have hol:iU L (j:Int)=L[j]:=oH hjl;obtain⟨Lj,hLj⟩:∃Lj,L[j]=Lj:=⟨_,rfl⟩;rw[hLj]at hol hcg LI hcj;rw[hol]at o1 o2 o3;obtain⟨cur,hcur⟩:∃cur,BQ (iU L) (rr pre)=cur:=⟨_,rfl⟩;have eU:Is cur (rK (iU L) (rr pre)):=by rw[<- hcur];exact JM
    rw[hcur]at hrow;have hown:av W R0 v cur:=hrow;obtain⟨Av,cv,hvA,NU,JG⟩:=aF hown;have G5:∀b∈rr pre,b∈nI l:=Fp pre;have LZ:cur≠[]:=fun e=>by
     obtain⟨y,hy⟩:=kT (own:=iU L) (rr pre) (fun b hb=>by
      obtain⟨p1,p2,_⟩:=Ld.out b (G5 b hb);exact⟨_,(dB p2 p1).1⟩)
     exact eU.cQ.1 e y hy
    have hrl:(rr pre).length=pre.length:=by simp[rr]
    have hcb:∀y,mem cur y->0<=y/\y<=264241152*(pre.length:Int):=fun y hy=>by
     have:=kU (own:=iU L) (rr pre) (fun b hb=>(Ld.out b (G5 b hb)).2.2) y ((eU.2 y).1 hy);rw[hrl]at this;exact this
    have hct:=Mh eU.1 o2 LZ o1 (fun x hx=>(hcb x hx).1) (fun x hx=>(o3 x hx).1);have hm1:=(hcb _ (d9 eU.1 LZ).1).2;have hm2:=(o3 _ (d9 o2 o1).1).2;have hsum:Calls Tryz.prog 115 #[.slice Av cur.length cv,.slice Aj Lj.length cj] W.drew (aP (Hz cur Lj) W.drew):=Da Av Aj cur.length Lj.length cv cj cur Lj (most cur) (most Lj) W.drew (show RS W.drew W.drew.heap.size Av cur.length cur from JG) (show RS W.drew W.drew.heap.size Aj Lj.length Lj from LI) eU.1.short o2.short hct (by omega);have Lb:=hid hsum;have HIS:=hid (fun(q:List Span) (hq:Is q (Hz cur Lj))=>show Is q (rK (iU L) (rr (pre++[x])))from by
     rw[HRR.out];refine hq.congr fun y=>?_
     constructor
     ·rintro⟨a1,b1,q1,q2,q3⟩
      exact⟨a1,b1,(eU.2 a1).1 q1,by rw[hol];exact q2,q3⟩
     ·rintro⟨a1,b1,q1,q2,q3⟩
      rw[hol]at q2;exact⟨a1,b1,(eU.2 a1).2 q1,q2,q3⟩)
    have PE:=hid (show∃y,rK (iU L) (rr (pre++[x])) y from kT (own:=iU L) (rr (pre++[x])) (fun b hb=>by
     obtain⟨p1,p2,_⟩:=Ld.out b (Fp (pre++[x]) b hb);exact⟨_,(dB p2 p1).1⟩))
    have hc:=hv.cell;have hf:=hv.frozen;have hBl:=hv.lt;have hcE:=NX.cell;have HV:=hid hv;have HBB:=hid hB;subst hvA;have i1:(0:Int)<=(j:Int):=h1;have i2:(j:Int)<(L.length:Int):=h2;clear hst hrow hown hv hB hB' JM eU LZ hcb hct hm1 hm2 JG LI G5 hcur hol hxm ha hvv NX HRR o1 o2 o3 bO2 hrow4 pE hq0 hsum;simp only[sA,sB,sC]
    gi_wp2_with (fail)
    refine Ro.mO (S:=(fun w'=>w'.cell? ⟨E,0,none⟩=some (.slice (some ⟨g,0,none⟩) L.length bX)/\w'.cell? ⟨g,j,none⟩=some (.slice Aj Lj.length cj))) (by kernel_rfl) (Ro.zZ (by kernel_rfl)) ?hq ⟨hcE,hcg⟩ (fun hHeld=>?_)
    case hq=>
     rintro⟨a',w',h'⟩;exact h'
    refine tk 1 ⟨some 81,.load 40 (.tmp 7),_,_,_,none⟩ ?_ rfl ?_ ?_;rotate_left
    ·intro w' hSw
     (try dsimp only at hSw)
     go_simp;all_goals with_reducible rfl
    try simp only[Act.put,sA,sB,sC]
    refine tk 2 ⟨some 82,.move (.tmp 19),_,_,_,none⟩ ?_ rfl ?_ ?_;rotate_left
    ·intro w' hSw
     (try dsimp only at hSw)
     go_simp;all_goals with_reducible rfl
    try simp only[Act.put,sA,sB,sC]
    refine tk 3 ⟨some 83,.indexAddr 40 (.tmp 81) (.tmp 82),_,_,_,none⟩ ?_ rfl ?_ ?_;rotate_left
    ·intro w' hSw
     (try dsimp only at hSw)
     go_simp;all_goals with_reducible rfl
    try simp only[Act.put,sA,sB,sC]
    refine tk 4 ⟨some 84,.load 48 (.tmp 83),_,_,_,none⟩ ?_ rfl ?_ ?_;rotate_left
    ·intro w' hSw
     (try dsimp only at hSw)
     go_simp;all_goals with_reducible rfl
    try simp only[Act.put,sA,sB,sC]
    refine wpAnyH_ready (rs:=[0]) (by kernel_rfl) (by simp) ?_;refine AllReadyH.cons (o:=⟨some 80,.load 48 (.tmp 17),_,_,_,none⟩) rfl (fun K hK=>?_) AllReadyH.nil;go_simp;refine hK.out _ _ hHeld (fun hHeld=>?_);clear hK K;try simp only[Act.put,sA,sB,sC]
    refine wpAnyH_ready (rs:=[5]) (by kernel_rfl) (by simp) ?_;refine AllReadyH.cons (o:=⟨some 85,.call { callee:=.value (.func 115),args:=#[.tmp 80,.tmp 84],argTypes:=#[48,48] },_,_,_,none⟩) rfl (fun K hK=>?_) AllReadyH.nil;go_simp;refine Lb.out.mono ?_;rintro e w9 ⟨v9,out9,rfl,his9,hown9,hb9⟩;have FK:Below W.heap.size W w9:=((Below.refl W.heap.size W).drew).trans hb9;have hne9:out9≠[]:=fun e=>by
     obtain⟨y,hy⟩:=PE.out;exact(HIS.out out9 his9).cQ.1 e y hy
    have hl9:0<out9.length:=List.length_pos_iff.2 hne9;obtain⟨g9,cap9,hv9,hg9,hgl9⟩:=World.ownsRow.form hown9 hl9;have OV:W.heap.size<=g9:=hg9;subst hv9;have hbx9:Boxed w9 (R0+1) 48 (.slice Av cur.length cv):=aO HV.out FK hBl;have hc9:=hbx9.cell;have hf9:=hbx9.frozen;have NW:w9.cell? ⟨E,0,none⟩=some (.slice (some ⟨g,0,none⟩) L.length bX):=(FK.cell (p:=⟨E,0,none⟩) (show E<W.heap.size by omega)).trans hcE;have hcg9:w9.cell? ⟨g,j,none⟩=some (.slice Aj Lj.length cj):=(FK.cell (p:=⟨g,j,none⟩) (show g<W.heap.size by omega)).trans hcg;refine hK.out _ _ ⟨NW,hcg9⟩ (fun hHeld=>?_);clear hK K;try simp only[Act.put,sA,sB,sC]
    have hkp:=eu (g:=g9) (n:=out9.length) (cap:=cap9) HV.out hbx9 FK.size (fun k hk _=>FK.block k hk) (.inr OV) hgl9;have HKP:=hid hkp;have HKO:=hid ((sJ FK).trans (KeepsOthers.setCell w9 ⟨R0+1,0,none⟩ (.slice (some ⟨g9,0,none⟩) out9.length cap9)));have HJ:=hid (show Boxed (w9.setCell ⟨R0+1,0,none⟩ (.slice (some ⟨g9,0,none⟩) out9.length cap9)) (R0+1) 48 (.slice (some ⟨g9,0,none⟩) out9.length cap9)/\(w9.setCell ⟨R0+1,0,none⟩ (.slice (some ⟨g9,0,none⟩) out9.length cap9)).ownsRow R0 47 2 (.slice (some ⟨g9,0,none⟩) out9.length cap9) out9.length (flat out9)/\Below R0 W (w9.setCell ⟨R0+1,0,none⟩ (.slice (some ⟨g9,0,none⟩) out9.length cap9))from
     ⟨hbx9.set _,aQ (aL hown9 (show R0<=W.heap.size by omega)) (fun q e=>heap_setCell_other w9 ⟨R0+1,0,none⟩ q _ (fun e2=>by
      have e3:g9=q:=by simpa[Value.ownBlock]using e
      simp only at e2;omega)),(FK.mono (by omega)).setCell (by show R0<=R0+1;omega) _⟩)
    have HCQ:=hid (tg (HIS.out out9 his9));have HIQ:=hid (FD (HIS.out out9 his9));clear hown9 hb9 FK hbx9 hkp his9;refine wpAnyH_ready (rs:=[6]) (by kernel_rfl) (by simp) ?_;refine AllReadyH.cons (o:=⟨none,.store 48 (.tmp 17) (.tmp 85),_,_,_,none⟩) rfl (fun K hK=>?_) AllReadyH.nil;go_simp;refine hK.out _ _ ⟨(World.cell?_setCell_far w9 ⟨R0+1,0,none⟩ ⟨E,0,none⟩ _ (show R0+1≠E by omega)).trans NW,(World.cell?_setCell_far w9 ⟨R0+1,0,none⟩ ⟨g,j,none⟩ _ (show R0+1≠g by omega)).trans hcg9⟩ (fun hHeld=>?_);clear hK K;try simp only[Act.put,sA,sB,sC]
    refine wpAnyH_done (by kernel_rfl) ?_ _
    gi_wp2_with (fail)
    refine⟨HKO.out,HKP.out,⟨_,HJ.out.1,?_,HIQ.out⟩,HBB.out.trans HJ.out.2.2⟩;rw[HCQ.out];exact HJ.out.2.1
   case done=>
    rintro D ys W hD rfl ⟨⟨v,hv,hrow,JM⟩,hB⟩ hK;have hB':Below wr.heap.size wr W:=by rw[hR0];exact hB
    have hc:=hv.cell;obtain⟨cur,hcur⟩:∃cur,BQ (iU L) (rr (evS (nI l)))=cur:=⟨_,rfl⟩;have eU:Is cur (rK (iU L) (rr (evS (nI l)))):=by rw[<- hcur];exact JM
    rw[hcur]at hrow;have hown:av W R0 v cur:=hrow;obtain⟨Av,cv,hvA,NU,JG⟩:=aF hown;subst hvA;have hrr:rr (evS (nI l))=nI l:=by unfold rr;rw[EK,List.reverse_reverse]
    rw[hrr]at eU;have N8:Below w0.heap.size w0 W:=CF.out.trans (hB'.mono CF.out.size);obtain⟨q0,q1,q2,q3,q4,q5⟩:=X6.out W N8;have HMV:=hid (kA Av cur.length cv cur s W JG (by have:=eU.1.short;omega) NU);have HIN:=hid (fun(out:List Span) (ho:Is out (fun x=>Rng x/\mem cur (x-s)))=>show Is out (jR gs l s)from ho.congr fun z=>by
     rw[eU.2];have key:=AQ (nH l) (fun q hq=>(oJ l q.1).2 ⟨q,hq,rfl⟩) (fun i hi=>by
      obtain⟨q,hq,rfl⟩:=(oJ l i).1 hi;exact HQ.out q hq) jS.out HNE.out s z
     have e1:rK (iU L) (nI l) (z-s)↔CP (iU L) (nI l) (z-s):=(Fl (nI l) (nH l) (z-s)).trans (zj (List.reverse_perm (nI l)) _);rw[e1,<- key]
     constructor
     ·exact fun h=>h.2
     ·rintro⟨xs,h1,h2⟩
      refine⟨?_,xs,h1,h2⟩;have:=(HOK.out xs h1).2;rw[h2]at this;unfold Sy at this;unfold Rng;omega)
    have IJ:=hid (HBW.out.trans (hB'.mono HBW.out.size));have HK:=hid hK;have HD:=hid hD;clear hst hv hrow hown hB hB' JM eU hcur JG hK hD N8 bO2 hrow4 pE hq0;go_wp2_with (fail);refine HMV.out.mono ?_;rintro e w5 ⟨v5,out5,rfl,his5,hown5,hb5⟩;have HFI:=hid (And.intro (HIN.out out5 his5) (And.intro (show av w5 w.heap.size v5 out5 from aL hown5 (IJ.out.size)) (IJ.out.trans (hb5.mono IJ.out.size))));have hK5:w5.heap[D]? = some (.deferred (some [])):=(hb5.block D (Array.getElem?_eq_some_iff.1 HK.out).1).trans HK.out;have HD5:=hid (show w.heap.size<=D from by have:=HD.out;omega);clear hb5 his5 hown5;go_wp2_with (fail);refine⟨by simp,.inl ⟨_,_,rfl,run_takeDeferred hK5,?_⟩⟩;exact⟨_,results_tmp2 rfl _ _ _,_,_,_,rfl,ownsRow_putObj HFI.out.2.1 _ hK5 rfl,HFI.out.2.2.trans (belowK_b (w:=w) (Nat.le_refl _) w5 D _ (.deferred none) HD5.out hK5 rfl rfl),⟨fun _=>HOK.out,fun _=>rfl⟩,fun _=>HFI.out.1,fun q=>absurd q (by decide)⟩
   case stop=>
    rintro D cd pre W hD hpre h hK;exact h.elim
end Go.Proofs.YtbdmcibcenhpnaaGreatDoor.Fi
namespace Go.Proofs.YtbdmcibcenhpnaaGreatDoor.Fi
set_option maxHeartbeats 64000000
open Go Go.RowKit Go.Shelf Go.Maps Sp Pa Te Mi Sh
open Go.Lib (hid)
def Cw (b d t u s:Int) (l:List PT) (gs:List (List Span)) (w:World) (e:Ending) (w':World):Prop:=
 ∃(v:Value) (ok:Bool) (out:List Span),e = .returned (.tuple #[v,.bool ok])/\av w' w.heap.size v out/\Below w.heap.size w w'/\(ok=true↔jX b d t u s l gs)/\(ok=true->Is out (E7 b d t u s l gs))
theorem Ba {b d t u s:Int} {l:List PT} {gs:List (List Span)} {w w':World} {e:Ending} (hno : ¬ jX b d t u s l gs) (hb:Below w.heap.size w w') (he:e = .returned (.tuple #[.slice none 0 0,.bool false])):Cw b d t u s l gs w e w':=
 ⟨_,false,[],he,World.ownsRow_nil _ _ _ _,hb,⟨fun q=>absurd q (by decide),fun q=>absurd q hno⟩,fun q=>absurd q (by decide)⟩
theorem Eo {b d t u s:Int} {l:List PT} {gs:List (List Span)} {w w':World} {e:Ending} (h:jX b d t u s l gs/\∀y,¬ E7 b d t u s l gs y) (hb:Below w.heap.size w w') (he:e = .returned (.tuple #[.slice none 0 0,.bool true])):Cw b d t u s l gs w e w':=
 ⟨_,true,[],he,World.ownsRow_nil _ _ _ _,hb,⟨fun _=>h.1,fun _=>rfl⟩,fun _=>⟨Plain.nil,fun x=>⟨fun q=>absurd q (aI x),fun q=>absurd q (h.2 x)⟩⟩⟩
theorem jB {b d t u s:Int} {l:List PT} {gs:List (List Span)} (h4:gs.length<=4) (hn:iE b d t u s l=true) (hp:cC gs.length l=true):jX b d t u s l gs↔o8 gs l s:=by
 have key:∀xs,om gs xs->(mB b d t u s l xs↔(∀x∈xs,Sy x)/\Sy (jm xs s l)):=fun xs hx=>jD hn (by rw[hx.1];exact hp)
 exact⟨fun⟨_,_,_,h⟩ xs hx=>(key xs hx).1 (h xs hx),fun h=>⟨h4,hn,hp,fun xs hx=>(key xs hx).2 (h xs hx)⟩⟩
theorem GW {b d t u s:Int} {l:List PT} {gs:List (List Span)} (h4:gs.length<=4) (hn:iE b d t u s l=true) (hp:cC gs.length l=true) (ha:o8 gs l s) (y:Int):E7 b d t u s l gs y↔∃z,jR gs l s z/\b+dc d t u z=y:=by
 unfold E7 jR
 constructor
 ·rintro⟨xs,h1,h2,h3⟩
  rw[gG hn (by rw[h1.1];exact hp),if_pos (ha xs h1)]at h3;exact⟨_,⟨xs,h1,rfl⟩,h3⟩
 ·rintro⟨_,⟨xs,h1,rfl⟩,h3⟩
  refine⟨xs,h1,((jB h4 hn hp).2 ha).2.2.2 xs h1,?_⟩;rw[gG hn (by rw[h1.1];exact hp),if_pos (ha xs h1)];exact h3
theorem GY {b d t u s:Int} {l:List PT} {gs:List (List Span)} {inn im out:List Span} (h4:gs.length<=4) (hn:iE b d t u s l=true) (hp:cC gs.length l=true) (ha:o8 gs l s) (hi:Is inn (jR gs l s)) (him:Is im (Iu d t u inn)) (ho:Is out (fun x=>Rng x/\mem im (x-b))):Is out (E7 b d t u s l gs):=by
 obtain⟨h1,h2,h3,_⟩:=eO hn;refine ho.congr fun y=>?_
 rw[GW h4 hn hp ha,him.2];unfold Iu CR
 constructor
 ·rintro⟨_,z,⟨_,hz,_⟩,e⟩
  exact⟨z,(hi.2 z).1 hz,by omega⟩
 ·rintro⟨z,hz,e⟩
  have hsy:Sy z:=by obtain⟨xs,hx,rfl⟩:=hz;exact(ha xs hx).2
  have hv:=bw h3 z;unfold Sm at h1;unfold Sy at hsy;exact⟨by unfold Rng;omega,z,⟨h3,(hi.2 z).2 hz,by omega,by omega⟩,by omega⟩
theorem C4 (b d t u s:Int) (A:Option Addr) (n c:Nat) (l:List PT) (G:Option Addr) (gc:Nat) (gs:List (List Span)) (w:World) (h:RP w w.heap.size A n l) (hn:n<=maxLen)
  (hg:RGs w G gs.length gs) (hg4:gs.length<=4) (hgm:∀g∈gs,g.length<=1099511627776) (hT:jh w) :
  Calls Tryz.prog 70 #[trm b d t u s A n c,.slice G gs.length gc] w (Cw b d t u s l gs w):=by
 have hlen:=h.1;subst hlen;obtain⟨w0,hw0⟩:∃w0,w.alloc (.cells (aR b d t u s A l.length c) 51)=w0:=⟨_,rfl⟩;have hbw:Below w.heap.size w w0:=by rw[<- hw0];exact(Below.refl _ w).alloc (Nat.le_refl _) _
 have hsz0:w0.heap.size=w.heap.size+1:=by rw[<- hw0];simp
 have X6:=hid (fun W (hb:Below w0.heap.size w0 W)=>show Boxed6 W w.heap.size b d t u s A l.length c from by rw[<- hw0]at hb;exact boxed6 hb);obtain⟨r0,r1,r2,r3,r4,r5⟩:=X6.out w0 (Below.refl _ _);have Iz:=hid (fun W (hW:RP W W.heap.size A l.length l)=>tS b d t u s A l.length c l W hW hn);have Ks:=hid (fun W (hW:RP W W.heap.size A l.length l)=>mR b d t u s A l.length c l (gs.length:Int) W hW hn);have HP0:=hid (h.ah hbw);have HG0:=hid (hg.ah hbw);have HBW:=hid hbw;have HTB:=hid (hT.next hbw);have HGM:=hid hgm;have hd4:decide ((4:Int)<(gs.length:Int))=false:=decide_eq_false (by omega);clear h hg hbw hT hgm;by_cases k1:iE b d t u s l=true
 case neg=>
  rw[Bool.not_eq_true]at k1;rw[k1]at Iz;have HNO:=hid (show ¬ jX b d t u s l gs from fun q=>by have q1:=q.2.1;rw[k1]at q1;exact absurd q1 (by decide));clear k1;go_enter Tryz.func70,Tryz.ntmps70;go_wp2_with (fail);refine(Iz.out _ HP0.out).mono ?_;rintro e w1 ⟨rfl,hb1⟩;have HF:=hid (HBW.out.trans (hb1.mono HBW.out.size));clear hb1;go_wp2_with (fail);go_ret2;exact Ba HNO.out HF.out rfl
 by_cases k2:cC gs.length l=true
 case neg=>
  rw[Bool.not_eq_true]at k2;rw[k1]at Iz;rw[k2]at Ks;have HNO:=hid (show ¬ jX b d t u s l gs from fun q=>by have q1:=q.2.2.1;rw[k2]at q1;exact absurd q1 (by decide));clear k1 k2;go_enter Tryz.func70,Tryz.ntmps70;go_wp2_with (fail);refine(Iz.out _ HP0.out).mono ?_;rintro e w1 ⟨rfl,hb1⟩;obtain⟨r0,r1,r2,r3,r4,r5⟩:=X6.out w1 hb1;have HP1:=hid (HP0.out.ah hb1);have HF1:=hid (HBW.out.trans (hb1.mono HBW.out.size));clear hb1;go_wp2_with (fail);refine(Ks.out _ HP1.out).mono ?_;rintro e w2 ⟨rfl,hb2⟩;have HF:=hid (HF1.out.trans (hb2.mono HF1.out.size));clear hb2;go_wp2_with (fail);go_ret2;exact Ba HNO.out HF.out rfl
 have hsm:=eO k1;have HNP:=hid (And.intro k1 k2);have HPA:=hid (lI k2);rw[k1]at Iz;rw[k2]at Ks;have hl4:=hsm.2.2.2;have HSM:=hid hsm;clear k1 k2 hsm;by_cases k3:F5 gs
 ·have HEM:=hid (fun W (hW:RGs W G gs.length gs)=>qX G gc gs true W hW (by omega) HGM.out ⟨fun _=>k3,fun _=>rfl⟩)
  have HNO:=hid (show jX b d t u s l gs/\∀y,¬ E7 b d t u s l gs y from by
   obtain⟨g,hg,he⟩:=k3;exact Bc hg4 HNP.out.1 HNP.out.2 hg he)
  clear k3;go_enter Tryz.func70,Tryz.ntmps70;go_wp2_with (fail);refine(Iz.out _ HP0.out).mono ?_;rintro e w1 ⟨rfl,hb1⟩;obtain⟨r0,r1,r2,r3,r4,r5⟩:=X6.out w1 hb1;have HP1:=hid (HP0.out.ah hb1);have HG1:=hid (HG0.out.ah hb1);have HF1:=hid (HBW.out.trans (hb1.mono HBW.out.size));clear hb1;go_wp2_with (fail);refine(Ks.out _ HP1.out).mono ?_;rintro e w2 ⟨rfl,hb2⟩;have HF2:=hid (HF1.out.trans (hb2.mono HF1.out.size));have HG2:=hid (HG1.out.ah hb2);clear hb2;go_wp2_with (fail);refine(HEM.out _ HG2.out).mono ?_;rintro e w3 ⟨rfl,hb3⟩;have HF:=hid (HF2.out.trans (hb3.mono HF2.out.size));clear hb3;go_wp2_with (fail);go_ret2;exact Eo HNO.out HF.out rfl
 have hne:∀g∈gs,∃x,mem g x:=fun g hg=>Classical.byContradiction fun q=>k3 ⟨g,hg,fun x hx=>q ⟨x,hx⟩⟩
 have HEM:=hid (fun W (hW:RGs W G gs.length gs)=>qX G gc gs false W hW (by omega) HGM.out ⟨fun q=>absurd q (by decide),fun q=>absurd q k3⟩);have PV:=hid (fun W (hW:RP W W.heap.size A l.length l) (hG:RGs W G gs.length gs) (hT:jh W)=>xI b d t u s A l.length c l G gc gs W hW hl4 HPA.out.1 HPA.out.2 HSM.out.2.1 hG hg4 HGM.out hne hT);clear k3 hne;go_enter Tryz.func70,Tryz.ntmps70;go_wp2_with (fail);refine(Iz.out _ HP0.out).mono ?_;rintro e w1 ⟨rfl,hb1⟩;obtain⟨r0,r1,r2,r3,r4,r5⟩:=X6.out w1 hb1;have HP1:=hid (HP0.out.ah hb1);have HG1:=hid (HG0.out.ah hb1);have HT1:=hid (HTB.out.next hb1);have HB1:=hid hb1;clear hb1;go_wp2_with (fail);refine(Ks.out _ HP1.out).mono ?_;rintro e w2 ⟨rfl,hb2⟩;have HP2:=hid (HP1.out.ah hb2);have HG2:=hid (HG1.out.ah hb2);have HT2:=hid (HT1.out.next hb2);have HB2:=hid (HB1.out.trans (hb2.mono HB1.out.size));clear hb2;go_wp2_with (fail);refine(HEM.out _ HG2.out).mono ?_;rintro e w3 ⟨rfl,hb3⟩;have HP3:=hid (HP2.out.ah hb3);have HG3:=hid (HG2.out.ah hb3);have HT3:=hid (HT2.out.next hb3);have Mc:=HB2.out.trans (hb3.mono HB2.out.size);obtain⟨r0,r1,r2,r3,r4,r5⟩:=X6.out w3 Mc;have HB3:=hid Mc;clear hb3 Mc;go_wp2_with (fail);refine(PV.out _ HP3.out HG3.out HT3.out).mono ?_;intro e w4 hq4;obtain⟨v4,ok,inn,rfl,hown4,hb4,hok,his4,hnil⟩:=hq4;have I8:=HB3.out.trans (hb4.mono HB3.out.size);have hz4:=I8.size
 cases ok with
 | false=>
  have hv:=hnil rfl;subst hv;have HNO:=hid (show ¬ jX b d t u s l gs from fun q=>absurd (hok.2 ((jB hg4 HNP.out.1 HNP.out.2).1 q)) (by decide));have HF:=hid (HBW.out.trans (I8.mono HBW.out.size));clear hown4 hb4 I8 hok his4 hnil;go_wp2_with (fail);go_ret2;exact Ba HNO.out HF.out rfl
 | true=>
  have hall:=hok.1 rfl;have FI:=his4 rfl;obtain⟨A4,c4,hv4,hc4,hr4⟩:=aF hown4;subst hv4;have hsh:=FI.1.short;obtain⟨r0,r1,r2,r3,r4,r5⟩:=X6.out w4 I8;obtain⟨m4,hm4⟩:∃m4,inn.length=m4:=⟨_,rfl⟩;rw[hm4]at hc4 hr4 hsh ⊢;have HR4:=hid hr4;have HII:=hid FI;have vL:=hid hall;have HBB:=hid (HBW.out.trans (I8.mono HBW.out.size));have HO:=hid (lM b d t u s A l.length c);have hwz:w.heap.size<w4.heap.size:=by omega
  clear hown4 hb4 I8 hok his4 hnil hall FI hr4 hm4;go_wp2_with (fail)
  go_region_held3 (fun w'=>w'.cell? ⟨w.heap.size,0,none⟩=some (.int .i64 b)/\w'.cell? ⟨w.heap.size,1,none⟩=some (.int .i64 d)/\w'.cell? ⟨w.heap.size,2,none⟩=some (.int .i64 t)/\w'.cell? ⟨w.heap.size,3,none⟩=some (.int .i64 u)/\w'.cell? ⟨w.heap.size,4,none⟩=some (.int .i64 s)/\w'.cell? ⟨w.heap.size,5,none⟩=some (.slice A l.length c))
   (first
    | go_keep
    | (go_split_ands;refine⟨?_,?_,?_,?_,?_,?_⟩;all_goals (rw[hb8.cell (by simp;omega)];assumption))
    | (go_split_ands;refine⟨?_,?_,?_,?_,?_,?_⟩;all_goals (rw[hb7.cell (by simp;omega)];assumption))
    | (go_split_ands;refine⟨?_,?_,?_,?_,?_,?_⟩;all_goals (rw[hb6.cell (by simp;omega)];assumption)))
   (first
    | (go_at_call 96;refine(HO.out _).mono ?_;rintro e w6 ⟨rfl,hb6⟩;have hz6:w4.heap.size<=w6.heap.size:=by(have:=hb6.size;simpa using this))
    | (go_at_call 95;refine(qI 0 d t u A4 m4 c4 inn _ (HR4.out.ah ((Below.refl _ w4).drew.trans hb6)) (by omega) hc4).mono ?_;rintro e w7 ⟨v7,im,rfl,his7,ho7,hb7⟩;have hz7:w4.heap.size<=w7.heap.size:=Nat.le_trans hz6 hb7.size;obtain⟨A7,c7,hv7,hc7,hr7⟩:=aF ho7;have hsh7:=his7.1.short;obtain rfl:=hv7)
    | (go_at_call 94;refine(kA A7 im.length c7 im b _ hr7 (by omega) hc7).mono ?_;rintro e w8 ⟨v8,out,rfl,his8,ho8,hb8⟩))
  have HIS:=hid (GY hg4 HNP.out.1 HNP.out.2 vL.out HII.out his7 his8);have HO8:=hid (aL ho8 (show w.heap.size<=w7.heap.size by omega));have HB8:=hid (((HBB.out.drew.trans (hb6.mono (by simp;omega))).trans (hb7.mono (by omega))).trans (hb8.mono (by omega)));have HFO:=hid (show jX b d t u s l gs from(jB hg4 HNP.out.1 HNP.out.2).2 vL.out);clear ho8 hb8 ho7 hb7 hb6 his7 his8 hr7;go_wp2_with (fail);go_ret2;exact⟨_,_,_,rfl,HO8.out,HB8.out,⟨fun _=>HFO.out,fun _=>rfl⟩,fun _=>HIS.out⟩
end Go.Proofs.YtbdmcibcenhpnaaGreatDoor.Fi
namespace Go.Proofs.YtbdmcibcenhpnaaGreatDoor.Fi
set_option maxHeartbeats 64000000
open Go Go.RowKit Go.Shelf Go.Maps Sp Pa Te Mi Sh
open Go.Lib (hid)
def Oi (gs L:List (List Span)):Prop:=L.length<=gs.length/\∀(j:Nat) (h:j<gs.length) (h':j<L.length),Is L[j] fun x=>mem gs[j] x/\Sy x
theorem DR {gs L:List (List Span)} (h:Oi gs L) (hl:L.length=gs.length):Mv gs L:=⟨hl,fun i h1 h2=>h.2 i h1 h2⟩
def Fi1 (gs:List (List Span)) (B:Nat) (w0:World) (v i:Value) (wr:World):Prop:=
 ∃L:List (List Span),i = .int .i64 (L.length:Int)/\Oi gs L/\eC wr B v L/\Below B w0 wr
theorem EJ (b d t u s i o:Int) (A:Option Addr) (n c:Nat) (l:List PT) (G:Option Addr) (gc:Nat) (gs:List (List Span)) (v:Bool) (w:World) (h:RP w w.heap.size A n l) (hn:n<=maxLen)
  (hg:RGs w G gs.length gs) (hgm:∀g∈gs,g.length<=1099511627776) (hT:jh w) (hv:v=true↔rJ (dK o) i o b d t u s l gs) :
  Calls Tryz.prog 55 #[trm b d t u s A n c,.int .i64 i,.int .i64 o,.slice G gs.length gc] w (dY v w):=by
 have hlen:=h.1;subst hlen;obtain⟨i0,hi0,hz0,hz1,hz2⟩:=info_parts oM;obtain⟨w0,hw0⟩:∃w0,w.alloc (.cells (aR b d t u s A l.length c) 51)=w0:=⟨_,rfl⟩;have hbw:Below w.heap.size w w0:=by rw[<- hw0];exact(Below.refl _ w).alloc (Nat.le_refl _) _
 have hsz0:w0.heap.size=w.heap.size+1:=by rw[<- hw0];simp
 have X6:=hid (fun W (hb:Below w0.heap.size w0 W)=>show Boxed6 W w.heap.size b d t u s A l.length c from by rw[<- hw0]at hb;exact boxed6 hb);obtain⟨r0,r1,r2,r3,r4,r5⟩:=X6.out w0 (Below.refl _ _);have HP0:=hid (h.ah hbw);have HG0:=hid (hg.ah hbw);have HBW:=hid hbw;have HTB:=hid (hT.next hbw);have HGM:=hid hgm;have HV:=hid hv;clear h hg hbw hT hgm hv;by_cases hg4:gs.length<=4
 case neg=>
  have hd4:decide ((4:Int)<(gs.length:Int))=true:=decide_eq_true (by omega);have hvf:v=false:=by
   cases v with
   | false=>rfl
   | true=>exact absurd (HV.out.1 rfl).1 hg4
  subst hvf;go_enter Tryz.func55,Tryz.ntmps55;go_wp2_with (fail);go_ret;exact⟨rfl,HBW.out⟩
 have hd4:decide ((4:Int)<(gs.length:Int))=false:=decide_eq_false (by omega);have HRI:=hid (fun W (hW:RP W W.heap.size A l.length l)=>vV i o (gs.length:Int) b d t u s A l.length c l W hW hn);by_cases k1:aK i o gs.length b d t u s l=true
 case neg=>
  rw[Bool.not_eq_true]at k1;have hvf:v=false:=by
   cases v with
   | false=>rfl
   | true=>have q:=(HV.out.1 rfl).2.1;rw[k1]at q;exact absurd q (by decide)
  subst hvf;rw[k1]at HRI;clear k1;go_enter Tryz.func55,Tryz.ntmps55;go_wp2_with (fail);refine(HRI.out _ HP0.out).mono ?_;rintro e w1 ⟨rfl,hb1⟩;have HF:=hid (HBW.out.trans (hb1.mono HBW.out.size));clear hb1;go_wp2_with (fail);go_ret;exact⟨rfl,HF.out⟩
 have HK1:=hid k1;rw[k1]at HRI;clear k1;go_enter Tryz.func55,Tryz.ntmps55;go_wp2_with (fail);refine(HRI.out _ HP0.out).mono ?_;rintro e w1 ⟨rfl,hb1⟩;have HP1:=hid (HP0.out.ah hb1);have HG1:=hid (HG0.out.ah hb1);have HT1:=hid (HTB.out.next hb1);have HB1:=hid hb1;obtain⟨B,hB⟩:∃B,w1.heap.size=B:=⟨_,rfl⟩;have hzB:w.heap.size<B:=by have:=hb1.size;omega
 have HST:=hid (show Fi1 gs B w1 (.slice none 0 0) (.int .i64 (0:Nat)) w1 from⟨[],rfl,⟨Nat.zero_le _,fun j _ h'=>by simp at h'⟩,eC.dS _ _,Below.refl _ _⟩);clear hb1;go_wp2_with (fail)
 go_loopw [9,28] (fun v i wr=>Fi1 gs B w1 v i wr) (fun _ i _=>gs.length-(intOf i).toNat)
 case atStart=>exact HST.out
 case round=>
  obtain⟨L,rfl,hm,hrow,hbe⟩:=hrel;have hwr:=hbe.size;have hLg:=hm.1;have hbE:Below w1.heap.size w1 wr:=by rw[hB];exact hbe
  have HM:=hid hm;have rO:=hid hrow;have HBE:=hid hbe;have HBF:=hid hbE;obtain⟨k,hk⟩:∃k,L.length=k:=⟨_,rfl⟩;have HKL:=hid hk;rw[hk]at hLg ⊢;by_cases hlt:k<gs.length
  ·obtain⟨bb,off,Aj,cj,hA,hbB,hcg,hrg,hcj,hnj⟩:=(HG1.out.ah hbE).at_ hlt
   obtain⟨g,hgk⟩:∃g,gs[k]=g:=⟨_,rfl⟩;have HGK:=hid hgk;rw[hgk]at hcg hrg hcj;have hgm:=HGM.out g (by rw[<- hgk];exact List.getElem_mem hlt);obtain⟨nj,JJ⟩:∃nj,g.length=nj:=⟨_,rfl⟩;rw[JJ]at hcg hrg hcj hgm;have HRG:=hid hrg;subst hA;clear hm hrow hbe hbE hrg hnj JJ hgk hk;go_wp2_with (fail);refine(kR wr).mono ?_;rintro e w6 ⟨gS,rfl,hrs,hb6⟩;have HB6:=hid hb6;have HME:=hid (uI Aj (some ⟨gS,0,none⟩) nj 1 cj 1 g [(0,1114111)] w6 (HRG.out.ah hb6) hrs hgm (by omega) hcj (Nat.le_refl _));clear hb6 hrs;go_wp2_with (fail);refine HME.out.mono ?_;rintro e w8 ⟨v8,own,rfl,his8,ho8,hb8⟩;have oO:=HB6.out.trans (hb8.mono HB6.out.size);have hnil8:=fun A' c' (e:v8 = .slice A' own.length c')=>iC (by rw[e]at ho8;exact ho8)
   obtain⟨A8,c8,hv8,hc8,hr8⟩:=aF ho8;have hbl8:=fun b' off' (e:A8=some ⟨b',off',none⟩)=>World.ownsRow.lt ho8 b' (by rw[hv8,e];rfl)
   have CD:=hid (hnil8 A8 c8 hv8);subst hv8;have HI8:=hid (his8.congr (T:=fun x=>mem g x/\Sy x) fun x=>by rw[rP]);have HR8:=hid hr8;have M7:=hid hbl8;have KD:=hid oO;have hrow10:=rO.out.below oO;obtain⟨vs,hvs0⟩:=hrow10.row;obtain⟨Av,cv,hvv⟩:=aX hvs0;have K9:=hid (fun q e=>hrow10.lt (g:=q) e);rw[HKL.out]at hvs0 hvv;have Cz:=hid hrow10;subst hvv;obtain⟨w11,hw11⟩:∃w11,w8.alloc (.cells #[.slice A8 own.length c8] 48)=w11:=⟨_,rfl⟩;have hb11:Below w8.heap.size w8 w11:=by rw[<- hw11];exact(Below.refl _ _).alloc (Nat.le_refl _) _
   have hs11:w11.heap.size=w8.heap.size+1:=by rw[<- hw11];simp
   have hs8:wr.heap.size<=w8.heap.size:=oO.size;have hv11:w11.ownsRow B 48 1 (.slice Av k cv) k vs:=aQ hvs0 fun q e=>hb11.block q (World.ownsRow.lt hvs0 q e).2
   have hnews:∀jj u,[Value.slice A8 own.length c8][jj]? = some u->w11.cell? ((⟨w8.heap.size,0,none⟩:Addr).add jj)=some u:=by
    rw[<- hw11];exact World.news_of_block (cs:=#[.slice A8 own.length c8]) (t:=48) (fr:=(0,0)) (heap_alloc_new w8 _)
   have HR11:=hid (HR8.out.ah hb11);have Cy:=hid (Cz.out.below hb11);have KC:=hid (KD.out.trans (hb11.mono KD.out.size));have hs6:=HB6.out.size;have t3:IntKind.i64.wrap ((k:Int)+1)=(k:Int)+1:=IntWalk.i64_in _ (by omega);clear hrow10 oO hb11 hvs0 his8 ho8 hb8 hr8 hbl8 hnil8;go_wp2_with (at_builtin;go_must (refine wpList_append_own_at _ rfl _ _ 40 rfl B 48 i0 _ 1 24 Tryz.underlying40 hi0 hz0 hz1 hz2 rfl (by decide) (.slice Av k cv) k vs rfl hv11 ⟨w8.heap.size,0,none⟩ 1 1 [.slice A8 own.length c8] rfl rfl hnews ?c2 ?c3 ?c4 ?c5 ?_))
   case c2=>intro u hu;simp at hu;subst hu;rfl
   case c3=>simp only[maxLen];omega
   case c4=>omega
   case c5=>omega
   intro v12 w12 hown12 hg12 _ hat12;obtain⟨g12,cap12,hv12,_,_⟩:=World.ownsRow.form hown12 (by omega);subst hv12;have HNX:=hid (show Fi1 gs B w1 (.slice (some ⟨g12,0,none⟩) (k+1) cap12) (.int .i64 ((k:Int)+1)) w12 from by
    have hr12:eC w12 B (.slice (some ⟨g12,0,none⟩) (k+1) cap12) (L++[own]):=Cy.out.more (vs:=vs) (l:=own) (A:=A8) (c:=c8) (H:=w11.heap.size) (by rw[HKL.out];exact hv11) HR11.out hc8 CD.out (fun b' off' e=>by
      have h1:=M7.out b' off' e;have h3:=HBE.out.size;refine⟨by omega,by omega,fun e2=>?_⟩;have h5:=rO.out.lt (g:=b') e2;omega) hg12 (by rw[HKL.out];exact hown12) (hat12.imp id fun e=>by rw[e,hs11]) (Nat.le_refl _)
    have hlen:(L++[own]).length=k+1:=by rw[List.length_append,List.length_singleton,HKL.out]
    refine⟨L++[own],by rw[hlen];rfl,⟨by omega,fun j hj' hj=>?_⟩,hr12,?_⟩
    ·by_cases e:j<L.length
     ·rw[List.getElem_append_left e]
      exact HM.out.2 j hj' e
     ·obtain rfl:j=k:=by have:=HKL.out;omega
      have e2:(L++[own])[j]'hj=own:=by rw[List.getElem_append_right (by omega)];simp[HKL.out]
      rw[e2,HGK.out];exact HI8.out
    ·exact(HBE.out.trans (KC.out.mono (by have:=HBE.out.size;omega))).grown hg12 (by have:=HBE.out.size;have:=KC.out.size;omega) (fun q e=>by have:=(K9.out q e).1;omega))
   clear hown12 hg12 hat12 hv11 hnews;go_wp2_with (fail)
   go_roundw
   case rel=>exact HNX.out
   case measure=>simp[intOf];omega
  ·obtain rfl:k=gs.length:=by omega
   have hms:=DR HM.out HKL.out;have hfi:=EI (dom:=dK o) hg4 HK1.out hms;obtain⟨A',c',hvr,hrr,hcr⟩:=hrow.reads;have L9:Below w0.heap.size w0 wr:=HB1.out.trans (hbE.mono HB1.out.size);obtain⟨r0,r1,r2,r3,r4,r5⟩:=X6.out wr L9;have HT2:=hid (HT1.out.next hbE);have HLM:=hid (show∀g∈L,g.length<=1099511627776 from fun g hg=>by
    obtain⟨j,hj,rfl⟩:=List.getElem_of_mem hg;have:=(HM.out.2 j (by rw[<- HKL.out];exact hj) hj).1.short;omega)
   have HIM:=hid (C4 b d t u s A l.length c l A' c' L wr (HP1.out.ah hbE) hn hrr (by rw[HKL.out];exact hg4) HLM.out HT2.out);rw[HKL.out]at HIM hvr;have HBB:=hid (HBW.out.trans (L9.mono (by omega)));have HVI:=hid (HV.out.trans hfi);subst hvr;clear hm hrow hbe hbE hk hms hfi hrr hcr L9;go_wp2_with (fail);refine HIM.out.mono ?_;intro e w5 hq5;obtain⟨v5,ok,out,rfl,hown5,hb5,hok,his5⟩:=hq5;have HB5:=hid (HBB.out.trans (hb5.mono HBB.out.size));have hz5:=HB5.out.size
   cases ok with
   | false=>
    have hvf:v=false:=by
     cases v with
     | false=>rfl
     | true=>exact absurd (hok.2 (HVI.out.1 rfl).1) (by decide)
    subst hvf;clear hown5 hb5 hok his5;go_wp2_with (fail);go_ret;exact⟨rfl,HB5.out⟩
   | true=>
    have FI:=his5 rfl;have hOK:=hok.1 rfl;obtain⟨A5,c5,hv5,hc5,hr5⟩:=aF hown5;subst hv5;have hsh:=FI.1.short;obtain⟨m5,hm5⟩:∃m5,out.length=m5:=⟨_,rfl⟩;rw[hm5]at hc5 hr5 hsh ⊢;have HR5:=hid hr5;have HVO:=hid (show v=true↔∀x,¬ (mem out x/\¬ mem (dK o) x)from by
     rw[HVI.out]
     constructor
     ·rintro⟨_,h2⟩ x ⟨h3,h4⟩
      exact h4 (h2 x ((FI.2 x).1 h3))
     ·exact fun h2=>⟨hOK,fun y hy=>Classical.byContradiction fun q=>h2 y ⟨(FI.2 y).2 hy,q⟩⟩)
    clear hown5 hb5 hok his5 FI hOK hr5 hm5;go_wp2_with (fail);refine(kJ o w5).mono ?_;rintro e w6 ⟨A6,c6,rfl,hr6,hb6,hc6⟩;have HB6:=hid (HB5.out.trans (hb6.mono HB5.out.size));have hd2:(dK o).length<=2:=by
     unfold dK
     split
     ·decide
     ·split <;> decide
    have HWI:=hid (gE A5 A6 m5 (dK o).length c5 c6 out (dK o) v w6 (HR5.out.ah hb6) hr6 (by omega) (by omega) hc5 hc6 HVO.out);clear hr6 hb6;go_wp2_with (fail);refine HWI.out.mono ?_;rintro e w7 ⟨rfl,hb7⟩;have HB7:=hid (HB6.out.trans (hb7.mono HB6.out.size));clear hb7;go_wp2_with (fail);go_ret;exact⟨rfl,HB7.out⟩
end Go.Proofs.YtbdmcibcenhpnaaGreatDoor.Fi
namespace Go.Proofs.YtbdmcibcenhpnaaGreatDoor.De
open Go Go.RowKit Sp Pa Te Mi
noncomputable def eB (i o:Int) (gs:List (List Span)) (t:TmL):Bool:=@decide (Fi.rJ (Fi.dK o) i o t.b t.d t.t t.u t.s t.ps gs) (Classical.propDecidable _)
theorem kF (i o:Int) (gs:List (List Span)) (t:TmL):eB i o gs t=true↔Fi.rJ (Fi.dK o) i o t.b t.d t.t t.u t.s t.ps gs:=by
 unfold eB;exact @decide_eq_true_iff _ (Classical.propDecidable _)
theorem Bv (i o:Int) (gs:List (List Span)) (t:TmL) (w:World) (hT:Fi.jh w) (hg:aG i gs=true):jT (eB i o gs) i o gs t w:=fun W hW A' c' G gc hp _ hm hgs _=>
 Fi.EJ t.b t.d t.t t.u t.s i o A' t.ps.length c' t.ps G gc gs (eB i o gs t) W hp hm hgs (fun g hgm=>by
  unfold aG at hg;rw[Bool.and_eq_true]at hg;have h2:=List.all_eq_true.1 hg.2 g hgm;unfold bp at h2;simp only[Bool.and_eq_true,decide_eq_true_eq]at h2;omega) (hT.next hW) (kF i o gs t)
noncomputable def aW (i o n s:Int) (rs:List RuL) (fs:List FiL):Int×Int:=dO i o n s (eB i o) (jo (bF rs) n.toNat) rs fs
theorem vR (i o n s:Int) (A:Option Addr) (cr:Nat) (B:Option Addr) (cf:Nat) (rs:List RuL) (fs:List FiL) (w:World) (hr:RRu w A rs.length rs) (hrl:rs.length<=maxLen) (hf:RFi w B fs.length fs) (hfl:fs.length<=maxLen) (hT:Fi.jh w) :
  Calls Tryz.prog 30 #[dsc i o n s A rs.length cr B fs.length cf] w (Ck (aW i o n s rs fs) w):=
 yP (eB i o) (jo (bF rs) n.toNat) i o n s A cr B cf rs fs w hr hrl hf hfl (fun q _ hg _ t _=>Bv i o q.gs t w hT hg) (fun q _ hg _ t _=>Bv i o q.gs t w hT hg) (fun hh hru W hW=>by
  unfold bn at hh;simp only[Bool.and_eq_true,decide_eq_true_eq]at hh;have h1:((n.toNat:Nat):Int)=n:=by omega
  have key:=BN n.toNat i o s A cr B fs.length cf rs W hW (by omega) (by omega) (fun j hj=>by
   have h2:=hru j hj;unfold dw at h2;simp only[Bool.and_eq_true]at h2;rw[h1];exact⟨h2.1,h2.2.1⟩)
  rw[h1]at key;exact key)
theorem yt (i o n s:Int) (A:Option Addr) (cr:Nat) (B:Option Addr) (cf:Nat) (rs:List RuL) (fs:List FiL) (w:World) (hr:RRu w A rs.length rs) (hrl:rs.length<=maxLen) (hf:RFi w B fs.length fs) (hfl:fs.length<=maxLen) (hT:Fi.jh w) :
  Calls Tryz.prog 15 #[dsc i o n s A rs.length cr B fs.length cf] w (Kj (if(aW i o n s rs fs).1=0 then 0 else 2) w):=
 x5 (aW i o n s rs fs) i o n s A rs.length cr B fs.length cf w fun W hW=>vR i o n s A cr B cf rs fs W (hr.ah hW) hrl (hf.ah hW) hfl (hT.next hW)
end Go.Proofs.YtbdmcibcenhpnaaGreatDoor.De
