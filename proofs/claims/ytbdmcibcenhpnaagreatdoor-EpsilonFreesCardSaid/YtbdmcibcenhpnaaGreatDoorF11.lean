import Derived.Test.YtbdmcibcenhpnaaGreatDoorF6
import Derived.Test.YtbdmcibcenhpnaaGreatDoorF8
import Derived.Test.YtbdmcibcenhpnaaGreatDoorF10
set_option maxRecDepth 100000
namespace Go.Proofs.YtbdmcibcenhpnaaGreatDoor.Sp
set_option maxHeartbeats 64000000
open Go Go.RowKit Go.Shelf
open Go.Lib (hid)
theorem pU (p:Option Addr) (cap:Nat) (fv:Value) (w:World):Calls Tryz.prog 119 #[.slice p 0 cap,fv] w fun e w'=>e = .returned (.tuple #[])/\w=w':=by
 have nM:=AnyF.slices_SortFunc_none zy p cap fv w
 change Calls Tryz.prog 119 _ _ _ at nM
 exact nM.mono fun _ _ ⟨he,hw⟩=>⟨he,hw.symm⟩
def Ko (l:List Span) (base n:Nat) (w:World) (v i:Value) (wr:World):Prop:=∃(k:Nat) (out:List Span),k<=n/\i = .int .i64 k/\gy l k out/\av wr base v out/\Below base w wr
def aP (S:Int->Prop) (w:World) (e:Ending) (w':World):Prop:=∃v out,e = .returned v/\Is out S/\av w' w.heap.size v out/\Below w.heap.size w w'
theorem D3 {l out:List Span} {k:Nat} {lo hi:Int} (h:gy l k out) (hk:∃hl:k<l.length,l[k]=(lo,hi)):gy l (k+1) (gV out lo hi):=by
 obtain⟨hl,e⟩:=hk;have:=h.next hl;rw[e]at this;exact this
theorem fF (A:Option Addr) (n c:Nat) (l:List Span) (w:World) (h:RS w w.heap.size A n l) (hn:n<=1099511627776) :
  Calls Tryz.prog 100 #[.slice A n c] w (aP (mem l) w):=by
 go_enter Tryz.func100,Tryz.ntmps100;go_wp2_with (fail);refine(kD _ _ (by omega) (by omega)).mono ?_;rintro e w0 ⟨v0,rfl,ho0,hb0⟩;have HO0:=hid ho0;clear ho0;go_wp2_with (fail)
 go_loopw [3,11] (fun v i wr=>Ko l w.heap.size n w v i wr) (fun _ i _=>n-(intOf i).toNat)
 case atStart=>exact⟨0,[],Nat.zero_le _,rfl,gy.start l,HO0.out,hb0⟩
 case round=>
  obtain⟨k,out,hk,rfl,hi,ho,hb⟩:=hrel;have sO:=hi.few;have hz:=hb.size;have HI:=hid hi;clear hi;have HO:=hid ho;clear ho;by_cases hlt:k<n
  ·obtain⟨b,off,lo,hi,hA,hbB,hlk,hc1,hc2⟩:=(h.below hb).at_ hlt
   have hbs:b<wr.heap.size:=by omega
   have HL:=hid hlk;clear hlk;subst hA;have hput:=fun X=>jx w.heap.size u3 out lo hi (wr.alloc X) (World.ownsRow.alloc HO.out X) (by simp;omega) (by omega)
   have HP:=hid hput;clear hput;go_wp2_with (go_at_call 91;go_must (refine(HP.out _).mono ?_);rintro e w1 ⟨v1,rfl,ho1,hb1⟩)
   go_roundw
   case rel=>exact⟨k+1,_,by omega,by go_num,D3 HI.out HL.out,ho1,(hb.alloc hz _).trans hb1⟩
   case measure=>simp[intOf];omega
  ·have hkn:k=n:=by omega
   have hset:∀x,mem out x↔mem l x:=fun x=>by rw[HI.out.set,List.take_of_length_le (by have:=h.1;omega)]
   have Cx:=hid hset;clear hset;by_cases he:out=[]
   ·have ho2:=HO.out
    rw[he]at ho2;obtain⟨hx1,h2 | ⟨g,cap,cur,hv,hx2⟩⟩:=ho2
    ·obtain⟨rfl,_⟩:=h2
     go_wp2_with (fail);refine(pU none 0 _ _).mono ?_;rintro e w1 ⟨rfl,rfl⟩;go_wp2_with (fail);refine(join_none _).mono ?_;rintro e w1 ⟨rfl,rfl⟩;go_wp2_with (fail);go_ret;exact⟨_,[],rfl,⟨Plain.nil,fun x=>by rw[<- Cx.out x,he]⟩,World.ownsRow_nil _ _ _ _,hb⟩
    ·have ho1:av wr w.heap.size (.slice (some ⟨g,0,none⟩) ([]:List Span).length cap) []:=⟨hx1,.inr ⟨g,cap,cur,rfl,hx2⟩⟩
     have HO1:=hid ho1;clear ho1 hx1 hx2;subst hv;go_wp2_with (fail);refine(pU _ cap _ _).mono ?_;rintro e w1 ⟨rfl,rfl⟩;go_wp2_with (fail);refine(uN w.heap.size g cap [] _ HO1.out (by omega) List.Pairwise.nil (fun p hp=>by cases hp) (by simp)).mono ?_;rintro e w2 ⟨v2,out2,rfl,his,ho2,hb2⟩;have HIS:=hid his;clear his;go_wp2_with (fail);go_ret;exact⟨v2,out2,rfl,HIS.out.congr fun x=>by rw[<- Cx.out x,he],ho2,hb.trans hb2⟩
   ·obtain⟨g,cap,hv,hbg,hgl⟩:=World.ownsRow.form HO.out (by cases out;exact absurd rfl he;simp)
    subst hv;go_wp2_with (fail);refine(Dj w.heap.size g cap out _ HO.out hz (by omega)).mono ?_;rintro e w1 ⟨rfl,d',hp,hs,ho1,hb1⟩;have hz1:=hb1.size;have hlp:=hp.length_eq;have HSO:=hid hs;clear hs;have HPE:=hid hp;clear hp;have HO1:=hid ho1;clear ho1;have HLP:=hid hlp;clear hlp;rw[<- HLP.out];go_wp2_with (fail);refine(uN w.heap.size g cap d' _ HO1.out (by omega) HSO.out (fun p hp=>HI.out.ok p (HPE.out.mem_iff.1 hp)) (by rw[HLP.out];omega)).mono ?_;rintro e w2 ⟨v2,out2,rfl,his,ho2,hb2⟩;have HIS:=hid his;clear his;go_wp2_with (fail);go_ret;exact⟨v2,out2,rfl,HIS.out.congr fun x=>(uG HPE.out x).trans (Cx.out x),ho2,(hb.trans hb1).trans hb2⟩
def E3 (S:Int->Prop) (w:World) (e:Ending) (w':World):Prop:=∃A n c out,e = .returned (.slice A n c)/\Is out S/\RS w' w'.heap.size A n out/\n<=1073741825/\n<=c/\Below w.heap.size w w'
theorem aF {w:World} {base:Nat} {v:Value} {out:List Span} (h:av w base v out):∃A c,v = .slice A out.length c/\out.length<=c/\RS w w.heap.size A out.length out:=by
 obtain⟨h1,h2⟩:=h;rcases h2 with⟨hv,hn⟩ | ⟨g,cap,cur,hv,hr⟩
 ·have:out=[]:=List.eq_nil_of_length_eq_zero hn
  subst this;exact⟨none,0,hv,Nat.le_refl _,RS.dS _ _ _⟩
 ·refine⟨some ⟨g,0,none⟩,cap,hv,hr.2.2.1,RS.iV (base:=base) (e:=47) (c:=cap) ⟨h1,.inr ⟨g,cap,cur,rfl,hr⟩⟩⟩
theorem dz (A:Option Addr) (n c:Nat) (l:List Span) (w:World) (h:RS w w.heap.size A n l) (hn:n<=1099511627776) (hc:n<=c) :
  Calls Tryz.prog 82 #[.slice A n c] w (E3 (mem l) w):=by
 by_cases hp:Plain l
 ·have hb:=iA hp
  have hs:n<=1073741825:=by rw[<- h.1];exact hp.short
  have H:=mo A n c l w h hn;rw[hb]at H;have H2:=hid H;clear H hb;go_enter Tryz.func82,Tryz.ntmps82;go_wp2_with (go_at_call 53;go_must (refine H2.out.mono ?_);rintro e w1 ⟨rfl,hb1⟩);go_ret;exact⟨A,n,c,l,rfl,Is.self hp,h.ah hb1,hs,hc,hb1⟩
 ·have hb:=fW hp
  have H:=mo A n c l w h hn;rw[hb]at H;have H2:=hid H;clear H hb;go_enter Tryz.func82,Tryz.ntmps82;go_wp2_with (fail);refine H2.out.mono ?_;rintro e w1 ⟨rfl,hb1⟩;go_wp2_with (fail);refine(fF A n c l _ (h.ah hb1) hn).mono ?_;rintro e w2 ⟨v,out,rfl,his,ho,hb2⟩;obtain⟨A',c',hv,hc',hrs⟩:=aF ho;subst hv;go_wp2_with (fail);go_ret;exact⟨A',out.length,c',out,rfl,his,hrs,his.1.short,hc',hb1.trans (hb2.mono hb1.size)⟩
end Go.Proofs.YtbdmcibcenhpnaaGreatDoor.Sp
namespace Go.Proofs.YtbdmcibcenhpnaaGreatDoor.Sp
set_option maxHeartbeats 64000000
open Go Go.RowKit
open Go.Lib (hid)
theorem aL {w:World} {base base':Nat} {v:Value} {xs:List Span} (h:av w base v xs) (hb:base'<=base):av w base' v xs:=by
 obtain⟨h1,h2⟩:=h;refine⟨h1,?_⟩;rcases h2 with h2 | ⟨g,cap,cur,hv,hg,hr⟩
 ·exact .inl h2
 ·exact .inr ⟨g,cap,cur,hv,by omega,hr⟩
def I3:Value->Nat
 | .slice _ n _=>n
 | _=>0
def E4 (p Q:List Span) (w2:World) (q out i:Value) (wr:World):Prop:=
 ∃(k j:Nat) (o:List Span) (A:Option Addr) (n c:Nat),k<=p.length/\i = .int .i64 k/\q = .slice A n c/\n+j=Q.length/\n<=c/\RS wr w2.heap.size A n (Q.drop j)/\av wr w2.heap.size out o/\aZ p Q k j o/\Below w2.heap.size w2 wr
def Ib (p Q:List Span) (k:Nat) (o:List Span) (out:Value) (w2:World) (bx:Nat) (lo hi:Int) (q:Value) (wr:World):Prop:=
 ∃(j:Nat) (A:Option Addr) (n c:Nat),q = .slice A n c/\n+j=Q.length/\n<=c/\RS wr w2.heap.size A n (Q.drop j)/\av wr w2.heap.size out o/\aZ p Q k j o/\Below w2.heap.size w2 wr /\
  wr.cell? ⟨bx,0,none⟩=some (.int .i64 lo)/\wr.cell? ⟨bx,1,none⟩=some (.int .i64 hi)
theorem xu {p Q o:List Span} {k j:Nat} {lo hi a b:Int} (h:aZ p Q k j o) (hp:Plain p) (hk:∃hl:k<p.length,p[k]=(lo,hi)) (hj:∃hl:0<(Q.drop j).length,(Q.drop j)[0]=(a,b)) (hlt:b<lo):aZ p Q k (j+1) o:=by
 obtain⟨hl,e⟩:=hk;obtain⟨hl',e'⟩:=hj;rw[List.length_drop]at hl';have e2:Q[j]'(by omega)=(a,b):=by rw[<- e',List.getElem_drop];rfl
 exact h.skip hp hl (by omega) (by rw[e,e2];exact hlt)
theorem qD {p Q o:List Span} {k j:Nat} {lo hi:Int} (h:aZ p Q k j o) (hp:Plain p) (hQ:Plain Q) (hk:∃hl:k<p.length,p[k]=(lo,hi)) (hge:∀a b,(∃hl:0<(Q.drop j).length,(Q.drop j)[0]=(a,b))->lo<=b):aZ p Q (k+1) j (mL hi lo o (Q.drop j)):=by
 obtain⟨hl,e⟩:=hk;have:=h.cut hp hQ hl (fun hj=>by
  have:=hge Q[j].1 Q[j].2 ⟨by rw[List.length_drop];omega,by rw[List.getElem_drop];rfl⟩;rw[e];exact this)
 rw[e]at this;exact this
theorem drop_one {Q:List Span} (j:Nat):(Q.drop j).drop 1=Q.drop (j+1):=by rw[List.drop_drop]
theorem Ad (A A':Option Addr) (n n' c c':Nat) (l r:List Span) (w:World) (h:RS w w.heap.size A n l) (h':RS w w.heap.size A' n' r) (hn:n<=1099511627776) (hn':n'<=1099511627776) (hc:n<=c) (hc':n'<=c') :
  Calls Tryz.prog 66 #[.slice A n c,.slice A' n' c'] w (aP (fun x=>mem l x/\¬ mem r x) w):=by
 go_enter Tryz.func66,Tryz.ntmps66;go_wp2_with (fail);refine(dz A' n' c' r _ h' hn' hc').mono ?_;rintro e w1 ⟨A1,n1,c1,Q,rfl,hQ,hr1,hs1,hnc1,hb1⟩;have h1:=h.ah hb1;have HQS:=hid hQ.2;have HQ:=hid hQ.1;clear hQ;go_wp2_with (fail);refine(dz A n c l _ h1 hn hc).mono ?_;rintro e w2 ⟨A2,n2,c2,p,rfl,hP,hr2,hs2,hnc2,hb2⟩;have hr1:=hr1.ah hb2;have HPS:=hid hP.2;have HP:=hid hP.1;clear hP;have hz1:=hb1.size;have hz2:=hb2.size;obtain rfl:p.length=n2:=hr2.1;have HQL:=hid hr1.1;go_wp2_with (fail)
 go_loopw [5,6,14] (fun q out i wr=>E4 p Q w2 q out i wr) (fun _ _ i _=>p.length-(intOf i).toNat)
 case atStart=>exact⟨0,0,[],A1,n1,c1,Nat.zero_le _,rfl,rfl,HQL.out.symm,hnc1,hr1,World.ownsRow_nil _ _ _ _,aZ.start p Q,Below.refl _ _⟩
 case round=>
  obtain⟨k,j0,out,Aj,nj,cj,hk,rfl,rfl,hnj,NJ,hrq,ho,hi,hb⟩:=hrel;have hz:=hb.size;have HN0:=hid hnj;clear hnj;have HC0:=hid NJ;clear NJ;have Pt:=hid hrq;clear hrq;have HO0:=hid ho;clear ho;have HI0:=hid hi;clear hi;obtain⟨wo,rfl⟩:∃wo:World,wo=wr:=⟨_,rfl⟩;by_cases hlt:k<p.length
  ·obtain⟨b,off,lo,hi,hA,hbB,hlk,hc1,hc2⟩:=(hr2.below hb).at_ hlt
   have hbs:b<wo.heap.size:=by omega
   have HL:=hid hlk;clear hlk;rw[hA];clear hA;go_wp2_with (fail)
   go_loopw [5] (fun q wr=>Ib p Q k out u6 w2 wo.heap.size lo hi q wr) (fun q _=>I3 q)
   case atStart=>exact⟨j0,Aj,nj,cj,rfl,HN0.out,HC0.out,Pt.out.below ((Below.refl _ _).alloc hz _),World.ownsRow.alloc HO0.out _,HI0.out,hb.alloc hz _,by simp,by simp⟩
   case round=>
    obtain⟨j,A3,n3,c3,rfl,hn3,hc3,hrq,ho,hi,hb3,hx1,hx2⟩:=hrel;have hz3:=hb3.size;have HN:=hid hn3;clear hn3;have HC:=hid hc3;clear hc3;have HO:=hid ho;clear ho;have HI:=hid hi;clear hi;rcases n3 with _ | m
    ·have HRQ:=hid hrq;clear hrq
     have hd:decide ((0:Int)<((0:Nat):Int))=false:=by simp
     have HCI:=hid (qD HI.out HP.out HQ.out HL.out (fun a b ⟨hl,_⟩=>by have:=HRQ.out.1;omega));go_wp2_with (fail);go_quiet (fail);go_wp2_with (fail);refine(BO w2.heap.size _ out (Q.drop j) lo hi _ _ _ (wr.drewN nq) HO.out hz3 HRQ.out (HQ.out.drop j) (by have:=HI.out.plain.short;omega)).mono ?_;rintro e w4 ⟨v4,rfl,ho4,hb4⟩;have HO4:=hid ho4;clear ho4;go_wp2_with (fail)
     go_roundw
     case rel=>exact⟨k+1,j,_,_,_,_,by omega,by go_num,rfl,HN.out,HC.out,RS.below (w:=wr.drewN nq) HRQ.out hb4,HO4.out,HCI.out,(below_drewN hb3 nq).trans hb4⟩
     case measure=>simp[intOf];omega
    ·obtain⟨b3,off3,a,bb,hA3,QA,hlk3,hc31,hc32⟩:=hrq.at_ (k:=0) (by omega)
     have hbs3:b3<wr.heap.size:=by omega
     simp only[Nat.zero_mul,Nat.add_zero]at hc31 hc32;subst hA3;have HRQ:=hid hrq;clear hrq;have HL3:=hid hlk3;clear hlk3;have hd:decide ((0:Int)<((m+1:Nat):Int))=true:=by simp
     by_cases hlt3:bb<lo
     ·have HSK:=hid (xu HI.out HP.out HL.out HL3.out hlt3)
      have hcut:=HRQ.out.cut (k:=1) (cap:=c3) (by omega) HC.out;rw[drop_one]at hcut;by_cases hcap:c3=1
      ·subst hcap
       have hm:m=0:=by have:=HC.out;omega
       subst hm;have Ky:=hid hcut;clear hcut;go_wp2_with (fail);go_quiet (fail);go_wp2_with (fail)
       go_roundw
       case rel=>exact⟨j+1,_,0,_,rfl,by have:=HN.out;omega,Nat.zero_le _,Ky.out,HO.out,HSK.out,below_drewN hb3 _,hx1,hx2⟩
       case measure=>simp[I3]
      ·rw[if_neg hcap]at hcut
       have Ky:=hid hcut;clear hcut;go_wp2_with (fail);go_quiet (fail);go_wp2_with (fail)
       go_roundw
       case rel=>exact⟨j+1,_,m,_,rfl,by have:=HN.out;omega,by have:=HC.out;omega,Ky.out,HO.out,HSK.out,below_drewN hb3 _,hx1,hx2⟩
       case measure=>simp[I3]
     ·have HCI:=hid (qD HI.out HP.out HQ.out HL.out (fun a' b' h=>by
       obtain⟨_,e1⟩:=h;obtain⟨_,e2⟩:=HL3.out;have e3:=e1.symm.trans e2;injection e3 with _ e3;omega))
      go_wp2_with (fail);go_quiet (fail);go_wp2_with (fail);refine(BO w2.heap.size _ out (Q.drop j) lo hi _ _ _ (wr.drewN nq) HO.out hz3 HRQ.out (HQ.out.drop j) (by have:=HI.out.plain.short;omega)).mono ?_;rintro e w4 ⟨v4,rfl,ho4,hb4⟩;have HO4:=hid ho4;clear ho4;go_wp2_with (fail)
      go_roundw
      case rel=>exact⟨k+1,j,_,_,_,_,by omega,by go_num,rfl,HN.out,HC.out,RS.below (w:=wr.drewN nq) HRQ.out hb4,HO4.out,HCI.out,(below_drewN hb3 nq).trans hb4⟩
      case measure=>simp[intOf];omega
  ·have hkp:p.length<=k:=by omega
   have HD:=hid (HI0.out.done hkp);go_wp2_with (fail);go_ret;exact⟨_,out,rfl,HD.out.congr fun x=>by rw[HPS.out,HQS.out],aL HO0.out (by omega),(hb1.trans (hb2.mono hz1)).trans (hb.mono (by omega))⟩
theorem gE (A A':Option Addr) (n n' c c':Nat) (l r:List Span) (b:Bool) (w:World) (h:RS w w.heap.size A n l) (h':RS w w.heap.size A' n' r) (hn:n<=1099511627776) (hn':n'<=1099511627776) (hc:n<=c) (hc':n'<=c')
  (hb:b=true↔∀x,¬ (mem l x/\¬ mem r x)) :
  Calls Tryz.prog 54 #[.slice A n c,.slice A' n' c'] w (dY b w):=by
 have HB:=hid hb;clear hb;go_enter Tryz.func54,Tryz.ntmps54;go_wp2_with (fail);refine(Ad A A' n n' c c' l r _ h h' hn hn' hc hc').mono ?_;rintro e w1 ⟨v,out,rfl,his,ho,hb1⟩;obtain⟨A1,c1,hv,_,_⟩:=aF ho;subst hv;have HI:=hid his;clear his ho;rcases b with _ | _
 ·have hne : ¬ out=[]:=fun e=>by have:=HB.out.2 (HI.out.cQ.1 e);cases this
  have hpos:0<out.length:=List.length_pos_iff.2 hne;have hd:((out.length:Int) == 0)=false:=by simp;exact hne
  clear hne;go_wp2_with (fail);go_ret;exact⟨rfl,hb1⟩
 ·have he:out=[]:=HI.out.cQ.2 (HB.out.1 rfl)
  subst he;go_wp2_with (fail);go_ret;exact⟨rfl,hb1⟩
theorem aq {P:Program} {f:FuncId} {args:Array Value} {w:World} {n:Nat} {v:Value} (h:Calls P f args (w.drewN n) (E1 v (w.drewN n))):Calls P f args (w.drewN n) fun e w''=>e = .returned v/\∃m,w''=w.drewN m:=
 h.mono fun _ _ ⟨he,hm⟩=>⟨he,n,hm.symm⟩
def Co (bs:List Int) (P:Int->Prop) (B:Nat) (w1:World) (out i:Value) (wr:World):Prop:=
 ∃(k:Nat) (o:List Span) (A:Option Addr) (c:Nat),k<=bs.length/\i = .int .i64 k/\out = .slice A o.length c/\av wr B (.slice A o.length c) o/\bK bs P k o/\Below B w1 wr
theorem cD {w:World} {base g cap:Nat} {o:List Span} {rl rh:Int} (h:av w base (.slice (some ⟨g,0,none⟩) (o++[(rl,rh)]).length cap) (o++[(rl,rh)])):w.cell? ⟨g,o.length*2+1,none⟩=some (.int .i64 rh):=by
 rw[World.ownsRow.cellAt h _ (by simp;omega)];have:=(cZ (o++[(rl,rh)]) o.length (by simp)).2;rw[show o.length*2+1=2*o.length+1 from by omega,this,List.getElem_append_right (by omega)];simp
theorem DG {w:World} {base g cap:Nat} {o:List Span} {rl rh to:Int} (h:av w base (.slice (some ⟨g,0,none⟩) (o++[(rl,rh)]).length cap) (o++[(rl,rh)])) :
  av (w.setCell ⟨g,o.length*2+1,none⟩ (.int .i64 to)) base (.slice (some ⟨g,0,none⟩) (o++[(rl,to)]).length cap) (o++[(rl,to)]):=by
 have h1:=(World.ownsRow.stored h (o.length*2+1) (.int .i64 to)).1;have e:(flat (o++[(rl,rh)])).set (o.length*2+1) (.int .i64 to)=flat (o++[(rl,to)]):=by
  rw[aA,aA,List.set_append_right _ _ (by rw[aH];omega),aH];rw[show o.length*2+1-o.length*2=1 from by omega];rfl
 rw[e]at h1;unfold av;simp only[List.length_append,List.length_singleton]at h1 ⊢;exact h1
theorem dR {w:World} {base g cap j:Nat} {o:List Span} {rl rh:Int} (h:av w base (.slice (some ⟨g,0,none⟩) (j+1) cap) (o++[(rl,rh)])) (hj:o.length=j) (to:Int) :
  av (w.setCell ⟨g,j*2+1,none⟩ (.int .i64 to)) base (.slice (some ⟨g,0,none⟩) (o++[(rl,to)]).length cap) (o++[(rl,to)]):=by
 subst hj;exact DG (by simpa using h)
theorem cu {w:World} {base:Nat} {A:Option Addr} {c:Nat} {o:List Span} (h:av w base (.slice A o.length c) o) (hp:0<o.length):∃g,A=some ⟨g,0,none⟩/\base<=g/\g<w.heap.size:=by
 obtain⟨g,cap,hv,hb,hl⟩:=World.ownsRow.form h hp;injection hv with hA;exact⟨g,hA,hb,hl⟩
end Go.Proofs.YtbdmcibcenhpnaaGreatDoor.Sp
namespace Go.Proofs.YtbdmcibcenhpnaaGreatDoor.Sp
set_option maxHeartbeats 64000000
open Go Go.RowKit
open Go.Lib (hid)
theorem Jr (A A':Option Addr) (n n' c c':Nat) (l r:List Span) (w:World) (h:RS w w.heap.size A n l) (h':RS w w.heap.size A' n' r) (hn:n<=68719476736) (hn':n'<=68719476736) :
  Calls Tryz.prog 47 #[.slice A n c,.slice A' n' c',.int .i64 0] w (aP (fun x=>Rng x/\inP 0 (bC l x) (bC r x)=true) w):=by
 obtain⟨i0,hi0,hz0,hz1,hz2⟩:=info_parts bQ;go_enter Tryz.func47,Tryz.ntmps47;go_wp2_with (fail);refine(jM A A' n n' c c' l r _ h h' hn hn').mono ?_;rintro e w1 ⟨g,cap,bs,rfl,ho1,hB,hb1⟩;have OH:=hb1.size;have hgs:=(ho1.lt g rfl).2;have hrl:=h.ah hb1;have hrr:=h'.ah hb1;have sO:=hB.few;rw[List.length_append,h.1,h'.1]at sO;have HS:=hid (zC hB 0);clear hB;have HO1:=hid ho1;clear ho1;go_wp2_with (fail)
 go_loopw [7,9] (fun out i wr=>Co bs (fun x=>inP 0 (bC l x) (bC r x)=true) w1.heap.size w1 out i wr) (fun _ i _=>bs.length-(intOf i).toNat)
 case atStart=>exact⟨0,[],none,0,Nat.zero_le _,rfl,rfl,World.ownsRow_nil _ _ _ _,bK.start HS.out,Below.refl _ _⟩
 case round=>
  obtain⟨k,o,Ao,co,hk,rfl,rfl,ho,hi,hb⟩:=hrel;have hz:=hb.size;have HO:=hid ho;clear ho;have HI:=hid hi;clear hi;by_cases hlt:k<bs.length
  ·obtain⟨y,hy⟩:∃y,bs[k]=y:=⟨_,rfl⟩
   have hcy:wr.cell? ⟨g,k,none⟩=some (.int .i64 y):=by rw[hb.cell (p:=⟨g,k,none⟩) hgs,aY HO1.out hlt,hy]
   have hyr : -1073741824<=y/\y<=1073741824:=by have:=HS.out.rng _ (List.getElem_mem hlt);rw[hy]at this;exact this
   have hgw:g<wr.heap.size:=by omega
   have hoL:=HI.out.plain.short;have HY:=hid hy;clear hy;obtain⟨bx,hbx⟩:∃bx,bC l y=bx:=⟨_,rfl⟩;obtain⟨bY,hby⟩:∃bY,bC r y=bY:=⟨_,rfl⟩;have HX:=hid (fun nq=>iP A n c l y (wr.drewN nq) ((hrl.below hb).more hz) (by omega));have HYY:=hid (fun nq=>iP A' n' c' r y (wr.drewN nq) ((hrr.below hb).more hz) (by omega));rw[hbx]at HX;rw[hby]at HYY;have HBX:=hid hbx;clear hbx;have HBY:=hid hby;clear hby
   cases bx
   ·cases bY
    ·go_wp2_with (fail)
     go_quiet ((first | (go_at_call_of 58 (Value.slice A n c);exact aq (HX.out _)) | (go_at_call_of 58 (Value.slice A' n' c');exact aq (HYY.out _))));go_wp2_with (fail)
     go_roundw
     case rel=>exact⟨k+1,o,Ao,co,by omega,by go_num,rfl,HO.out,HI.out.skip HS.out hlt (by show ¬ inP 0 (bC l bs[k]) (bC r bs[k])=true;rw[HY.out,HBX.out,HBY.out];decide),below_drewN hb _⟩
     case measure=>simp[intOf];omega
    ·by_cases hk1:k+1<bs.length
     ·obtain⟨z,hz'⟩:∃z,bs[k+1]=z:=⟨_,rfl⟩
      have hcz:wr.cell? ⟨g,k+1,none⟩=some (.int .i64 z):=by rw[hb.cell (p:=⟨g,k+1,none⟩) hgs,aY HO1.out hk1,hz']
      have hzr : -1073741824<=z/\z<=1073741824:=by have:=HS.out.rng _ (List.getElem_mem hk1);rw[hz']at this;exact this
      have HT:=hid (show gZ bs k (z-1)from⟨fun _=>by rw[hz'],fun h=>absurd hk1 h⟩);clear hz';rcases List.eq_nil_or_concat o with rfl | ⟨o,⟨rl,rh⟩,rfl⟩
      ·have hd0:decide ((0:Int)<((0:Nat):Int))=false:=by simp
       simp only[List.length_nil];go_wp2_with (fail);go_quiet ((first | (go_at_call_of 58 (Value.slice A n c);exact aq (HX.out _)) | (go_at_call_of 58 (Value.slice A' n' c');exact aq (HYY.out _))));go_wp2_with (fail);go_quiet (fail);go_wp2_with (at_builtin;go_must (refine wpList_append_own _ rfl _ _ 48 rfl w1.heap.size 47 i0 _ 2 16 Tryz.underlying48 hi0 hz0 hz1 hz2 rfl (by decide) _ ([]).length (flat ([])) rfl (by exact World.ownsRow.alloc HO.out _) ⟨wr.heap.size,0,none⟩ 1 1 [.int .i64 y,.int .i64 (z-1)] rfl rfl (bt _ _ _ _) ?c2 ?c3 ?c4 ?c5 ?_))
       case c2=>intro u hu;simp at hu;rcases hu with rfl | rfl <;> rfl
       case c3=>simp only[List.length_nil,maxLen];omega
       case c4=>simp only[List.length_nil];omega
       case c5=>simp only[World.size_alloc];exact Nat.le_succ_of_le hz
       intro v1 w4 hown1 hg1 _;have hown2:av w4 w1.heap.size v1 ([]++[(y,z-1)]):=by
        unfold av;rw[aA,List.length_append];exact hown1
       have HG1:=hid (((below_drewN hb _).alloc hz _).grown hg1 (by simp;omega) (cA HO.out));obtain⟨A5,c5,hv5,_,_⟩:=aF hown2;subst hv5;have HO5:=hid hown2;clear hown2 hown1 hg1;go_wp2_with (fail)
       go_roundw
       case rel=>exact⟨k+1,_,A5,c5,by omega,by go_num,rfl,HO5.out,by have:=HI.out.more HS.out hlt (by show inP 0 (bC l bs[k]) (bC r bs[k])=true;rw[HY.out,HBX.out,HBY.out];rfl) HT.out (fun r hr=>by simp at hr);rwa [HY.out]at this,HG1.out⟩
       case measure=>simp[intOf];omega
      ·simp only[List.concat_eq_append]at *
       have hoK:=HI.out.plain.short;obtain⟨g2,hA2,hbg,hgl⟩:=cu HO.out (by simp);subst hA2;have hcr:=cD HO.out;have hfz:=World.ownsRow.frozenAt HO.out (o.length*2+1);simp only[List.length_append,List.length_singleton]at *;have hrb : -1073741824<=rh/\rh<=1073741824:=by have:=HI.out.plain.2 (rl,rh) (by simp);unfold Ok at this;simp only at this;omega
       have hd0:decide ((0:Int)<((o.length+1:Nat):Int))=true:=by simp
       generalize hj:o.length=j at *
       have HJ:=hid hj;clear hj;by_cases e:rh=y-1
       ·have hd1:(rh == y-1)=true:=by simpa using e
        have HE:=hid e;clear e;go_wp2_with (fail);go_quiet ((first | (go_at_call_of 58 (Value.slice A n c);exact aq (HX.out _)) | (go_at_call_of 58 (Value.slice A' n' c');exact aq (HYY.out _))));go_wp2_with (fail);go_quiet (fail);go_wp2_with (fail)
        go_roundw
        case rel=>exact⟨k+1,o++[(rl,z-1)],_,co,by omega,by go_num,by simp only[List.length_append,List.length_singleton,HJ.out],dR HO.out HJ.out _,HI.out.extend HS.out hlt (by show inP 0 (bC l bs[k]) (bC r bs[k])=true;rw[HY.out,HBX.out,HBY.out];rfl) HT.out (by rw[HY.out];exact HE.out),(below_drewN hb _).setCell hbg _⟩
        case measure=>simp[intOf];omega
       ·have hd1:(rh == y-1)=false:=by simpa using e
        have HE:=hid e;clear e;go_wp2_with (fail);go_quiet ((first | (go_at_call_of 58 (Value.slice A n c);exact aq (HX.out _)) | (go_at_call_of 58 (Value.slice A' n' c');exact aq (HYY.out _))));go_wp2_with (fail);go_quiet (fail);go_wp2_with (at_builtin;go_must (refine wpList_append_own _ rfl _ _ 48 rfl w1.heap.size 47 i0 _ 2 16 Tryz.underlying48 hi0 hz0 hz1 hz2 rfl (by decide) _ (o++[(rl,rh)]).length (flat (o++[(rl,rh)])) rfl (by exact World.ownsRow.alloc HO.out _) ⟨wr.heap.size,0,none⟩ 1 1 [.int .i64 y,.int .i64 (z-1)] rfl rfl (bt _ _ _ _) ?c2 ?c3 ?c4 ?c5 ?_))
        case c2=>intro u hu;simp at hu;rcases hu with rfl | rfl <;> rfl
        case c3=>have:=HJ.out;simp only[List.length_append,List.length_singleton,maxLen];omega
        case c4=>have:=HJ.out;simp only[List.length_append,List.length_singleton];omega
        case c5=>simp only[World.size_alloc];exact Nat.le_succ_of_le hz
        intro v1 w4 hown1 hg1 _;have hown2:av w4 w1.heap.size v1 (o++[(rl,rh)]++[(y,z-1)]):=by
         unfold av;rw[aA,List.length_append,List.length_append];exact hown1
        have HG1:=hid (((below_drewN hb _).alloc hz _).grown hg1 (by simp;omega) (cA HO.out));obtain⟨A5,c5,hv5,_,_⟩:=aF hown2;subst hv5;have HO5:=hid hown2;clear hown2 hown1 hg1;go_wp2_with (fail)
        go_roundw
        case rel=>exact⟨k+1,_,A5,c5,by omega,by go_num,rfl,HO5.out,by have:=HI.out.more HS.out hlt (by show inP 0 (bC l bs[k]) (bC r bs[k])=true;rw[HY.out,HBX.out,HBY.out];rfl) HT.out (fun r hr=>by simp at hr;subst hr;rw[HY.out];exact HE.out);rwa [HY.out]at this,HG1.out⟩
        case measure=>simp[intOf];omega
     ·have HT:=hid (show gZ bs k 1073741824 from⟨fun h=>absurd h hk1,fun _=>rfl⟩)
      rcases List.eq_nil_or_concat o with rfl | ⟨o,⟨rl,rh⟩,rfl⟩
      ·have hd0:decide ((0:Int)<((0:Nat):Int))=false:=by simp
       simp only[List.length_nil];go_wp2_with (fail);go_quiet ((first | (go_at_call_of 58 (Value.slice A n c);exact aq (HX.out _)) | (go_at_call_of 58 (Value.slice A' n' c');exact aq (HYY.out _))));go_wp2_with (fail);go_quiet (fail);go_wp2_with (at_builtin;go_must (refine wpList_append_own _ rfl _ _ 48 rfl w1.heap.size 47 i0 _ 2 16 Tryz.underlying48 hi0 hz0 hz1 hz2 rfl (by decide) _ ([]).length (flat ([])) rfl (by exact World.ownsRow.alloc HO.out _) ⟨wr.heap.size,0,none⟩ 1 1 [.int .i64 y,.int .i64 (1073741824)] rfl rfl (bt _ _ _ _) ?c2 ?c3 ?c4 ?c5 ?_))
       case c2=>intro u hu;simp at hu;rcases hu with rfl | rfl <;> rfl
       case c3=>simp only[List.length_nil,maxLen];omega
       case c4=>simp only[List.length_nil];omega
       case c5=>simp only[World.size_alloc];exact Nat.le_succ_of_le hz
       intro v1 w4 hown1 hg1 _;have hown2:av w4 w1.heap.size v1 ([]++[(y,1073741824)]):=by
        unfold av;rw[aA,List.length_append];exact hown1
       have HG1:=hid (((below_drewN hb _).alloc hz _).grown hg1 (by simp;omega) (cA HO.out));obtain⟨A5,c5,hv5,_,_⟩:=aF hown2;subst hv5;have HO5:=hid hown2;clear hown2 hown1 hg1;go_wp2_with (fail)
       go_roundw
       case rel=>exact⟨k+1,_,A5,c5,by omega,by go_num,rfl,HO5.out,by have:=HI.out.more HS.out hlt (by show inP 0 (bC l bs[k]) (bC r bs[k])=true;rw[HY.out,HBX.out,HBY.out];rfl) HT.out (fun r hr=>by simp at hr);rwa [HY.out]at this,HG1.out⟩
       case measure=>simp[intOf];omega
      ·simp only[List.concat_eq_append]at *
       have hoK:=HI.out.plain.short;obtain⟨g2,hA2,hbg,hgl⟩:=cu HO.out (by simp);subst hA2;have hcr:=cD HO.out;have hfz:=World.ownsRow.frozenAt HO.out (o.length*2+1);simp only[List.length_append,List.length_singleton]at *;have hrb : -1073741824<=rh/\rh<=1073741824:=by have:=HI.out.plain.2 (rl,rh) (by simp);unfold Ok at this;simp only at this;omega
       have hd0:decide ((0:Int)<((o.length+1:Nat):Int))=true:=by simp
       generalize hj:o.length=j at *
       have HJ:=hid hj;clear hj;by_cases e:rh=y-1
       ·have hd1:(rh == y-1)=true:=by simpa using e
        have HE:=hid e;clear e;go_wp2_with (fail);go_quiet ((first | (go_at_call_of 58 (Value.slice A n c);exact aq (HX.out _)) | (go_at_call_of 58 (Value.slice A' n' c');exact aq (HYY.out _))));go_wp2_with (fail);go_quiet (fail);go_wp2_with (fail)
        go_roundw
        case rel=>exact⟨k+1,o++[(rl,1073741824)],_,co,by omega,by go_num,by simp only[List.length_append,List.length_singleton,HJ.out],dR HO.out HJ.out _,HI.out.extend HS.out hlt (by show inP 0 (bC l bs[k]) (bC r bs[k])=true;rw[HY.out,HBX.out,HBY.out];rfl) HT.out (by rw[HY.out];exact HE.out),(below_drewN hb _).setCell hbg _⟩
        case measure=>simp[intOf];omega
       ·have hd1:(rh == y-1)=false:=by simpa using e
        have HE:=hid e;clear e;go_wp2_with (fail);go_quiet ((first | (go_at_call_of 58 (Value.slice A n c);exact aq (HX.out _)) | (go_at_call_of 58 (Value.slice A' n' c');exact aq (HYY.out _))));go_wp2_with (fail);go_quiet (fail);go_wp2_with (at_builtin;go_must (refine wpList_append_own _ rfl _ _ 48 rfl w1.heap.size 47 i0 _ 2 16 Tryz.underlying48 hi0 hz0 hz1 hz2 rfl (by decide) _ (o++[(rl,rh)]).length (flat (o++[(rl,rh)])) rfl (by exact World.ownsRow.alloc HO.out _) ⟨wr.heap.size,0,none⟩ 1 1 [.int .i64 y,.int .i64 (1073741824)] rfl rfl (bt _ _ _ _) ?c2 ?c3 ?c4 ?c5 ?_))
        case c2=>intro u hu;simp at hu;rcases hu with rfl | rfl <;> rfl
        case c3=>have:=HJ.out;simp only[List.length_append,List.length_singleton,maxLen];omega
        case c4=>have:=HJ.out;simp only[List.length_append,List.length_singleton];omega
        case c5=>simp only[World.size_alloc];exact Nat.le_succ_of_le hz
        intro v1 w4 hown1 hg1 _;have hown2:av w4 w1.heap.size v1 (o++[(rl,rh)]++[(y,1073741824)]):=by
         unfold av;rw[aA,List.length_append,List.length_append];exact hown1
        have HG1:=hid (((below_drewN hb _).alloc hz _).grown hg1 (by simp;omega) (cA HO.out));obtain⟨A5,c5,hv5,_,_⟩:=aF hown2;subst hv5;have HO5:=hid hown2;clear hown2 hown1 hg1;go_wp2_with (fail)
        go_roundw
        case rel=>exact⟨k+1,_,A5,c5,by omega,by go_num,rfl,HO5.out,by have:=HI.out.more HS.out hlt (by show inP 0 (bC l bs[k]) (bC r bs[k])=true;rw[HY.out,HBX.out,HBY.out];rfl) HT.out (fun r hr=>by simp at hr;subst hr;rw[HY.out];exact HE.out);rwa [HY.out]at this,HG1.out⟩
        case measure=>simp[intOf];omega
   ·by_cases hk1:k+1<bs.length
    ·obtain⟨z,hz'⟩:∃z,bs[k+1]=z:=⟨_,rfl⟩
     have hcz:wr.cell? ⟨g,k+1,none⟩=some (.int .i64 z):=by rw[hb.cell (p:=⟨g,k+1,none⟩) hgs,aY HO1.out hk1,hz']
     have hzr : -1073741824<=z/\z<=1073741824:=by have:=HS.out.rng _ (List.getElem_mem hk1);rw[hz']at this;exact this
     have HT:=hid (show gZ bs k (z-1)from⟨fun _=>by rw[hz'],fun h=>absurd hk1 h⟩);clear hz';rcases List.eq_nil_or_concat o with rfl | ⟨o,⟨rl,rh⟩,rfl⟩
     ·have hd0:decide ((0:Int)<((0:Nat):Int))=false:=by simp
      simp only[List.length_nil];go_wp2_with (fail);go_quiet ((first | (go_at_call_of 58 (Value.slice A n c);exact aq (HX.out _)) | (go_at_call_of 58 (Value.slice A' n' c');exact aq (HYY.out _))));go_wp2_with (fail);go_quiet (fail);go_wp2_with (at_builtin;go_must (refine wpList_append_own _ rfl _ _ 48 rfl w1.heap.size 47 i0 _ 2 16 Tryz.underlying48 hi0 hz0 hz1 hz2 rfl (by decide) _ ([]).length (flat ([])) rfl (by exact World.ownsRow.alloc HO.out _) ⟨wr.heap.size,0,none⟩ 1 1 [.int .i64 y,.int .i64 (z-1)] rfl rfl (bt _ _ _ _) ?c2 ?c3 ?c4 ?c5 ?_))
      case c2=>intro u hu;simp at hu;rcases hu with rfl | rfl <;> rfl
      case c3=>simp only[List.length_nil,maxLen];omega
      case c4=>simp only[List.length_nil];omega
      case c5=>simp only[World.size_alloc];exact Nat.le_succ_of_le hz
      intro v1 w4 hown1 hg1 _;have hown2:av w4 w1.heap.size v1 ([]++[(y,z-1)]):=by
       unfold av;rw[aA,List.length_append];exact hown1
      have HG1:=hid (((below_drewN hb _).alloc hz _).grown hg1 (by simp;omega) (cA HO.out));obtain⟨A5,c5,hv5,_,_⟩:=aF hown2;subst hv5;have HO5:=hid hown2;clear hown2 hown1 hg1;go_wp2_with (fail)
      go_roundw
      case rel=>exact⟨k+1,_,A5,c5,by omega,by go_num,rfl,HO5.out,by have:=HI.out.more HS.out hlt (by show inP 0 (bC l bs[k]) (bC r bs[k])=true;rw[HY.out,HBX.out,HBY.out];cases bY <;> rfl) HT.out (fun r hr=>by simp at hr);rwa [HY.out]at this,HG1.out⟩
      case measure=>simp[intOf];omega
     ·simp only[List.concat_eq_append]at *
      have hoK:=HI.out.plain.short;obtain⟨g2,hA2,hbg,hgl⟩:=cu HO.out (by simp);subst hA2;have hcr:=cD HO.out;have hfz:=World.ownsRow.frozenAt HO.out (o.length*2+1);simp only[List.length_append,List.length_singleton]at *;have hrb : -1073741824<=rh/\rh<=1073741824:=by have:=HI.out.plain.2 (rl,rh) (by simp);unfold Ok at this;simp only at this;omega
      have hd0:decide ((0:Int)<((o.length+1:Nat):Int))=true:=by simp
      generalize hj:o.length=j at *
      have HJ:=hid hj;clear hj;by_cases e:rh=y-1
      ·have hd1:(rh == y-1)=true:=by simpa using e
       have HE:=hid e;clear e;go_wp2_with (fail);go_quiet ((first | (go_at_call_of 58 (Value.slice A n c);exact aq (HX.out _)) | (go_at_call_of 58 (Value.slice A' n' c');exact aq (HYY.out _))));go_wp2_with (fail);go_quiet (fail);go_wp2_with (fail)
       go_roundw
       case rel=>exact⟨k+1,o++[(rl,z-1)],_,co,by omega,by go_num,by simp only[List.length_append,List.length_singleton,HJ.out],dR HO.out HJ.out _,HI.out.extend HS.out hlt (by show inP 0 (bC l bs[k]) (bC r bs[k])=true;rw[HY.out,HBX.out,HBY.out];cases bY <;> rfl) HT.out (by rw[HY.out];exact HE.out),(below_drewN hb _).setCell hbg _⟩
       case measure=>simp[intOf];omega
      ·have hd1:(rh == y-1)=false:=by simpa using e
       have HE:=hid e;clear e;go_wp2_with (fail);go_quiet ((first | (go_at_call_of 58 (Value.slice A n c);exact aq (HX.out _)) | (go_at_call_of 58 (Value.slice A' n' c');exact aq (HYY.out _))));go_wp2_with (fail);go_quiet (fail);go_wp2_with (at_builtin;go_must (refine wpList_append_own _ rfl _ _ 48 rfl w1.heap.size 47 i0 _ 2 16 Tryz.underlying48 hi0 hz0 hz1 hz2 rfl (by decide) _ (o++[(rl,rh)]).length (flat (o++[(rl,rh)])) rfl (by exact World.ownsRow.alloc HO.out _) ⟨wr.heap.size,0,none⟩ 1 1 [.int .i64 y,.int .i64 (z-1)] rfl rfl (bt _ _ _ _) ?c2 ?c3 ?c4 ?c5 ?_))
       case c2=>intro u hu;simp at hu;rcases hu with rfl | rfl <;> rfl
       case c3=>have:=HJ.out;simp only[List.length_append,List.length_singleton,maxLen];omega
       case c4=>have:=HJ.out;simp only[List.length_append,List.length_singleton];omega
       case c5=>simp only[World.size_alloc];exact Nat.le_succ_of_le hz
       intro v1 w4 hown1 hg1 _;have hown2:av w4 w1.heap.size v1 (o++[(rl,rh)]++[(y,z-1)]):=by
        unfold av;rw[aA,List.length_append,List.length_append];exact hown1
       have HG1:=hid (((below_drewN hb _).alloc hz _).grown hg1 (by simp;omega) (cA HO.out));obtain⟨A5,c5,hv5,_,_⟩:=aF hown2;subst hv5;have HO5:=hid hown2;clear hown2 hown1 hg1;go_wp2_with (fail)
       go_roundw
       case rel=>exact⟨k+1,_,A5,c5,by omega,by go_num,rfl,HO5.out,by have:=HI.out.more HS.out hlt (by show inP 0 (bC l bs[k]) (bC r bs[k])=true;rw[HY.out,HBX.out,HBY.out];cases bY <;> rfl) HT.out (fun r hr=>by simp at hr;subst hr;rw[HY.out];exact HE.out);rwa [HY.out]at this,HG1.out⟩
       case measure=>simp[intOf];omega
    ·have HT:=hid (show gZ bs k 1073741824 from⟨fun h=>absurd h hk1,fun _=>rfl⟩)
     rcases List.eq_nil_or_concat o with rfl | ⟨o,⟨rl,rh⟩,rfl⟩
     ·have hd0:decide ((0:Int)<((0:Nat):Int))=false:=by simp
      simp only[List.length_nil];go_wp2_with (fail);go_quiet ((first | (go_at_call_of 58 (Value.slice A n c);exact aq (HX.out _)) | (go_at_call_of 58 (Value.slice A' n' c');exact aq (HYY.out _))));go_wp2_with (fail);go_quiet (fail);go_wp2_with (at_builtin;go_must (refine wpList_append_own _ rfl _ _ 48 rfl w1.heap.size 47 i0 _ 2 16 Tryz.underlying48 hi0 hz0 hz1 hz2 rfl (by decide) _ ([]).length (flat ([])) rfl (by exact World.ownsRow.alloc HO.out _) ⟨wr.heap.size,0,none⟩ 1 1 [.int .i64 y,.int .i64 (1073741824)] rfl rfl (bt _ _ _ _) ?c2 ?c3 ?c4 ?c5 ?_))
      case c2=>intro u hu;simp at hu;rcases hu with rfl | rfl <;> rfl
      case c3=>simp only[List.length_nil,maxLen];omega
      case c4=>simp only[List.length_nil];omega
      case c5=>simp only[World.size_alloc];exact Nat.le_succ_of_le hz
      intro v1 w4 hown1 hg1 _;have hown2:av w4 w1.heap.size v1 ([]++[(y,1073741824)]):=by
       unfold av;rw[aA,List.length_append];exact hown1
      have HG1:=hid (((below_drewN hb _).alloc hz _).grown hg1 (by simp;omega) (cA HO.out));obtain⟨A5,c5,hv5,_,_⟩:=aF hown2;subst hv5;have HO5:=hid hown2;clear hown2 hown1 hg1;go_wp2_with (fail)
      go_roundw
      case rel=>exact⟨k+1,_,A5,c5,by omega,by go_num,rfl,HO5.out,by have:=HI.out.more HS.out hlt (by show inP 0 (bC l bs[k]) (bC r bs[k])=true;rw[HY.out,HBX.out,HBY.out];cases bY <;> rfl) HT.out (fun r hr=>by simp at hr);rwa [HY.out]at this,HG1.out⟩
      case measure=>simp[intOf];omega
     ·simp only[List.concat_eq_append]at *
      have hoK:=HI.out.plain.short;obtain⟨g2,hA2,hbg,hgl⟩:=cu HO.out (by simp);subst hA2;have hcr:=cD HO.out;have hfz:=World.ownsRow.frozenAt HO.out (o.length*2+1);simp only[List.length_append,List.length_singleton]at *;have hrb : -1073741824<=rh/\rh<=1073741824:=by have:=HI.out.plain.2 (rl,rh) (by simp);unfold Ok at this;simp only at this;omega
      have hd0:decide ((0:Int)<((o.length+1:Nat):Int))=true:=by simp
      generalize hj:o.length=j at *
      have HJ:=hid hj;clear hj;by_cases e:rh=y-1
      ·have hd1:(rh == y-1)=true:=by simpa using e
       have HE:=hid e;clear e;go_wp2_with (fail);go_quiet ((first | (go_at_call_of 58 (Value.slice A n c);exact aq (HX.out _)) | (go_at_call_of 58 (Value.slice A' n' c');exact aq (HYY.out _))));go_wp2_with (fail);go_quiet (fail);go_wp2_with (fail)
       go_roundw
       case rel=>exact⟨k+1,o++[(rl,1073741824)],_,co,by omega,by go_num,by simp only[List.length_append,List.length_singleton,HJ.out],dR HO.out HJ.out _,HI.out.extend HS.out hlt (by show inP 0 (bC l bs[k]) (bC r bs[k])=true;rw[HY.out,HBX.out,HBY.out];cases bY <;> rfl) HT.out (by rw[HY.out];exact HE.out),(below_drewN hb _).setCell hbg _⟩
       case measure=>simp[intOf];omega
      ·have hd1:(rh == y-1)=false:=by simpa using e
       have HE:=hid e;clear e;go_wp2_with (fail);go_quiet ((first | (go_at_call_of 58 (Value.slice A n c);exact aq (HX.out _)) | (go_at_call_of 58 (Value.slice A' n' c');exact aq (HYY.out _))));go_wp2_with (fail);go_quiet (fail);go_wp2_with (at_builtin;go_must (refine wpList_append_own _ rfl _ _ 48 rfl w1.heap.size 47 i0 _ 2 16 Tryz.underlying48 hi0 hz0 hz1 hz2 rfl (by decide) _ (o++[(rl,rh)]).length (flat (o++[(rl,rh)])) rfl (by exact World.ownsRow.alloc HO.out _) ⟨wr.heap.size,0,none⟩ 1 1 [.int .i64 y,.int .i64 (1073741824)] rfl rfl (bt _ _ _ _) ?c2 ?c3 ?c4 ?c5 ?_))
       case c2=>intro u hu;simp at hu;rcases hu with rfl | rfl <;> rfl
       case c3=>have:=HJ.out;simp only[List.length_append,List.length_singleton,maxLen];omega
       case c4=>have:=HJ.out;simp only[List.length_append,List.length_singleton];omega
       case c5=>simp only[World.size_alloc];exact Nat.le_succ_of_le hz
       intro v1 w4 hown1 hg1 _;have hown2:av w4 w1.heap.size v1 (o++[(rl,rh)]++[(y,1073741824)]):=by
        unfold av;rw[aA,List.length_append,List.length_append];exact hown1
       have HG1:=hid (((below_drewN hb _).alloc hz _).grown hg1 (by simp;omega) (cA HO.out));obtain⟨A5,c5,hv5,_,_⟩:=aF hown2;subst hv5;have HO5:=hid hown2;clear hown2 hown1 hg1;go_wp2_with (fail)
       go_roundw
       case rel=>exact⟨k+1,_,A5,c5,by omega,by go_num,rfl,HO5.out,by have:=HI.out.more HS.out hlt (by show inP 0 (bC l bs[k]) (bC r bs[k])=true;rw[HY.out,HBX.out,HBY.out];cases bY <;> rfl) HT.out (fun r hr=>by simp at hr;subst hr;rw[HY.out];exact HE.out);rwa [HY.out]at this,HG1.out⟩
       case measure=>simp[intOf];omega
  ·have HD:=hid (HI.out.done (show bs.length<=k by omega))
   go_wp2_with (fail);go_ret;exact⟨_,o,rfl,HD.out,aL HO.out (by omega),hb1.trans (hb.mono (by omega))⟩
end Go.Proofs.YtbdmcibcenhpnaaGreatDoor.Sp
namespace Go.Proofs.YtbdmcibcenhpnaaGreatDoor.Sp
set_option maxHeartbeats 64000000
open Go Go.RowKit
open Go.Lib (hid)
def Kj (v:Int) (w:World) (e:Ending) (w':World):Prop:=e = .returned (.int .i64 v)/\Below w.heap.size w w'
def Ki (v:Int×Bool) (w:World) (e:Ending) (w':World):Prop:=e = .returned (.tuple #[.int .i64 v.1,.bool v.2])/\Below w.heap.size w w'
theorem Gt {a b:Int} (h:a=b):Ending.returned (.int .i64 a) = .returned (.int .i64 b):=by rw[h]
theorem Js {a:Int} {b:Bool} {v:Int×Bool} (h:(a,b)=v):Ending.returned (.tuple #[.int .i64 a,.bool b]) = .returned (.tuple #[.int .i64 v.1,.bool v.2]):=by rw[<- h]
theorem vC {p:List Span} {k:Nat} {lo hi:Int} (hk:∃hl:k<p.length,p[k]=(lo,hi)):cnt (p.take (k+1))=cnt (p.take k)+(hi-lo+1):=by
 obtain⟨hl,e⟩:=hk;rw[List.take_succ_eq_append_getElem hl,e,yg];simp only[cnt];omega
def Fc (p:List Span) (w2:World) (n i:Value) (wr:World):Prop:=∃k:Nat,k<=p.length/\i = .int .i64 k/\n = .int .i64 (cnt (p.take k))/\Below w2.heap.size w2 wr
theorem BU (A:Option Addr) (n c:Nat) (l p0:List Span) (w:World) (h:RS w w.heap.size A n l) (hn:n<=1099511627776) (hc:n<=c) (hp0:Is p0 (mem l)) :
  Calls Tryz.prog 107 #[.slice A n c] w (Kj (cnt p0) w):=by
 have HP0:=hid hp0;clear hp0;go_enter Tryz.func107,Tryz.ntmps107;go_wp2_with (fail);refine(dz A n c l _ h hn hc).mono ?_;rintro e w2 ⟨A2,n2,c2,p,rfl,hP,hr2,hs2,hnc2,hb2⟩;obtain rfl:p0=p:=HP0.out.eq hP fun _=>Iff.rfl
 have HP:=hid hP.1;clear hP;obtain rfl:p0.length=n2:=hr2.1;go_wp2_with (fail)
 go_loopw [3,9] (fun n i wr=>Fc p0 w2 n i wr) (fun _ i _=>p0.length-(intOf i).toNat)
 case atStart=>exact⟨0,Nat.zero_le _,rfl,by simp[cnt],Below.refl _ _⟩
 case round=>
  obtain⟨k,hk,rfl,rfl,hb⟩:=hrel;have hz:=hb.size;by_cases hlt:k<p0.length
  ·obtain⟨b,off,lo,hi,hA,hbB,hlk,hc1,hc2⟩:=(hr2.below hb).at_ hlt
   have hbs:b<wr.heap.size:=by omega
   have hok:=zY HP.out hlk;have h1:=nZ (HP.out.take k);have h2:=vD (HP.out.take k);have HL:=hid hlk;clear hlk;rw[hA];clear hA
   generalize hcn:cnt (p0.take k)=m at *
   have HCN:=hid hcn;clear hcn;go_wp2_with (fail)
   go_roundw
   case rel=>exact⟨k+1,by omega,by go_num,by rw[vC HL.out,HCN.out],hb.alloc hz _⟩
   case measure=>simp[intOf];omega
  ·have HT:=hid (show p0.take k=p0 from List.take_of_length_le (by omega))
   go_wp2_with (fail);go_ret;exact⟨Gt (by rw[HT.out]),hb2.trans (hb.mono hb2.size)⟩
def JX:List Span->Int×Bool
 | []=>(0,false)
 | p::_=>(p.1,true)
def DW (l:List Span):Int×Bool:=match l.getLast? with
 | none=>(0,false)
 | some p=>(p.2,true)
theorem Bz (A:Option Addr) (n c:Nat) (l p0:List Span) (w:World) (h:RS w w.heap.size A n l) (hn:n<=1099511627776) (hc:n<=c) (hp0:Is p0 (mem l)) :
  Calls Tryz.prog 110 #[.slice A n c] w (Ki (JX p0) w):=by
 have HP0:=hid hp0;clear hp0;go_enter Tryz.func110,Tryz.ntmps110;go_wp2_with (fail);refine(dz A n c l _ h hn hc).mono ?_;rintro e w2 ⟨A2,n2,c2,p,rfl,hP,hr2,hs2,hnc2,hb2⟩;obtain rfl:p0=p:=HP0.out.eq hP fun _=>Iff.rfl
 clear hP;obtain rfl:p0.length=n2:=hr2.1;rcases p0 with _ | ⟨⟨lo,hi⟩,p⟩
 ·simp only[List.length_nil]
  go_wp2_with (fail);go_ret2;exact⟨rfl,hb2⟩
 ·obtain⟨b,off,lo',hi',hA,hbB,hlk,hc1,hc2⟩:=hr2.at_ (k:=0) (by simp)
  obtain⟨_,e⟩:=hlk;simp only[List.getElem_cons_zero]at e;injection e with e1 e2;subst e1 e2;rw[hA];simp only[Nat.zero_mul,Nat.add_zero]at hc1;simp only[List.length_cons];clear hA hr2 hc2;go_wp2_with (fail);go_ret2;exact⟨rfl,hb2⟩
theorem Ea (A:Option Addr) (n c:Nat) (l p0:List Span) (w:World) (h:RS w w.heap.size A n l) (hn:n<=1099511627776) (hc:n<=c) (hp0:Is p0 (mem l)) :
  Calls Tryz.prog 111 #[.slice A n c] w (Ki (DW p0) w):=by
 have HP0:=hid hp0;clear hp0;go_enter Tryz.func111,Tryz.ntmps111;go_wp2_with (fail);refine(dz A n c l _ h hn hc).mono ?_;rintro e w2 ⟨A2,n2,c2,p,rfl,hP,hr2,hs2,hnc2,hb2⟩;obtain rfl:p0=p:=HP0.out.eq hP fun _=>Iff.rfl
 clear hP;obtain rfl:p0.length=n2:=hr2.1;rcases List.eq_nil_or_concat p0 with rfl | ⟨o,⟨lo,hi⟩,rfl⟩
 ·simp only[List.length_nil]
  go_wp2_with (fail);go_ret2;exact⟨rfl,hb2⟩
 ·rw[List.concat_eq_append]at *
  obtain⟨b,off,lo',hi',hA,hbB,hlk,hc1,hc2⟩:=hr2.at_ (k:=o.length) (by simp);obtain⟨_,e⟩:=hlk;rw[List.getElem_append_right (by omega)]at e;simp only[Nat.sub_self,List.getElem_cons_zero]at e;injection e with e1 e2;subst e1 e2;rw[hA];have HLS:=hid (show DW (o++[(lo,hi)])=(hi,true)by simp[DW]);simp only[List.length_append,List.length_singleton]at hs2 ⊢;clear hA hr2 hc1;go_wp2_with (fail);go_ret2;exact⟨Js HLS.out.symm,hb2⟩
def Ij (p:List Span) (d:Int) (w2:World) (v i:Value) (wr:World):Prop:=∃(k:Nat) (o:List Span),k<=p.length/\i = .int .i64 k/\av wr w2.heap.size v o/\dX p d k o/\Below w2.heap.size w2 wr
theorem Ac {p o:List Span} {d:Int} {k:Nat} {lo hi:Int} (h:dX p d k o) (hp:Plain p) (hk:∃hl:k<p.length,p[k]=(lo,hi)):dX p d (k+1) (gV o (lo+d) (hi+d)):=by
 obtain⟨hl,e⟩:=hk;have:=h.next hp hl;rw[e]at this;exact this
theorem gH {l:List Span} {d:Int} (h:d < -2147483648\/2147483648<d):Is [] fun x=>Rng x/\mem l (x-d):=
 ⟨Plain.nil,fun x=>⟨fun hm=>absurd hm (aI x),fun⟨h1,h2,_⟩=>by unfold Rng at h1 h2;omega⟩⟩
theorem kA (A:Option Addr) (n c:Nat) (l:List Span) (d:Int) (w:World) (h:RS w w.heap.size A n l) (hn:n<=1099511627776) (hc:n<=c) :
  Calls Tryz.prog 94 #[.slice A n c,.int .i64 d] w (aP (fun x=>Rng x/\mem l (x-d)) w):=by
 by_cases h1:d < -2147483648
 ·go_enter Tryz.func94,Tryz.ntmps94
  go_wp2_with (fail);go_ret;exact⟨_,[],rfl,gH (.inl h1),World.ownsRow_nil _ _ _ _,Below.refl _ _⟩
 by_cases h2:2147483648<d
 ·go_enter Tryz.func94,Tryz.ntmps94
  go_wp2_with (fail);go_ret;exact⟨_,[],rfl,gH (.inr h2),World.ownsRow_nil _ _ _ _,Below.refl _ _⟩
 go_enter Tryz.func94,Tryz.ntmps94;go_wp2_with (fail);refine(dz A n c l _ h hn hc).mono ?_;rintro e w2 ⟨A2,n2,c2,p,rfl,hP,hr2,hs2,hnc2,hb2⟩;have HPS:=hid hP.2;have HP:=hid hP.1;clear hP;have hz2:=hb2.size;obtain rfl:p.length=n2:=hr2.1;go_wp2_with (fail);refine(kD _ _ (by omega) (by omega)).mono ?_;rintro e w3 ⟨v0,rfl,ho0,hb0⟩;have HO0:=hid ho0;clear ho0;go_wp2_with (fail)
 go_loopw [6,22] (fun v i wr=>Ij p d w2 v i wr) (fun _ i _=>p.length-(intOf i).toNat)
 case atStart=>exact⟨0,[],Nat.zero_le _,rfl,HO0.out,dX.start p d,hb0⟩
 case round=>
  obtain⟨k,o,hk,rfl,ho,hi,hb⟩:=hrel;have hz:=hb.size;have HO:=hid ho;clear ho;have HI:=hid hi;clear hi;by_cases hlt:k<p.length
  ·obtain⟨b,off,lo,hi,hA,hbB,hlk,hc1,hc2⟩:=(hr2.below hb).at_ hlt
   have hbs:b<wr.heap.size:=by omega
   have hok:=zY HP.out hlk;have HNX:=hid (Ac HI.out HP.out hlk);clear hlk;rw[hA];clear hA;go_wp2_with (fail);refine(jx w2.heap.size _ o (lo+d) (hi+d) _ (World.ownsRow.alloc HO.out _) (by simp;omega) (by have:=HI.out.plain.short;omega)).mono ?_;rintro e w3 ⟨v3,rfl,ho3,hb3⟩;have HO3:=hid ho3;clear ho3;go_wp2_with (fail)
   go_roundw
   case rel=>exact⟨k+1,_,by omega,by go_num,HO3.out,HNX.out,(hb.alloc hz _).trans hb3⟩
   case measure=>simp[intOf];omega
  ·have HD:=hid (HI.out.done (show p.length<=k by omega))
   go_wp2_with (fail);go_ret;exact⟨_,o,rfl,HD.out.congr fun x=>by rw[HPS.out],aL HO.out hz2,hb2.trans (hb.mono hz2)⟩
end Go.Proofs.YtbdmcibcenhpnaaGreatDoor.Sp
namespace Go.Proofs.YtbdmcibcenhpnaaGreatDoor.Sp
set_option maxHeartbeats 64000000
open Go Go.RowKit
theorem oV {w:World} {B n:Nat} {ad:Addr} {l:List Span} (h:RS w B (some ad) n l):∀j u,(flat l)[j]? = some u->w.cell? (ad.add j)=some u:=by
 intro j u hu;have hj:j<l.length*2:=by
  rcases Nat.lt_or_ge j (l.length*2)with h1 | h1
  ·exact h1
  ·rw[List.getElem?_eq_none (by rw[aH];exact h1)]at hu;cases hu
 obtain⟨b,off,hA,_,hc⟩:=h.2 (by rw[<- h.1];omega);injection hA with hA;subst hA;have h1:j / 2<l.length:=by omega
 have h2:=cZ l (j / 2) h1;have h3:=hc (j / 2) h1;rw[Go.WideShapes.add_plain];rcases Nat.mod_two_eq_zero_or_one j with e | e
 ·rw[show j=2*(j / 2)from by omega]at hu
  rw[h2.1]at hu;rw[show off+j=off+j / 2*2 from by omega,h3.1];exact hu
 ·rw[show j=2*(j / 2)+1 from by omega]at hu
  rw[h2.2]at hu;rw[show off+j=off+j / 2*2+1 from by omega,h3.2];exact hu
theorem kE (l:List Span):∀u∈flat l,u.oneCell'=true:=by
 intro u hu;obtain⟨p,_,hp⟩:=List.mem_flatMap.1 hu;simp[vw]at hp;rcases hp with rfl | rfl <;> rfl
theorem Dh:∀(w:World) (a:Option Addr) (n c n' c':Nat),(binOp .eql 48 (.slice a n c) (.slice none n' c')).run Tryz.prog w = .ok (.bool a.isNone) w:=fun w a n c n' c'=>Lib.run_eql_slice_nil w _ _ a n c n' c' Tryz.underlying48
def F6 (l:List Span) (w:World) (e:Ending) (w':World):Prop:=∃v,e = .returned v/\av w' w.heap.size v l/\Below w.heap.size w w'
theorem n9 (A:Option Addr) (c:Nat) (l:List Span) (w:World) (h:RS w w.heap.size A l.length l) (hn:l.length<=68719476736) (hnil:A=none->l=[]/\c=0) :
  Calls Tryz.prog 63 #[.slice A l.length c] w (F6 l w):=by
 have q:=Dh;rcases A with _ | ad
 ·obtain⟨rfl,rfl⟩:=hnil rfl
  simp only[List.length_nil];go_enter Tryz.func63,Tryz.ntmps63;go_wp2_with (fail);go_ret;exact⟨_,rfl,World.ownsRow_nil _ _ _ _,Below.refl _ _⟩
 ·obtain⟨i0,hi0,hz0,hz1,hz2⟩:=info_parts bQ
  have hown0:=Lib.hid (World.ownsRow_made (e:=47) (size:=2) w #[] 0 (Nat.le_refl w.heap.size) (by unfold maxLen;omega) rfl);have HR:=Lib.hid ((h.below ((Below.refl w.heap.size w).alloc (Nat.le_refl _) (.cells #[] 47))));clear h;go_enter Tryz.func63,Tryz.ntmps63;go_wp2_with (at_builtin;go_must (refine wpList_append_own _ rfl _ _ 48 rfl w.heap.size 47 i0 _ 2 16 Tryz.underlying48 hi0 hz0 hz1 hz2 rfl (by decide) _ 0 [] rfl hown0.out ad l.length c (flat l) rfl (aH l) (oV HR.out) (kE l) ?c3 ?c4 ?c5 ?_))
  case c3=>simp only[maxLen];omega
  case c4=>omega
  case c5=>simp only[World.size_alloc];omega
  intro v1 w1 hown1 hg1 _;have ho:av w1 w.heap.size v1 l:=by
   unfold av;simpa using hown1
  have HB:=Lib.hid (((Below.refl w.heap.size w).alloc (Nat.le_refl _) (.cells #[] 47)).grown hg1 (by simp) (fun k hk=>(World.ownsRow.lt hown0.out k hk).1));obtain⟨A1,c1,hv,hc1,hrs⟩:=aF ho;subst hv;have HO:=Lib.hid ho;clear hown1 hg1 ho hrs;go_wp2_with (fail);go_ret;exact⟨_,rfl,HO.out,HB.out⟩
end Go.Proofs.YtbdmcibcenhpnaaGreatDoor.Sp
namespace Go.Proofs.YtbdmcibcenhpnaaGreatDoor.Fi
set_option maxHeartbeats 64000000
open Go Go.RowKit Sp Mi
open Go.Lib (hid)
theorem xY (l:List Span):∀k,k<=l.length->∃out,gy l k out:=by
 intro k
 induction k with
 | zero=>exact fun _=>⟨[],gy.start l⟩
 | succ k ih=>
  intro hk;obtain⟨out,h⟩:=ih (by omega);exact⟨_,h.next (by omega)⟩
theorem sS (d:List Span) (hs:dn d) (hd:∀p∈d,Ok p):∀k,k<=d.length->∃out,cF d k out:=by
 intro k
 induction k with
 | zero=>exact fun _=>⟨[],cF.start d⟩
 | succ k ih=>
  intro hk;obtain⟨out,h⟩:=ih (by omega);rcases List.eq_nil_or_concat out with rfl | ⟨o,r,rfl⟩
  ·exact⟨_,h.more hs hd (by omega) (fun r hr=>by simp at hr)⟩
  ·rw[List.concat_eq_append]at h
   by_cases hle:d[k].1<=r.2+1
   ·exact⟨_,h.merge hd (by omega) hle⟩
   ·exact⟨_,h.more hs hd (by omega) (fun q hq=>by simp at hq;subst hq;omega)⟩
theorem qR (l:List Span):∃p,Is p (mem l):=by
 obtain⟨out,h⟩:=xY l l.length (Nat.le_refl _);have hperm:=List.mergeSort_perm out (fun a b=>decide (a.1<=b.1));have hsort:dn (out.mergeSort fun a b=>decide (a.1<=b.1)):=by
  have:=List.pairwise_mergeSort (le:=fun(a b:Span)=>decide (a.1<=b.1)) (fun a b c h1 h2=>by simp at *;omega) (fun a b=>by simp;omega) out;exact this.imp fun h=>by simpa using h
 obtain⟨q,hq⟩:=sS _ hsort (fun p hp=>h.ok p (hperm.mem_iff.1 hp)) _ (Nat.le_refl _);refine⟨q,(hq.done (Nat.le_refl _)).congr fun x=>?_⟩;rw[uG hperm x,h.set,List.take_length]
theorem vB {p:List Span} (h:Plain p):cnt p=0↔p=[]:=by
 constructor
 ·intro e
  match p,h with
  | [],_=>rfl
  | q::l,h=>
   obtain⟨h1,h2,_⟩:=h.cons;have h3:=nZ h2;have:cnt (q::l)=(q.2-q.1+1)+cnt l:=rfl;unfold Ok at h1;omega
 ·rintro rfl;rfl
def F5 (gs:List (List Span)):Prop:=∃g∈gs,∀x,¬ mem g x
def Nh (gs:List (List Span)) (w:World) (i:Value) (wr:World):Prop:=∃k:Nat,k<=gs.length/\i = .int .i64 k/\(∀g∈gs.take k,∃x,mem g x)/\Below w.heap.size w wr
theorem qX (G:Option Addr) (gc:Nat) (gs:List (List Span)) (b:Bool) (w:World) (h:RGs w G gs.length gs) (hl:gs.length<=1000) (hm:∀g∈gs,g.length<=1099511627776) (hb:b=true↔F5 gs) :
  Calls Tryz.prog 92 #[.slice G gs.length gc] w (dY b w):=by
 have H:=hid h;have HM:=hid hm;have HBB:=hid hb;clear h hm hb;go_enter Tryz.func92,Tryz.ntmps92;go_wp2_with (fail)
 go_loopw [7] (fun i wr=>Nh gs w i wr) (fun i _=>gs.length-(intOf i).toNat)
 case atStart=>exact⟨0,Nat.zero_le _,rfl,fun g hg=>by simp at hg,Below.refl _ _⟩
 case round=>
  obtain⟨k,hk,rfl,hs,hb⟩:=hrel;have HS:=hid hs;have HB:=hid hb;by_cases hlt:k<gs.length
  ·obtain⟨bb,off,Aj,cj,hA,hbB,hc,hr,hcj,hnj⟩:=(H.out.ah hb).at_ hlt
   have hmj:=HM.out _ (List.getElem_mem hlt);obtain⟨g,hg⟩:∃g,gs[k]=g:=⟨_,rfl⟩;rw[hg]at hc hr hcj hmj;obtain⟨n,hn⟩:∃n,g.length=n:=⟨_,rfl⟩;rw[hn]at hc hr hcj hmj;obtain⟨p0,hp0⟩:=qR g;have HC:=hid (BU Aj n cj g p0 wr hr hmj hcj hp0);have HG:=hid hg;have HP:=hid hp0;subst hA;clear hs hb hr hnj hg hn;by_cases he:cnt p0=0
   ·rw[he]at HC
    have HT:=hid (HBB.out.2 ⟨g,by rw[<- HG.out];exact List.getElem_mem hlt,fun x hx=>by
     have:=(vB HP.out.1).1 he;rw[this]at HP;exact aI x ((HP.out.2 x).2 hx)⟩)
    clear he;go_wp2_with (fail);refine HC.out.mono ?_;rintro e w2 ⟨rfl,hb2⟩;have HB2:=hid (HB.out.trans (hb2.mono HB.out.size));clear hb2;go_wp2_with (fail);go_ret;exact⟨aj HT.out.symm,HB2.out⟩
   ·have hd:(cnt p0 == 0)=false:=by simpa using he
    have HN:=hid (show∀q∈gs.take (k+1),∃x,mem q x from fun q hq=>by
     rw[List.take_succ_eq_append_getElem hlt,List.mem_append,List.mem_singleton,HG.out]at hq;rcases hq with hq | rfl
     ·exact HS.out q hq
     ·rcases Classical.em (∃x,mem q x)with e | e
      ·exact e
      ·exact absurd ((vB HP.out.1).2 (HP.out.cQ.2 fun x hx=>e ⟨x,hx⟩)) he)
    clear he;go_wp2_with (fail);refine HC.out.mono ?_;rintro e w2 ⟨rfl,hb2⟩;have HB2:=hid (HB.out.trans (hb2.mono HB.out.size));clear hb2;go_wp2_with (fail)
    go_roundw
    case rel=>exact⟨k+1,by omega,by go_num,HN.out,HB2.out⟩
    case measure=>simp[intOf];omega
  ·have HT:=hid (show b=false from by
    cases e:b
    ·rfl
    ·obtain⟨g,hg,hno⟩:=HBB.out.1 e
     obtain⟨x,hx⟩:=HS.out g (by rw[List.take_of_length_le (by omega)];exact hg);exact absurd hx (hno x))
   clear hs hb;go_wp2_with (fail);go_ret;exact⟨aj HT.out.symm,HB.out⟩
end Go.Proofs.YtbdmcibcenhpnaaGreatDoor.Fi
namespace Go.Proofs.YtbdmcibcenhpnaaGreatDoor.Sp
set_option maxHeartbeats 64000000
open Go Go.RowKit
open Go.Lib (hid)
theorem Ft (A A':Option Addr) (n n' c c':Nat) (l r:List Span) (w:World) (h:RS w w.heap.size A n l) (h':RS w w.heap.size A' n' r) (hn:n<=68719476736) (hn':n'<=68719476736) :
  Calls Tryz.prog 47 #[.slice A n c,.slice A' n' c',.int .i64 2] w (aP (fun x=>Rng x/\inP 2 (bC l x) (bC r x)=true) w):=by
 obtain⟨i0,hi0,hz0,hz1,hz2⟩:=info_parts bQ;go_enter Tryz.func47,Tryz.ntmps47;go_wp2_with (fail);refine(jM A A' n n' c c' l r _ h h' hn hn').mono ?_;rintro e w1 ⟨g,cap,bs,rfl,ho1,hB,hb1⟩;have OH:=hb1.size;have hgs:=(ho1.lt g rfl).2;have hrl:=h.ah hb1;have hrr:=h'.ah hb1;have sO:=hB.few;rw[List.length_append,h.1,h'.1]at sO;have HS:=hid (zC hB 2);clear hB;have HO1:=hid ho1;clear ho1;go_wp2_with (fail)
 go_loopw [7,9] (fun out i wr=>Co bs (fun x=>inP 2 (bC l x) (bC r x)=true) w1.heap.size w1 out i wr) (fun _ i _=>bs.length-(intOf i).toNat)
 case atStart=>exact⟨0,[],none,0,Nat.zero_le _,rfl,rfl,World.ownsRow_nil _ _ _ _,bK.start HS.out,Below.refl _ _⟩
 case round=>
  obtain⟨k,o,Ao,co,hk,rfl,rfl,ho,hi,hb⟩:=hrel;have hz:=hb.size;have HO:=hid ho;clear ho;have HI:=hid hi;clear hi;by_cases hlt:k<bs.length
  ·obtain⟨y,hy⟩:∃y,bs[k]=y:=⟨_,rfl⟩
   have hcy:wr.cell? ⟨g,k,none⟩=some (.int .i64 y):=by rw[hb.cell (p:=⟨g,k,none⟩) hgs,aY HO1.out hlt,hy]
   have hyr : -1073741824<=y/\y<=1073741824:=by have:=HS.out.rng _ (List.getElem_mem hlt);rw[hy]at this;exact this
   have hgw:g<wr.heap.size:=by omega
   have hoL:=HI.out.plain.short;have HY:=hid hy;clear hy;obtain⟨bx,hbx⟩:∃bx,bC l y=bx:=⟨_,rfl⟩;obtain⟨bY,hby⟩:∃bY,bC r y=bY:=⟨_,rfl⟩;have HX:=hid (fun nq=>iP A n c l y (wr.drewN nq) ((hrl.below hb).more hz) (by omega));have HYY:=hid (fun nq=>iP A' n' c' r y (wr.drewN nq) ((hrr.below hb).more hz) (by omega));rw[hbx]at HX;rw[hby]at HYY;have HBX:=hid hbx;clear hbx;have HBY:=hid hby;clear hby
   cases bx
   ·cases bY
    all_goals
     go_wp2_with (fail);go_quiet ((first | (go_at_call_of 58 (Value.slice A n c);exact aq (HX.out _)) | (go_at_call_of 58 (Value.slice A' n' c');exact aq (HYY.out _))));go_wp2_with (fail)
     go_roundw
     case rel=>exact⟨k+1,o,Ao,co,by omega,by go_num,rfl,HO.out,HI.out.skip HS.out hlt (by show ¬ inP 2 (bC l bs[k]) (bC r bs[k])=true;rw[HY.out,HBX.out,HBY.out];decide),below_drewN hb _⟩
     case measure=>simp[intOf];omega
   ·cases bY
    ·by_cases hk1:k+1<bs.length
     ·obtain⟨z,hz'⟩:∃z,bs[k+1]=z:=⟨_,rfl⟩
      have hcz:wr.cell? ⟨g,k+1,none⟩=some (.int .i64 z):=by rw[hb.cell (p:=⟨g,k+1,none⟩) hgs,aY HO1.out hk1,hz']
      have hzr : -1073741824<=z/\z<=1073741824:=by have:=HS.out.rng _ (List.getElem_mem hk1);rw[hz']at this;exact this
      have HT:=hid (show gZ bs k (z-1)from⟨fun _=>by rw[hz'],fun h=>absurd hk1 h⟩);clear hz';rcases List.eq_nil_or_concat o with rfl | ⟨o,⟨rl,rh⟩,rfl⟩
      ·have hd0:decide ((0:Int)<((0:Nat):Int))=false:=by simp
       simp only[List.length_nil];go_wp2_with (fail);go_quiet ((first | (go_at_call_of 58 (Value.slice A n c);exact aq (HX.out _)) | (go_at_call_of 58 (Value.slice A' n' c');exact aq (HYY.out _))));go_wp2_with (fail);go_quiet (fail);go_wp2_with (at_builtin;go_must (refine wpList_append_own _ rfl _ _ 48 rfl w1.heap.size 47 i0 _ 2 16 Tryz.underlying48 hi0 hz0 hz1 hz2 rfl (by decide) _ ([]).length (flat ([])) rfl (by exact World.ownsRow.alloc HO.out _) ⟨wr.heap.size,0,none⟩ 1 1 [.int .i64 y,.int .i64 (z-1)] rfl rfl (bt _ _ _ _) ?c2 ?c3 ?c4 ?c5 ?_))
       case c2=>intro u hu;simp at hu;rcases hu with rfl | rfl <;> rfl
       case c3=>simp only[List.length_nil,maxLen];omega
       case c4=>simp only[List.length_nil];omega
       case c5=>simp only[World.size_alloc];exact Nat.le_succ_of_le hz
       intro v1 w4 hown1 hg1 _;have hown2:av w4 w1.heap.size v1 ([]++[(y,z-1)]):=by
        unfold av;rw[aA,List.length_append];exact hown1
       have HG1:=hid (((below_drewN hb _).alloc hz _).grown hg1 (by simp;omega) (cA HO.out));obtain⟨A5,c5,hv5,_,_⟩:=aF hown2;subst hv5;have HO5:=hid hown2;clear hown2 hown1 hg1;go_wp2_with (fail)
       go_roundw
       case rel=>exact⟨k+1,_,A5,c5,by omega,by go_num,rfl,HO5.out,by have:=HI.out.more HS.out hlt (by show inP 2 (bC l bs[k]) (bC r bs[k])=true;rw[HY.out,HBX.out,HBY.out];rfl) HT.out (fun r hr=>by simp at hr);rwa [HY.out]at this,HG1.out⟩
       case measure=>simp[intOf];omega
      ·simp only[List.concat_eq_append]at *
       have hoK:=HI.out.plain.short;obtain⟨g2,hA2,hbg,hgl⟩:=cu HO.out (by simp);subst hA2;have hcr:=cD HO.out;have hfz:=World.ownsRow.frozenAt HO.out (o.length*2+1);simp only[List.length_append,List.length_singleton]at *;have hrb : -1073741824<=rh/\rh<=1073741824:=by have:=HI.out.plain.2 (rl,rh) (by simp);unfold Ok at this;simp only at this;omega
       have hd0:decide ((0:Int)<((o.length+1:Nat):Int))=true:=by simp
       generalize hj:o.length=j at *
       have HJ:=hid hj;clear hj;by_cases e:rh=y-1
       ·have hd1:(rh == y-1)=true:=by simpa using e
        have HE:=hid e;clear e;go_wp2_with (fail);go_quiet ((first | (go_at_call_of 58 (Value.slice A n c);exact aq (HX.out _)) | (go_at_call_of 58 (Value.slice A' n' c');exact aq (HYY.out _))));go_wp2_with (fail);go_quiet (fail);go_wp2_with (fail)
        go_roundw
        case rel=>exact⟨k+1,o++[(rl,z-1)],_,co,by omega,by go_num,by simp only[List.length_append,List.length_singleton,HJ.out],dR HO.out HJ.out _,HI.out.extend HS.out hlt (by show inP 2 (bC l bs[k]) (bC r bs[k])=true;rw[HY.out,HBX.out,HBY.out];rfl) HT.out (by rw[HY.out];exact HE.out),(below_drewN hb _).setCell hbg _⟩
        case measure=>simp[intOf];omega
       ·have hd1:(rh == y-1)=false:=by simpa using e
        have HE:=hid e;clear e;go_wp2_with (fail);go_quiet ((first | (go_at_call_of 58 (Value.slice A n c);exact aq (HX.out _)) | (go_at_call_of 58 (Value.slice A' n' c');exact aq (HYY.out _))));go_wp2_with (fail);go_quiet (fail);go_wp2_with (at_builtin;go_must (refine wpList_append_own _ rfl _ _ 48 rfl w1.heap.size 47 i0 _ 2 16 Tryz.underlying48 hi0 hz0 hz1 hz2 rfl (by decide) _ (o++[(rl,rh)]).length (flat (o++[(rl,rh)])) rfl (by exact World.ownsRow.alloc HO.out _) ⟨wr.heap.size,0,none⟩ 1 1 [.int .i64 y,.int .i64 (z-1)] rfl rfl (bt _ _ _ _) ?c2 ?c3 ?c4 ?c5 ?_))
        case c2=>intro u hu;simp at hu;rcases hu with rfl | rfl <;> rfl
        case c3=>have:=HJ.out;simp only[List.length_append,List.length_singleton,maxLen];omega
        case c4=>have:=HJ.out;simp only[List.length_append,List.length_singleton];omega
        case c5=>simp only[World.size_alloc];exact Nat.le_succ_of_le hz
        intro v1 w4 hown1 hg1 _;have hown2:av w4 w1.heap.size v1 (o++[(rl,rh)]++[(y,z-1)]):=by
         unfold av;rw[aA,List.length_append,List.length_append];exact hown1
        have HG1:=hid (((below_drewN hb _).alloc hz _).grown hg1 (by simp;omega) (cA HO.out));obtain⟨A5,c5,hv5,_,_⟩:=aF hown2;subst hv5;have HO5:=hid hown2;clear hown2 hown1 hg1;go_wp2_with (fail)
        go_roundw
        case rel=>exact⟨k+1,_,A5,c5,by omega,by go_num,rfl,HO5.out,by have:=HI.out.more HS.out hlt (by show inP 2 (bC l bs[k]) (bC r bs[k])=true;rw[HY.out,HBX.out,HBY.out];rfl) HT.out (fun r hr=>by simp at hr;subst hr;rw[HY.out];exact HE.out);rwa [HY.out]at this,HG1.out⟩
        case measure=>simp[intOf];omega
     ·have HT:=hid (show gZ bs k 1073741824 from⟨fun h=>absurd h hk1,fun _=>rfl⟩)
      rcases List.eq_nil_or_concat o with rfl | ⟨o,⟨rl,rh⟩,rfl⟩
      ·have hd0:decide ((0:Int)<((0:Nat):Int))=false:=by simp
       simp only[List.length_nil];go_wp2_with (fail);go_quiet ((first | (go_at_call_of 58 (Value.slice A n c);exact aq (HX.out _)) | (go_at_call_of 58 (Value.slice A' n' c');exact aq (HYY.out _))));go_wp2_with (fail);go_quiet (fail);go_wp2_with (at_builtin;go_must (refine wpList_append_own _ rfl _ _ 48 rfl w1.heap.size 47 i0 _ 2 16 Tryz.underlying48 hi0 hz0 hz1 hz2 rfl (by decide) _ ([]).length (flat ([])) rfl (by exact World.ownsRow.alloc HO.out _) ⟨wr.heap.size,0,none⟩ 1 1 [.int .i64 y,.int .i64 (1073741824)] rfl rfl (bt _ _ _ _) ?c2 ?c3 ?c4 ?c5 ?_))
       case c2=>intro u hu;simp at hu;rcases hu with rfl | rfl <;> rfl
       case c3=>simp only[List.length_nil,maxLen];omega
       case c4=>simp only[List.length_nil];omega
       case c5=>simp only[World.size_alloc];exact Nat.le_succ_of_le hz
       intro v1 w4 hown1 hg1 _;have hown2:av w4 w1.heap.size v1 ([]++[(y,1073741824)]):=by
        unfold av;rw[aA,List.length_append];exact hown1
       have HG1:=hid (((below_drewN hb _).alloc hz _).grown hg1 (by simp;omega) (cA HO.out));obtain⟨A5,c5,hv5,_,_⟩:=aF hown2;subst hv5;have HO5:=hid hown2;clear hown2 hown1 hg1;go_wp2_with (fail)
       go_roundw
       case rel=>exact⟨k+1,_,A5,c5,by omega,by go_num,rfl,HO5.out,by have:=HI.out.more HS.out hlt (by show inP 2 (bC l bs[k]) (bC r bs[k])=true;rw[HY.out,HBX.out,HBY.out];rfl) HT.out (fun r hr=>by simp at hr);rwa [HY.out]at this,HG1.out⟩
       case measure=>simp[intOf];omega
      ·simp only[List.concat_eq_append]at *
       have hoK:=HI.out.plain.short;obtain⟨g2,hA2,hbg,hgl⟩:=cu HO.out (by simp);subst hA2;have hcr:=cD HO.out;have hfz:=World.ownsRow.frozenAt HO.out (o.length*2+1);simp only[List.length_append,List.length_singleton]at *;have hrb : -1073741824<=rh/\rh<=1073741824:=by have:=HI.out.plain.2 (rl,rh) (by simp);unfold Ok at this;simp only at this;omega
       have hd0:decide ((0:Int)<((o.length+1:Nat):Int))=true:=by simp
       generalize hj:o.length=j at *
       have HJ:=hid hj;clear hj;by_cases e:rh=y-1
       ·have hd1:(rh == y-1)=true:=by simpa using e
        have HE:=hid e;clear e;go_wp2_with (fail);go_quiet ((first | (go_at_call_of 58 (Value.slice A n c);exact aq (HX.out _)) | (go_at_call_of 58 (Value.slice A' n' c');exact aq (HYY.out _))));go_wp2_with (fail);go_quiet (fail);go_wp2_with (fail)
        go_roundw
        case rel=>exact⟨k+1,o++[(rl,1073741824)],_,co,by omega,by go_num,by simp only[List.length_append,List.length_singleton,HJ.out],dR HO.out HJ.out _,HI.out.extend HS.out hlt (by show inP 2 (bC l bs[k]) (bC r bs[k])=true;rw[HY.out,HBX.out,HBY.out];rfl) HT.out (by rw[HY.out];exact HE.out),(below_drewN hb _).setCell hbg _⟩
        case measure=>simp[intOf];omega
       ·have hd1:(rh == y-1)=false:=by simpa using e
        have HE:=hid e;clear e;go_wp2_with (fail);go_quiet ((first | (go_at_call_of 58 (Value.slice A n c);exact aq (HX.out _)) | (go_at_call_of 58 (Value.slice A' n' c');exact aq (HYY.out _))));go_wp2_with (fail);go_quiet (fail);go_wp2_with (at_builtin;go_must (refine wpList_append_own _ rfl _ _ 48 rfl w1.heap.size 47 i0 _ 2 16 Tryz.underlying48 hi0 hz0 hz1 hz2 rfl (by decide) _ (o++[(rl,rh)]).length (flat (o++[(rl,rh)])) rfl (by exact World.ownsRow.alloc HO.out _) ⟨wr.heap.size,0,none⟩ 1 1 [.int .i64 y,.int .i64 (1073741824)] rfl rfl (bt _ _ _ _) ?c2 ?c3 ?c4 ?c5 ?_))
        case c2=>intro u hu;simp at hu;rcases hu with rfl | rfl <;> rfl
        case c3=>have:=HJ.out;simp only[List.length_append,List.length_singleton,maxLen];omega
        case c4=>have:=HJ.out;simp only[List.length_append,List.length_singleton];omega
        case c5=>simp only[World.size_alloc];exact Nat.le_succ_of_le hz
        intro v1 w4 hown1 hg1 _;have hown2:av w4 w1.heap.size v1 (o++[(rl,rh)]++[(y,1073741824)]):=by
         unfold av;rw[aA,List.length_append,List.length_append];exact hown1
        have HG1:=hid (((below_drewN hb _).alloc hz _).grown hg1 (by simp;omega) (cA HO.out));obtain⟨A5,c5,hv5,_,_⟩:=aF hown2;subst hv5;have HO5:=hid hown2;clear hown2 hown1 hg1;go_wp2_with (fail)
        go_roundw
        case rel=>exact⟨k+1,_,A5,c5,by omega,by go_num,rfl,HO5.out,by have:=HI.out.more HS.out hlt (by show inP 2 (bC l bs[k]) (bC r bs[k])=true;rw[HY.out,HBX.out,HBY.out];rfl) HT.out (fun r hr=>by simp at hr;subst hr;rw[HY.out];exact HE.out);rwa [HY.out]at this,HG1.out⟩
        case measure=>simp[intOf];omega
    ·go_wp2_with (fail)
     go_quiet ((first | (go_at_call_of 58 (Value.slice A n c);exact aq (HX.out _)) | (go_at_call_of 58 (Value.slice A' n' c');exact aq (HYY.out _))));go_wp2_with (fail)
     go_roundw
     case rel=>exact⟨k+1,o,Ao,co,by omega,by go_num,rfl,HO.out,HI.out.skip HS.out hlt (by show ¬ inP 2 (bC l bs[k]) (bC r bs[k])=true;rw[HY.out,HBX.out,HBY.out];decide),below_drewN hb _⟩
     case measure=>simp[intOf];omega
  ·have HD:=hid (HI.out.done (show bs.length<=k by omega))
   go_wp2_with (fail);go_ret;exact⟨_,o,rfl,HD.out,aL HO.out (by omega),hb1.trans (hb.mono (by omega))⟩
end Go.Proofs.YtbdmcibcenhpnaaGreatDoor.Sp
