import Derived.Test.YtbdmcibcenhpnaaGreatDoorF11
import Derived.Test.YtbdmcibcenhpnaaGreatDoorF27
import Derived.Shelf.SlSorted.Search
set_option maxRecDepth 100000
namespace Go.Proofs.YtbdmcibcenhpnaaGreatDoor.Sp
set_option maxHeartbeats 64000000
open Go Go.RowKit Go.Shelf Go.Lib Go.Sort
open Go.Lib (hid)
theorem yq (ba br b off n c i:Nat) (lo y2:Int) (W:World) (hin:i<n) (ha:W.cell? ⟨ba,0,none⟩=some (.slice (some ⟨b,off,none⟩) n c)) (h0:W.cell? ⟨br,0,none⟩=some (.int .i64 lo))
  (hc2:W.cell? ⟨b,off+i*2+1,none⟩=some (.int .i64 y2)) :
  Calls Tryz.prog 105 (#[.int .i64 i]++#[.pointer (some ⟨ba,0,none⟩),.pointer (some ⟨br,0,none⟩)]) W fun e w'=>e = .returned (.bool (decide (lo<=y2)))/\∃q,w'=W.drewN q:=by
 have hiz:(i:Int)<(n:Int):=by omega
 go_enter Tryz.func105,Tryz.ntmps105;go_wp2
 go_region
 all_goals go_wp2
 all_goals go_ret
 all_goals exact⟨by first | rfl | simp,1,rfl⟩
theorem yp (ba br b off n c i:Nat) (hi y1:Int) (W:World) (hin:i<n) (ha:W.cell? ⟨ba,0,none⟩=some (.slice (some ⟨b,off,none⟩) n c)) (h1:W.cell? ⟨br,1,none⟩=some (.int .i64 hi))
  (hc1:W.cell? ⟨b,off+i*2,none⟩=some (.int .i64 y1)) :
  Calls Tryz.prog 106 (#[.int .i64 i]++#[.pointer (some ⟨ba,0,none⟩),.pointer (some ⟨br,0,none⟩)]) W fun e w'=>e = .returned (.bool (decide (hi<y1)))/\∃q,w'=W.drewN q:=by
 have hiz:(i:Int)<(n:Int):=by omega
 go_enter Tryz.func106,Tryz.ntmps106;go_wp2
 go_region
 all_goals go_wp2
 all_goals go_ret
 all_goals exact⟨by first | rfl | simp,1,rfl⟩
def F4 (k:Nat) (w:World) (e:Ending) (w':World):Prop:=e = .returned (.int .i64 k)/\Below w.heap.size w w'
theorem rU (ba br n c:Nat) (A:Option Addr) (p:List Span) (lo:Int) (W:World) (h:RS W W.heap.size A n p) (hP:Plain p) (hba:ba<W.heap.size) (hbr:br<W.heap.size) (ha:W.cell? ⟨ba,0,none⟩=some (.slice A n c)) (h0:W.cell? ⟨br,0,none⟩=some (.int .i64 lo)) :
  Calls Tryz.prog 104 #[.int .i64 n,.func (.func 105) #[] #[.pointer (some ⟨ba,0,none⟩),.pointer (some ⟨br,0,none⟩)]] W (F4 (fO p lo) W):=by
 have hl:=h.1;have hs:=hP.short;have eg:∀args w,(callFunc 105 args).run Tryz.prog w = .ok (.enter 105 args) w:=enters_of Tryz.func105 (by kernel_rfl) rfl;have hS:=Any.sort_Search uf 105 #[.pointer (some ⟨ba,0,none⟩),.pointer (some ⟨br,0,none⟩)] n (qN p lo) W eg (by omega)
  (fun m os i hi'=>by
   obtain⟨b,off,y1,y2,rfl,hb,⟨hil,hie⟩,hc1,hc2⟩:=h.at_ hi';refine(yq ba br b off n c i lo y2 _ hi' (cell_grown hba ha m os) (cell_grown hbr h0 m os) (cell_grown hb hc2 m os)).mono ?_;rintro e w' ⟨he,q,hq⟩;refine⟨?_,q,#[],by rw[hq,grow_empty]⟩;rw[he];unfold qN;rw[cM hil,hie])
  (fun a b hab hb hh=>jF hP lo a b hab (by omega) hh)
 change Calls Tryz.prog 104 _ _ _ at hS
 refine hS.mono ?_;rintro e w' ⟨rfl,q,os,rfl⟩;refine⟨?_,below_grown_sl _ W q os (Nat.le_refl _)⟩;unfold fO;rw[hl]
theorem rT (ba br n c:Nat) (A:Option Addr) (p:List Span) (hi:Int) (W:World) (h:RS W W.heap.size A n p) (hP:Plain p) (hba:ba<W.heap.size) (hbr:br<W.heap.size) (ha:W.cell? ⟨ba,0,none⟩=some (.slice A n c)) (h1:W.cell? ⟨br,1,none⟩=some (.int .i64 hi)) :
  Calls Tryz.prog 104 #[.int .i64 n,.func (.func 106) #[] #[.pointer (some ⟨ba,0,none⟩),.pointer (some ⟨br,0,none⟩)]] W (F4 (toN p hi) W):=by
 have hl:=h.1;have hs:=hP.short;have eg:∀args w,(callFunc 106 args).run Tryz.prog w = .ok (.enter 106 args) w:=enters_of Tryz.func106 (by kernel_rfl) rfl;have hS:=Any.sort_Search uf 106 #[.pointer (some ⟨ba,0,none⟩),.pointer (some ⟨br,0,none⟩)] n (toP p hi) W eg (by omega)
  (fun m os i hi'=>by
   obtain⟨b,off,y1,y2,rfl,hb,⟨hil,hie⟩,hc1,hc2⟩:=h.at_ hi';refine(yp ba br b off n c i hi y1 _ hi' (cell_grown hba ha m os) (cell_grown hbr h1 m os) (cell_grown hb hc1 m os)).mono ?_;rintro e w' ⟨he,q,hq⟩;refine⟨?_,q,#[],by rw[hq,grow_empty]⟩;rw[he];unfold toP;rw[cM hil,hie])
  (fun a b hab hb hh=>oy hP hi a b hab (by omega) hh)
 change Calls Tryz.prog 104 _ _ _ at hS
 refine hS.mono ?_;rintro e w' ⟨rfl,q,os,rfl⟩;refine⟨?_,below_grown_sl _ W q os (Nat.le_refl _)⟩;unfold toN;rw[hl]
theorem aB.Ls {w:World} {g cap:Nat} {d:List Span} (h:aB w g cap 0 [] d) {j:Nat} (hj:j<d.length) (x:Int):aB (w.setCell ⟨g,j*2,none⟩ (.int .i64 x)) g cap 0 [] (d.set j (x,d[j].2)):=by
 obtain⟨cur,hb,hs,h1,h2⟩:=h;refine⟨_,hb.aV _ _,by simp[hs],fun i hi=>by simp at hi,fun i _ hi=>?_⟩;have hid:i<d.length:=by simpa using hi
 have h3:=h2 i (Nat.zero_le _) hid;rw[List.getElem_set]
 split
 ·next e=>
  subst e;have hlt:j*2+1<cur.size:=(Array.getElem?_eq_some_iff.1 h3.2).1;unfold At at *;rw[Array.getElem?_setIfInBounds_self_of_lt (by omega),Array.getElem?_setIfInBounds_ne (by omega)];exact⟨rfl,h3.2⟩
 ·next e=>exact h3.other _ (by omega)
theorem aB.Lu {w:World} {g cap:Nat} {d:List Span} (h:aB w g cap 0 [] d) {j:Nat} (hj:j<d.length) (x:Int):aB (w.setCell ⟨g,j*2+1,none⟩ (.int .i64 x)) g cap 0 [] (d.set j (d[j].1,x)):=by
 obtain⟨cur,hb,hs,h1,h2⟩:=h;refine⟨_,hb.aV _ _,by simp[hs],fun i hi=>by simp at hi,fun i _ hi=>?_⟩;have hid:i<d.length:=by simpa using hi
 have h3:=h2 i (Nat.zero_le _) hid;rw[List.getElem_set]
 split
 ·next e=>
  subst e;exact h3.hi _
 ·next e=>exact h3.other _ (by omega)
theorem aB.all {w:World} {base g cap:Nat} {d:List Span} (h:aB w g cap 0 [] d) (hbase:base<=g) (hn:d.length<=cap) (hm:cap<=maxLen):av w base (.slice (some ⟨g,0,none⟩) d.length cap) d:=by
 obtain⟨cur,hb,hs,h1,h2⟩:=h;exact aB.owns (k:=0) (d:=d) ⟨cur,hb,hs,fun j hj=>h2 j (Nat.zero_le _) hj,h2⟩ hbase hn hm
theorem aB.here {w:World} {g cap:Nat} {d:List Span} (h:aB w g cap 0 [] d) {j:Nat} (hj:j<d.length):w.cell? ⟨g,j*2,none⟩=some (.int .i64 d[j].1)/\w.cell? ⟨g,j*2+1,none⟩=some (.int .i64 d[j].2)/\g<w.heap.size/\∀i,w.frozen? ⟨g,i,none⟩=false:=by
 obtain⟨cur,hb,hs,h1,h2⟩:=h;have h3:=h2 j (Nat.zero_le _) hj;exact⟨(hb.cell _).trans h3.1,(hb.cell _).trans h3.2,hb.lt,hb.frozen⟩
theorem RS.part {w:World} {B n:Nat} {b off:Nat} {l:List Span} (h:RS w B (some ⟨b,off,none⟩) n l) {f t:Nat} (ht:t<=n) (hft:f<t):RS w B (some ⟨b,off+f*2,none⟩) (t-f) ((l.take t).drop f):=by
 have hl:=h.1;refine⟨by simp;omega,fun hn=>?_⟩;obtain⟨b',off',e,hb,hcell⟩:=h.2 (by omega);injection e with e;injection e with e1 e2 _;subst e1 e2;refine⟨b,off+f*2,rfl,hb,fun j hj=>?_⟩;have hl':f+j<l.length:=by simp at hj;omega
 obtain⟨h1,h2⟩:=hcell (f+j) hl';simp only[List.getElem_drop,List.getElem_take];rw[show off+f*2+j*2=off+(f+j)*2 from by omega];exact⟨h1,h2⟩
theorem vE (A:Option Addr) (n c:Nat) (p:List Span) (lo hi:Int) (w:World) (h:RS w w.heap.size A n p) (hP:Plain p) (hc:n<=c) (hr:Ok (lo,hi)) :
  Calls Tryz.prog 89 #[.slice A n c,.agg #[.int .i64 lo,.int .i64 hi]] w (aP (fun x=>mem p x/\mem [(lo,hi)] x) w):=by
 obtain⟨w1,hw1⟩:∃w1,w.alloc (.cells #[.slice A n c] 48)=w1:=⟨_,rfl⟩;obtain⟨w2,hw2⟩:∃w2,w1.alloc (.cells #[.int .i64 lo,.int .i64 hi] 47)=w2:=⟨_,rfl⟩;have hs1:w1.heap.size=w.heap.size+1:=by rw[<- hw1];simp
 have hs2:w2.heap.size=w.heap.size+2:=by rw[<- hw2];simp[hs1]
 have hb1:Below w.heap.size w w1:=by rw[<- hw1];exact(Below.refl _ _).alloc (Nat.le_refl _) _
 have hb12:Below w1.heap.size w1 w2:=by rw[<- hw2];exact(Below.refl _ _).alloc (Nat.le_refl _) _
 have HB2:=hid (hb1.trans (hb12.mono (by omega)));have ca:w2.cell? ⟨w.heap.size,0,none⟩=some (.slice A n c):=by rw[hb12.cell (p:=⟨w.heap.size,0,none⟩) (by simp;omega),<- hw1];exact cell_new_sl _ _ _
 have cr:w2.cell? ⟨w1.heap.size,0,none⟩=some (.int .i64 lo)/\w2.cell? ⟨w1.heap.size,1,none⟩=some (.int .i64 hi):=by rw[<- hw2];constructor <;> (rw[World.cell?_alloc_at _ _ _ _ (by simp)];rfl)
 rw[hs1]at cr;obtain⟨c0,c1⟩:=cr;have hr2:=(h.ah hb1).ah hb12;have hpl:=h.1;have hshort:=hP.short;have hft:=EC hP lo;have htn:=yV hP hi;have HC1:=hid (rU w.heap.size (w.heap.size+1) n c A p lo w2 hr2 hP (by omega) (by omega) ca c0);have HC2:=hid (fun W (hb:Below w2.heap.size w2 W)=>rT w.heap.size (w.heap.size+1) n c A p hi W (hr2.ah hb) hP (by have:=hb.size;omega) (by have:=hb.size;omega) ((hb.cell (by simp;omega)).trans ca) ((hb.cell (by simp;omega)).trans c1));have HP:=hid hP;clear hP;have HR:=hid hr;clear hr;have HR2:=hid hr2;clear hr2 h hb1 hb12;have CA:=hid ca;have C0:=hid c0;have C1:=hid c1;clear c0 c1;have E8:=hid (ER HP.out HR.out);have MQ:=hid (fun hh=>BX HP.out (r:=(lo,hi)) hh);have HSL:=hid (fq HP.out (lo,hi));obtain⟨f,hf⟩:∃f,fO p lo=f:=⟨_,rfl⟩;obtain⟨t,ht⟩:∃t,toN p hi=t:=⟨_,rfl⟩;have HF:=hid hf;have HT:=hid ht;rw[hf]at HC1 hft;rw[ht]at HC2 htn;clear hf ht;go_enter Tryz.func89,Tryz.ntmps89;go_wp2_with (fail);refine HC1.out.mono ?_;rintro e w3 ⟨rfl,hb3⟩;have hs3:=hb3.size;clear ca;have ca3:w3.cell? ⟨w.heap.size,0,none⟩=some (.slice A n c):=(hb3.cell (by simp;omega)).trans CA.out;have HB3:=hid (HB2.out.trans (hb3.mono (by omega)));have HC3:=hid (HC2.out w3 hb3);have HR3:=hid (HR2.out.ah hb3);have d0:w3.cell? ⟨w.heap.size+1,0,none⟩=some (.int .i64 lo):=(hb3.cell (by simp;omega)).trans C0.out;have d1:w3.cell? ⟨w.heap.size+1,1,none⟩=some (.int .i64 hi):=(hb3.cell (by simp;omega)).trans C1.out;clear hb3;go_wp2_with (fail);refine HC3.out.mono ?_;rintro e w4 ⟨rfl,hb4⟩;have hs4:=hb4.size;have ca4:w4.cell? ⟨w.heap.size,0,none⟩=some (.slice A n c):=(hb4.cell (by simp;omega)).trans ca3;have e0:w4.cell? ⟨w.heap.size+1,0,none⟩=some (.int .i64 lo):=(hb4.cell (by simp;omega)).trans d0;have e1:w4.cell? ⟨w.heap.size+1,1,none⟩=some (.int .i64 hi):=(hb4.cell (by simp;omega)).trans d1;have HB4:=hid (HB3.out.trans (hb4.mono (by omega)));have HR4:=hid (HR3.out.ah hb4);clear hb4 ca3 d0 d1;by_cases hle:t<=f
 ·go_wp2_with (fail)
  go_ret;exact⟨_,[],rfl,MQ.out (by rw[HF.out,HT.out];exact hle),World.ownsRow_nil _ _ _ _,HB4.out⟩
 ·obtain⟨b,off,rfl,hb,_⟩:=HR4.out.2 (by omega)
  clear hw1 hw2;obtain⟨s,hsd⟩:∃s,eX p (lo,hi)=s:=⟨_,rfl⟩;have hsl:s.length=t-f:=by rw[<- hsd,HSL.out,<- HF.out,<- HT.out]
  have hsr:RS w4 w4.heap.size (some ⟨b,off+f*2,none⟩) s.length s:=by
   rw[hsl,<- hsd];unfold eX;rw[HF.out,HT.out];exact HR4.out.part (by omega) (by omega)
  have La:=hid (EP HP.out (r:=(lo,hi)) (by rw[hsd];omega));obtain⟨k,hk⟩:∃k,s.length=k+1:=⟨s.length-1,by omega⟩;obtain⟨x1,x2,hx⟩:∃x1 x2,yE s 0=(x1,x2):=⟨_,_,rfl⟩;have HX:=hid hx;clear hx;have HSD:=hid hsd;clear hsd;have HK:=hid hk;have hkt:t-f=k+1:=by omega
  rw[hk]at hsr;have hkc:k+1<=c-f:=by omega
  have hkm:k<=1073741825:=by omega
  have HSR:=hid hsr;clear hsr;go_wp2_with (fail);refine((show Calls Tryz.prog 63 #[.slice (some ⟨b,off+f*2,none⟩) (k+1) (c-f)] w4 (F6 s w4)from by
   have h5:=n9 (some ⟨b,off+f*2,none⟩) (c-f) s w4 (by rw[HK.out];exact HSR.out) (by rw[HK.out];omega) (fun e=>by cases e);rw[HK.out]at h5;exact h5)).mono ?_
  rintro e w5 ⟨v,rfl,ho,hb5⟩;obtain⟨g,cap,hv,hbg,hgl⟩:=World.ownsRow.form ho (by omega);subst hv;have hs5:=hb5.size;have f0:w5.cell? ⟨w.heap.size+1,0,none⟩=some (.int .i64 lo):=(hb5.cell (by simp;omega)).trans e0;have f1:w5.cell? ⟨w.heap.size+1,1,none⟩=some (.int .i64 hi):=(hb5.cell (by simp;omega)).trans e1;have HB5:=hid (HB4.out.trans (hb5.mono (by omega)));obtain⟨hjm,_,hcap1,hcap2⟩:=aB.start ho;obtain⟨q1,q2,q3,q4⟩:=hjm.here (j:=0) (by omega);rw[<- cM (show 0<s.length by omega),HX.out,Nat.zero_mul]at q1;obtain⟨M,hM⟩:∃M,max x1 lo=M:=⟨_,rfl⟩;have HM1:=hid (fun n=>(show aB ((w5.drewN n).setCell ⟨g,0,none⟩ (.int .i64 M)) g cap 0 [] (eW p (lo,hi))from by
   have h6:=(hjm.drewN n).Ls (j:=0) (by omega) M;rw[Nat.zero_mul]at h6;unfold eW;rw[HSD.out,HX.out];simp only;rw[hM,<- show s[0].2=x2 by rw[<- cM (show 0<s.length by omega),HX.out]];exact h6))
  have HFL:=hid (iX p (lo,hi));rw[HSD.out,HK.out]at HFL;obtain⟨F,hF⟩:∃F,eW p (lo,hi)=F:=⟨_,rfl⟩;rw[hF]at HM1 HFL La;rw[HSD.out,HK.out]at La;rw[HK.out]at hcap1;obtain⟨w6,hw6⟩:∃w6,(w5.setCell ⟨g,0,none⟩ (.int .i64 M)).drew=w6:=⟨_,rfl⟩;have hm6:aB w6 g cap 0 [] F:=by rw[<- hw6];exact(HM1.out 0).drew
  have g1:w6.cell? ⟨w.heap.size+1,1,none⟩=some (.int .i64 hi):=by
   rw[<- hw6];show(w5.setCell ⟨g,0,none⟩ (.int .i64 M)).cell? ⟨w.heap.size+1,1,none⟩=_;rw[World.cell?_setCell_other]
   ·exact f1
   ·intro e
    injection e with e;omega
  have hb56:Below w4.heap.size w5 w6:=by rw[<- hw6];exact((Below.refl _ _).setCell hbg _).drew
  have hs6:w6.heap.size=w5.heap.size:=by rw[<- hw6];simp
  have HB6:=hid (HB5.out.trans (hb56.mono (by omega)));obtain⟨r1,r2,r3,r4⟩:=hm6.here (j:=k) (by rw[HFL.out];omega);obtain⟨y1,y2,hy⟩:∃y1 y2,yE F k=(y1,y2):=⟨_,_,rfl⟩;have e2:F[k]'(by rw[HFL.out];omega)=(y1,y2):=by rw[<- cM (by rw[HFL.out];omega),hy]
  rw[e2]at r2;obtain⟨m,hm⟩:∃m,min y2 hi=m:=⟨_,rfl⟩;have HM2:=hid (show aB (w6.setCell ⟨g,k*2+1,none⟩ (.int .i64 m)) g cap 0 [] (gj p (lo,hi))from by
   have h6:=hm6.Lu (j:=k) (by rw[HFL.out];omega) m;have h7:=La.out;simp only[Nat.add_sub_cancel,hy,hm]at h7;rw[e2]at h6;simp only at h6;rw[h7]at h6;exact h6)
  have HCL:=hid (show(gj p (lo,hi)).length=k+1 from by rw[<- La.out,List.length_set,HFL.out]);clear q2 r1 hm6 hjm ho hb5 hb56 e0 e1 ca4 hF HSR hkt hk e2 hy;rw[HK.out];have hk1:((k+1:Nat):Int)-1=(k:Int):=by omega
  have hgw:w.heap.size<=g:=by omega
  have vK:=hid (fun n=>show av (((w6.setCell ⟨g,k*2+1,none⟩ (.int .i64 m))).drewN n) w.heap.size (.slice (some ⟨g,0,none⟩) (k+1) cap) (gj p (lo,hi))from by
   have h8:=(HM2.out.drewN n).all (base:=w.heap.size) hgw (by rw[HCL.out];omega) hcap2;rw[HCL.out]at h8;exact h8)
  have HBF:=hid (fun n=>show Below w.heap.size w (((w6.setCell ⟨g,k*2+1,none⟩ (.int .i64 m))).drewN n)from below_drewN (HB6.out.setCell hgw _) n);by_cases hmx:x1<lo
  ·obtain rfl:lo=M:=by omega
   by_cases hmy:hi<y2
   ·obtain rfl:hi=m:=by omega
    go_wp2_with (fail)
    go_region
    go_wp2_with (fail)
    go_region
    go_wp2_with (fail);go_ret;exact⟨_,gj p (lo,hi),rfl,E8.out,vK.out _,HBF.out _⟩
   ·obtain rfl:y2=m:=by omega
    go_wp2_with (fail)
    go_region
    go_wp2_with (fail)
    go_region
    go_wp2_with (fail);go_ret;exact⟨_,gj p (lo,hi),rfl,E8.out,vK.out _,HBF.out _⟩
  ·obtain rfl:x1=M:=by omega
   by_cases hmy:hi<y2
   ·obtain rfl:hi=m:=by omega
    go_wp2_with (fail)
    go_region
    go_wp2_with (fail)
    go_region
    go_wp2_with (fail);go_ret;exact⟨_,gj p (lo,hi),rfl,E8.out,vK.out _,HBF.out _⟩
   ·obtain rfl:y2=m:=by omega
    go_wp2_with (fail)
    go_region
    go_wp2_with (fail)
    go_region
    go_wp2_with (fail);go_ret;exact⟨_,gj p (lo,hi),rfl,E8.out,vK.out _,HBF.out _⟩
end Go.Proofs.YtbdmcibcenhpnaaGreatDoor.Sp
namespace Go.Proofs.YtbdmcibcenhpnaaGreatDoor.Sp
set_option maxHeartbeats 64000000
open Go Go.RowKit
open Go.Lib (hid)
def Ik (p q:List Span) (w2:World) (out i j:Value) (wr:World):Prop:=
 ∃(a b:Nat) (o:List Span),a<=p.length/\b<=q.length/\i = .int .i64 a/\j = .int .i64 b/\av wr w2.heap.size out o/\bE p q a b o/\Below w2.heap.size w2 wr
theorem Ae {p q o:List Span} {a b:Nat} {lo1 hi1 lo2 hi2 L H:Int} (h:bE p q a b o) (hp:Plain p) (hq:Plain q) (h1:∃hl:a<p.length,p[a]=(lo1,hi1)) (h2:∃hl:b<q.length,q[b]=(lo2,hi2)) (hlt:hi1<hi2) (eL:max lo1 lo2=L) (eH:min hi1 hi2=H):bE p q (a+1) b (gV o L H):=by
 obtain⟨hl1,e1⟩:=h1;obtain⟨hl2,e2⟩:=h2;have:=h.left hp hq hl1 hl2 (by rw[e1,e2];exact hlt);rw[e1,e2]at this;simp only[eL,eH]at this;exact this
theorem xw {p q o:List Span} {a b:Nat} {lo1 hi1 lo2 hi2 L H:Int} (h:bE p q a b o) (hp:Plain p) (hq:Plain q) (h1:∃hl:a<p.length,p[a]=(lo1,hi1)) (h2:∃hl:b<q.length,q[b]=(lo2,hi2)) (hlt:hi2<=hi1) (eL:max lo1 lo2=L) (eH:min hi1 hi2=H):bE p q a (b+1) (gV o L H):=by
 obtain⟨hl1,e1⟩:=h1;obtain⟨hl2,e2⟩:=h2;have:=h.right hp hq hl1 hl2 (by rw[e1,e2];exact hlt);rw[e1,e2]at this;simp only[eL,eH]at this;exact this
theorem FA {w:World} {A:Option Addr} {q:List Span} (h:RS w w.heap.size A q.length q) (hq:Plain q) (h1:q.length=1):∃b off,∃lo hi:Int,A=some ⟨b,off,none⟩/\b<w.heap.size/\q=[(lo,hi)]/\Ok (lo,hi)/\w.cell? ⟨b,off,none⟩=some (.int .i64 lo)/\w.cell? ⟨b,off+1,none⟩=some (.int .i64 hi):=by
 obtain⟨b,off,lo,hi,e,hb,⟨hl,he⟩,hc1,hc2⟩:=h.at_ (k:=0) (by omega);rw[Nat.zero_mul,Nat.add_zero]at hc1 hc2;refine⟨b,off,lo,hi,e,hb,?_,by rw[<- he];exact hq.2 _ (List.getElem_mem hl),hc1,hc2⟩;apply List.ext_getElem
 ·simp[h1]
 ·intro j h2 h3
  obtain rfl:j=0:=by omega
  simpa using he
theorem uI (A A':Option Addr) (n n' c c':Nat) (l r:List Span) (w:World) (h:RS w w.heap.size A n l) (h':RS w w.heap.size A' n' r) (hn:n<=1099511627776) (hn':n'<=1099511627776) (hc:n<=c) (hc':n'<=c') :
  Calls Tryz.prog 68 #[.slice A n c,.slice A' n' c'] w (aP (fun x=>mem l x/\mem r x) w):=by
 go_enter Tryz.func68,Tryz.ntmps68;go_wp2_with (fail);refine(dz A n c l _ h hn hc).mono ?_;rintro e w1 ⟨A1,n1,c1,p,rfl,hP,hr1,hs1,hnc1,hb1⟩;have h1:=h'.ah hb1;have HPS:=hid hP.2;have HP:=hid hP.1;clear hP;go_wp2_with (fail);refine(dz A' n' c' r _ h1 hn' hc').mono ?_;rintro e w2 ⟨A2,n2,c2,q,rfl,hQ,hr2,hs2,hnc2,hb2⟩;have hr1:=hr1.ah hb2;have HQS:=hid hQ.2;have HQ:=hid hQ.1;clear hQ;have hz1:=hb1.size;have hz2:=hb2.size;obtain rfl:p.length=n1:=hr1.1;obtain rfl:q.length=n2:=hr2.1;have HBB:=hid (hb1.trans (hb2.mono hz1));by_cases hp1:p.length=1
 ·obtain⟨b,off,lo,hi,rfl,hb,hpe,hok,hc1,hc2⟩:=FA hr1 HP.out hp1
  have HPE:=hid hpe;clear hpe;have HOK:=hid hok;clear hok;have HR2:=hid hr2;clear hr2 hr1 h1;rw[hp1];go_wp2_with (fail);refine(vE A2 q.length c2 q lo hi _ HR2.out HQ.out hnc2 HOK.out).mono ?_;rintro e w3 ⟨v,out,rfl,his,ho,hb3⟩;have HIS:=hid his;clear his;go_wp2_with (fail);go_ret;exact⟨v,out,rfl,HIS.out.congr fun x=>by rw[<- HPE.out,HPS.out,HQS.out];exact and_comm,aL ho (by omega),HBB.out.trans (hb3.mono (by omega))⟩
 by_cases hq1:q.length=1
 ·obtain⟨b,off,lo,hi,rfl,hb,hpe,hok,hc1,hc2⟩:=FA hr2 HQ.out hq1
  have HPE:=hid hpe;clear hpe;have HOK:=hid hok;clear hok;have HR1:=hid hr1;clear hr2 hr1 h1;have hp2 : ¬ ((p.length:Int)=1):=by omega
  rw[hq1];go_wp2_with (fail);refine(vE A1 p.length c1 p lo hi _ HR1.out HP.out hnc1 HOK.out).mono ?_;rintro e w3 ⟨v,out,rfl,his,ho,hb3⟩;have HIS:=hid his;clear his;go_wp2_with (fail);go_ret;exact⟨v,out,rfl,HIS.out.congr fun x=>by rw[<- HPE.out,HPS.out,HQS.out],aL ho (by omega),HBB.out.trans (hb3.mono (by omega))⟩
 have hp2 : ¬ ((p.length:Int)=1):=by omega
 have hq2 : ¬ ((q.length:Int)=1):=by omega
 go_wp2_with (fail);refine(kD _ _ (by omega) (by omega)).mono ?_;rintro e w3 ⟨v0,rfl,ho0,hb0⟩;have HO0:=hid ho0;clear ho0;go_wp2_with (fail)
 go_loopw [7,8,9] (fun out i j wr=>Ik p q w2 out i j wr) (fun _ i j _=>(p.length-(intOf i).toNat)+(q.length-(intOf j).toNat))
 case atStart=>exact⟨0,0,[],Nat.zero_le _,Nat.zero_le _,rfl,rfl,HO0.out,bE.start p q,hb0⟩
 case round=>
  obtain⟨a,b,o,ha,hb,rfl,rfl,ho,hi,hbl⟩:=hrel;have hz:=hbl.size;have HO:=hid ho;clear ho;have HI:=hid hi;clear hi;by_cases hai:a<p.length
  ·by_cases hbj:b<q.length
   ·obtain⟨b1,off1,lo1,hi1,hA1,N7,hlk1,hc11,hc12⟩:=(hr1.below hbl).at_ hai
    obtain⟨b2,off2,lo2,hi2,hA2,N0,hlk2,hc21,hc22⟩:=(hr2.below hbl).at_ hbj;have hbs1:b1<wr.heap.size:=by omega
    have hbs2:b2<wr.heap.size:=by omega
    have HL1:=hid hlk1;clear hlk1;have HL2:=hid hlk2;clear hlk2;rw[hA1,hA2];clear hA1 hA2;by_cases hlt:hi1<hi2
    ·have HNX:=hid (Ae HI.out HP.out HQ.out HL1.out HL2.out hlt rfl rfl)
     go_wp2_with (fail)
     go_still_tail 23,(by kernel_rfl)
     change wpList _ _ _ _ _ wr.drew
     go_wp2_with (fail);refine(jx w2.heap.size _ o (max lo1 lo2) (min hi1 hi2) wr.drew HO.out hz (by have:=HI.out.plain.short;omega)).mono ?_;rintro e w3 ⟨v3,rfl,ho3,hb3⟩;have hz3:=hb3.size;have L8:w3.cell? ⟨b1,off1+a*2+1,none⟩=some (.int .i64 hi1):=(hb3.cell N7).trans hc12;have L7:w3.cell? ⟨b2,off2+b*2+1,none⟩=some (.int .i64 hi2):=(hb3.cell N0).trans hc22;have HO3:=hid ho3;clear ho3;clear hc11 hc12 hc21 hc22;go_wp2_with (fail);go_quiet (fail);go_wp2_with (fail)
     go_roundw
     case rel=>exact⟨a+1,b,_,by omega,by omega,by go_num,rfl,HO3.out,HNX.out,below_drewN ((hbl.drew).trans hb3) _⟩
     case measure=>simp[intOf];omega
    ·have HNX:=hid (xw HI.out HP.out HQ.out HL1.out HL2.out (by omega) rfl rfl)
     go_wp2_with (fail)
     go_still_tail 23,(by kernel_rfl)
     change wpList _ _ _ _ _ wr.drew
     go_wp2_with (fail);refine(jx w2.heap.size _ o (max lo1 lo2) (min hi1 hi2) wr.drew HO.out hz (by have:=HI.out.plain.short;omega)).mono ?_;rintro e w3 ⟨v3,rfl,ho3,hb3⟩;have hz3:=hb3.size;have L8:w3.cell? ⟨b1,off1+a*2+1,none⟩=some (.int .i64 hi1):=(hb3.cell N7).trans hc12;have L7:w3.cell? ⟨b2,off2+b*2+1,none⟩=some (.int .i64 hi2):=(hb3.cell N0).trans hc22;have HO3:=hid ho3;clear ho3;clear hc11 hc12 hc21 hc22;go_wp2_with (fail);go_quiet (fail);go_wp2_with (fail)
     go_roundw
     case rel=>exact⟨a,b+1,_,by omega,by omega,rfl,by go_num,HO3.out,HNX.out,below_drewN ((hbl.drew).trans hb3) _⟩
     case measure=>simp[intOf];omega
   ·have HD:=hid (HI.out.done (.inr (by omega)))
    go_wp2_with (fail);go_ret;exact⟨_,o,rfl,HD.out.congr fun x=>by rw[HPS.out,HQS.out],aL HO.out (by omega),(hb1.trans (hb2.mono hz1)).trans (hbl.mono (by omega))⟩
  ·have HD:=hid (HI.out.done (.inl (by omega)))
   go_wp2_with (fail);go_ret;exact⟨_,o,rfl,HD.out.congr fun x=>by rw[HPS.out,HQS.out],aL HO.out (by omega),(hb1.trans (hb2.mono hz1)).trans (hbl.mono (by omega))⟩
end Go.Proofs.YtbdmcibcenhpnaaGreatDoor.Sp
