import Derived.Test.YtbdmcibcenhpnaaGreatDoorF0
import Derived.Test.YtbdmcibcenhpnaaGreatDoorF38
import Derived.Laws.EntriesVeiled
namespace Go.Proofs.YtbdmcibcenhpnaaGreatDoor.Ep
set_option maxHeartbeats 64000000
set_option maxRecDepth 100000
open Go Go.RowKit Sp Pa Te Mi De Tr Lt
open Go.Lib (hid)
theorem DP:∀(N:Nat) (l:List Nat),l.Nodup->(∀x∈l,x<N)->l.length<=N:=by
 intro N
 induction N with
 | zero=>
  intro l _ h
  cases l with
  | nil=>simp
  | cons a l=>exact absurd (h a (by simp)) (by omega)
 | succ N ih=>
  intro l hn h;by_cases hm:N∈l
  ·have h1:=List.length_erase_of_mem hm
   have h2:=ih (l.erase N) (hn.erase N) (fun x hx=>by
    have:=h x (List.mem_of_mem_erase hx);have hne:x≠N:=fun e=>by
     subst e;exact(hn.not_mem_erase) hx
    omega)
   omega
  ·have:=ih l hn (fun x hx=>by
    have:=h x hx;have hne:x≠N:=fun e=>hm (e ▸ hx)
    omega)
   omega
structure Cp (rows:Nat->List bZ) (rk:Nat->Nat) (gR B N:Nat) (w0:World):Prop where
 row:cI 5 mD 23 43 w0 gR (gR+1) N rows
 top:w0.heap.size=B
 to_:∀q,q<N->∀r∈rows q,0<=r.to_/\r.to_<N
 len:∀q,q<N->(rows q).length<=100000
 rank:∀x,∀t∈ez rows x,rk t<rk x
 num:N<=100000
theorem yQ {rows:Nat->List bZ} {rk:Nat->Nat} {gR B N:Nat} {w0:World} (HR:Cp rows rk gR B N w0) :
  ∀(n q:Nat) (O:List Nat) (C:Nat->Bool) (ov:Value) (w:World),rk q<n->q<N->LS B gR N O C ov w0 w->FW (ez rows) O C q ->
   Calls Tryz.prog 31 #[.int .i64 (q:Int),.pointer (some ⟨B+3,0,none⟩),.pointer (some ⟨B,0,none⟩),.pointer (some ⟨B+4,0,none⟩),.pointer (some ⟨B+1,0,none⟩)] w (Cm rows B gR N q O C w0):=by
 intro n
 induction n with
 | zero=>intro q O C ov w h;omega
 | succ n ih=>
  intro q O C ov w hn hq hS hP;have IH:=hid ih;have HS:=hid hS;have HP:=hid hP;have c3:=cE hS.cb;have cc:=hS.come hq;have hNN:=HR.num;have i1:(0:Int)<=(q:Int):=Int.natCast_nonneg _;have i2:(q:Int)<(N:Int):=by omega
  rcases hC:C q with _ | _
  case true=>
   have HF:=hid (show Cm rows B gR N q O C w0 (.returned (.tuple #[])) w from⟨O,C,ov,rfl,hS,hP.was HR.rank hC⟩);rw[hC]at cc;clear hS hP ih hC;go_enter Tryz.func31,Tryz.ntmps31;go_wp2_with (fail);go_end0;exact HF.out
  rw[hC]at cc;have hf:=eV (j:=q) hS.J3;obtain⟨w1,hw1⟩:∃w1,w.setCell ⟨B+2,q,none⟩ (.bool true)=w1:=⟨_,rfl⟩;have hS1:=hS.mark q;rw[hw1]at hS1;have HC0:=hid hC;have HS1:=hid hS1;have cr:=cE hS1.rb;have c31:=cE hS1.cb;obtain⟨A,c,hcq,_,hgl,hown⟩:=HR.row.at_ hq;have hlow:=hS1.low;have LY:w1.cell? ⟨gR,q,none⟩=some (.slice A (rows q).length c):=(hlow.cell (p:=⟨gR,q,none⟩) (by simp only;rw[<- HR.top];exact hgl)).trans hcq;have jS:=hid hown;have hln:=HR.len q hq;obtain⟨m,hm⟩:∃m,(rows q).length=m:=⟨_,rfl⟩;have HM:=hid hm;rw[hm]at LY hln;clear hS hP ih hC hS1 hcq hown hlow hm;go_enter Tryz.func31,Tryz.ntmps31;go_wp2_with (fail);have HW1:=hid hw1;clear hw1 cc hf
  go_loopw [20] (fun iv wr=>Hy rows B gR N q O C w0 iv wr) (fun iv _=>m-(intOf iv).toNat)
  case atStart=>exact⟨0,O,Jo C q,ov,Nat.zero_le _,rfl,HS1.out,VIn.start HP.out⟩
  case round=>
   obtain⟨k,O',C',ov',hk,rfl,hls,hvi⟩:=hrel;obtain⟨wo,rfl⟩:∃wo:World,wo=wr:=⟨_,rfl⟩;rw[HM.out]at hk;have HLS:=hid hls;have HVI:=hid hvi;by_cases hlt:k<m
   case neg=>
    have hkm:(rows q).length<=k:=by rw[HM.out];omega
    have hdone:=VIn.done HP.out HC0.out (by
     have e:fM (rows q) k=ez rows q:=by unfold fM ez;rw[List.take_of_length_le hkm]
     rw[e]at hvi;exact hvi)
    have HD:=hid hdone;have co:=cE hls.ob;have hfo:=eV (j:=0) hls.ob;have hol:O'.length<=N:=DP N O' hvi.laid.nodup hls.small;obtain⟨w5,hw5⟩:∃w5,wo.alloc (.cells #[.int .i64 (q:Int)] 3)=w5:=⟨_,rfl⟩;have hb5:Below wo.heap.size wo w5:=by rw[<- hw5];exact(Below.refl _ _).alloc (Nat.le_refl _) _
    have hq5:w5.heap[wo.heap.size]? = some (.cells #[.int .i64 (q:Int)] 3 (0,0)):=by rw[<- hw5];exact heap_alloc_new wo _
    have hS5:=hls.keep hb5;have HS5:=hid hS5;have HQ5:=hid hq5;obtain⟨i0,hi0,hz0,hz1,hz2⟩:=info_parts uR;have HFI:=hid (fun(v:Value) (w9:World) (ho:w9.ownsRow (B+5) 3 1 v (O'.length+1) ((O'.map fun x:Nat=>Value.int .i64 (x:Int))++[.int .i64 (q:Int)])) (hg:w5.grownBy w9 ov'.ownBlock)=>show Cm rows B gR N q O C w0 (.returned (.tuple #[])) (w9.setCell ⟨B+1,0,none⟩ v)/\w9.frozen? ⟨B+1,0,none⟩=false/\w9.cell? ⟨B+1,0,none⟩=some ov' from by
     have h1:w9.heap[B+1]? = some (.cells #[ov'] 56 (0,0)):=(hg.block (B+1) (by have:=HS5.out.size;omega) (fun e=>by have:=(World.ownsRow.lt HS5.out.own (B+1) e.symm).1;omega)).trans HS5.out.ob;exact⟨⟨O'++[q],C',v,rfl,HS5.out.lay hq ho hg,HD.out⟩,eV h1,cE h1⟩)
    have hbs:=HS5.out.size;clear hls hvi hdone hb5 hq5 hS5 cr c31 LY;go_wp2_with (at_builtin;refine wpList_append_lies _ rfl _ _ 56 rfl (B+5) 3 i0 _ 1 8 Tryz.underlying56 hi0 hz0 hz1 hz2 rfl (by decide) ov' O'.length _ rfl HS5.out.own ⟨wo.heap.size,0,none⟩ 1 1 [.int .i64 (q:Int)] rfl rfl (World.news_of_block (cs:=#[.int .i64 (q:Int)]) (t:=3) (fr:=(0,0)) HQ5.out) (by simp[Value.oneCell']) (by decide) (by simp only[maxLen];omega) (by omega) hbs w5.heap.size rfl ?_;intro g cap w9 ho9 hg9 ha9 hl9;obtain⟨hfin,hfz,hcz⟩:=HFI.out _ w9 ho9 hg9;have vK:=hid hfin;clear ho9 hg9 ha9 hl9 hfin);go_end0;exact vK.out
   have hkl:k<(rows q).length:=by rw[HM.out];exact hlt
   have hlow:=hls.low;have G4:=au jS.out (fun x e=>hlow.block x (by have:=(World.ownsRow.lt jS.out x e).2;rw[HR.top]at this;exact this));obtain⟨g,cap,hA,_⟩:=World.ownsRow.form G4 (by omega);injection hA with hA1 _ hA2;subst hA1 hA2;obtain⟨r,hr⟩:∃r,(rows q)[k]=r:=⟨_,rfl⟩;have hto:=HR.to_ q hq r (by rw[<- hr];exact List.getElem_mem hkl);have hcell:∀j,j<5->wo.cell? ⟨g,k*5+j,none⟩=(mD r)[j]?:=fun j hj=>by
    rw[World.ownsRow.cellAt G4 (k*5+j) (by omega),cZ kI (rows q) k j hkl hj,hr]
   obtain⟨a,t,GA,gn,gc,ea,TA,tn,tc⟩:=r;have d0:wo.cell? ⟨g,k*5,none⟩=some (.int .i64 (a:Int)):=hcell 0 (by omega);have d1:wo.cell? ⟨g,k*5+1,none⟩=some (.int .i64 t):=hcell 1 (by omega);have d2:wo.cell? ⟨g,k*5+2,none⟩=some (.slice GA gn gc):=hcell 2 (by omega);have d3:wo.cell? ⟨g,k*5+3,none⟩=some (.int .i64 ea):=hcell 3 (by omega);have d4:wo.cell? ⟨g,k*5+4,none⟩=some (.slice TA tn tc):=hcell 4 (by omega);simp only at hto;obtain⟨tt,rfl⟩:=Int.eq_ofNat_of_zero_le hto.1;have htN:tt<N:=by omega
   obtain⟨w5,hw5⟩:∃w5,wo.alloc (.cells #[.int .i64 (a:Int),.int .i64 (tt:Int),.slice GA gn gc,.int .i64 ea,.slice TA tn tc] 43)=w5:=⟨_,rfl⟩;have hb5:Below wo.heap.size wo w5:=by rw[<- hw5];exact(Below.refl _ _).alloc (Nat.le_refl _) _
   have hq5:Blk w5 wo.heap.size 43 #[.int .i64 (a:Int),.int .i64 (tt:Int),.slice GA gn gc,.int .i64 ea,.slice TA tn tc]:=by rw[<- hw5];exact heap_alloc_new wo _
   have e0:=hq5.cell 0;have e1:=hq5.cell 1;have e2:=hq5.cell 2;have e3:=hq5.cell 3;have e4:=hq5.cell 4;simp only[sD,sE,sF]at e0 e1 e2 e3 e4;have HQ5:=hid hq5;have HB5:=hid hb5;have HRR:=hid hr;have HKL:=hid hkl;have j1:(0:Int)<=(k:Int):=Int.natCast_nonneg _;have j2:(k:Int)<(m:Int):=by omega
   clear hls hvi hlow G4 hr hcell hto hb5 hq5 cr c31 LY;go_wp2_with (fail);refine(kH a (tt:Int) GA gn gc ea TA tn tc w5).mono ?_;rintro e w6 ⟨rfl,hb6⟩;have h56:Below wo.heap.size wo w6:=HB5.out.trans (hb6.mono HB5.out.size);have hs6:=HLS.out.keep h56;have HS6:=hid hs6;have hq6:=HQ5.out.below hb6 (by exact HQ5.out.lt);have f1:=hq6.cell 1;simp only[sD,sE,sF]at f1;have cv:=cE hs6.vb;clear hb6 h56 hs6 hq6 e0 e1 e2 e3 e4 d0 d1 d2 d3 d4;by_cases hg:gn=0
   ·have hsk:=pR HKL.out HRR.out hg
    have hmem:=tW HKL.out HRR.out hg;simp only[Int.toNat_natCast]at hsk hmem;have hpre:=HVI.out.pre HP.out hmem;have hrk:=HR.rank q tt hmem;have HIH:=hid (IH.out tt O' C' ov' w6 (by omega) htN HS6.out hpre);have HNX:=hid (fun O2 C2 ov2 W (h1:LS B gR N O2 C2 ov2 w0 W) (h2:yx (ez rows) O' C' tt O2 C2)=>show Hy rows B gR N q O C w0 (.int .i64 ((k:Int)+1)) W from⟨k+1,O2,C2,ov2,by rw[HM.out];omega,by go_num,h1,by rw[hsk];exact HVI.out.next h2⟩);subst hg;unfold Lp at cv;clear hsk hmem hpre hrk;go_wp2_with (fail);refine HIH.out.mono ?_;rintro e w7 ⟨O2,C2,ov2,rfl,h7,hp7⟩;have HF:=hid (HNX.out O2 C2 ov2 w7 h7 hp7);clear h7 hp7;go_wp2_with (fail)
    go_roundw
    case rel=>exact HF.out
    case measure=>simp[intOf];omega
   ·have hsk:=tX HKL.out HRR.out hg
    have hge:(gn == 0)=false:=beq_eq_false_iff_ne.2 hg;have HF:=hid (show Hy rows B gR N q O C w0 (.int .i64 ((k:Int)+1)) w6 from⟨k+1,O',C',ov',by rw[HM.out];omega,by go_num,HS6.out,by rw[hsk];exact HVI.out⟩);rw[hge];clear hsk hg hge;go_wp2_with (fail)
    go_roundw
    case rel=>exact HF.out
    case measure=>simp[intOf];omega
theorem AZ:(Tryz.prog.info? 4).map (fun i=>(i.zero,i.size,i.bytes))=some (some (.bool false),1,1):=by kernel_rfl
def Cq (rows:Nat->List bZ) (N:Nat) (w:World) (e:Ending) (w':World):Prop:=
 ∃(O:List Nat) (v:Value),e = .returned v/\w'.ownsRow (w.heap.size+5) 3 1 v O.length (O.map fun x:Nat=>Value.int .i64 (x:Int))/\Laid (ez rows) O/\(∀x,x∈O↔x<N)/\Below w.heap.size w w'
def Kl (rows:Nat->List bZ) (B gR N:Nat) (w0:World) (iv:Value) (wr:World):Prop:=
 ∃(k:Nat) (O:List Nat) (C:Nat->Bool) (ov:Value),k<=N/\iv = .int .i64 k/\LS B gR N O C ov w0 wr/\FV (ez rows) k O C
theorem D9 {rows:Nat->List bZ} {rk:Nat->Nat} {gR N:Nat} {w:World} (HR:Cp rows rk gR w.heap.size N w) (hN:1<=N) :
  Calls Tryz.prog 18 #[.slice (some ⟨gR,0,none⟩) N N] w (Cq rows N w):=by
 have hNN:=HR.num;obtain⟨B,hB⟩:∃B,w.heap.size=B:=⟨_,rfl⟩;obtain⟨w1,hw1⟩:∃w1,w.alloc (.cells #[.slice (some ⟨gR,0,none⟩) N N] 53)=w1:=⟨_,rfl⟩;have hs1:w1.heap.size=B+1:=by rw[<- hw1,<- hB];simp
 have hk1:w1.heap[B]? = some (.cells #[.slice (some ⟨gR,0,none⟩) N N] 53 (0,0)):=by rw[<- hw1,<- hB];exact heap_alloc_new w _
 have hb1:Below B w w1:=by rw[<- hw1,<- hB];exact(Below.refl _ _).alloc (Nat.le_refl _) _
 obtain⟨w2,hw2⟩:∃w2,w1.alloc (.cells #[.slice none 0 0] 56)=w2:=⟨_,rfl⟩;have hs2:w2.heap.size=B+1+1:=by rw[<- hw2,<- hs1];simp
 have hk2:w2.heap[B+1]? = some (.cells #[.slice none 0 0] 56 (0,0)):=by rw[<- hw2,<- hs1];exact heap_alloc_new w1 _
 have hb2:Below w1.heap.size w1 w2:=by rw[<- hw2];exact(Below.refl _ _).alloc (Nat.le_refl _) _
 obtain⟨w3,hw3⟩:∃w3,w2.alloc (.cells (madeCells #[.bool false] N) 4)=w3:=⟨_,rfl⟩;have hmk:=run_make_row' (P:=Tryz.prog) 75 4 (.bool false) 1 Tryz.underlying75 AZ rfl .i64 .i64 N (by omega) (by omega) w2;rw[hw3]at hmk;have hs3:w3.heap.size=B+1+1+1:=by rw[<- hw3,<- hs2];simp
 have hk3:w3.heap[B+1+1]? = some (.cells (yd N fun _=>false).toArray 4 (0,0)):=by
  rw[<- hw3,<- hs2,show(yd N fun _=>false).toArray=madeCells #[.bool false] N from by
   apply Array.ext';rw[toList_madeCells_one];unfold yd;exact List.ext_getElem (by simp) fun j h1 h2=>by simp]
  exact heap_alloc_new w2 _
 have hb3:Below w2.heap.size w2 w3:=by rw[<- hw3];exact(Below.refl _ _).alloc (Nat.le_refl _) _
 obtain⟨w4,hw4⟩:∃w4,w3.alloc (.cells #[.slice (some ⟨B+1+1,0,none⟩) N N] 75)=w4:=⟨_,rfl⟩;have hs4:w4.heap.size=B+1+1+1+1:=by rw[<- hw4,<- hs3];simp
 have hk4:w4.heap[B+1+1+1]? = some (.cells #[.slice (some ⟨B+1+1,0,none⟩) N N] 75 (0,0)):=by rw[<- hw4,<- hs3];exact heap_alloc_new w3 _
 have hb4:Below w3.heap.size w3 w4:=by rw[<- hw4];exact(Below.refl _ _).alloc (Nat.le_refl _) _
 obtain⟨wz,hwz⟩:∃wz,w4.alloc (.cells #[.nilFunc] 76)=wz:=⟨_,rfl⟩;have hsz:wz.heap.size=B+5:=by rw[<- hwz];simp[hs4]
 have hkz:wz.heap[B+1+1+1+1]? = some (.cells #[.nilFunc] 76 (0,0)):=by rw[<- hwz,<- hs4];exact heap_alloc_new w4 _
 have hbz:Below w4.heap.size w4 wz:=by rw[<- hwz];exact(Below.refl _ _).alloc (Nat.le_refl _) _
 have cz:=cE hkz;have fz:=eV (j:=0) hkz;obtain⟨w5,hw5⟩:∃w5,wz.setCell ⟨B+1+1+1+1,0,none⟩ (.func (.func 31) #[] #[.pointer (some ⟨B+1+1+1,0,none⟩),.pointer (some ⟨B,0,none⟩),.pointer (some ⟨B+1+1+1+1,0,none⟩),.pointer (some ⟨B+1,0,none⟩)])=w5:=⟨_,rfl⟩;have hs5:w5.heap.size=B+5:=by rw[<- hw5];simpa using hsz
 have hk5:w5.heap[B+4]? = some (.cells #[Lp B] 76 (0,0)):=by
  rw[<- hw5];exact heap_setCell_same wz (B+1+1+1+1) 0 _ _ _ hkz
 have hb5:Below w4.heap.size w4 w5:=by
  rw[<- hw5];exact hbz.setCell (p:=⟨B+1+1+1+1,0,none⟩) (by simp only;omega) _
 have h25:Below w2.heap.size w2 w5:=hb3.trans ((hb4.trans (hb5.mono hb4.size)).mono hb3.size);have h15:Below w1.heap.size w1 w5:=hb2.trans (h25.mono hb2.size);have HST:=hid (show LS B gR N [] (fun _=>false) (.slice none 0 0) w w5 from
  ⟨(h15.block B (by omega)).trans hk1,(h25.block (B+1) (by omega)).trans hk2,((hb4.trans (hb5.mono hb4.size)).block (B+2) (by omega)).trans hk3,(hb5.block (B+3) (by omega)).trans hk4,hk5,World.ownsRow_nil _ _ _ _,by omega,hb1.trans (h15.mono (by omega)),fun x hx=>by cases hx⟩)
 have HBB:=hid hB;have HRR:=hid HR;have hmf:∀(fn:Fn) (first cap:Array Value) (w:World),(Instr.makeFunc fn first cap).run Tryz.prog w = .ok (.func fn first cap) w:=fun _ _ _ _=>rfl
 have HS1:=hid hs5;have k2:=cE ((hb2.block B (by omega)).trans hk1);have k5:=cE HST.out.rb;rw[hs2]at hmk;clear hk1 hk2 hk3 hk4 hk5 hb1 hb2 hb3 hb4 hb5 h25 h15 HR hs5 hsz hkz hbz;go_enter Tryz.func18,Tryz.ntmps18;go_wp2_with (fail);clear hmk hw1 hw2 hw3 hw4 hw5 hs1 hs2 hs3 hs4 hmf k2 k5 cz fz hwz
 go_loopw [13] (fun iv wr=>Kl rows B gR N w iv wr) (fun iv _=>N-(intOf iv).toNat)
 case atStart=>exact⟨0,[],fun _=>false,.slice none 0 0,Nat.zero_le _,rfl,HST.out,.start⟩
 case round=>
  obtain⟨k,O,C,ov,hk,rfl,hls,hvt⟩:=hrel;have HLS:=hid hls;have HVT:=hid hvt;by_cases hlt:k<N
  ·have cv:wr.cell? ⟨B+1+1+1+1,0,none⟩=some (.func (.func 31) #[] #[.pointer (some ⟨B+3,0,none⟩),.pointer (some ⟨B,0,none⟩),.pointer (some ⟨B+4,0,none⟩),.pointer (some ⟨B+1,0,none⟩)]):=cE hls.vb
   have HV:=hid (yQ (show Cp rows rk gR B N w from by rw[<- HBB.out];exact HRR.out) (rk k+1) k O C ov wr (Nat.lt_succ_self _) hlt hls (hvt.pre k));have i1:(k:Int)<(N:Int):=by omega
   clear hls hvt;go_wp2_with (fail);refine HV.out.mono ?_;rintro e w7 ⟨O2,C2,ov2,rfl,h7,hp7⟩;have HF:=hid (show Kl rows B gR N w (.int .i64 ((k:Int)+1)) w7 from⟨k+1,O2,C2,ov2,hlt,by go_num,h7,HVT.out.next hp7⟩);clear h7 hp7 cv;go_wp2_with (fail)
   go_roundw
   case rel=>exact HF.out
   case measure=>simp[intOf];omega
  ·obtain rfl:k=N:=by omega
   have co:=cE hls.ob;have HF:=hid (show Cq rows k w (.returned ov) wr from⟨O,ov,rfl,by rw[HBB.out];exact hls.own,hvt.laid,fun x=>⟨hls.small x,hvt.has x⟩,by rw[HBB.out];exact hls.low⟩);clear hls hvt;go_wp2_with (fail);go_ret;exact HF.out
end Go.Proofs.YtbdmcibcenhpnaaGreatDoor.Ep
