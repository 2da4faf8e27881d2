import Derived.Test.YtbdmcibcenhpnaaGreatDoorF0
import Derived.Test.YtbdmcibcenhpnaaGreatDoorF49
namespace Go.Proofs.YtbdmcibcenhpnaaGreatDoor.Ep
set_option maxHeartbeats 64000000
set_option maxRecDepth 100000
open Go Go.RowKit Sp Pa Te Mi De Tr Lt
open Go.Lib (hid)
theorem pX (w:World):Calls Tryz.prog 12 #[dsc 0 0 0 0 none 0 0 none 0 0,dsc 0 0 0 0 none 0 0 none 0 0] w (dY true w):=
 uq 0 0 0 0 none none 0 0 none none 0 0 [] [] w (RRu.dS _ _) (RRu.dS _ _) (Nat.zero_le _) (RFi.dS _ _) (RFi.dS _ _) (Nat.zero_le _) (fun q h=>by cases h) (fun q h=>by cases h)
theorem Bp (i o n s:Int) (A:Option Addr) (cr:Nat) (B:Option Addr) (cf:Nat) (rs:List RuL) (fs:List FiL) (w:World) (hd:DM w ⟨i,o,n,s,A,cr,B,cf,rs,fs⟩) (hT:Fi.jh w) (hw:(aW i o n s rs fs).1≠0):Calls Tryz.prog 4 #[dsc i o n s A rs.length cr B fs.length cf] w (dY true w):=by
 obtain⟨w1,hw1⟩:∃w1,w.alloc (.cells #[.int .i64 i,.int .i64 o,.int .i64 n,.int .i64 s,.slice A rs.length cr,.slice B fs.length cf] 26)=w1:=⟨_,rfl⟩;have hs1:w1.heap.size=w.heap.size+1:=by rw[<- hw1];simp
 have hb1:Below w.heap.size w w1:=by rw[<- hw1];exact(Below.refl _ _).alloc (Nat.le_refl _) _
 have hq1:Blk w1 w.heap.size 26 #[.int .i64 i,.int .i64 o,.int .i64 n,.int .i64 s,.slice A rs.length cr,.slice B fs.length cf]:=by rw[<- hw1];exact heap_alloc_new w _
 have H1:=hid (show w.heap.size<=w1.heap.size by omega);have HBW:=hid (fun W (h:Below w1.heap.size w1 W)=>show Below w.heap.size w W from hb1.trans (h.mono H1.out));have HDB:=hid (fun W (h:Below w1.heap.size w1 W)=>show DB W w.heap.size i o n s A rs.length cr B fs.length cf from by
  have h1:=hq1.below h (by omega);exact⟨h1.cell 0,h1.cell 1,h1.cell 2,h1.cell 3,h1.cell 4,h1.cell 5⟩)
 have HTB:=hid (fun W (h:Below w1.heap.size w1 W)=>show Fi.jh W from hT.next (HBW.out W h));have HDM:=hid (fun W (h:Below w1.heap.size w1 W)=>show DM W ⟨i,o,n,s,A,cr,B,cf,rs,fs⟩from hd.below (HBW.out W h));have HA:=hid (fun W (h:Below w1.heap.size w1 W)=>mq W (HTB.out W h));have HSM:=hid (Rg.dM i o n s A cr B cf rs fs w1 (HDM.out w1 (Below.refl _ _)).rules (HDM.out w1 (Below.refl _ _)).finals);have HFE:=hid (fun W (h:Below w1.heap.size w1 W)=>uZ i o n s A cr B cf rs fs W (HDM.out W h) (HTB.out W h) 2 (.inl rfl) (by unfold jU;rw[if_neg hw]));have HRT:=hid (decide_eq_false hw);clear hw;obtain⟨p0,p1,p2,p3,p4,p5⟩:=HDB.out w1 (Below.refl _ _);clear hd hT hb1 hq1;go_enter Tryz.func4,Tryz.ntmps4;go_wp2_with (fail);refine HSM.out.mono ?_;rintro e w2 ⟨b,rfl,_,hb2⟩;have H2:=hid hb2;clear hb2 p0 p1 p2 p3 p4 p5;obtain⟨p0,p1,p2,p3,p4,p5⟩:=HDB.out w2 H2.out
 cases b with
 | false=>
  go_wp2_with (fail);refine(HA.out w2 H2.out).mono ?_;rintro e wq ⟨rfl,hbq⟩;have HQ:=hid (HBW.out wq (ak H2.out hbq));clear hbq;go_wp2_with (fail);go_ret;exact⟨rfl,HQ.out⟩
 | true=>
 go_wp2_with (fail);refine(HFE.out w2 H2.out).mono ?_;rintro e w3 ⟨rfl,hb⟩;have H3:=hid (ak H2.out hb);obtain⟨w4,hw4,hq4,hl4,hb4⟩:=ay w3 #[.int .i64 0,.int .i64 0,.int .i64 0,.int .i64 0,.slice none 0 0,.slice none 0 0] 26;have HQ4:=hid hq4;have HL4:=hid hl4;have HW4:=hid hw4;have HB4:=hid hb4;have H4:=hid (ak H3.out hb4);clear hw4 hq4 hl4 hb4 hb p0 p1 p2 p3 p4 p5;go_upto_region 4 with(fail);try rw[HW4.out]
 obtain⟨p0,p1,p2,p3,p4,p5⟩:=HDB.out w4 H4.out;go_wp2_with (fail);refine(cw i o n s A cr B cf rs fs w4 (HDM.out w4 H4.out).rules (HDM.out w4 H4.out).rl (HDM.out w4 H4.out).finals (HDM.out w4 H4.out).fl).mono ?_;rintro e w5 ⟨rfl,hb⟩;have hq5:=HQ4.out.below hb HL4.out;have H5:=hid (ak H4.out hb);clear hb p0 p1 p2 p3 p4 p5;obtain⟨p0,p1,p2,p3,p4,p5⟩:=HDB.out w5 H5.out;rw[HRT.out];have z0:=hq5.cell 0;have z1:=hq5.cell 1;have z2:=hq5.cell 2;have z3:=hq5.cell 3;have z4:=hq5.cell 4;have z5:=hq5.cell 5;simp only[sD,sE,sF]at z0 z1 z2 z3 z4 z5;clear hq5;go_wp2_with (fail);refine(pX w5).mono ?_;rintro e w6 ⟨rfl,hb⟩;have H6:=hid (ak H5.out hb);clear hb;go_wp2_with (fail);refine(HA.out w6 H6.out).mono ?_;rintro e wq ⟨rfl,hbq⟩;have HQ:=hid (HBW.out wq (ak H6.out hbq));clear hbq;go_wp2_with (fail);go_ret;exact⟨rfl,HQ.out⟩
theorem xV (i o s:Int) (N:Nat) (A:Option Addr) (cr:Nat) (B:Option Addr) (cf:Nat) (rs:List RuL) (fs:List FiL) (w:World) (hd:DM w ⟨i,o,(N:Int),s,A,cr,B,cf,rs,fs⟩) (hT:Fi.jh w) (hw:(aW i o (N:Int) s rs fs).1=0) (hn : ¬ (gQ rs N<=4096/\dI rs fs N)):Calls Tryz.prog 4 #[dsc i o (N:Int) s A rs.length cr B fs.length cf] w (dY true w):=by
 obtain⟨w1,hw1⟩:∃w1,w.alloc (.cells #[.int .i64 i,.int .i64 o,.int .i64 (N:Int),.int .i64 s,.slice A rs.length cr,.slice B fs.length cf] 26)=w1:=⟨_,rfl⟩;have hs1:w1.heap.size=w.heap.size+1:=by rw[<- hw1];simp
 have hb1:Below w.heap.size w w1:=by rw[<- hw1];exact(Below.refl _ _).alloc (Nat.le_refl _) _
 have hq1:Blk w1 w.heap.size 26 #[.int .i64 i,.int .i64 o,.int .i64 (N:Int),.int .i64 s,.slice A rs.length cr,.slice B fs.length cf]:=by rw[<- hw1];exact heap_alloc_new w _
 have H1:=hid (show w.heap.size<=w1.heap.size by omega);have HBW:=hid (fun W (h:Below w1.heap.size w1 W)=>show Below w.heap.size w W from hb1.trans (h.mono H1.out));have HDB:=hid (fun W (h:Below w1.heap.size w1 W)=>show DB W w.heap.size i o (N:Int) s A rs.length cr B fs.length cf from by
  have h1:=hq1.below h (by omega);exact⟨h1.cell 0,h1.cell 1,h1.cell 2,h1.cell 3,h1.cell 4,h1.cell 5⟩)
 have HTB:=hid (fun W (h:Below w1.heap.size w1 W)=>show Fi.jh W from hT.next (HBW.out W h));have HDM:=hid (fun W (h:Below w1.heap.size w1 W)=>show DM W ⟨i,o,(N:Int),s,A,cr,B,cf,rs,fs⟩from hd.below (HBW.out W h));have HA:=hid (fun W (h:Below w1.heap.size w1 W)=>mq W (HTB.out W h));have HSM:=hid (Rg.dM i o (N:Int) s A cr B cf rs fs w1 (HDM.out w1 (Below.refl _ _)).rules (HDM.out w1 (Below.refl _ _)).finals);have HFE:=hid (fun W (h:Below w1.heap.size w1 W)=>show Calls Tryz.prog 11 #[dsc i o (N:Int) s A rs.length cr B fs.length cf] W (vM 4 W)from by
  by_cases hk:gQ rs N<=4096
  ·refine(sQ i o N s A cr B cf rs fs W (HDM.out W h) (HTB.out W h) hw hk).mono ?_
   rintro e w' ⟨hb,⟨_,rfl⟩ | ⟨hok,_⟩⟩
   ·exact⟨rfl,hb⟩
   ·exact absurd ⟨hk,hok⟩ hn
  ·exact uZ i o (N:Int) s A cr B cf rs fs W (HDM.out W h) (HTB.out W h) 4 (.inr rfl) (by unfold jU;rw[if_pos hw,Int.toNat_natCast,if_neg hk]))
 have HRT:=hid (decide_eq_true hw);have HRF:=hid (fun W (h:Below w1.heap.size w1 W)=>qh i o N s A cr B cf rs fs W (HDM.out W h) hw);have HN:=hid hn;clear hw hn;obtain⟨p0,p1,p2,p3,p4,p5⟩:=HDB.out w1 (Below.refl _ _);clear hd hT hb1 hq1;go_enter Tryz.func4,Tryz.ntmps4;go_wp2_with (fail);refine HSM.out.mono ?_;rintro e w2 ⟨b,rfl,_,hb2⟩;have H2:=hid hb2;clear hb2 p0 p1 p2 p3 p4 p5;obtain⟨p0,p1,p2,p3,p4,p5⟩:=HDB.out w2 H2.out
 cases b with
 | false=>
  go_wp2_with (fail);refine(HA.out w2 H2.out).mono ?_;rintro e wq ⟨rfl,hbq⟩;have HQ:=hid (HBW.out wq (ak H2.out hbq));clear hbq;go_wp2_with (fail);go_ret;exact⟨rfl,HQ.out⟩
 | true=>
 go_wp2_with (fail);refine(HFE.out w2 H2.out).mono ?_;rintro e w3 ⟨rfl,hb⟩;have H3:=hid (ak H2.out hb);obtain⟨w4,hw4,hq4,hl4,hb4⟩:=ay w3 #[.int .i64 0,.int .i64 0,.int .i64 0,.int .i64 0,.slice none 0 0,.slice none 0 0] 26;have HQ4:=hid hq4;have HL4:=hid hl4;have HW4:=hid hw4;have HB4:=hid hb4;have H4:=hid (ak H3.out hb4);clear hw4 hq4 hl4 hb4 hb p0 p1 p2 p3 p4 p5;go_upto_region 4 with(fail);try rw[HW4.out]
 obtain⟨p0,p1,p2,p3,p4,p5⟩:=HDB.out w4 H4.out;go_wp2_with (fail);refine(cw i o (N:Int) s A cr B cf rs fs w4 (HDM.out w4 H4.out).rules (HDM.out w4 H4.out).rl (HDM.out w4 H4.out).finals (HDM.out w4 H4.out).fl).mono ?_;rintro e w5 ⟨rfl,hb⟩;have HQ5:=hid (HQ4.out.below hb HL4.out);have H5:=hid (ak H4.out hb);clear hb p0 p1 p2 p3 p4 p5;obtain⟨p0,p1,p2,p3,p4,p5⟩:=HDB.out w5 H5.out;rw[HRT.out];go_wp2_with (fail);refine(HRF.out w5 H5.out).mono ?_;rintro e w6 ⟨hb,⟨_,i',o',n',s',A',r',cr',B',f',cf',rfl⟩ | ⟨hok,_⟩⟩
 case inr=>exact absurd hok HN.out
 have HQ6:=hid (HQ5.out.below hb HQ5.out.lt);have H6:=hid (ak H5.out hb);obtain⟨w7,hw7,hq7,hl7,hb7⟩:=ay w6 #[.int .i64 i',.int .i64 o',.int .i64 n',.int .i64 s',.slice A' r' cr',.slice B' f' cf'] 26;have HQ7:=hid hq7;have HL7:=hid hl7;have HW7:=hid hw7;have HB7:=hid hb7;have H7:=hid (ak H6.out hb7);clear hw7 hq7 hl7 hb7 hb p0 p1 p2 p3 p4 p5;go_upto_region 7 with(fail);try rw[HW7.out]
 have hq7:=HQ6.out.below HB7.out HQ6.out.lt;have z0:=hq7.cell 0;have z1:=hq7.cell 1;have z2:=hq7.cell 2;have z3:=hq7.cell 3;have z4:=hq7.cell 4;have z5:=hq7.cell 5;simp only[sD,sE,sF]at z0 z1 z2 z3 z4 z5;clear hq7;go_wp2_with (fail);refine(pX w7).mono ?_;rintro e w8 ⟨rfl,hb⟩;have H8:=hid (ak H7.out hb);clear hb;go_wp2_with (fail);refine(HA.out w8 H8.out).mono ?_;rintro e wq ⟨rfl,hbq⟩;have HQ:=hid (HBW.out wq (ak H8.out hbq));clear hbq;go_wp2_with (fail);go_ret;exact⟨rfl,HQ.out⟩
theorem xW (i o s:Int) (N:Nat) (A:Option Addr) (cr:Nat) (B:Option Addr) (cf:Nat) (rs:List RuL) (fs:List FiL) (w:World) (hd:DM w ⟨i,o,(N:Int),s,A,cr,B,cf,rs,fs⟩) (hT:Fi.jh w) (hw:(aW i o (N:Int) s rs fs).1=0) (hn:gQ rs N<=4096/\dI rs fs N):Calls Tryz.prog 4 #[dsc i o (N:Int) s A rs.length cr B fs.length cf] w (dY true w):=by
 obtain⟨w1,hw1⟩:∃w1,w.alloc (.cells #[.int .i64 i,.int .i64 o,.int .i64 (N:Int),.int .i64 s,.slice A rs.length cr,.slice B fs.length cf] 26)=w1:=⟨_,rfl⟩;have hs1:w1.heap.size=w.heap.size+1:=by rw[<- hw1];simp
 have hb1:Below w.heap.size w w1:=by rw[<- hw1];exact(Below.refl _ _).alloc (Nat.le_refl _) _
 have hq1:Blk w1 w.heap.size 26 #[.int .i64 i,.int .i64 o,.int .i64 (N:Int),.int .i64 s,.slice A rs.length cr,.slice B fs.length cf]:=by rw[<- hw1];exact heap_alloc_new w _
 have H1:=hid (show w.heap.size<=w1.heap.size by omega);have HBW:=hid (fun W (h:Below w1.heap.size w1 W)=>show Below w.heap.size w W from hb1.trans (h.mono H1.out));have HDB:=hid (fun W (h:Below w1.heap.size w1 W)=>show DB W w.heap.size i o (N:Int) s A rs.length cr B fs.length cf from by
  have h1:=hq1.below h (by omega);exact⟨h1.cell 0,h1.cell 1,h1.cell 2,h1.cell 3,h1.cell 4,h1.cell 5⟩)
 have HTB:=hid (fun W (h:Below w1.heap.size w1 W)=>show Fi.jh W from hT.next (HBW.out W h));have HDM:=hid (fun W (h:Below w1.heap.size w1 W)=>show DM W ⟨i,o,(N:Int),s,A,cr,B,cf,rs,fs⟩from hd.below (HBW.out W h));have HA:=hid (fun W (h:Below w1.heap.size w1 W)=>mq W (HTB.out W h));have HSM:=hid (Rg.dM i o (N:Int) s A cr B cf rs fs w1 (HDM.out w1 (Below.refl _ _)).rules (HDM.out w1 (Below.refl _ _)).finals);have HFE:=hid (fun W (h:Below w1.heap.size w1 W)=>sQ i o N s A cr B cf rs fs W (HDM.out W h) (HTB.out W h) hw hn.1);have HRT:=hid (decide_eq_true hw);have HRF:=hid (fun W (h:Below w1.heap.size w1 W)=>qh i o N s A cr B cf rs fs W (HDM.out W h) hw);have HN:=hid hn;have hR:mz ⟨i,o,(N:Int),s,A,cr,B,cf,rs,fs⟩:=DV.right.qg (d:=⟨i,o,(N:Int),s,A,cr,B,cf,rs,fs⟩) hw;have HSH:=hid (show(∀q∈cU rs N,∀g∈q.gs,g.length<=1099511627776)/\∀q∈cV rs fs N,∀g∈q.gs,g.length<=1099511627776 from⟨fun q hq g hg=>by
  obtain⟨r0,h0,_,p,ts,_,rfl⟩:=lY hq;have:=(hR.rs r0 h0).2.2.2.2.2.1 g hg;omega,fun q hq g hg=>by
  obtain⟨r0,h0,p,ts,_,rfl⟩:=lZ hq;have:=(hR.fs r0 h0).2.2.2.1 g hg;omega⟩)
 clear hw hn hR;obtain⟨p0,p1,p2,p3,p4,p5⟩:=HDB.out w1 (Below.refl _ _);clear hd hT hb1 hq1;go_enter Tryz.func4,Tryz.ntmps4;go_wp2_with (fail);refine HSM.out.mono ?_;rintro e w2 ⟨b,rfl,_,hb2⟩;have H2:=hid hb2;clear hb2 p0 p1 p2 p3 p4 p5;obtain⟨p0,p1,p2,p3,p4,p5⟩:=HDB.out w2 H2.out
 cases b with
 | false=>
  go_wp2_with (fail);refine(HA.out w2 H2.out).mono ?_;rintro e wq ⟨rfl,hbq⟩;have HQ:=hid (HBW.out wq (ak H2.out hbq));clear hbq;go_wp2_with (fail);go_ret;exact⟨rfl,HQ.out⟩
 | true=>
 go_wp2_with (fail);refine(HFE.out w2 H2.out).mono ?_;rintro e w3 ⟨hb,⟨hno,_⟩ | ⟨_,A3,c3,B3,d3,rfl,hdm⟩⟩
 ·exact absurd HN.out.2 hno
 have P8:=hid hdm;obtain⟨L1,hL1⟩:∃L1,(cU rs N).length=L1:=⟨_,rfl⟩;obtain⟨L2,hL2⟩:∃L2,(cV rs fs N).length=L2:=⟨_,rfl⟩;have HLL:=hid (And.intro hL1 hL2);rw[hL1,hL2];clear hdm hL1 hL2;have H3:=hid (ak H2.out hb);obtain⟨w4,hw4,hq4,hl4,hb4⟩:=ay w3 #[.int .i64 i,.int .i64 o,.int .i64 (N:Int),.int .i64 s,.slice A3 L1 c3,.slice B3 L2 d3] 26;have HQ4:=hid hq4;have HL4:=hid hl4;have HW4:=hid hw4;have HB4:=hid hb4;have H4:=hid (ak H3.out hb4);clear hw4 hq4 hl4 hb4 hb p0 p1 p2 p3 p4 p5;go_upto_region 4 with(fail);try rw[HW4.out]
 obtain⟨p0,p1,p2,p3,p4,p5⟩:=HDB.out w4 H4.out;go_wp2_with (fail);refine(cw i o (N:Int) s A cr B cf rs fs w4 (HDM.out w4 H4.out).rules (HDM.out w4 H4.out).rl (HDM.out w4 H4.out).finals (HDM.out w4 H4.out).fl).mono ?_;rintro e w5 ⟨rfl,hb⟩;have HQ5:=hid (HQ4.out.below hb HL4.out);have P7:=hid ((P8.out.below HB4.out).below hb);have H5:=hid (ak H4.out hb);clear hb p0 p1 p2 p3 p4 p5;obtain⟨p0,p1,p2,p3,p4,p5⟩:=HDB.out w5 H5.out;rw[HRT.out];go_wp2_with (fail);refine(HRF.out w5 H5.out).mono ?_;rintro e w6 ⟨hb,⟨hno,_⟩ | ⟨_,A6,c6,B6,d6,rfl,hr6,hf6⟩⟩
 ·exact absurd HN.out hno
 have P6:=hid (P7.out.below hb);have HR6:=hid hr6;have HF6:=hid hf6;rw[HLL.out.1,HLL.out.2];clear hr6 hf6;have HQ6:=hid (HQ5.out.below hb HQ5.out.lt);have H6:=hid (ak H5.out hb);obtain⟨w7,hw7,hq7,hl7,hb7⟩:=ay w6 #[.int .i64 i,.int .i64 o,.int .i64 (N:Int),.int .i64 s,.slice A6 L1 c6,.slice B6 L2 d6] 26;have HQ7:=hid hq7;have HL7:=hid hl7;have HW7:=hid hw7;have HB7:=hid hb7;have H7:=hid (ak H6.out hb7);clear hw7 hq7 hl7 hb7 hb p0 p1 p2 p3 p4 p5;go_upto_region 7 with(fail);try rw[HW7.out]
 have hq7:=HQ6.out.below HB7.out HQ6.out.lt;have Kx:=P6.out.below HB7.out;have HSA:=hid (show Calls Tryz.prog 12 #[dsc i o (N:Int) s A3 L1 c3 B3 L2 d3,dsc i o (N:Int) s A6 L1 c6 B6 L2 d6] w7 (dY true w7)from by
  have:=uq i o (N:Int) s A3 A6 c3 c6 B3 B6 d3 d6 (cU rs N) (cV rs fs N) w7 Kx.rules (HR6.out.ah HB7.out) Kx.rl Kx.finals (HF6.out.ah HB7.out) Kx.fl HSH.out.1 HSH.out.2;rw[HLL.out.1,HLL.out.2]at this;exact this)
 have hy7:=HQ7.out;have z0:=hq7.cell 0;have z1:=hq7.cell 1;have z2:=hq7.cell 2;have z3:=hq7.cell 3;have z4:=hq7.cell 4;have z5:=hq7.cell 5;simp only[sD,sE,sF]at z0 z1 z2 z3 z4 z5;have y0:=hy7.cell 0;have y1:=hy7.cell 1;have y2:=hy7.cell 2;have y3:=hy7.cell 3;have y4:=hy7.cell 4;have y5:=hy7.cell 5;simp only[sD,sE,sF]at y0 y1 y2 y3 y4 y5;clear hq7 hy7 Kx;go_wp2_with (fail);refine HSA.out.mono ?_;rintro e w8 ⟨rfl,hb⟩;have H8:=hid (ak H7.out hb);clear hb;go_wp2_with (fail);refine(HA.out w8 H8.out).mono ?_;rintro e wq ⟨rfl,hbq⟩;have HQ:=hid (HBW.out wq (ak H8.out hbq));clear hbq;go_wp2_with (fail);go_ret;exact⟨rfl,HQ.out⟩
theorem Bo (i o n s:Int) (A:Option Addr) (cr:Nat) (B:Option Addr) (cf:Nat) (rs:List RuL) (fs:List FiL) (w:World) (hd:DM w ⟨i,o,n,s,A,cr,B,cf,rs,fs⟩) (hT:Fi.jh w):Calls Tryz.prog 4 #[dsc i o n s A rs.length cr B fs.length cf] w (dY true w):=by
 by_cases hw:(aW i o n s rs fs).1=0
 ·have hR:mz ⟨i,o,n,s,A,cr,B,cf,rs,fs⟩:=DV.right.qg (d:=⟨i,o,n,s,A,cr,B,cf,rs,fs⟩) hw
  obtain⟨N,hN⟩:∃N:Nat,n=(N:Int):=⟨n.toNat,by have:=hR.n;dsimp only at this;omega⟩;subst hN;by_cases hn:gQ rs N<=4096/\dI rs fs N
  ·exact xW i o s N A cr B cf rs fs w hd hT hw hn
  ·exact xV i o s N A cr B cf rs fs w hd hT hw hn
 ·exact Bp i o n s A cr B cf rs fs w hd hT hw
end Go.Proofs.YtbdmcibcenhpnaaGreatDoor.Ep
