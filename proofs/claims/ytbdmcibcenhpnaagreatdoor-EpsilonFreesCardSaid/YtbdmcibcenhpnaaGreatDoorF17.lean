import Derived.Test.YtbdmcibcenhpnaaGreatDoorF0
import Derived.Test.YtbdmcibcenhpnaaGreatDoorF00
import Derived.Test.YtbdmcibcenhpnaaGreatDoorF15
import Derived.Test.YtbdmcibcenhpnaaGreatDoorF16
import Derived.Deep.DeepCutAuto
set_option maxRecDepth 100000
namespace Go.Proofs.YtbdmcibcenhpnaaGreatDoor.De
open Go Go.RowKit Sp Pa Te Mi Fi
theorem uP:(Tryz.prog.info? 43).map (fun i=>(i.zero,i.size,i.bytes))=some (some (.agg #[.int .i64 0,.int .i64 0,.slice none 0 0,.int .i64 0,.slice none 0 0]),5,72):=by kernel_rfl
theorem qH:(Tryz.prog.info? 45).map (fun i=>(i.zero,i.size,i.bytes))=some (some (.agg #[.int .i64 0,.slice none 0 0,.slice none 0 0]),3,56):=by kernel_rfl
theorem aD {B:Nat} {w W W':World} (h1:Below B w W) (h2:Below W.heap.size W W') (hB:B<=W.heap.size):Below B w W':=h1.trans (h2.mono hB)
theorem aM {w w':World} {g:Nat} {t:TypeId} {cs:Array Value} (h:Blk w g t cs) (hk:w'.heap[g]? = w.heap[g]?):Blk w' g t cs:=hk.trans h
theorem ay (W:World) (cs:Array Value) (t:TypeId):∃w',W.alloc (.cells cs t)=w'/\Blk w' W.heap.size t cs/\W.heap.size<w'.heap.size/\Below W.heap.size W w':=⟨_,rfl,heap_alloc_new W _,by simp,(Below.refl _ _).alloc (Nat.le_refl _) _⟩
section
variable {w w':World} {p q:Nat->Prop}
structure jH (B:Nat) (gs:List (List Span)) (out:List TmL) (G:Option Addr) (gc:Nat) (T:Option Addr) (tc:Nat) (w:World):Prop where
 g:RGp (fun b=>B<=b) w G gs
 gl:gs.length<=gc
 t:RTp (fun b=>B<=b) w T out
 tl:out.length<=tc
theorem jH.keep {B:Nat} {gs:List (List Span)} {out:List TmL} {G T:Option Addr} {gc tc:Nat} (h:jH B gs out G gc T tc w) (hs:w.heap.size<=w'.heap.size) (hk:∀b,B<=b->b<w.heap.size->w'.heap[b]? = w.heap[b]?):jH B gs out G gc T tc w':=
 ⟨h.g.keep ⟨hs,hk⟩ fun _ hb _=>hb,h.gl,h.t.keep ⟨hs,hk⟩ fun _ hb _=>hb,h.tl⟩
theorem aC {B C:Nat} {gs:List (List Span)} {G:Option Addr} (h:RGp (fun b=>C<=b) w G gs) (hb:Below w.heap.size w w') (hBC:B<=C):RGp (fun b=>B<=b) w' G gs:=h.keep ⟨hb.size,fun b _ hlt=>hb.block b hlt⟩ fun _ hb _=>Nat.le_trans hBC hb
theorem bV {B C:Nat} {out:List TmL} {T:Option Addr} (h:RTp (fun b=>C<=b) w T out) (hb:Below w.heap.size w w') (hBC:B<=C):RTp (fun b=>B<=b) w' T out:=h.keep ⟨hb.size,fun b _ hlt=>hb.block b hlt⟩ fun _ hb _=>Nat.le_trans hBC hb
end
theorem ak {w W W':World} (h1:Below w.heap.size w W) (h2:Below W.heap.size W W'):Below w.heap.size w W':=h1.trans (h2.mono h1.size)
section
variable {bs x k B gg bX:Nat} {i o n s k0:Int} {L rs:List RuL} {F fs:List FiL} {v vf v' v1 vf':Value} {w wr ws w9:World} {r:RuL} {f:FiL} {AG AT:Option Addr} {cG cT:Nat} {vs:List Value}
end
end Go.Proofs.YtbdmcibcenhpnaaGreatDoor.De
namespace Go.Proofs.YtbdmcibcenhpnaaGreatDoor.De
set_option maxHeartbeats 64000000
open Go Go.RowKit Sp Pa Te Mi
open Go.Lib (hid)
def EZ (m x:Nat) (i o n s:Int) (A A':Option Addr) (r cr cr':Nat) (B B':Option Addr) (f cf cf':Nat) (w:World) (v:Value) (wr:World):Prop:=
 ∃k:Nat,k<=m/\v = .int .i64 k/\Below x w wr/\x+1<wr.heap.size/\DB wr x i o n s A r cr B f cf/\DB wr (x+1) i o n s A' r cr' B' f cf'
theorem uq (i o n s:Int) (A A':Option Addr) (cr cr':Nat) (B B':Option Addr) (cf cf':Nat) (rs:List RuL) (fs:List FiL) (w:World) (hr:RRu w A rs.length rs) (hr':RRu w A' rs.length rs) (hl:rs.length<=maxLen) (hf:RFi w B fs.length fs) (hf':RFi w B' fs.length fs) (hlf:fs.length<=maxLen)
  (hsr:∀q∈rs,∀g∈q.gs,g.length<=1099511627776) (hsf:∀q∈fs,∀g∈q.gs,g.length<=1099511627776) :
  Calls Tryz.prog 12 #[dsc i o n s A rs.length cr B fs.length cf,dsc i o n s A' rs.length cr' B' fs.length cf'] w (dY true w):=by
 unfold maxLen at hl hlf;obtain⟨w0,hw0⟩:∃w0,w.alloc (.cells #[.int .i64 i,.int .i64 o,.int .i64 n,.int .i64 s,.slice A rs.length cr,.slice B fs.length cf] 26)=w0:=⟨_,rfl⟩;have hs0:w0.heap.size=w.heap.size+1:=by rw[<- hw0];simp
 have hb0:Below w.heap.size w w0:=by rw[<- hw0];exact(Below.refl _ _).alloc (Nat.le_refl _) _
 have hd0:DB w0 w.heap.size i o n s A rs.length cr B fs.length cf:=by rw[<- hw0];exact DB.boxed
 obtain⟨w1,hw1⟩:∃w1,w0.alloc (.cells #[.int .i64 i,.int .i64 o,.int .i64 n,.int .i64 s,.slice A' rs.length cr',.slice B' fs.length cf'] 26)=w1:=⟨_,rfl⟩;have hb1:Below w0.heap.size w0 w1:=by rw[<- hw1];exact(Below.refl _ _).alloc (Nat.le_refl _) _
 have hs1:w1.heap.size=w.heap.size+1+1:=by rw[<- hw1,<- hs0];simp
 have hd1:DB w1 (w.heap.size+1) i o n s A' rs.length cr' B' fs.length cf':=by rw[<- hw1,<- hs0];exact DB.boxed
 have NT:=hd0.below (by omega) hb1;have HST:=hid (show EZ rs.length w.heap.size i o n s A A' rs.length cr cr' B B' fs.length cf cf' w (.int .i64 (0:Nat)) w1 from⟨0,Nat.zero_le _,rfl,hb0.trans (hb1.mono (by omega)),by omega,NT,hd1⟩);obtain⟨p0,p1,p2,p3,p4,p5⟩:=NT;obtain⟨y0,y1,y2,y3,y4,y5⟩:=hd1;have H:=hid hr;have H':=hid hr';have HF:=hid hf;have HF':=hid hf';have HSR:=hid hsr;have HSF:=hid hsf;have hd:((rs.length:Int) != (rs.length:Int))=false:=by simp
 have hd2:((fs.length:Int) != (fs.length:Int))=false:=by simp
 clear hr hr' hf hf' hsr hsf hb0 hb1 hd0;go_enter Tryz.func12,Tryz.ntmps12;go_wp2_with (fail)
 go_loopw [5] (fun v wr=>EZ rs.length w.heap.size i o n s A A' rs.length cr cr' B B' fs.length cf cf' w v wr) (fun v _=>rs.length-(intOf v).toNat)
 case atStart=>exact HST.out
 case round=>
  obtain⟨k,hk,rfl,hb,hx,hd,hd'⟩:=hrel;have HB:=hid hb;have HD:=hid hd;have HD':=hid hd';obtain⟨p0,p1,p2,p3,p4,p5⟩:=hd;obtain⟨y0,y1,y2,y3,y4,y5⟩:=hd';by_cases hlt:k<rs.length
  case pos=>
   obtain⟨b1,off1,G1,g1,T1,t1,hA1,uT,d0,d1,d2,d3,d4,⟨hg1,_,hgl,_⟩,ht1,_,hol,_⟩:=(H.out.ah hb).at_ hlt;obtain⟨b2,off2,G2,g2,T2,t2,hA2,sP,e0,e1,e2,e3,e4,⟨hg2,_,_,_⟩,ht2,_,_,_⟩:=(H'.out.ah hb).at_ hlt;have hdr:Below wr.heap.size wr wr.drew:=(Below.refl _ _).drew;have HC:=hid (Dr rs[k] G1 G2 T1 T2 g1 g2 t1 t2 wr.drew (hg1.ah hdr) (hg2.ah hdr) hgl (HSR.out _ (List.getElem_mem hlt)) (ht1.ah hdr) (ht2.ah hdr) hol);have HB2:=hid (hb.drew);have HDd:=hid (HD.out.below (b:=wr.heap.size) (by omega) hdr);have P4:=hid (HD'.out.below (b:=wr.heap.size) (by omega) hdr);subst hA1 hA2;have i1:(0:Int)<=(k:Int):=Int.natCast_nonneg _;have i2:(k:Int)<(rs.length:Int):=by omega
   clear hb hg1 hg2 ht1 ht2 hgl hol hdr;go_wp2_with (fail)
   go_still_tail 10,(by kernel_rfl)
   change wpList _ _ _ _ _ wr.drew
   go_wp2_with (fail);refine HC.out.mono ?_;rintro e w3 ⟨rfl,hb3⟩;have hz3:wr.heap.size<=w3.heap.size:=hb3.size;have HB3:=hid (HB2.out.trans (hb3.mono HB2.out.size));have HD3:=hid (HDd.out.below (b:=wr.drew.heap.size) (by show w.heap.size<wr.heap.size;omega) hb3);have Qc:=hid (P4.out.below (b:=wr.drew.heap.size) (by show w.heap.size+1<wr.heap.size;omega) hb3);clear hb3;go_wp2_with (fail)
   go_roundw
   case rel=>exact⟨k+1,by omega,by go_num,HB3.out,by omega,HD3.out,Qc.out⟩
   case measure=>simp[intOf];omega
  have HST2:=hid (show EZ fs.length w.heap.size i o n s A A' rs.length cr cr' B B' fs.length cf cf' w (.int .i64 (0:Nat)) wr from⟨0,Nat.zero_le _,rfl,hb,hx,HD.out,HD'.out⟩)
  rename World=>wq
  clear hb HB HD HD';go_wp2_with (fail)
  go_loopw [6] (fun v wr=>EZ fs.length w.heap.size i o n s A A' rs.length cr cr' B B' fs.length cf cf' w v wr) (fun v _=>fs.length-(intOf v).toNat)
  case atStart=>exact HST2.out
  case round=>
   obtain⟨m,hm,rfl,hb,hx,hd,hd'⟩:=hrel;have HB:=hid hb;have HD:=hid hd;have HD':=hid hd';obtain⟨p0,p1,p2,p3,p4,p5⟩:=hd;obtain⟨y0,y1,y2,y3,y4,y5⟩:=hd';by_cases hlt2:m<fs.length
   case neg=>
    clear hb;go_wp2_with (fail);go_ret;exact⟨rfl,HB.out⟩
   obtain⟨b1,off1,G1,g1,T1,t1,hA1,uT,d0,d1,d2,⟨hg1,_,hgl,_⟩,ht1,_,hol⟩:=(HF.out.ah hb).at_ hlt2;obtain⟨b2,off2,G2,g2,T2,t2,hA2,sP,e0,e1,e2,⟨hg2,_,_,_⟩,ht2,_,_⟩:=(HF'.out.ah hb).at_ hlt2;subst hA1 hA2;have i1:(0:Int)<=(m:Int):=Int.natCast_nonneg _;have i2:(m:Int)<(fs.length:Int):=by omega
   have HSE:=hid (fun W (hW:Below wr.heap.size wr W)=>uj G1 G2 g1 g2 fs[m].gs W (hg1.ah hW) (hg2.ah hW) hgl (HSF.out _ (List.getElem_mem hlt2)));have HTE:=hid (fun W (hW:Below wr.heap.size wr W)=>pZ T1 T2 t1 t2 fs[m].out W (ht1.ah hW) (ht2.ah hW) hol);clear hb hg1 hg2 ht1 ht2 hgl hol;go_upto_region 11 with(fail)
   go_cut [7,8] (fun p1 p2 wx=>∃a1 a2:Nat,p1 = .pointer (some ⟨a1,0,none⟩)/\p2 = .pointer (some ⟨a2,0,none⟩)/\Blk wx a1 45 #[.int .i64 fs[m].frm,.slice G1 fs[m].gs.length g1,.slice T1 fs[m].out.length t1]/\Blk wx a2 45 #[.int .i64 fs[m].frm,.slice G2 fs[m].gs.length g2,.slice T2 fs[m].out.length t2]/\Below wr.heap.size wr wx)
   case first=>
    have hBr:Below wr.heap.size wr wr.drew:=(Below.refl _ _).drew;obtain⟨wd,hwd⟩:∃wd,wr.drew=wd:=⟨_,rfl⟩;refine wp_region_held_drew (S:=fun W=>Below wr.heap.size wr W) (by kernel_rfl) hBr (fun hHeld=>?_);rw[hwd]at hBr hHeld ⊢;refine tk 0 ⟨some 79,.fieldAddr 26 (.tmp 2) 5,_,_,_,none⟩ ?_ rfl ?_ ?_;rotate_left
    ·intro w' hSw
     (try dsimp only at hSw)
     go_simp;all_goals with_reducible rfl
    try simp only[Act.put,sA,sB,sC]
    refine tk 1 ⟨some 80,.load 24 (.tmp 79),_,_,_,none⟩ ?_ rfl ?_ ?_;rotate_left
    ·intro w' hSw
     (try dsimp only at hSw)
     have q5:=(hSw.cell (p:=⟨w.heap.size,5,none⟩) (show w.heap.size<wr.heap.size by omega)).trans p5;have r5:=(hSw.cell (p:=⟨w.heap.size+1,5,none⟩) (show w.heap.size+1<wr.heap.size by omega)).trans y5;have da0:=(hSw.cell (p:=⟨b1,off1+m*3 ,none⟩) uT).trans d0;have ea0:=(hSw.cell (p:=⟨b2,off2+m*3 ,none⟩) sP).trans e0;have da1:=(hSw.cell (p:=⟨b1,off1+m*3+1 ,none⟩) uT).trans d1;have ea1:=(hSw.cell (p:=⟨b2,off2+m*3+1 ,none⟩) sP).trans e1;have da2:=(hSw.cell (p:=⟨b1,off1+m*3+2 ,none⟩) uT).trans d2;have ea2:=(hSw.cell (p:=⟨b2,off2+m*3+2 ,none⟩) sP).trans e2;go_simp;all_goals with_reducible rfl
    try simp only[Act.put,sA,sB,sC]
    refine tk 2 ⟨some 81,.move (.tmp 6),_,_,_,none⟩ ?_ rfl ?_ ?_;rotate_left
    ·intro w' hSw
     (try dsimp only at hSw)
     go_simp;all_goals with_reducible rfl
    try simp only[Act.put,sA,sB,sC]
    refine tk 3 ⟨some 82,.indexAddr 24 (.tmp 80) (.tmp 81),_,_,_,none⟩ ?_ rfl ?_ ?_;rotate_left
    ·intro w' hSw
     (try dsimp only at hSw)
     go_simp;all_goals with_reducible rfl
    try simp only[Act.put,sA,sB,sC]
    refine tk 4 ⟨some 83,.load 45 (.tmp 82),_,_,_,none⟩ ?_ rfl ?_ ?_;rotate_left
    ·intro w' hSw
     (try dsimp only at hSw)
     have q5:=(hSw.cell (p:=⟨w.heap.size,5,none⟩) (show w.heap.size<wr.heap.size by omega)).trans p5;have r5:=(hSw.cell (p:=⟨w.heap.size+1,5,none⟩) (show w.heap.size+1<wr.heap.size by omega)).trans y5;have da0:=(hSw.cell (p:=⟨b1,off1+m*3 ,none⟩) uT).trans d0;have ea0:=(hSw.cell (p:=⟨b2,off2+m*3 ,none⟩) sP).trans e0;have da1:=(hSw.cell (p:=⟨b1,off1+m*3+1 ,none⟩) uT).trans d1;have ea1:=(hSw.cell (p:=⟨b2,off2+m*3+1 ,none⟩) sP).trans e1;have da2:=(hSw.cell (p:=⟨b1,off1+m*3+2 ,none⟩) uT).trans d2;have ea2:=(hSw.cell (p:=⟨b2,off2+m*3+2 ,none⟩) sP).trans e2;go_simp;all_goals with_reducible rfl
    try simp only[Act.put,sA,sB,sC]
    refine tk 5 ⟨some 84,.fieldAddr 26 (.tmp 3) 5,_,_,_,none⟩ ?_ rfl ?_ ?_;rotate_left
    ·intro w' hSw
     (try dsimp only at hSw)
     go_simp;all_goals with_reducible rfl
    try simp only[Act.put,sA,sB,sC]
    refine tk 6 ⟨some 85,.load 24 (.tmp 84),_,_,_,none⟩ ?_ rfl ?_ ?_;rotate_left
    ·intro w' hSw
     (try dsimp only at hSw)
     have q5:=(hSw.cell (p:=⟨w.heap.size,5,none⟩) (show w.heap.size<wr.heap.size by omega)).trans p5;have r5:=(hSw.cell (p:=⟨w.heap.size+1,5,none⟩) (show w.heap.size+1<wr.heap.size by omega)).trans y5;have da0:=(hSw.cell (p:=⟨b1,off1+m*3 ,none⟩) uT).trans d0;have ea0:=(hSw.cell (p:=⟨b2,off2+m*3 ,none⟩) sP).trans e0;have da1:=(hSw.cell (p:=⟨b1,off1+m*3+1 ,none⟩) uT).trans d1;have ea1:=(hSw.cell (p:=⟨b2,off2+m*3+1 ,none⟩) sP).trans e1;have da2:=(hSw.cell (p:=⟨b1,off1+m*3+2 ,none⟩) uT).trans d2;have ea2:=(hSw.cell (p:=⟨b2,off2+m*3+2 ,none⟩) sP).trans e2;go_simp;all_goals with_reducible rfl
    try simp only[Act.put,sA,sB,sC]
    refine tk 7 ⟨some 86,.move (.tmp 6),_,_,_,none⟩ ?_ rfl ?_ ?_;rotate_left
    ·intro w' hSw
     (try dsimp only at hSw)
     go_simp;all_goals with_reducible rfl
    try simp only[Act.put,sA,sB,sC]
    refine tk 8 ⟨some 87,.indexAddr 24 (.tmp 85) (.tmp 86),_,_,_,none⟩ ?_ rfl ?_ ?_;rotate_left
    ·intro w' hSw
     (try dsimp only at hSw)
     go_simp;all_goals with_reducible rfl
    try simp only[Act.put,sA,sB,sC]
    refine tk 9 ⟨some 88,.load 45 (.tmp 87),_,_,_,none⟩ ?_ rfl ?_ ?_;rotate_left
    ·intro w' hSw
     (try dsimp only at hSw)
     have q5:=(hSw.cell (p:=⟨w.heap.size,5,none⟩) (show w.heap.size<wr.heap.size by omega)).trans p5;have r5:=(hSw.cell (p:=⟨w.heap.size+1,5,none⟩) (show w.heap.size+1<wr.heap.size by omega)).trans y5;have da0:=(hSw.cell (p:=⟨b1,off1+m*3 ,none⟩) uT).trans d0;have ea0:=(hSw.cell (p:=⟨b2,off2+m*3 ,none⟩) sP).trans e0;have da1:=(hSw.cell (p:=⟨b1,off1+m*3+1 ,none⟩) uT).trans d1;have ea1:=(hSw.cell (p:=⟨b2,off2+m*3+1 ,none⟩) sP).trans e1;have da2:=(hSw.cell (p:=⟨b1,off1+m*3+2 ,none⟩) uT).trans d2;have ea2:=(hSw.cell (p:=⟨b2,off2+m*3+2 ,none⟩) sP).trans e2;go_simp;all_goals with_reducible rfl
    try simp only[Act.put,sA,sB,sC]
    have Qt:wr.heap.size<=wd.heap.size:=hBr.size;refine wpAnyH_ready (rs:=[10,11]) (by kernel_rfl) (by simp) ?_;refine AllReadyH.cons (o:=⟨some 7,.alloc 45,_,_,_,none⟩) rfl (fun K hK=>?_) (AllReadyH.cons (o:=⟨some 8,.alloc 45,_,_,_,none⟩) rfl (fun K hK=>?_) AllReadyH.nil)
    ·skip
     obtain⟨wa,hwa,hq10,hl10,hB10⟩:=ay wd #[.int .i64 0,.slice none 0 0,.slice none 0 0] 45;have hsz10:=hBr.size;have hBr:=aD hBr hB10 hsz10;go_simp;try rw[hwa]
     refine hK.out _ _ ?_ (fun hHeld=>?_)
     ·exact hBr
     clear hK K;try simp only[Act.put,sA,sB,sC]
     refine wpAnyH_ready (rs:=[11]) (by kernel_rfl) (by simp) ?_;refine AllReadyH.cons (o:=⟨some 8,.alloc 45,_,_,_,none⟩) rfl (fun K hK=>?_) AllReadyH.nil;obtain⟨wb,hwb,hq11,hl11,hB11⟩:=ay wa #[.int .i64 0,.slice none 0 0,.slice none 0 0] 45;have hsz11:=hBr.size;have hBr:=aD hBr hB11 hsz11;have hq10:=hq10.below hB11 hl10;go_simp;try rw[hwb]
     refine hK.out _ _ ?_ (fun hHeld=>?_)
     ·exact hBr
     clear hK K;try simp only[Act.put,sA,sB,sC]
     obtain⟨wu,hwu⟩:∃wu,((wb.setCell ⟨wd.heap.size,0,none⟩ (.int .i64 fs[m].frm)).setCell ⟨wd.heap.size,1,none⟩ (.slice G1 fs[m].gs.length g1)).setCell ⟨wd.heap.size,2,none⟩ (.slice T1 fs[m].out.length t1)=wu:=⟨_,rfl⟩;have hn12:Blk wu wd.heap.size 45 #[.int .i64 fs[m].frm,.slice G1 fs[m].gs.length g1,.slice T1 fs[m].out.length t1]:=by rw[<- hwu];exact((hq10.aV 0 _).aV 1 _).aV 2 _
     have ho12:wu.heap[wa.heap.size]? = wb.heap[wa.heap.size]?:=by
      have hne:wa.heap.size≠wd.heap.size:=by omega
      rw[<- hwu,heap_setCell_other _ ⟨wd.heap.size,2,none⟩ _ _ hne,heap_setCell_other _ ⟨wd.heap.size,1,none⟩ _ _ hne,heap_setCell_other _ ⟨wd.heap.size,0,none⟩ _ _ hne]
     have hB12:Below wr.heap.size wr wu:=by
      have hge:wr.heap.size<=wd.heap.size:=by omega
      rw[<- hwu];exact((hBr.setCell hge _).setCell hge _).setCell hge _
     have hq11:=aM hq11 ho12;have c0:=hq10.cell 0;have f0:=hq10.frozen 0;have c1:=hq10.cell 1;have f1:=hq10.frozen 1;have c2:=hq10.cell 2;have f2:=hq10.frozen 2;simp only[sD,sE,sF]at c0 c1 c2;refine wpAnyH_ready (rs:=[12]) (by kernel_rfl) (by simp) ?_;refine AllReadyH.cons (o:=⟨none,.store 45 (.tmp 7) (.tmp 83),_,_,_,none⟩) rfl (fun K hK=>?_) AllReadyH.nil;go_simp;try rw[hwu]
     clear c0 c1 c2 f0 f1 f2;have hBr:=hB12;refine hK.out _ _ ?_ (fun hHeld=>?_)
     ·exact hBr
     clear hK K;try simp only[Act.put,sA,sB,sC]
     obtain⟨wv,hwv⟩:∃wv,((wu.setCell ⟨wa.heap.size,0,none⟩ (.int .i64 fs[m].frm)).setCell ⟨wa.heap.size,1,none⟩ (.slice G2 fs[m].gs.length g2)).setCell ⟨wa.heap.size,2,none⟩ (.slice T2 fs[m].out.length t2)=wv:=⟨_,rfl⟩;have hn13:Blk wv wa.heap.size 45 #[.int .i64 fs[m].frm,.slice G2 fs[m].gs.length g2,.slice T2 fs[m].out.length t2]:=by rw[<- hwv];exact((hq11.aV 0 _).aV 1 _).aV 2 _
     have ho13:wv.heap[wd.heap.size]? = wu.heap[wd.heap.size]?:=by
      have hne:wd.heap.size≠wa.heap.size:=by omega
      rw[<- hwv,heap_setCell_other _ ⟨wa.heap.size,2,none⟩ _ _ hne,heap_setCell_other _ ⟨wa.heap.size,1,none⟩ _ _ hne,heap_setCell_other _ ⟨wa.heap.size,0,none⟩ _ _ hne]
     have hB13:Below wr.heap.size wr wv:=by
      have hge:wr.heap.size<=wa.heap.size:=by omega
      rw[<- hwv];exact((hBr.setCell hge _).setCell hge _).setCell hge _
     have hn12:=aM hn12 ho13;have c0:=hq11.cell 0;have f0:=hq11.frozen 0;have c1:=hq11.cell 1;have f1:=hq11.frozen 1;have c2:=hq11.cell 2;have f2:=hq11.frozen 2;simp only[sD,sE,sF]at c0 c1 c2;refine wpAnyH_ready (rs:=[13]) (by kernel_rfl) (by simp) ?_;refine AllReadyH.cons (o:=⟨none,.store 45 (.tmp 8) (.tmp 88),_,_,_,none⟩) rfl (fun K hK=>?_) AllReadyH.nil;go_simp;try rw[hwv]
     clear c0 c1 c2 f0 f1 f2;have hBr:=hB13;refine hK.out _ _ ?_ (fun hHeld=>?_)
     ·exact hBr
     clear hK K;try simp only[Act.put,sA,sB,sC]
     refine wpAnyH_done (by kernel_rfl) ?_ _;go_wp2_with (fail);go_meet;exact⟨_,_,rfl,rfl,hn12,hn13,hBr⟩
    ·skip
     obtain⟨wa,hwa,hq11,hl11,hB11⟩:=ay wd #[.int .i64 0,.slice none 0 0,.slice none 0 0] 45;have hsz11:=hBr.size;have hBr:=aD hBr hB11 hsz11;go_simp;try rw[hwa]
     refine hK.out _ _ ?_ (fun hHeld=>?_)
     ·exact hBr
     clear hK K;try simp only[Act.put,sA,sB,sC]
     refine wpAnyH_ready (rs:=[10]) (by kernel_rfl) (by simp) ?_;refine AllReadyH.cons (o:=⟨some 7,.alloc 45,_,_,_,none⟩) rfl (fun K hK=>?_) AllReadyH.nil;obtain⟨wb,hwb,hq10,hl10,hB10⟩:=ay wa #[.int .i64 0,.slice none 0 0,.slice none 0 0] 45;have hsz10:=hBr.size;have hBr:=aD hBr hB10 hsz10;have hq11:=hq11.below hB10 hl11;go_simp;try rw[hwb]
     refine hK.out _ _ ?_ (fun hHeld=>?_)
     ·exact hBr
     clear hK K;try simp only[Act.put,sA,sB,sC]
     obtain⟨wu,hwu⟩:∃wu,((wb.setCell ⟨wa.heap.size,0,none⟩ (.int .i64 fs[m].frm)).setCell ⟨wa.heap.size,1,none⟩ (.slice G1 fs[m].gs.length g1)).setCell ⟨wa.heap.size,2,none⟩ (.slice T1 fs[m].out.length t1)=wu:=⟨_,rfl⟩;have hn12:Blk wu wa.heap.size 45 #[.int .i64 fs[m].frm,.slice G1 fs[m].gs.length g1,.slice T1 fs[m].out.length t1]:=by rw[<- hwu];exact((hq10.aV 0 _).aV 1 _).aV 2 _
     have ho12:wu.heap[wd.heap.size]? = wb.heap[wd.heap.size]?:=by
      have hne:wd.heap.size≠wa.heap.size:=by omega
      rw[<- hwu,heap_setCell_other _ ⟨wa.heap.size,2,none⟩ _ _ hne,heap_setCell_other _ ⟨wa.heap.size,1,none⟩ _ _ hne,heap_setCell_other _ ⟨wa.heap.size,0,none⟩ _ _ hne]
     have hB12:Below wr.heap.size wr wu:=by
      have hge:wr.heap.size<=wa.heap.size:=by omega
      rw[<- hwu];exact((hBr.setCell hge _).setCell hge _).setCell hge _
     have hq11:=aM hq11 ho12;have c0:=hq10.cell 0;have f0:=hq10.frozen 0;have c1:=hq10.cell 1;have f1:=hq10.frozen 1;have c2:=hq10.cell 2;have f2:=hq10.frozen 2;simp only[sD,sE,sF]at c0 c1 c2;refine wpAnyH_ready (rs:=[12]) (by kernel_rfl) (by simp) ?_;refine AllReadyH.cons (o:=⟨none,.store 45 (.tmp 7) (.tmp 83),_,_,_,none⟩) rfl (fun K hK=>?_) AllReadyH.nil;go_simp;try rw[hwu]
     clear c0 c1 c2 f0 f1 f2;have hBr:=hB12;refine hK.out _ _ ?_ (fun hHeld=>?_)
     ·exact hBr
     clear hK K;try simp only[Act.put,sA,sB,sC]
     obtain⟨wv,hwv⟩:∃wv,((wu.setCell ⟨wd.heap.size,0,none⟩ (.int .i64 fs[m].frm)).setCell ⟨wd.heap.size,1,none⟩ (.slice G2 fs[m].gs.length g2)).setCell ⟨wd.heap.size,2,none⟩ (.slice T2 fs[m].out.length t2)=wv:=⟨_,rfl⟩;have hn13:Blk wv wd.heap.size 45 #[.int .i64 fs[m].frm,.slice G2 fs[m].gs.length g2,.slice T2 fs[m].out.length t2]:=by rw[<- hwv];exact((hq11.aV 0 _).aV 1 _).aV 2 _
     have ho13:wv.heap[wa.heap.size]? = wu.heap[wa.heap.size]?:=by
      have hne:wa.heap.size≠wd.heap.size:=by omega
      rw[<- hwv,heap_setCell_other _ ⟨wd.heap.size,2,none⟩ _ _ hne,heap_setCell_other _ ⟨wd.heap.size,1,none⟩ _ _ hne,heap_setCell_other _ ⟨wd.heap.size,0,none⟩ _ _ hne]
     have hB13:Below wr.heap.size wr wv:=by
      have hge:wr.heap.size<=wd.heap.size:=by omega
      rw[<- hwv];exact((hBr.setCell hge _).setCell hge _).setCell hge _
     have hn12:=aM hn12 ho13;have c0:=hq11.cell 0;have f0:=hq11.frozen 0;have c1:=hq11.cell 1;have f1:=hq11.frozen 1;have c2:=hq11.cell 2;have f2:=hq11.frozen 2;simp only[sD,sE,sF]at c0 c1 c2;refine wpAnyH_ready (rs:=[13]) (by kernel_rfl) (by simp) ?_;refine AllReadyH.cons (o:=⟨none,.store 45 (.tmp 8) (.tmp 88),_,_,_,none⟩) rfl (fun K hK=>?_) AllReadyH.nil;go_simp;try rw[hwv]
     clear c0 c1 c2 f0 f1 f2;have hBr:=hB13;refine hK.out _ _ ?_ (fun hHeld=>?_)
     ·exact hBr
     clear hK K;try simp only[Act.put,sA,sB,sC]
     refine wpAnyH_done (by kernel_rfl) ?_ _;go_wp2_with (fail);go_meet;exact⟨_,_,rfl,rfl,hn12,hn13,hBr⟩
   case rest=>
    obtain⟨wx,rfl⟩:∃wx:World,wx=wc:=⟨_,rfl⟩;obtain⟨a1,a2,rfl,rfl,hqa,hqb,hbx⟩:=hcut;have HX:=hid hbx;have HSX:=hid (HSE.out wx hbx);have HQA:=hid hqa;have HQB:=hid hqb;obtain⟨fg,hfg⟩:∃fg,fs[m].frm=fg:=⟨_,rfl⟩;have c0:=hqa.cell 0;have c1:=hqa.cell 1;have e0:=hqb.cell 0;have e1:=hqb.cell 1;simp only[sD,sE,sF]at c0 c1 e0 e1;clear hqa hqb d0 d1 d2;rw[hfg]at c0 e0;clear hfg;have hnn:(fg != fg)=false:=by simp
    go_wp2_with (fail);refine HSX.out.mono ?_;rintro e w8 ⟨rfl,hb8⟩;have HB8:=hid (HX.out.trans (hb8.mono HX.out.size));have HTX:=hid (HTE.out w8 HB8.out);have c2:=(HQA.out.below hb8 HQA.out.lt).cell 2;have e2:=(HQB.out.below hb8 HQB.out.lt).cell 2;simp only[sD,sE,sF]at c2 e2;clear hb8;go_wp2_with (fail);refine HTX.out.mono ?_;rintro e w9 ⟨rfl,hb9⟩;have HB9:=hid (HB8.out.trans (hb9.mono HB8.out.size));have hx9:=HB9.out.size;have HD9:=hid (HD.out.below (b:=wr.heap.size) (by omega) HB9.out);have Qa:=hid (HD'.out.below (b:=wr.heap.size) (by omega) HB9.out);have HBE:=hid (HB.out.trans (HB9.out.mono (by omega)));clear hb9;go_wp2_with (fail)
    go_roundw
    case rel=>exact⟨m+1,by omega,by go_num,HBE.out,by omega,HD9.out,Qa.out⟩
    case measure=>simp[intOf];omega
end Go.Proofs.YtbdmcibcenhpnaaGreatDoor.De
