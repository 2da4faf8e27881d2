import Derived.Test.YtoofgpoeheponaaGreatDoorT36
namespace Go.Proofs.YtoofgpoeheponaaGreatDoor.Tr
set_option maxRecDepth 100000
open Go Go.RowKit Sp Pa Te Mi De
open Go.Lib (hid)
def KNum (N : Nat) (wb : World) (l : List Nat) (iv : Value) (wr : World) : Prop:=
 ∃ k : Nat,k≤l.length∧iv = .int .i64 k∧OwnsF wr wb.heap.size N (numF l k)∧Below wb.heap.size wb wr
def KeptD (i o : Int) (sn : Nat) (l : List Nat) (rs : List RuL) (fs : List FiL) (w : World) (e : Ending) (w' : World) : Prop:=
 Below w.heap.size w w'∧∃ A' cr' B' cf',e = .returned (dsc i o (l.length : Int) (numL l sn : Int) A' (trR l rs).length cr' B' (trF l fs).length cf')∧∀ W,w'.heap.size≤W.heap.size→(∀ g,w.heap.size≤g→g < w'.heap.size→W.heap[g]? = w'.heap[g]?)→DM W ⟨i,o,(l.length : Int),(numL l sn : Int),A',cr',B',cf',trR l rs,trF l fs⟩
theorem trR_mem {l : List Nat} {rs : List RuL} {r' : RuL} (h : r'∈trR l rs) : ∃ r∈rs,r'.gs = r.gs∧r'.out = r.out∧r'.eat = r.eat:=by
 unfold trR at h
 obtain ⟨r,h1,rfl⟩:=List.mem_map.1 h
 exact ⟨r,(List.mem_filter.1 h1).1,rfl,rfl,rfl⟩
theorem trF_mem {l : List Nat} {fs : List FiL} {r' : FiL} (h : r'∈trF l fs) : ∃ r∈fs,r'.gs = r.gs∧r'.out = r.out:=by
 unfold trF at h
 obtain ⟨r,h1,rfl⟩:=List.mem_map.1 h
 exact ⟨r,(List.mem_filter.1 h1).1,rfl,rfl⟩
set_option maxHeartbeats 32000000 in
theorem keep_any (N : Nat) (i o : Int) (sn : Nat) (A : Option Addr) (cr : Nat) (Bf : Option Addr) (cf : Nat) (rs : List RuL) (fs : List FiL) (f : Nat→Bool) (S : Nat) (w : World) (hm : Marks w S N f) (hd : DM w ⟨i,o,(N : Int),(sn : Int),A,cr,Bf,cf,rs,fs⟩) (hR : RightD ⟨i,o,(N : Int),(sn : Int),A,cr,Bf,cf,rs,fs⟩) (hfs : f sn = true) :
  Calls Tryz.prog 34 #[dsc i o (N : Int) (sn : Int) A rs.length cr Bf fs.length cf,.slice (some ⟨S,0,none⟩) N N] w (KeptD i o sn ((List.range N).filter f) rs fs w):=by
 have hN : N≤1024:=by have:=hR.n.2;dsimp only at this;omega
 have hsn : sn < N:=by have:=hR.s.2;dsimp only at this;omega
 have HRS:=hid hR.rs
 have HFS:=hid hR.fs
 have HRL:=hid (show rs.length≤4096∧fs.length≤4096 from ⟨hR.r,hR.f⟩)
 have HDM:=hid hd
 have HFN:=hid hfs
 clear hR hd hfs
 obtain ⟨i0,hi0,hz0,hz1,hz2⟩:=info_parts infoInt
 obtain ⟨w0,hw0⟩ : ∃ w0,w.alloc (.cells #[.int .i64 i,.int .i64 o,.int .i64 (N : Int),.int .i64 (sn : Int),.slice A rs.length cr,.slice Bf fs.length cf] 26) = w0:=⟨_,rfl⟩
 have hs0 : w0.heap.size = w.heap.size + 1:=by rw [← hw0];simp
 have hb0 : Below w.heap.size w w0:=by rw [← hw0];exact (Below.refl _ _).alloc (Nat.le_refl _) _
 have hd0 : DB w0 w.heap.size i o N sn A rs.length cr Bf fs.length cf:=by rw [← hw0];exact DB.boxed
 obtain ⟨w1,hw1⟩ : ∃ w1,w0.alloc (.cells #[.int .i64 0,.int .i64 0,.int .i64 0,.int .i64 0,.slice none 0 0,.slice none 0 0] 26) = w1:=⟨_,rfl⟩
 have hs1 : w1.heap.size = w.heap.size + 1 + 1:=by rw [← hw1];simp [hs0]
 have hb1 : Below w0.heap.size w0 w1:=by rw [← hw1];exact (Below.refl _ _).alloc (Nat.le_refl _) _
 have HD1:=hid (hd0.below (by omega) hb1)
 have HB1:=hid (hb0.trans (hb1.mono (by omega)))
 have HM:=hid hm
 have hmw : S < w.heap.size:=(World.ownsRow.lt hm S rfl).2
 clear hm hd0 hb0 hb1
 go_enter Tryz.func34,Tryz.ntmps34
 go_wp2_with (fail)
 refine (rising_any f N S w1 (HM.out.keep (HB1.out)) hN).mono ?_
 rintro e w2 ⟨v,rfl,hl,hb2⟩
 have HLM:=hid (show ∀ q∈(List.range N).filter f,q < N from fun q hq=>List.mem_range.1 (List.mem_filter.1 hq).1)
 have HLN:=hid (show ((List.range N).filter f).Nodup from List.Pairwise.filter _ List.nodup_range)
 obtain ⟨l,hll⟩ : ∃ l,(List.range N).filter f = l:=⟨_,rfl⟩
 have HLL:=hid hll
 have HMM:=hid (show ∀ q,q < N→(q∈l↔f q = true) from fun q hq=>by rw [← hll,List.mem_filter,List.mem_range];exact ⟨fun h=>h.2,fun h=>⟨hq,h⟩⟩)
 rw [hll] at hl HLM HLN
 have hlN : l.length≤N:=by rw [← hll];exact Nat.le_trans (List.length_filter_le _ _) (by simp)
 obtain ⟨Al,cl,hv⟩:=own_shape hl
 subst hv
 have HL:=hid hl
 have HB2:=hid (HB1.out.trans (hb2.mono HB1.out.size))
 have HB12:=hid hb2
 have hsz2:=hb2.size
 have HD2:=hid (HD1.out.below (by omega) hb2)
 obtain ⟨p0,p1,p2,p3,p4,p5⟩:=HD2.out
 have hmk:=run_make_row' (P:=Tryz.prog) 34 3 (.int .i64 0) 8 Tryz.underlying34 infoInt rfl .i64 .i64 N (by omega) (by omega) w2
 obtain ⟨w3,hw3⟩ : ∃ w3,w2.alloc (.cells (madeCells #[.int .i64 0] N) 3) = w3:=⟨_,rfl⟩
 rw [hw3] at hmk
 have HK0:=hid (show KNum N w2 l (.int .i64 (0 : Nat)) w3 from ⟨0,Nat.zero_le _,rfl,by
  have:=World.ownsRow_lit (base:=w2.heap.size) (e:=3) (size:=1) w2 (madeCells #[.int .i64 0] N) N (by omega) (by simp only [maxLen];omega) (by simp [madeCells])
  rw [toList_madeCells_one,hw3] at this
  unfold OwnsF
  rw [numF_zero,show natV ((List.range N).map fun _=>0) = List.replicate N (.int .i64 0) from List.ext_getElem (by simp [natV]) fun j h1 h2=>by simp [natV]]
  exact this,by rw [← hw3];exact (Below.refl _ _).alloc (Nat.le_refl _) _⟩)
 clear hl hb2 hll
 go_wp2_with (fail)
 clear hmk p0 p1 p2 p3 p4 p5
 go_loopw [21] (fun iv wr=>KNum N w2 l iv wr) (fun iv _=>l.length - (intOf iv).toNat)
 case atStart=>exact HK0.out
 case round=>
  obtain ⟨k,hk,rfl,ho,hbl⟩:=hrel
  have HO:=hid ho
  have HB:=hid hbl
  have hszr:=hbl.size
  by_cases hlt : k < l.length
  ·have hlr:=ownsRow_keep HL.out fun x e=>hbl.block x (World.ownsRow.lt HL.out x e).2
   obtain ⟨g,c3,hA,_,hgl⟩:=World.ownsRow.form hlr (by omega)
   simp only [Value.slice.injEq] at hA
   obtain ⟨hA,-,-⟩:=hA
   subst hA
   obtain ⟨q,hq⟩ : ∃ q,l[k] = q:=⟨_,rfl⟩
   have HQ:=hid hq
   have hqN:=HLM.out l[k] (List.getElem_mem hlt)
   rw [hq] at hqN
   have hc : wr.cell? ⟨g,k,none⟩ = some (.int .i64 (q : Int)):=by
    rw [World.ownsRow.cellAt hlr k (by omega)]
    simp [natV,hlt,hq]
   have he:=ho.cell hqN
   have hf:=ho.frozen q
   have i1 : (0 : Int)≤(q : Int):=Int.natCast_nonneg _
   have i2 : (q : Int) < (N : Int):=by omega
   have HLT:=hid hlt
   have HNX:=hid (show OwnsF (wr.setCell ⟨w2.heap.size,q,none⟩ (.int .i64 (k : Int))) w2.heap.size N (numF l (k + 1)) by
    rw [numF_next HLN.out hlt,hq]
    exact ho.stored q k rfl)
   clear hlr hq ho hbl
   go_wp2_with (fail)
   go_roundw
   case rel=>exact ⟨k + 1,by omega,by go_num,HNX.out,HB.out.setCell (Nat.le_refl _) _⟩
   case measure=>simp [intOf];omega
  ·obtain rfl : k = l.length:=by omega
   have HO:=hid ho
   have HBL1:=hid hbl
   have HDW:=hid (HD2.out.below (by omega) hbl)
   obtain ⟨ns,hns⟩ : ∃ ns,numF l l.length sn = ns:=⟨_,rfl⟩
   have HNS:=hid hns
   have hcn:=ho.cell hsn
   rw [hns] at hcn
   have HCN:=hid hcn
   have hnl:=ho.lt
   have i1 : (0 : Int)≤(sn : Int):=Int.natCast_nonneg _
   have i2 : (sn : Int) < (N : Int):=by omega
   clear ho hbl hns hcn
   go_wp2_with (fail)
   rename World=>wr
   obtain ⟨wd,hwd⟩ : ∃ wd,wr.drew = wd:=⟨_,rfl⟩
   have hBx : Below wr.heap.size wr wd:=by rw [← hwd];exact (Below.refl _ _).drew
   have hQW : DB wd w.heap.size i o (N : Int) (sn : Int) A rs.length cr Bf fs.length cf∧wd.cell? ⟨w2.heap.size,sn,none⟩ = some (.int .i64 (ns : Int)):=⟨HDW.out.below (by omega) hBx,(hBx.cell (p:=⟨w2.heap.size,sn,none⟩) hnl).trans HCN.out⟩
   refine wp_region_held_drew (S:=fun W=>DB W w.heap.size i o (N : Int) (sn : Int) A rs.length cr Bf fs.length cf∧W.cell? ⟨w2.heap.size,sn,none⟩ = some (.int .i64 (ns : Int))) (by kernel_rfl) (by rw [hwd];exact hQW) (fun hHeld=>?_)
   rw [hwd] at hHeld ⊢
   refine wpAnyH_take (i:=0) (oi:=⟨some 31,.fieldAddr 26 (.tmp 2) 0,0,"trim.go:109",#[],none⟩) (v:=?_) rfl (by kernel_rfl) (by kernel_rfl) (by kernel_rfl) (fun _ _ _ h=>h) (Or.inl ⟨by rfl,?_⟩) (by assumption) ?_
   rotate_left
   ·intro w' hSw
    (try dsimp only at hSw)
    obtain ⟨⟨y0,y1,y2,y3,y4,y5⟩,yc⟩:=hSw
    go_simp
    all_goals with_reducible rfl
   try simp only [Act.put,List.setIfInBounds_toArray,List.set_cons_zero,List.set_cons_succ]
   refine wpAnyH_take (i:=1) (oi:=⟨some 32,.load 22 (.tmp 31),22,"trim.go:109",#[⟨0,.data⟩],none⟩) (v:=?_) rfl (by kernel_rfl) (by kernel_rfl) (by kernel_rfl) (fun _ _ _ h=>h) (Or.inl ⟨by rfl,?_⟩) (by assumption) ?_
   rotate_left
   ·intro w' hSw
    (try dsimp only at hSw)
    obtain ⟨⟨y0,y1,y2,y3,y4,y5⟩,yc⟩:=hSw
    go_simp
    all_goals with_reducible rfl
   try simp only [Act.put,List.setIfInBounds_toArray,List.set_cons_zero,List.set_cons_succ]
   refine wpAnyH_take (i:=2) (oi:=⟨some 33,.fieldAddr 26 (.tmp 2) 1,0,"trim.go:109",#[],none⟩) (v:=?_) rfl (by kernel_rfl) (by kernel_rfl) (by kernel_rfl) (fun _ _ _ h=>h) (Or.inl ⟨by rfl,?_⟩) (by assumption) ?_
   rotate_left
   ·intro w' hSw
    (try dsimp only at hSw)
    obtain ⟨⟨y0,y1,y2,y3,y4,y5⟩,yc⟩:=hSw
    go_simp
    all_goals with_reducible rfl
   try simp only [Act.put,List.setIfInBounds_toArray,List.set_cons_zero,List.set_cons_succ]
   refine wpAnyH_take (i:=3) (oi:=⟨some 34,.load 22 (.tmp 33),22,"trim.go:109",#[⟨2,.data⟩],none⟩) (v:=?_) rfl (by kernel_rfl) (by kernel_rfl) (by kernel_rfl) (fun _ _ _ h=>h) (Or.inl ⟨by rfl,?_⟩) (by assumption) ?_
   rotate_left
   ·intro w' hSw
    (try dsimp only at hSw)
    obtain ⟨⟨y0,y1,y2,y3,y4,y5⟩,yc⟩:=hSw
    go_simp
    all_goals with_reducible rfl
   try simp only [Act.put,List.setIfInBounds_toArray,List.set_cons_zero,List.set_cons_succ]
   refine wpAnyH_take (i:=4) (oi:=⟨some 35,.move (.tmp 5),34,"trim.go:109",#[],none⟩) (v:=?_) rfl (by kernel_rfl) (by kernel_rfl) (by kernel_rfl) (fun _ _ _ h=>h) (Or.inl ⟨by rfl,?_⟩) (by assumption) ?_
   rotate_left
   ·intro w' hSw
    (try dsimp only at hSw)
    obtain ⟨⟨y0,y1,y2,y3,y4,y5⟩,yc⟩:=hSw
    go_simp
    all_goals with_reducible rfl
   try simp only [Act.put,List.setIfInBounds_toArray,List.set_cons_zero,List.set_cons_succ]
   refine wpAnyH_take (i:=5) (oi:=⟨some 36,.call { callee:=.builtin .len,args:=#[.tmp 35],argTypes:=#[34] },3,"trim.go:109",#[⟨4,.data⟩],none⟩) (v:=?_) rfl (by kernel_rfl) (by kernel_rfl) (by kernel_rfl) (fun _ _ _ h=>h) (Or.inl ⟨by rfl,?_⟩) (by assumption) ?_
   rotate_left
   ·intro w' hSw
    (try dsimp only at hSw)
    obtain ⟨⟨y0,y1,y2,y3,y4,y5⟩,yc⟩:=hSw
    go_simp
    all_goals with_reducible rfl
   try simp only [Act.put,List.setIfInBounds_toArray,List.set_cons_zero,List.set_cons_succ]
   refine wpAnyH_take (i:=6) (oi:=⟨some 37,.move (.tmp 6),34,"trim.go:109",#[],none⟩) (v:=?_) rfl (by kernel_rfl) (by kernel_rfl) (by kernel_rfl) (fun _ _ _ h=>h) (Or.inl ⟨by rfl,?_⟩) (by assumption) ?_
   rotate_left
   ·intro w' hSw
    (try dsimp only at hSw)
    obtain ⟨⟨y0,y1,y2,y3,y4,y5⟩,yc⟩:=hSw
    go_simp
    all_goals with_reducible rfl
   try simp only [Act.put,List.setIfInBounds_toArray,List.set_cons_zero,List.set_cons_succ]
   refine wpAnyH_take (i:=7) (oi:=⟨some 38,.fieldAddr 26 (.tmp 2) 3,0,"trim.go:109",#[],none⟩) (v:=?_) rfl (by kernel_rfl) (by kernel_rfl) (by kernel_rfl) (fun _ _ _ h=>h) (Or.inl ⟨by rfl,?_⟩) (by assumption) ?_
   rotate_left
   ·intro w' hSw
    (try dsimp only at hSw)
    obtain ⟨⟨y0,y1,y2,y3,y4,y5⟩,yc⟩:=hSw
    go_simp
    all_goals with_reducible rfl
   try simp only [Act.put,List.setIfInBounds_toArray,List.set_cons_zero,List.set_cons_succ]
   refine wpAnyH_take (i:=8) (oi:=⟨some 39,.load 3 (.tmp 38),3,"trim.go:109",#[⟨7,.data⟩],none⟩) (v:=?_) rfl (by kernel_rfl) (by kernel_rfl) (by kernel_rfl) (fun _ _ _ h=>h) (Or.inl ⟨by rfl,?_⟩) (by assumption) ?_
   rotate_left
   ·intro w' hSw
    (try dsimp only at hSw)
    obtain ⟨⟨y0,y1,y2,y3,y4,y5⟩,yc⟩:=hSw
    go_simp
    all_goals with_reducible rfl
   try simp only [Act.put,List.setIfInBounds_toArray,List.set_cons_zero,List.set_cons_succ]
   refine wpAnyH_take (i:=9) (oi:=⟨some 40,.indexAddr 34 (.tmp 37) (.tmp 39),0,"trim.go:109",#[⟨6,.data⟩,⟨8,.data⟩],none⟩) (v:=?_) rfl (by kernel_rfl) (by kernel_rfl) (by kernel_rfl) (fun _ _ _ h=>h) (Or.inl ⟨by rfl,?_⟩) (by assumption) ?_
   rotate_left
   ·intro w' hSw
    (try dsimp only at hSw)
    obtain ⟨⟨y0,y1,y2,y3,y4,y5⟩,yc⟩:=hSw
    go_simp
    all_goals with_reducible rfl
   try simp only [Act.put,List.setIfInBounds_toArray,List.set_cons_zero,List.set_cons_succ]
   refine wpAnyH_take (i:=10) (oi:=⟨some 41,.load 3 (.tmp 40),3,"trim.go:109",#[⟨9,.data⟩],none⟩) (v:=?_) rfl (by kernel_rfl) (by kernel_rfl) (by kernel_rfl) (fun _ _ _ h=>h) (Or.inl ⟨by rfl,?_⟩) (by assumption) ?_
   rotate_left
   ·intro w' hSw
    (try dsimp only at hSw)
    obtain ⟨⟨y0,y1,y2,y3,y4,y5⟩,yc⟩:=hSw
    go_simp
    all_goals with_reducible rfl
   try simp only [Act.put,List.setIfInBounds_toArray,List.set_cons_zero,List.set_cons_succ]
   refine wpAnyH_take (i:=11) (oi:=⟨some 42,.build 26 #[(0,.tmp 32),(1,.tmp 34),(2,.tmp 36),(3,.tmp 41)],26,"trim.go:109",#[⟨1,.data⟩,⟨3,.data⟩,⟨5,.data⟩,⟨10,.data⟩],none⟩) (v:=?_) rfl (by kernel_rfl) (by kernel_rfl) (by kernel_rfl) (fun _ _ _ h=>h) (Or.inl ⟨by rfl,?_⟩) (by assumption) ?_
   rotate_left
   ·intro w' hSw
    (try dsimp only at hSw)
    obtain ⟨⟨y0,y1,y2,y3,y4,y5⟩,yc⟩:=hSw
    go_simp
    all_goals with_reducible rfl
   try simp only [Act.put,List.setIfInBounds_toArray,List.set_cons_zero,List.set_cons_succ]
   refine wpAnyH_ready (rs:=[12]) (by kernel_rfl) (by simp) ?_
   refine AllReadyH.cons (o:=⟨some 9,.alloc 26,0,"trim.go:109",#[],none⟩) rfl (fun K hK=>?_) AllReadyH.nil
   obtain ⟨ws,hws,hqs,hls,hbS⟩:=new_cells wd #[.int .i64 0,.int .i64 0,.int .i64 0,.int .i64 0,.slice none 0 0,.slice none 0 0] 26
   have hsd:=hBx.size
   have hQW2 : DB ws w.heap.size i o (N : Int) (sn : Int) A rs.length cr Bf fs.length cf∧ws.cell? ⟨w2.heap.size,sn,none⟩ = some (.int .i64 (ns : Int)):=⟨hQW.1.below (by omega) hbS,(hbS.cell (p:=⟨w2.heap.size,sn,none⟩) (by show w2.heap.size < _;omega)).trans hQW.2⟩
   go_simp
   try rw [hws]
   refine hK.out _ _ ?_ (fun hHeld=>?_)
   ·exact hQW2
   clear hK K
   try simp only [Act.put,List.setIfInBounds_toArray,List.set_cons_zero,List.set_cons_succ]
   subst hws
   refine wpAnyH_ready (rs:=[13]) (by kernel_rfl) (by simp) ?_
   refine AllReadyH.cons (o:=⟨none,.store 26 (.tmp 9) (.tmp 42),0,"trim.go:109",#[⟨12,.data⟩,⟨11,.data⟩,⟨0,.phase⟩,⟨1,.phase⟩,⟨2,.phase⟩,⟨3,.phase⟩,⟨4,.phase⟩,⟨5,.phase⟩,⟨6,.phase⟩,⟨7,.phase⟩,⟨8,.phase⟩,⟨9,.phase⟩,⟨10,.phase⟩,⟨11,.phase⟩,⟨12,.phase⟩],none⟩) rfl (fun K hK=>?_) AllReadyH.nil
   go_simp
   obtain ⟨wz,hwz⟩ : ∃ wz,wd.alloc (.cells #[.int .i64 i,.int .i64 o,.int .i64 (l.length : Int),.int .i64 (ns : Int),.slice none 0 0,.slice none 0 0] 26) = wz:=⟨_,rfl⟩
   have hbZ : Below wd.heap.size wd wz:=by rw [← hwz];exact (Below.refl _ _).alloc (Nat.le_refl _) _
   have hQWZ : DB wz w.heap.size i o (N : Int) (sn : Int) A rs.length cr Bf fs.length cf∧wz.cell? ⟨w2.heap.size,sn,none⟩ = some (.int .i64 (ns : Int)):=⟨hQW.1.below (by omega) hbZ,(hbZ.cell (p:=⟨w2.heap.size,sn,none⟩) (by show w2.heap.size < _;omega)).trans hQW.2⟩
   have HBX:=hid (show DBox wz wd.heap.size i o (l.length : Int) (ns : Int) (.slice none 0 0) (.slice none 0 0) by rw [← hwz];exact heap_alloc_new wd _)
   have hszz : wz.heap.size = wd.heap.size + 1:=by rw [← hwz];simp
   try rw [hwz]
   refine hK.out _ _ ?_ (fun hHeld=>?_)
   ·exact hQWZ
   clear hK K
   try simp only [Act.put,List.setIfInBounds_toArray,List.set_cons_zero,List.set_cons_succ]
   refine wpAnyH_done (by kernel_rfl) ?_ _
   have hsd:=hBx.size
   have hbRZ : Below wr.heap.size wr wz:=hBx.trans (hbZ.mono hsd)
   have hb2r:=HBL1.out
   have hs2r:=hb2r.size
   have hbWZ : Below w.heap.size w wz:=(HB2.out.trans (hb2r.mono HB2.out.size)).trans (hbRZ.mono (by have:=HB2.out.size;omega))
   obtain ⟨x,hx⟩ : ∃ x,wd.heap.size = x:=⟨_,rfl⟩
   rw [hx] at HBX hszz
   rw [hx]
   have hxr : wr.heap.size≤x:=by omega
   have hwx : w.heap.size < x:=by have:=HB2.out.size;omega
   have HBW:=hid hbWZ
   have HXW:=hid (show w.heap.size≤x∧x < wz.heap.size by omega)
   have HZ:=hid (fun W (hW : Below x wz W)=>show DM W ⟨i,o,(N : Int),(sn : Int),A,cr,Bf,cf,rs,fs⟩ from HDM.out.below (hbWZ.trans (hW.mono (by omega))))
   have HNM:=hid (fun W (hW : Below x wz W) q (hq : q < N)=>show W.cell? ⟨w2.heap.size,q,none⟩ = some (.int .i64 (numF l l.length q : Int)) from (hW.cell (p:=⟨w2.heap.size,q,none⟩) (show w2.heap.size < x by omega)).trans ((hbRZ.cell (p:=⟨w2.heap.size,q,none⟩) hnl).trans (HO.out.cell hq)))
   have HMK:=hid (fun W (hW : Below x wz W) q (hq : q < N)=>show W.cell? ⟨S,q,none⟩ = some (.bool (f q)) from (hW.cell (p:=⟨S,q,none⟩) (show S < x by omega)).trans ((hbWZ.cell (p:=⟨S,q,none⟩) hmw).trans (HM.out.cell hq)))
   have HDD:=hid (fun W (hW : Below x wz W)=>show DB W w.heap.size i o (N : Int) (sn : Int) A rs.length cr Bf fs.length cf from hQWZ.1.below hwx hW)
   have HRES:=hid (fun W (hW : Below x wz W)=>show Blk W (w.heap.size + 1) 26 #[.int .i64 0,.int .i64 0,.int .i64 0,.int .i64 0,.slice none 0 0,.slice none 0 0] from by
    have h1 : Blk w1 (w.heap.size + 1) 26 #[.int .i64 0,.int .i64 0,.int .i64 0,.int .i64 0,.slice none 0 0,.slice none 0 0]:=by rw [← hw1,← hs0];exact heap_alloc_new w0 _
    exact ((h1.below HB12.out (by omega)).below (hb2r.trans (hbRZ.mono hs2r)) (by omega)).below hW (by omega))
   obtain ⟨⟨z0,z1,z2,z3,z4,z5⟩,_⟩:=hQWZ
   have HXE:=hid hx
   clear hQW hQW2 hHeld hbRZ hb2r hbWZ hBx hbZ hwz hwd hx
   go_wp2_with (fail)
   clear z0 z1 z2 z3 z4 z5
   go_loopw [46] (fun iv wr=>KrRel x i o (l.length : Int) (ns : Int) l rs wz iv wr) (fun iv _=>rs.length - (intOf iv).toNat)
   case atStart=>exact ⟨0,.slice none 0 0,Nat.zero_le _,rfl,by rw [List.take_zero];exact LayS.start HBX.out,Below.refl _ _,by rw [List.take_zero];exact NilW.nil_ _ _ _ _ _⟩
   case round=>
    obtain ⟨k,v,hk,rfl,hlay,hbl,hnil⟩:=hrel
    have HLAY:=hid hlay
    have HBL:=hid hbl
    have HNIL:=hid hnil
    by_cases hlt : k < rs.length
    ·have hdw:=HZ.out wr hbl
     obtain ⟨b,off,A',c',A2,c2,hA,hbB,d0,d1,d2,d3,d4,⟨hg,hgc,hgl,hgm⟩,ht,htc,htl,_⟩:=hdw.rules.at_ hlt
     have HNT:=hid (fun e : A2 = none=>hdw.nr b off hA k hlt rs[k].out.length c2 (by rw [← e];exact d4))
     obtain ⟨r,hrk⟩ : ∃ r,rs[k] = r:=⟨_,rfl⟩
     have HRK:=hid hrk
     rw [hrk] at d0 d1 d2 d3 d4 hg hgc hgl hgm ht htc htl
     obtain ⟨f0,f1,f2,f3,f4,f5,f6,f7,_⟩:=HRS.out r (by rw [← hrk];exact List.getElem_mem hlt)
     obtain ⟨p,hp⟩ : ∃ p : Nat,r.frm = (p : Int):=⟨r.frm.toNat,by omega⟩
     obtain ⟨q,hq⟩ : ∃ q : Nat,r.to_ = (q : Int):=⟨r.to_.toNat,by omega⟩
     try dsimp only at f1 f3
     have hpN : p < N:=by omega
     have hqN : q < N:=by omega
     have hp' : r.frm.toNat = p:=by omega
     have hq' : r.to_.toNat = q:=by omega
     rw [hp] at d0
     rw [hq] at d1
     have HGU0:=hid (fun W (h : RGs W A' r.gs.length r.gs)=>guards_new A' c' r.gs W h (by omega) (fun g hg=>by have:=f5 g hg;omega))
     have HTE0:=hid (fun W g (h : RTm W A2 r.out.length r.out) (hc : W.cell? ⟨g,0,none⟩ = some (.slice A2 r.out.length c2)) (hlt : g < W.heap.size)=>terms_new g 1 c2 A2 r.out W hc hlt h (by omega) (fun t ht=>by have:=f7 t ht;omega) HNT.out)
     obtain ⟨ng,hng⟩ : ∃ ng,r.gs.length = ng:=⟨_,rfl⟩
     obtain ⟨nt,hnt⟩ : ∃ nt,r.out.length = nt:=⟨_,rfl⟩
     have HNN:=hid (And.intro hng hnt)
     rw [hng] at d2 hgc hgl hg HGU0
     rw [hnt] at d4 htc htl ht HTE0
     have HG:=hid hg
     have HT:=hid ht
     have HK:=hid hlt
     have HFP:=hid (And.intro hp' hq')
     have hkb : k < 4096:=by have:=HRL.out.1;omega
     have hzr:=hbl.size
     have hxl : x < wr.heap.size:=hlay.box.lt
     obtain ⟨nL,hnL⟩ : ∃ nL,(trR l (rs.take k)).length = nL:=⟨_,rfl⟩
     have HNL:=hid hnL
     have hnLb : nL≤4096:=by
      have h1:=HRL.out.1
      rw [← hnL]
      unfold trR
      rw [List.length_map]
      refine Nat.le_trans (List.length_filter_le _ _) ?_
      rw [List.length_take]
      omega
     have hwr : w.heap.size≤wr.heap.size:=by have:=HXW.out;omega
     subst hA
     clear hlay hbl hnil hg ht hgm hrk hng hnt hdw f4 f5 f6 f7 hnL
     go_upto_region 12 with (fail)
     obtain ⟨wb0,hwb0⟩ : ∃ wb0,wr.alloc (.cells #[.int .i64 (p : Int),.int .i64 (q : Int),.slice A' ng c',.int .i64 r.eat,.slice A2 nt c2] 50) = wb0:=⟨_,rfl⟩
     rw [hwb0]
     have hq0 : Blk wb0 wr.heap.size 50 #[.int .i64 (p : Int),.int .i64 (q : Int),.slice A' ng c',.int .i64 r.eat,.slice A2 nt c2]:=by
      rw [← hwb0]
      exact heap_alloc_new wr _
     have hs0' : wb0.heap.size = wr.heap.size + 1:=by rw [← hwb0];simp
     have HB0:=hid (show Below wr.heap.size wr wb0 by rw [← hwb0];exact (Below.refl _ _).alloc (Nat.le_refl _) _)
     have HQ0:=hid hq0
     have hbz0 : Below x wz wb0:=HBL.out.trans (HB0.out.mono (by omega))
     have m1:=HMK.out wb0 hbz0 p hpN
     have m2:=HMK.out wb0 hbz0 q hqN
     have j0:=hq0.cell 0
     have j1:=hq0.cell 1
     simp only [List.getElem?_toArray,List.getElem?_cons_zero,List.getElem?_cons_succ] at j0 j1
     have n1 : (0 : Int)≤(p : Int):=Int.natCast_nonneg _
     have n2 : (p : Int) < (N : Int):=by omega
     have n3 : (0 : Int)≤(q : Int):=Int.natCast_nonneg _
     have n4 : (q : Int) < (N : Int):=by omega
     have HGONE:=hid (fun (h : (f p && f q) = false)=>show KrRel x i o (l.length : Int) (ns : Int) l rs wz (.int .i64 ((k + 1 : Nat) : Int)) wb0 from rule_gone HK.out (by
      rw [HRK.out,HFP.out.1,HFP.out.2]
      rw [Bool.and_eq_false_iff] at h ⊢
      rcases h with h | h
      ·exact .inl (decide_eq_false fun hm=>by have:=(HMM.out p hpN).1 hm;rw [h] at this;cases this)
      ·exact .inr (decide_eq_false fun hm=>by have:=(HMM.out q hqN).1 hm;rw [h] at this;cases this)) HLAY.out HBL.out HNIL.out HB0.out)
     clear hq0 hbz0 hwb0
     cases hfp : f p with
     | false=>
      rw [hfp] at m1
      have HGO:=hid (HGONE.out (by rw [hfp];rfl))
      go_wp2_with (fail)
      go_roundw
      case rel=>exact HGO.out
      case measure=>simp [intOf];omega
     | true=>
     rw [hfp] at m1
     cases hfq : f q with
     | false=>
      rw [hfq] at m2
      have HGO:=hid (HGONE.out (by rw [hfq];simp))
      go_wp2_with (fail)
      go_roundw
      case rel=>exact HGO.out
      case measure=>simp [intOf];omega
     | true=>
     rw [hfq] at m2
     have HMP:=hid (show r.frm.toNat∈l by rw [HFP.out.1];exact (HMM.out p hpN).2 hfp)
     have HMQ:=hid (show r.to_.toNat∈l by rw [HFP.out.2];exact (HMM.out q hqN).2 hfq)
     obtain ⟨np,hnp⟩ : ∃ np,numF l l.length p = np:=⟨_,rfl⟩
     obtain ⟨nq,hnq⟩ : ∃ nq,numF l l.length q = nq:=⟨_,rfl⟩
     have HNP:=hid (show numL l r.frm.toNat = np∧numL l r.to_.toNat = nq from ⟨by rw [← numF_all HMP.out,HFP.out.1];exact hnp,by rw [← numF_all HMQ.out,HFP.out.2];exact hnq⟩)
     have HNW:=hid (show (∀ W,Below wr.heap.size wr W→W.cell? ⟨w2.heap.size,p,none⟩ = some (.int .i64 (np : Int)))∧∀ W,Below wr.heap.size wr W→W.cell? ⟨w2.heap.size,q,none⟩ = some (.int .i64 (nq : Int)) from ⟨fun W hW=>by rw [← hnp];exact HNM.out W (HBL.out.trans (hW.mono (by omega))) p hpN,fun W hW=>by rw [← hnq];exact HNM.out W (HBL.out.trans (hW.mono (by omega))) q hqN⟩)
     clear hnp hnq HGONE hfp hfq
     go_upto_region 13 with (fail)
     clear m1 m2 j0 j1
     go_cut [] (fun wx=>Blk wx wr.heap.size 50 #[.int .i64 (np : Int),.int .i64 (nq : Int),.slice A' ng c',.int .i64 r.eat,.slice A2 nt c2]∧Below wr.heap.size wr wx)
     case first=>
      have hBr : Below wr.heap.size wr wb0.drew:=HB0.out.drew
      have hqb : Blk wb0.drew wr.heap.size 50 #[.int .i64 (p : Int),.int .i64 (q : Int),.slice A' ng c',.int .i64 r.eat,.slice A2 nt c2]:=HQ0.out.drew
      obtain ⟨wd,hwd⟩ : ∃ wd,wb0.drew = wd:=⟨_,rfl⟩
      refine wp_region_held_drew (S:=fun W=>Below wr.heap.size wr W) (by kernel_rfl) hBr (fun hHeld=>?_)
      rw [hwd] at hBr hqb hHeld ⊢
      refine wpAnyH_take (i:=0) (oi:=⟨some 62,.move (.tmp 6),34,"trim.go:112",#[],none⟩) (v:=?_) rfl (by kernel_rfl) (by kernel_rfl) (by kernel_rfl) (fun _ _ _ h=>h) (Or.inl ⟨by rfl,?_⟩) (by assumption) ?_
      rotate_left
      ·intro w' hSw
       (try dsimp only at hSw)
       have nm1:=HNW.out.1 w' hSw
       have nm2:=HNW.out.2 w' hSw
       go_simp
       all_goals with_reducible rfl
      try simp only [Act.put,List.setIfInBounds_toArray,List.set_cons_zero,List.set_cons_succ]
      refine wpAnyH_take (i:=5) (oi:=⟨some 67,.move (.tmp 6),34,"trim.go:112",#[],none⟩) (v:=?_) rfl (by kernel_rfl) (by kernel_rfl) (by kernel_rfl) (fun _ _ _ h=>h) (Or.inl ⟨by rfl,?_⟩) (by assumption) ?_
      rotate_left
      ·intro w' hSw
       (try dsimp only at hSw)
       have nm1:=HNW.out.1 w' hSw
       have nm2:=HNW.out.2 w' hSw
       go_simp
       all_goals with_reducible rfl
      try simp only [Act.put,List.setIfInBounds_toArray,List.set_cons_zero,List.set_cons_succ]
      refine wpAnyH_take (i:=1) (oi:=⟨some 63,.fieldAddr 50 (.tmp 11) 0,0,"trim.go:112",#[],none⟩) (v:=?_) rfl (by kernel_rfl) (by kernel_rfl) (by kernel_rfl) (fun _ _ _ h=>h) (Or.inl ⟨by rfl,?_⟩) (by assumption) ?_
      rotate_left
      ·intro w' hSw
       (try dsimp only at hSw)
       have nm1:=HNW.out.1 w' hSw
       have nm2:=HNW.out.2 w' hSw
       go_simp
       all_goals with_reducible rfl
      try simp only [Act.put,List.setIfInBounds_toArray,List.set_cons_zero,List.set_cons_succ]
      refine wpAnyH_take (i:=6) (oi:=⟨some 68,.fieldAddr 50 (.tmp 11) 1,0,"trim.go:112",#[],none⟩) (v:=?_) rfl (by kernel_rfl) (by kernel_rfl) (by kernel_rfl) (fun _ _ _ h=>h) (Or.inl ⟨by rfl,?_⟩) (by assumption) ?_
      rotate_left
      ·intro w' hSw
       (try dsimp only at hSw)
       have nm1:=HNW.out.1 w' hSw
       have nm2:=HNW.out.2 w' hSw
       go_simp
       all_goals with_reducible rfl
      try simp only [Act.put,List.setIfInBounds_toArray,List.set_cons_zero,List.set_cons_succ]
      refine wpAnyH_ready (rs:=[2,7]) (by kernel_rfl) (by simp) ?_
      refine (AllReadyH.cons (o:=⟨some 64,.load 3 (.tmp 63),3,"trim.go:112",#[⟨1,.data⟩],none⟩) rfl (fun K hK=>?_) (AllReadyH.cons (o:=⟨some 69,.load 3 (.tmp 68),3,"trim.go:112",#[⟨6,.data⟩],none⟩) rfl (fun K hK=>?_) AllReadyH.nil))
      focus
       have hcl : wd.cell? ⟨wr.heap.size,0,none⟩ = some (.int .i64 (p : Int)):=hqb.cell 0
       go_simp
       clear hcl
       refine hK.out _ _ ?_ (fun hHeld=>?_)
       ·exact hBr
       clear hK K
       try simp only [Act.put,List.setIfInBounds_toArray,List.set_cons_zero,List.set_cons_succ]
       refine wpAnyH_take (i:=3) (oi:=⟨some 65,.indexAddr 34 (.tmp 62) (.tmp 64),0,"trim.go:112",#[⟨0,.data⟩,⟨2,.data⟩],none⟩) (v:=?_) rfl (by kernel_rfl) (by kernel_rfl) (by kernel_rfl) (fun _ _ _ h=>h) (Or.inl ⟨by rfl,?_⟩) (by assumption) ?_
       rotate_left
       ·intro w' hSw
        (try dsimp only at hSw)
        have nm1:=HNW.out.1 w' hSw
        have nm2:=HNW.out.2 w' hSw
        go_simp
        all_goals with_reducible rfl
       try simp only [Act.put,List.setIfInBounds_toArray,List.set_cons_zero,List.set_cons_succ]
       refine wpAnyH_take (i:=4) (oi:=⟨some 66,.load 3 (.tmp 65),3,"trim.go:112",#[⟨3,.data⟩],none⟩) (v:=?_) rfl (by kernel_rfl) (by kernel_rfl) (by kernel_rfl) (fun _ _ _ h=>h) (Or.inl ⟨by rfl,?_⟩) (by assumption) ?_
       rotate_left
       ·intro w' hSw
        (try dsimp only at hSw)
        have nm1:=HNW.out.1 w' hSw
        have nm2:=HNW.out.2 w' hSw
        go_simp
        all_goals with_reducible rfl
       try simp only [Act.put,List.setIfInBounds_toArray,List.set_cons_zero,List.set_cons_succ]
       refine wpAnyH_ready (rs:=[7]) (by kernel_rfl) (by simp) ?_
       refine (AllReadyH.cons (o:=⟨some 69,.load 3 (.tmp 68),3,"trim.go:112",#[⟨6,.data⟩],none⟩) rfl (fun K hK=>?_) AllReadyH.nil)
       focus
        have hcl : wd.cell? ⟨wr.heap.size,1,none⟩ = some (.int .i64 (q : Int)):=hqb.cell 1
        go_simp
        clear hcl
        refine hK.out _ _ ?_ (fun hHeld=>?_)
        ·exact hBr
        clear hK K
        try simp only [Act.put,List.setIfInBounds_toArray,List.set_cons_zero,List.set_cons_succ]
        refine wpAnyH_take (i:=8) (oi:=⟨some 70,.indexAddr 34 (.tmp 67) (.tmp 69),0,"trim.go:112",#[⟨5,.data⟩,⟨7,.data⟩],none⟩) (v:=?_) rfl (by kernel_rfl) (by kernel_rfl) (by kernel_rfl) (fun _ _ _ h=>h) (Or.inl ⟨by rfl,?_⟩) (by assumption) ?_
        rotate_left
        ·intro w' hSw
         (try dsimp only at hSw)
         have nm1:=HNW.out.1 w' hSw
         have nm2:=HNW.out.2 w' hSw
         go_simp
         all_goals with_reducible rfl
        try simp only [Act.put,List.setIfInBounds_toArray,List.set_cons_zero,List.set_cons_succ]
        refine wpAnyH_take (i:=9) (oi:=⟨some 71,.load 3 (.tmp 70),3,"trim.go:112",#[⟨8,.data⟩],none⟩) (v:=?_) rfl (by kernel_rfl) (by kernel_rfl) (by kernel_rfl) (fun _ _ _ h=>h) (Or.inl ⟨by rfl,?_⟩) (by assumption) ?_
        rotate_left
        ·intro w' hSw
         (try dsimp only at hSw)
         have nm1:=HNW.out.1 w' hSw
         have nm2:=HNW.out.2 w' hSw
         go_simp
         all_goals with_reducible rfl
        try simp only [Act.put,List.setIfInBounds_toArray,List.set_cons_zero,List.set_cons_succ]
        refine wpAnyH_take (i:=10) (oi:=⟨some 72,.fieldAddr 50 (.tmp 11) 0,0,"trim.go:112",#[⟨0,.phase⟩,⟨1,.phase⟩,⟨2,.phase⟩,⟨3,.phase⟩,⟨4,.phase⟩,⟨5,.textOnly .lateStores⟩,⟨6,.phase⟩,⟨7,.phase⟩,⟨8,.textOnly .lateStoresUnsure⟩,⟨9,.textOnly .lateStoresUnsure⟩],none⟩) (v:=?_) rfl (by kernel_rfl) (by kernel_rfl) (by kernel_rfl) (fun _ _ _ h=>h) (Or.inl ⟨by rfl,?_⟩) (by assumption) ?_
        rotate_left
        ·intro w' hSw
         (try dsimp only at hSw)
         have nm1:=HNW.out.1 w' hSw
         have nm2:=HNW.out.2 w' hSw
         go_simp
         all_goals with_reducible rfl
        try simp only [Act.put,List.setIfInBounds_toArray,List.set_cons_zero,List.set_cons_succ]
        refine wpAnyH_ready (rs:=[11]) (by kernel_rfl) (by simp) ?_
        refine (AllReadyH.cons (o:=⟨none,.store 3 (.tmp 72) (.tmp 66),0,"trim.go:112",#[⟨10,.data⟩,⟨4,.data⟩,⟨0,.phase⟩,⟨1,.phase⟩,⟨2,.phase⟩,⟨3,.phase⟩,⟨4,.phase⟩,⟨5,.textOnly .lateStores⟩,⟨6,.phase⟩,⟨7,.phase⟩,⟨8,.textOnly .lateStoresUnsure⟩,⟨9,.textOnly .lateStoresUnsure⟩],none⟩) rfl (fun K hK=>?_) AllReadyH.nil)
        focus
         have hcl : wd.cell? ⟨wr.heap.size,0,none⟩ = some (.int .i64 (p : Int)):=hqb.cell 0
         have hfl : wd.frozen? ⟨wr.heap.size,0,none⟩ = false:=hqb.frozen 0
         obtain ⟨wA,hwA⟩ : ∃ wA,wd.setCell ⟨wr.heap.size,0,none⟩ (.int .i64 (np : Int)) = wA:=⟨_,rfl⟩
         have hqb : Blk wA wr.heap.size 50 #[.int .i64 (np : Int),.int .i64 (q : Int),.slice A' ng c',.int .i64 r.eat,.slice A2 nt c2]:=by rw [← hwA];exact hqb.set_ 0 _
         have hBr : Below wr.heap.size wr wA:=by rw [← hwA];exact hBr.setCell (Nat.le_refl _) _
         go_simp
         try rw [hwA]
         clear hcl hfl
         refine hK.out _ _ ?_ (fun hHeld=>?_)
         ·exact hBr
         clear hK K
         try simp only [Act.put,List.setIfInBounds_toArray,List.set_cons_zero,List.set_cons_succ]
         refine wpAnyH_take (i:=12) (oi:=⟨some 73,.fieldAddr 50 (.tmp 11) 1,0,"trim.go:112",#[⟨0,.phase⟩,⟨1,.phase⟩,⟨2,.phase⟩,⟨3,.phase⟩,⟨4,.phase⟩,⟨5,.phase⟩,⟨6,.phase⟩,⟨7,.phase⟩,⟨8,.phase⟩,⟨9,.phase⟩,⟨10,.phase⟩,⟨11,.phase⟩],none⟩) (v:=?_) rfl (by kernel_rfl) (by kernel_rfl) (by kernel_rfl) (fun _ _ _ h=>h) (Or.inl ⟨by rfl,?_⟩) (by assumption) ?_
         rotate_left
         ·intro w' hSw
          (try dsimp only at hSw)
          have nm1:=HNW.out.1 w' hSw
          have nm2:=HNW.out.2 w' hSw
          go_simp
          all_goals with_reducible rfl
         try simp only [Act.put,List.setIfInBounds_toArray,List.set_cons_zero,List.set_cons_succ]
         refine wpAnyH_ready (rs:=[13]) (by kernel_rfl) (by simp) ?_
         refine (AllReadyH.cons (o:=⟨none,.store 3 (.tmp 73) (.tmp 71),0,"trim.go:112",#[⟨12,.data⟩,⟨9,.data⟩,⟨11,.chain⟩,⟨0,.phase⟩,⟨1,.phase⟩,⟨2,.phase⟩,⟨3,.phase⟩,⟨4,.phase⟩,⟨5,.phase⟩,⟨6,.phase⟩,⟨7,.phase⟩,⟨8,.phase⟩,⟨9,.phase⟩,⟨10,.phase⟩,⟨11,.phase⟩],none⟩) rfl (fun K hK=>?_) AllReadyH.nil)
         focus
          have hcl : wA.cell? ⟨wr.heap.size,1,none⟩ = some (.int .i64 (q : Int)):=hqb.cell 1
          have hfl : wA.frozen? ⟨wr.heap.size,1,none⟩ = false:=hqb.frozen 1
          obtain ⟨wC,hwC⟩ : ∃ wC,wA.setCell ⟨wr.heap.size,1,none⟩ (.int .i64 (nq : Int)) = wC:=⟨_,rfl⟩
          have hqb : Blk wC wr.heap.size 50 #[.int .i64 (np : Int),.int .i64 (nq : Int),.slice A' ng c',.int .i64 r.eat,.slice A2 nt c2]:=by rw [← hwC];exact hqb.set_ 1 _
          have hBr : Below wr.heap.size wr wC:=by rw [← hwC];exact hBr.setCell (Nat.le_refl _) _
          go_simp
          try rw [hwC]
          clear hcl hfl
          refine hK.out _ _ ?_ (fun hHeld=>?_)
          ·exact hBr
          clear hK K
          try simp only [Act.put,List.setIfInBounds_toArray,List.set_cons_zero,List.set_cons_succ]
          obtain ⟨wl,rfl⟩ : ∃ wl : World,wl = wC:=⟨_,rfl⟩
      rotate_left 1
      focus
       have hcl : wd.cell? ⟨wr.heap.size,1,none⟩ = some (.int .i64 (q : Int)):=hqb.cell 1
       go_simp
       clear hcl
       refine hK.out _ _ ?_ (fun hHeld=>?_)
       ·exact hBr
       clear hK K
       try simp only [Act.put,List.setIfInBounds_toArray,List.set_cons_zero,List.set_cons_succ]
       refine wpAnyH_take (i:=8) (oi:=⟨some 70,.indexAddr 34 (.tmp 67) (.tmp 69),0,"trim.go:112",#[⟨5,.data⟩,⟨7,.data⟩],none⟩) (v:=?_) rfl (by kernel_rfl) (by kernel_rfl) (by kernel_rfl) (fun _ _ _ h=>h) (Or.inl ⟨by rfl,?_⟩) (by assumption) ?_
       rotate_left
       ·intro w' hSw
        (try dsimp only at hSw)
        have nm1:=HNW.out.1 w' hSw
        have nm2:=HNW.out.2 w' hSw
        go_simp
        all_goals with_reducible rfl
       try simp only [Act.put,List.setIfInBounds_toArray,List.set_cons_zero,List.set_cons_succ]
       refine wpAnyH_take (i:=9) (oi:=⟨some 71,.load 3 (.tmp 70),3,"trim.go:112",#[⟨8,.data⟩],none⟩) (v:=?_) rfl (by kernel_rfl) (by kernel_rfl) (by kernel_rfl) (fun _ _ _ h=>h) (Or.inl ⟨by rfl,?_⟩) (by assumption) ?_
       rotate_left
       ·intro w' hSw
        (try dsimp only at hSw)
        have nm1:=HNW.out.1 w' hSw
        have nm2:=HNW.out.2 w' hSw
        go_simp
        all_goals with_reducible rfl
       try simp only [Act.put,List.setIfInBounds_toArray,List.set_cons_zero,List.set_cons_succ]
       refine wpAnyH_ready (rs:=[2]) (by kernel_rfl) (by simp) ?_
       refine (AllReadyH.cons (o:=⟨some 64,.load 3 (.tmp 63),3,"trim.go:112",#[⟨1,.data⟩],none⟩) rfl (fun K hK=>?_) AllReadyH.nil)
       focus
        have hcl : wd.cell? ⟨wr.heap.size,0,none⟩ = some (.int .i64 (p : Int)):=hqb.cell 0
        go_simp
        clear hcl
        refine hK.out _ _ ?_ (fun hHeld=>?_)
        ·exact hBr
        clear hK K
        try simp only [Act.put,List.setIfInBounds_toArray,List.set_cons_zero,List.set_cons_succ]
        refine wpAnyH_take (i:=3) (oi:=⟨some 65,.indexAddr 34 (.tmp 62) (.tmp 64),0,"trim.go:112",#[⟨0,.data⟩,⟨2,.data⟩],none⟩) (v:=?_) rfl (by kernel_rfl) (by kernel_rfl) (by kernel_rfl) (fun _ _ _ h=>h) (Or.inl ⟨by rfl,?_⟩) (by assumption) ?_
        rotate_left
        ·intro w' hSw
         (try dsimp only at hSw)
         have nm1:=HNW.out.1 w' hSw
         have nm2:=HNW.out.2 w' hSw
         go_simp
         all_goals with_reducible rfl
        try simp only [Act.put,List.setIfInBounds_toArray,List.set_cons_zero,List.set_cons_succ]
        refine wpAnyH_take (i:=4) (oi:=⟨some 66,.load 3 (.tmp 65),3,"trim.go:112",#[⟨3,.data⟩],none⟩) (v:=?_) rfl (by kernel_rfl) (by kernel_rfl) (by kernel_rfl) (fun _ _ _ h=>h) (Or.inl ⟨by rfl,?_⟩) (by assumption) ?_
        rotate_left
        ·intro w' hSw
         (try dsimp only at hSw)
         have nm1:=HNW.out.1 w' hSw
         have nm2:=HNW.out.2 w' hSw
         go_simp
         all_goals with_reducible rfl
        try simp only [Act.put,List.setIfInBounds_toArray,List.set_cons_zero,List.set_cons_succ]
        refine wpAnyH_take (i:=10) (oi:=⟨some 72,.fieldAddr 50 (.tmp 11) 0,0,"trim.go:112",#[⟨0,.phase⟩,⟨1,.phase⟩,⟨2,.phase⟩,⟨3,.phase⟩,⟨4,.phase⟩,⟨5,.textOnly .lateStores⟩,⟨6,.phase⟩,⟨7,.phase⟩,⟨8,.textOnly .lateStoresUnsure⟩,⟨9,.textOnly .lateStoresUnsure⟩],none⟩) (v:=?_) rfl (by kernel_rfl) (by kernel_rfl) (by kernel_rfl) (fun _ _ _ h=>h) (Or.inl ⟨by rfl,?_⟩) (by assumption) ?_
        rotate_left
        ·intro w' hSw
         (try dsimp only at hSw)
         have nm1:=HNW.out.1 w' hSw
         have nm2:=HNW.out.2 w' hSw
         go_simp
         all_goals with_reducible rfl
        try simp only [Act.put,List.setIfInBounds_toArray,List.set_cons_zero,List.set_cons_succ]
        refine wpAnyH_ready (rs:=[11]) (by kernel_rfl) (by simp) ?_
        refine (AllReadyH.cons (o:=⟨none,.store 3 (.tmp 72) (.tmp 66),0,"trim.go:112",#[⟨10,.data⟩,⟨4,.data⟩,⟨0,.phase⟩,⟨1,.phase⟩,⟨2,.phase⟩,⟨3,.phase⟩,⟨4,.phase⟩,⟨5,.textOnly .lateStores⟩,⟨6,.phase⟩,⟨7,.phase⟩,⟨8,.textOnly .lateStoresUnsure⟩,⟨9,.textOnly .lateStoresUnsure⟩],none⟩) rfl (fun K hK=>?_) AllReadyH.nil)
        focus
         have hcl : wd.cell? ⟨wr.heap.size,0,none⟩ = some (.int .i64 (p : Int)):=hqb.cell 0
         have hfl : wd.frozen? ⟨wr.heap.size,0,none⟩ = false:=hqb.frozen 0
         obtain ⟨wA,hwA⟩ : ∃ wA,wd.setCell ⟨wr.heap.size,0,none⟩ (.int .i64 (np : Int)) = wA:=⟨_,rfl⟩
         have hqb : Blk wA wr.heap.size 50 #[.int .i64 (np : Int),.int .i64 (q : Int),.slice A' ng c',.int .i64 r.eat,.slice A2 nt c2]:=by rw [← hwA];exact hqb.set_ 0 _
         have hBr : Below wr.heap.size wr wA:=by rw [← hwA];exact hBr.setCell (Nat.le_refl _) _
         go_simp
         try rw [hwA]
         clear hcl hfl
         refine hK.out _ _ ?_ (fun hHeld=>?_)
         ·exact hBr
         clear hK K
         try simp only [Act.put,List.setIfInBounds_toArray,List.set_cons_zero,List.set_cons_succ]
         refine wpAnyH_take (i:=12) (oi:=⟨some 73,.fieldAddr 50 (.tmp 11) 1,0,"trim.go:112",#[⟨0,.phase⟩,⟨1,.phase⟩,⟨2,.phase⟩,⟨3,.phase⟩,⟨4,.phase⟩,⟨5,.phase⟩,⟨6,.phase⟩,⟨7,.phase⟩,⟨8,.phase⟩,⟨9,.phase⟩,⟨10,.phase⟩,⟨11,.phase⟩],none⟩) (v:=?_) rfl (by kernel_rfl) (by kernel_rfl) (by kernel_rfl) (fun _ _ _ h=>h) (Or.inl ⟨by rfl,?_⟩) (by assumption) ?_
         rotate_left
         ·intro w' hSw
          (try dsimp only at hSw)
          have nm1:=HNW.out.1 w' hSw
          have nm2:=HNW.out.2 w' hSw
          go_simp
          all_goals with_reducible rfl
         try simp only [Act.put,List.setIfInBounds_toArray,List.set_cons_zero,List.set_cons_succ]
         refine wpAnyH_ready (rs:=[13]) (by kernel_rfl) (by simp) ?_
         refine (AllReadyH.cons (o:=⟨none,.store 3 (.tmp 73) (.tmp 71),0,"trim.go:112",#[⟨12,.data⟩,⟨9,.data⟩,⟨11,.chain⟩,⟨0,.phase⟩,⟨1,.phase⟩,⟨2,.phase⟩,⟨3,.phase⟩,⟨4,.phase⟩,⟨5,.phase⟩,⟨6,.phase⟩,⟨7,.phase⟩,⟨8,.phase⟩,⟨9,.phase⟩,⟨10,.phase⟩,⟨11,.phase⟩],none⟩) rfl (fun K hK=>?_) AllReadyH.nil)
         focus
          have hcl : wA.cell? ⟨wr.heap.size,1,none⟩ = some (.int .i64 (q : Int)):=hqb.cell 1
          have hfl : wA.frozen? ⟨wr.heap.size,1,none⟩ = false:=hqb.frozen 1
          obtain ⟨wC,hwC⟩ : ∃ wC,wA.setCell ⟨wr.heap.size,1,none⟩ (.int .i64 (nq : Int)) = wC:=⟨_,rfl⟩
          have hqb : Blk wC wr.heap.size 50 #[.int .i64 (np : Int),.int .i64 (nq : Int),.slice A' ng c',.int .i64 r.eat,.slice A2 nt c2]:=by rw [← hwC];exact hqb.set_ 1 _
          have hBr : Below wr.heap.size wr wC:=by rw [← hwC];exact hBr.setCell (Nat.le_refl _) _
          go_simp
          try rw [hwC]
          clear hcl hfl
          refine hK.out _ _ ?_ (fun hHeld=>?_)
          ·exact hBr
          clear hK K
          try simp only [Act.put,List.setIfInBounds_toArray,List.set_cons_zero,List.set_cons_succ]
          obtain ⟨wl,rfl⟩ : ∃ wl : World,wl = wC:=⟨_,rfl⟩
      all_goals
       refine wpAnyH_done (by kernel_rfl) ?_ _
       go_wp2_with (fail)
       go_meet
       exact ⟨hqb,hBr⟩
     case rest=>
      obtain ⟨wb,rfl⟩ : ∃ wb : World,wb = wc:=⟨_,rfl⟩
      obtain ⟨hqb,hbb⟩:=hcut
      have HBR:=hid hbb
      have HQ:=hid hqb
      have HRB:=hid hqb.lt
      have HSZ:=hid (Nat.le_of_lt hqb.lt)
      have HGU:=hid (fun W (hb : Below wb.heap.size wb W)=>HGU0.out W (by have:=HG.out.belowM (HBR.out.trans (hb.mono HSZ.out));exact this))
      have HTE:=hid (fun W (hb : Below wb.heap.size wb W) g hc hlt=>HTE0.out W g (HT.out.belowM (HBR.out.trans (hb.mono HSZ.out))) hc hlt)
      clear hqb hbb
      go_upto_region 14 with (fail)
      go_cut [] (fun wx=>∃ AG cG AT cT,Blk wx wr.heap.size 50 #[.int .i64 (np : Int),.int .i64 (nq : Int),.slice AG ng cG,.int .i64 r.eat,.slice AT nt cT]∧NewGT wb.heap.size r.gs r.out AG cG AT cT wx∧(AT = none→cT = 0)∧Below wr.heap.size wr wx)
      case first=>
       have hBr : Below wr.heap.size wr wb.drew:=HBR.out.drew
       have hBn : Below wb.heap.size wb wb.drew:=(Below.refl _ _).drew
       obtain ⟨wd,hwd⟩ : ∃ wd,wb.drew = wd:=⟨_,rfl⟩
       refine wp_region_held_drew (S:=fun W=>Below wr.heap.size wr W) (by kernel_rfl) hBr (fun hHeld=>?_)
       rw [hwd] at hBr hBn hHeld ⊢
       refine wpAnyH_take (i:=0) (oi:=⟨some 74,.fieldAddr 50 (.tmp 11) 2,0,"trim.go:113",#[],none⟩) (v:=?_) rfl (by kernel_rfl) (by kernel_rfl) (by kernel_rfl) (fun _ _ _ h=>h) (Or.inl ⟨by rfl,?_⟩) (by assumption) ?_
       rotate_left
       ·intro w' hSw
        (try dsimp only at hSw)
        go_simp
        all_goals with_reducible rfl
       try simp only [Act.put,List.setIfInBounds_toArray,List.set_cons_zero,List.set_cons_succ]
       refine wpAnyH_take (i:=3) (oi:=⟨some 77,.fieldAddr 50 (.tmp 11) 4,0,"trim.go:113",#[],none⟩) (v:=?_) rfl (by kernel_rfl) (by kernel_rfl) (by kernel_rfl) (fun _ _ _ h=>h) (Or.inl ⟨by rfl,?_⟩) (by assumption) ?_
       rotate_left
       ·intro w' hSw
        (try dsimp only at hSw)
        go_simp
        all_goals with_reducible rfl
       try simp only [Act.put,List.setIfInBounds_toArray,List.set_cons_zero,List.set_cons_succ]
       refine wpAnyH_ready (rs:=[1,4]) (by kernel_rfl) (by simp) ?_
       refine (AllReadyH.cons (o:=⟨some 75,.load 42 (.tmp 74),42,"trim.go:113",#[⟨0,.data⟩],none⟩) rfl (fun K hK=>?_) (AllReadyH.cons (o:=⟨some 78,.load 43 (.tmp 77),43,"trim.go:113",#[⟨3,.data⟩],none⟩) rfl (fun K hK=>?_) AllReadyH.nil))
       focus
        have hcl : wd.cell? ⟨wr.heap.size,2,none⟩ = some (.slice A' ng c'):=(HQ.out.below hBn HRB.out).cell 2
        go_simp
        clear hcl
        refine hK.out _ _ ?_ (fun hHeld=>?_)
        ·exact hBr
        clear hK K
        try simp only [Act.put,List.setIfInBounds_toArray,List.set_cons_zero,List.set_cons_succ]
        refine wpAnyH_ready (rs:=[2,4]) (by kernel_rfl) (by simp) ?_
        refine (AllReadyH.cons (o:=⟨some 76,.call { callee:=.value (.func 40),args:=#[.tmp 75],argTypes:=#[42] },42,"trim.go:113",#[⟨1,.data⟩],none⟩) rfl (fun K hK=>?_) (AllReadyH.cons (o:=⟨some 78,.load 43 (.tmp 77),43,"trim.go:113",#[⟨3,.data⟩],none⟩) rfl (fun K hK=>?_) AllReadyH.nil))
        focus
         go_simp
         go_wp2_with (go_at_call 40;(with_reducible refine (HGU.out _ hBn).mono ?_);rintro eg wg ⟨vG,rfl,hrG,hbG⟩)
         have hszG:=hBn.size
         have hBr:=nextB hBr hbG (Nat.le_trans HSZ.out hBn.size)
         have hBn:=nextB hBn hbG hBn.size
         obtain ⟨AG,cG,hvG,hgp,hgl,_⟩:=RowB.far hrG
         have hgp:=rgp_keep hgp (Below.refl _ _) hszG
         rw [HNN.out.1] at hvG hgl
         subst hvG
         refine hK.out _ _ ?_ (fun hHeld=>?_)
         ·exact hBr
         clear hK K
         try simp only [Act.put,List.setIfInBounds_toArray,List.set_cons_zero,List.set_cons_succ]
         refine wpAnyH_ready (rs:=[4]) (by kernel_rfl) (by simp) ?_
         refine (AllReadyH.cons (o:=⟨some 78,.load 43 (.tmp 77),43,"trim.go:113",#[⟨3,.data⟩],none⟩) rfl (fun K hK=>?_) AllReadyH.nil)
         have hcl : wg.cell? ⟨wr.heap.size,4,none⟩ = some (.slice A2 nt c2):=(HQ.out.below hBn HRB.out).cell 4
         go_simp
         clear hcl
         refine hK.out _ _ ?_ (fun hHeld=>?_)
         ·exact hBr
         clear hK K
         try simp only [Act.put,List.setIfInBounds_toArray,List.set_cons_zero,List.set_cons_succ]
         refine wpAnyH_take (i:=7) (oi:=⟨some 81,.fieldAddr 50 (.tmp 11) 2,0,"trim.go:113",#[⟨0,.phase⟩,⟨1,.phase⟩,⟨2,.phase⟩,⟨3,.phase⟩,⟨4,.phase⟩,⟨5,.textOnly .lateStoresUnsure⟩,⟨6,.textOnly .lateStoresUnsure⟩],none⟩) (v:=?_) rfl (by kernel_rfl) (by kernel_rfl) (by kernel_rfl) (fun _ _ _ h=>h) (Or.inl ⟨by rfl,?_⟩) (by assumption) ?_
         rotate_left
         ·intro w' hSw
          (try dsimp only at hSw)
          go_simp
          all_goals with_reducible rfl
         try simp only [Act.put,List.setIfInBounds_toArray,List.set_cons_zero,List.set_cons_succ]
         refine wpAnyH_ready (rs:=[5]) (by kernel_rfl) (by simp) ?_
         refine (AllReadyH.cons (o:=⟨some 79,.buildSlice 90 1 #[(0,.tmp 78)],90,"trim.go:113",#[⟨4,.data⟩],none⟩) rfl (fun K hK=>?_) AllReadyH.nil)
         obtain ⟨ws,hws,hqs,hls,hbS⟩:=new_cells wg #[.slice A2 nt c2] 43
         go_simp
         try rw [hws]
         have hBr:=nextB hBr hbS (Nat.le_trans HSZ.out hBn.size)
         have hBn:=nextB hBn hbS hBn.size
         have hgp:=rgp_keep hgp hbS (Nat.le_refl _)
         refine hK.out _ _ ?_ (fun hHeld=>?_)
         ·exact hBr
         clear hK K
         try simp only [Act.put,List.setIfInBounds_toArray,List.set_cons_zero,List.set_cons_succ]
         refine wpAnyH_ready (rs:=[6]) (by kernel_rfl) (by simp) ?_
         refine (AllReadyH.cons (o:=⟨some 80,.call { callee:=.value (.func 41),args:=#[.tmp 79],argTypes:=#[90] },43,"trim.go:113",#[⟨5,.data⟩,⟨2,.chain⟩],none⟩) rfl (fun K hK=>?_) AllReadyH.nil)
         go_simp
         go_wp2_with (go_at_call 41;(with_reducible refine (HTE.out _ hBn _ (hqs.cell 0) hls).mono ?_);rintro et wt ⟨vT,rfl,hrT,hbT⟩)
         have hszT:=hBn.size
         have hBr:=nextB hBr hbT (Nat.le_trans HSZ.out hBn.size)
         have hBn:=nextB hBn hbT hBn.size
         obtain ⟨AT,cT,hvT,htp,htl,htn⟩:=RowT.far hrT
         have htp:=rtp_keep htp (Below.refl _ _) hszT
         have hgp:=rgp_keep hgp hbT (Nat.le_refl _)
         rw [HNN.out.2] at hvT htl
         subst hvT
         refine hK.out _ _ ?_ (fun hHeld=>?_)
         ·exact hBr
         clear hK K
         try simp only [Act.put,List.setIfInBounds_toArray,List.set_cons_zero,List.set_cons_succ]
         obtain ⟨wl,rfl⟩ : ∃ wl : World,wl = wt:=⟨_,rfl⟩
        rotate_left 1
        focus
         have hcl : wd.cell? ⟨wr.heap.size,4,none⟩ = some (.slice A2 nt c2):=(HQ.out.below hBn HRB.out).cell 4
         go_simp
         clear hcl
         refine hK.out _ _ ?_ (fun hHeld=>?_)
         ·exact hBr
         clear hK K
         try simp only [Act.put,List.setIfInBounds_toArray,List.set_cons_zero,List.set_cons_succ]
         refine wpAnyH_ready (rs:=[2,5]) (by kernel_rfl) (by simp) ?_
         refine (AllReadyH.cons (o:=⟨some 76,.call { callee:=.value (.func 40),args:=#[.tmp 75],argTypes:=#[42] },42,"trim.go:113",#[⟨1,.data⟩],none⟩) rfl (fun K hK=>?_) (AllReadyH.cons (o:=⟨some 79,.buildSlice 90 1 #[(0,.tmp 78)],90,"trim.go:113",#[⟨4,.data⟩],none⟩) rfl (fun K hK=>?_) AllReadyH.nil))
         focus
          go_simp
          go_wp2_with (go_at_call 40;(with_reducible refine (HGU.out _ hBn).mono ?_);rintro eg wg ⟨vG,rfl,hrG,hbG⟩)
          have hszG:=hBn.size
          have hBr:=nextB hBr hbG (Nat.le_trans HSZ.out hBn.size)
          have hBn:=nextB hBn hbG hBn.size
          obtain ⟨AG,cG,hvG,hgp,hgl,_⟩:=RowB.far hrG
          have hgp:=rgp_keep hgp (Below.refl _ _) hszG
          rw [HNN.out.1] at hvG hgl
          subst hvG
          refine hK.out _ _ ?_ (fun hHeld=>?_)
          ·exact hBr
          clear hK K
          try simp only [Act.put,List.setIfInBounds_toArray,List.set_cons_zero,List.set_cons_succ]
          refine wpAnyH_take (i:=7) (oi:=⟨some 81,.fieldAddr 50 (.tmp 11) 2,0,"trim.go:113",#[⟨0,.phase⟩,⟨1,.phase⟩,⟨2,.phase⟩,⟨3,.phase⟩,⟨4,.phase⟩,⟨5,.textOnly .lateStoresUnsure⟩,⟨6,.textOnly .lateStoresUnsure⟩],none⟩) (v:=?_) rfl (by kernel_rfl) (by kernel_rfl) (by kernel_rfl) (fun _ _ _ h=>h) (Or.inl ⟨by rfl,?_⟩) (by assumption) ?_
          rotate_left
          ·intro w' hSw
           (try dsimp only at hSw)
           go_simp
           all_goals with_reducible rfl
          try simp only [Act.put,List.setIfInBounds_toArray,List.set_cons_zero,List.set_cons_succ]
          refine wpAnyH_ready (rs:=[5]) (by kernel_rfl) (by simp) ?_
          refine (AllReadyH.cons (o:=⟨some 79,.buildSlice 90 1 #[(0,.tmp 78)],90,"trim.go:113",#[⟨4,.data⟩],none⟩) rfl (fun K hK=>?_) AllReadyH.nil)
          obtain ⟨ws,hws,hqs,hls,hbS⟩:=new_cells wg #[.slice A2 nt c2] 43
          go_simp
          try rw [hws]
          have hBr:=nextB hBr hbS (Nat.le_trans HSZ.out hBn.size)
          have hBn:=nextB hBn hbS hBn.size
          have hgp:=rgp_keep hgp hbS (Nat.le_refl _)
          refine hK.out _ _ ?_ (fun hHeld=>?_)
          ·exact hBr
          clear hK K
          try simp only [Act.put,List.setIfInBounds_toArray,List.set_cons_zero,List.set_cons_succ]
          refine wpAnyH_ready (rs:=[6]) (by kernel_rfl) (by simp) ?_
          refine (AllReadyH.cons (o:=⟨some 80,.call { callee:=.value (.func 41),args:=#[.tmp 79],argTypes:=#[90] },43,"trim.go:113",#[⟨5,.data⟩,⟨2,.chain⟩],none⟩) rfl (fun K hK=>?_) AllReadyH.nil)
          go_simp
          go_wp2_with (go_at_call 41;(with_reducible refine (HTE.out _ hBn _ (hqs.cell 0) hls).mono ?_);rintro et wt ⟨vT,rfl,hrT,hbT⟩)
          have hszT:=hBn.size
          have hBr:=nextB hBr hbT (Nat.le_trans HSZ.out hBn.size)
          have hBn:=nextB hBn hbT hBn.size
          obtain ⟨AT,cT,hvT,htp,htl,htn⟩:=RowT.far hrT
          have htp:=rtp_keep htp (Below.refl _ _) hszT
          have hgp:=rgp_keep hgp hbT (Nat.le_refl _)
          rw [HNN.out.2] at hvT htl
          subst hvT
          refine hK.out _ _ ?_ (fun hHeld=>?_)
          ·exact hBr
          clear hK K
          try simp only [Act.put,List.setIfInBounds_toArray,List.set_cons_zero,List.set_cons_succ]
          obtain ⟨wl,rfl⟩ : ∃ wl : World,wl = wt:=⟨_,rfl⟩
         rotate_left 1
         focus
          obtain ⟨ws,hws,hqs,hls,hbS⟩:=new_cells wd #[.slice A2 nt c2] 43
          go_simp
          try rw [hws]
          have hBr:=nextB hBr hbS (Nat.le_trans HSZ.out hBn.size)
          have hBn:=nextB hBn hbS hBn.size
          refine hK.out _ _ ?_ (fun hHeld=>?_)
          ·exact hBr
          clear hK K
          try simp only [Act.put,List.setIfInBounds_toArray,List.set_cons_zero,List.set_cons_succ]
          refine wpAnyH_ready (rs:=[2]) (by kernel_rfl) (by simp) ?_
          refine (AllReadyH.cons (o:=⟨some 76,.call { callee:=.value (.func 40),args:=#[.tmp 75],argTypes:=#[42] },42,"trim.go:113",#[⟨1,.data⟩],none⟩) rfl (fun K hK=>?_) AllReadyH.nil)
          go_simp
          go_wp2_with (go_at_call 40;(with_reducible refine (HGU.out _ hBn).mono ?_);rintro eg wg ⟨vG,rfl,hrG,hbG⟩)
          have hszG:=hBn.size
          have hBr:=nextB hBr hbG (Nat.le_trans HSZ.out hBn.size)
          have hBn:=nextB hBn hbG hBn.size
          obtain ⟨AG,cG,hvG,hgp,hgl,_⟩:=RowB.far hrG
          have hgp:=rgp_keep hgp (Below.refl _ _) hszG
          rw [HNN.out.1] at hvG hgl
          subst hvG
          have hqs:=hqs.below hbG hls
          have hls:=Nat.lt_of_lt_of_le hls hbG.size
          refine hK.out _ _ ?_ (fun hHeld=>?_)
          ·exact hBr
          clear hK K
          try simp only [Act.put,List.setIfInBounds_toArray,List.set_cons_zero,List.set_cons_succ]
          refine wpAnyH_take (i:=7) (oi:=⟨some 81,.fieldAddr 50 (.tmp 11) 2,0,"trim.go:113",#[⟨0,.phase⟩,⟨1,.phase⟩,⟨2,.phase⟩,⟨3,.phase⟩,⟨4,.phase⟩,⟨5,.textOnly .lateStoresUnsure⟩,⟨6,.textOnly .lateStoresUnsure⟩],none⟩) (v:=?_) rfl (by kernel_rfl) (by kernel_rfl) (by kernel_rfl) (fun _ _ _ h=>h) (Or.inl ⟨by rfl,?_⟩) (by assumption) ?_
          rotate_left
          ·intro w' hSw
           (try dsimp only at hSw)
           go_simp
           all_goals with_reducible rfl
          try simp only [Act.put,List.setIfInBounds_toArray,List.set_cons_zero,List.set_cons_succ]
          refine wpAnyH_ready (rs:=[6]) (by kernel_rfl) (by simp) ?_
          refine (AllReadyH.cons (o:=⟨some 80,.call { callee:=.value (.func 41),args:=#[.tmp 79],argTypes:=#[90] },43,"trim.go:113",#[⟨5,.data⟩,⟨2,.chain⟩],none⟩) rfl (fun K hK=>?_) AllReadyH.nil)
          go_simp
          go_wp2_with (go_at_call 41;(with_reducible refine (HTE.out _ hBn _ (hqs.cell 0) hls).mono ?_);rintro et wt ⟨vT,rfl,hrT,hbT⟩)
          have hszT:=hBn.size
          have hBr:=nextB hBr hbT (Nat.le_trans HSZ.out hBn.size)
          have hBn:=nextB hBn hbT hBn.size
          obtain ⟨AT,cT,hvT,htp,htl,htn⟩:=RowT.far hrT
          have htp:=rtp_keep htp (Below.refl _ _) hszT
          have hgp:=rgp_keep hgp hbT (Nat.le_refl _)
          rw [HNN.out.2] at hvT htl
          subst hvT
          refine hK.out _ _ ?_ (fun hHeld=>?_)
          ·exact hBr
          clear hK K
          try simp only [Act.put,List.setIfInBounds_toArray,List.set_cons_zero,List.set_cons_succ]
          obtain ⟨wl,rfl⟩ : ∃ wl : World,wl = wt:=⟨_,rfl⟩
       rotate_left 3
       focus
        have hcl : wd.cell? ⟨wr.heap.size,4,none⟩ = some (.slice A2 nt c2):=(HQ.out.below hBn HRB.out).cell 4
        go_simp
        clear hcl
        refine hK.out _ _ ?_ (fun hHeld=>?_)
        ·exact hBr
        clear hK K
        try simp only [Act.put,List.setIfInBounds_toArray,List.set_cons_zero,List.set_cons_succ]
        refine wpAnyH_ready (rs:=[1,5]) (by kernel_rfl) (by simp) ?_
        refine (AllReadyH.cons (o:=⟨some 75,.load 42 (.tmp 74),42,"trim.go:113",#[⟨0,.data⟩],none⟩) rfl (fun K hK=>?_) (AllReadyH.cons (o:=⟨some 79,.buildSlice 90 1 #[(0,.tmp 78)],90,"trim.go:113",#[⟨4,.data⟩],none⟩) rfl (fun K hK=>?_) AllReadyH.nil))
        focus
         have hcl : wd.cell? ⟨wr.heap.size,2,none⟩ = some (.slice A' ng c'):=(HQ.out.below hBn HRB.out).cell 2
         go_simp
         clear hcl
         refine hK.out _ _ ?_ (fun hHeld=>?_)
         ·exact hBr
         clear hK K
         try simp only [Act.put,List.setIfInBounds_toArray,List.set_cons_zero,List.set_cons_succ]
         refine wpAnyH_ready (rs:=[2,5]) (by kernel_rfl) (by simp) ?_
         refine (AllReadyH.cons (o:=⟨some 76,.call { callee:=.value (.func 40),args:=#[.tmp 75],argTypes:=#[42] },42,"trim.go:113",#[⟨1,.data⟩],none⟩) rfl (fun K hK=>?_) (AllReadyH.cons (o:=⟨some 79,.buildSlice 90 1 #[(0,.tmp 78)],90,"trim.go:113",#[⟨4,.data⟩],none⟩) rfl (fun K hK=>?_) AllReadyH.nil))
         focus
          go_simp
          go_wp2_with (go_at_call 40;(with_reducible refine (HGU.out _ hBn).mono ?_);rintro eg wg ⟨vG,rfl,hrG,hbG⟩)
          have hszG:=hBn.size
          have hBr:=nextB hBr hbG (Nat.le_trans HSZ.out hBn.size)
          have hBn:=nextB hBn hbG hBn.size
          obtain ⟨AG,cG,hvG,hgp,hgl,_⟩:=RowB.far hrG
          have hgp:=rgp_keep hgp (Below.refl _ _) hszG
          rw [HNN.out.1] at hvG hgl
          subst hvG
          refine hK.out _ _ ?_ (fun hHeld=>?_)
          ·exact hBr
          clear hK K
          try simp only [Act.put,List.setIfInBounds_toArray,List.set_cons_zero,List.set_cons_succ]
          refine wpAnyH_take (i:=7) (oi:=⟨some 81,.fieldAddr 50 (.tmp 11) 2,0,"trim.go:113",#[⟨0,.phase⟩,⟨1,.phase⟩,⟨2,.phase⟩,⟨3,.phase⟩,⟨4,.phase⟩,⟨5,.textOnly .lateStoresUnsure⟩,⟨6,.textOnly .lateStoresUnsure⟩],none⟩) (v:=?_) rfl (by kernel_rfl) (by kernel_rfl) (by kernel_rfl) (fun _ _ _ h=>h) (Or.inl ⟨by rfl,?_⟩) (by assumption) ?_
          rotate_left
          ·intro w' hSw
           (try dsimp only at hSw)
           go_simp
           all_goals with_reducible rfl
          try simp only [Act.put,List.setIfInBounds_toArray,List.set_cons_zero,List.set_cons_succ]
          refine wpAnyH_ready (rs:=[5]) (by kernel_rfl) (by simp) ?_
          refine (AllReadyH.cons (o:=⟨some 79,.buildSlice 90 1 #[(0,.tmp 78)],90,"trim.go:113",#[⟨4,.data⟩],none⟩) rfl (fun K hK=>?_) AllReadyH.nil)
          obtain ⟨ws,hws,hqs,hls,hbS⟩:=new_cells wg #[.slice A2 nt c2] 43
          go_simp
          try rw [hws]
          have hBr:=nextB hBr hbS (Nat.le_trans HSZ.out hBn.size)
          have hBn:=nextB hBn hbS hBn.size
          have hgp:=rgp_keep hgp hbS (Nat.le_refl _)
          refine hK.out _ _ ?_ (fun hHeld=>?_)
          ·exact hBr
          clear hK K
          try simp only [Act.put,List.setIfInBounds_toArray,List.set_cons_zero,List.set_cons_succ]
          refine wpAnyH_ready (rs:=[6]) (by kernel_rfl) (by simp) ?_
          refine (AllReadyH.cons (o:=⟨some 80,.call { callee:=.value (.func 41),args:=#[.tmp 79],argTypes:=#[90] },43,"trim.go:113",#[⟨5,.data⟩,⟨2,.chain⟩],none⟩) rfl (fun K hK=>?_) AllReadyH.nil)
          go_simp
          go_wp2_with (go_at_call 41;(with_reducible refine (HTE.out _ hBn _ (hqs.cell 0) hls).mono ?_);rintro et wt ⟨vT,rfl,hrT,hbT⟩)
          have hszT:=hBn.size
          have hBr:=nextB hBr hbT (Nat.le_trans HSZ.out hBn.size)
          have hBn:=nextB hBn hbT hBn.size
          obtain ⟨AT,cT,hvT,htp,htl,htn⟩:=RowT.far hrT
          have htp:=rtp_keep htp (Below.refl _ _) hszT
          have hgp:=rgp_keep hgp hbT (Nat.le_refl _)
          rw [HNN.out.2] at hvT htl
          subst hvT
          refine hK.out _ _ ?_ (fun hHeld=>?_)
          ·exact hBr
          clear hK K
          try simp only [Act.put,List.setIfInBounds_toArray,List.set_cons_zero,List.set_cons_succ]
          obtain ⟨wl,rfl⟩ : ∃ wl : World,wl = wt:=⟨_,rfl⟩
         rotate_left 1
         focus
          obtain ⟨ws,hws,hqs,hls,hbS⟩:=new_cells wd #[.slice A2 nt c2] 43
          go_simp
          try rw [hws]
          have hBr:=nextB hBr hbS (Nat.le_trans HSZ.out hBn.size)
          have hBn:=nextB hBn hbS hBn.size
          refine hK.out _ _ ?_ (fun hHeld=>?_)
          ·exact hBr
          clear hK K
          try simp only [Act.put,List.setIfInBounds_toArray,List.set_cons_zero,List.set_cons_succ]
          refine wpAnyH_ready (rs:=[2]) (by kernel_rfl) (by simp) ?_
          refine (AllReadyH.cons (o:=⟨some 76,.call { callee:=.value (.func 40),args:=#[.tmp 75],argTypes:=#[42] },42,"trim.go:113",#[⟨1,.data⟩],none⟩) rfl (fun K hK=>?_) AllReadyH.nil)
          go_simp
          go_wp2_with (go_at_call 40;(with_reducible refine (HGU.out _ hBn).mono ?_);rintro eg wg ⟨vG,rfl,hrG,hbG⟩)
          have hszG:=hBn.size
          have hBr:=nextB hBr hbG (Nat.le_trans HSZ.out hBn.size)
          have hBn:=nextB hBn hbG hBn.size
          obtain ⟨AG,cG,hvG,hgp,hgl,_⟩:=RowB.far hrG
          have hgp:=rgp_keep hgp (Below.refl _ _) hszG
          rw [HNN.out.1] at hvG hgl
          subst hvG
          have hqs:=hqs.below hbG hls
          have hls:=Nat.lt_of_lt_of_le hls hbG.size
          refine hK.out _ _ ?_ (fun hHeld=>?_)
          ·exact hBr
          clear hK K
          try simp only [Act.put,List.setIfInBounds_toArray,List.set_cons_zero,List.set_cons_succ]
          refine wpAnyH_take (i:=7) (oi:=⟨some 81,.fieldAddr 50 (.tmp 11) 2,0,"trim.go:113",#[⟨0,.phase⟩,⟨1,.phase⟩,⟨2,.phase⟩,⟨3,.phase⟩,⟨4,.phase⟩,⟨5,.textOnly .lateStoresUnsure⟩,⟨6,.textOnly .lateStoresUnsure⟩],none⟩) (v:=?_) rfl (by kernel_rfl) (by kernel_rfl) (by kernel_rfl) (fun _ _ _ h=>h) (Or.inl ⟨by rfl,?_⟩) (by assumption) ?_
          rotate_left
          ·intro w' hSw
           (try dsimp only at hSw)
           go_simp
           all_goals with_reducible rfl
          try simp only [Act.put,List.setIfInBounds_toArray,List.set_cons_zero,List.set_cons_succ]
          refine wpAnyH_ready (rs:=[6]) (by kernel_rfl) (by simp) ?_
          refine (AllReadyH.cons (o:=⟨some 80,.call { callee:=.value (.func 41),args:=#[.tmp 79],argTypes:=#[90] },43,"trim.go:113",#[⟨5,.data⟩,⟨2,.chain⟩],none⟩) rfl (fun K hK=>?_) AllReadyH.nil)
          go_simp
          go_wp2_with (go_at_call 41;(with_reducible refine (HTE.out _ hBn _ (hqs.cell 0) hls).mono ?_);rintro et wt ⟨vT,rfl,hrT,hbT⟩)
          have hszT:=hBn.size
          have hBr:=nextB hBr hbT (Nat.le_trans HSZ.out hBn.size)
          have hBn:=nextB hBn hbT hBn.size
          obtain ⟨AT,cT,hvT,htp,htl,htn⟩:=RowT.far hrT
          have htp:=rtp_keep htp (Below.refl _ _) hszT
          have hgp:=rgp_keep hgp hbT (Nat.le_refl _)
          rw [HNN.out.2] at hvT htl
          subst hvT
          refine hK.out _ _ ?_ (fun hHeld=>?_)
          ·exact hBr
          clear hK K
          try simp only [Act.put,List.setIfInBounds_toArray,List.set_cons_zero,List.set_cons_succ]
          obtain ⟨wl,rfl⟩ : ∃ wl : World,wl = wt:=⟨_,rfl⟩
        rotate_left 2
        focus
         obtain ⟨ws,hws,hqs,hls,hbS⟩:=new_cells wd #[.slice A2 nt c2] 43
         go_simp
         try rw [hws]
         have hBr:=nextB hBr hbS (Nat.le_trans HSZ.out hBn.size)
         have hBn:=nextB hBn hbS hBn.size
         refine hK.out _ _ ?_ (fun hHeld=>?_)
         ·exact hBr
         clear hK K
         try simp only [Act.put,List.setIfInBounds_toArray,List.set_cons_zero,List.set_cons_succ]
         refine wpAnyH_ready (rs:=[1]) (by kernel_rfl) (by simp) ?_
         refine (AllReadyH.cons (o:=⟨some 75,.load 42 (.tmp 74),42,"trim.go:113",#[⟨0,.data⟩],none⟩) rfl (fun K hK=>?_) AllReadyH.nil)
         have hcl : ws.cell? ⟨wr.heap.size,2,none⟩ = some (.slice A' ng c'):=(HQ.out.below hBn HRB.out).cell 2
         go_simp
         clear hcl
         refine hK.out _ _ ?_ (fun hHeld=>?_)
         ·exact hBr
         clear hK K
         try simp only [Act.put,List.setIfInBounds_toArray,List.set_cons_zero,List.set_cons_succ]
         refine wpAnyH_ready (rs:=[2]) (by kernel_rfl) (by simp) ?_
         refine (AllReadyH.cons (o:=⟨some 76,.call { callee:=.value (.func 40),args:=#[.tmp 75],argTypes:=#[42] },42,"trim.go:113",#[⟨1,.data⟩],none⟩) rfl (fun K hK=>?_) AllReadyH.nil)
         go_simp
         go_wp2_with (go_at_call 40;(with_reducible refine (HGU.out _ hBn).mono ?_);rintro eg wg ⟨vG,rfl,hrG,hbG⟩)
         have hszG:=hBn.size
         have hBr:=nextB hBr hbG (Nat.le_trans HSZ.out hBn.size)
         have hBn:=nextB hBn hbG hBn.size
         obtain ⟨AG,cG,hvG,hgp,hgl,_⟩:=RowB.far hrG
         have hgp:=rgp_keep hgp (Below.refl _ _) hszG
         rw [HNN.out.1] at hvG hgl
         subst hvG
         have hqs:=hqs.below hbG hls
         have hls:=Nat.lt_of_lt_of_le hls hbG.size
         refine hK.out _ _ ?_ (fun hHeld=>?_)
         ·exact hBr
         clear hK K
         try simp only [Act.put,List.setIfInBounds_toArray,List.set_cons_zero,List.set_cons_succ]
         refine wpAnyH_take (i:=7) (oi:=⟨some 81,.fieldAddr 50 (.tmp 11) 2,0,"trim.go:113",#[⟨0,.phase⟩,⟨1,.phase⟩,⟨2,.phase⟩,⟨3,.phase⟩,⟨4,.phase⟩,⟨5,.textOnly .lateStoresUnsure⟩,⟨6,.textOnly .lateStoresUnsure⟩],none⟩) (v:=?_) rfl (by kernel_rfl) (by kernel_rfl) (by kernel_rfl) (fun _ _ _ h=>h) (Or.inl ⟨by rfl,?_⟩) (by assumption) ?_
         rotate_left
         ·intro w' hSw
          (try dsimp only at hSw)
          go_simp
          all_goals with_reducible rfl
         try simp only [Act.put,List.setIfInBounds_toArray,List.set_cons_zero,List.set_cons_succ]
         refine wpAnyH_ready (rs:=[6]) (by kernel_rfl) (by simp) ?_
         refine (AllReadyH.cons (o:=⟨some 80,.call { callee:=.value (.func 41),args:=#[.tmp 79],argTypes:=#[90] },43,"trim.go:113",#[⟨5,.data⟩,⟨2,.chain⟩],none⟩) rfl (fun K hK=>?_) AllReadyH.nil)
         go_simp
         go_wp2_with (go_at_call 41;(with_reducible refine (HTE.out _ hBn _ (hqs.cell 0) hls).mono ?_);rintro et wt ⟨vT,rfl,hrT,hbT⟩)
         have hszT:=hBn.size
         have hBr:=nextB hBr hbT (Nat.le_trans HSZ.out hBn.size)
         have hBn:=nextB hBn hbT hBn.size
         obtain ⟨AT,cT,hvT,htp,htl,htn⟩:=RowT.far hrT
         have htp:=rtp_keep htp (Below.refl _ _) hszT
         have hgp:=rgp_keep hgp hbT (Nat.le_refl _)
         rw [HNN.out.2] at hvT htl
         subst hvT
         refine hK.out _ _ ?_ (fun hHeld=>?_)
         ·exact hBr
         clear hK K
         try simp only [Act.put,List.setIfInBounds_toArray,List.set_cons_zero,List.set_cons_succ]
         obtain ⟨wl,rfl⟩ : ∃ wl : World,wl = wt:=⟨_,rfl⟩
       all_goals
        have hq0:=HQ.out.below hBn HRB.out
        have hsz0:=hBn.size
        obtain ⟨wu,hwu⟩ : ∃ wu,wl.setCell ⟨wr.heap.size,2,none⟩ (.slice AG ng cG) = wu:=⟨_,rfl⟩
        have hq1 : Blk wu wr.heap.size 50 #[.int .i64 (np : Int),.int .i64 (nq : Int),.slice AG ng cG,.int .i64 r.eat,.slice A2 nt c2]:=by rw [← hwu];exact hq0.set_ 2 _
        obtain ⟨wv,hwv⟩ : ∃ wv,wu.setCell ⟨wr.heap.size,4,none⟩ (.slice AT nt cT) = wv:=⟨_,rfl⟩
        have hq2 : Blk wv wr.heap.size 50 #[.int .i64 (np : Int),.int .i64 (nq : Int),.slice AG ng cG,.int .i64 r.eat,.slice AT nt cT]:=by rw [← hwv];exact hq1.set_ 4 _
        have hBu : Below wr.heap.size wr wu:=by rw [← hwu];exact hBr.setCell (Nat.le_refl _) _
        have hBv : Below wr.heap.size wr wv:=by rw [← hwv];exact hBu.setCell (Nat.le_refl _) _
        have hngt : NewGT wb.heap.size r.gs r.out AG cG AT cT wv:=NewGT.keep (w:=wl) ⟨hgp,by rw [HNN.out.1];exact hgl,htp,by rw [HNN.out.2];exact htl⟩ (by rw [← hwv,← hwu];simp) (fun b hb _=>by
         have hne : b≠wr.heap.size:=fun e=>by have:=HRB.out;omega
         rw [← hwv,heap_setCell_other wu ⟨wr.heap.size,4,none⟩ b _ hne,← hwu,heap_setCell_other wl ⟨wr.heap.size,2,none⟩ b _ hne])
        have k1 : wl.cell? ⟨wr.heap.size,2,none⟩ = some (.slice A' ng c'):=hq0.cell 2
        have k2 : wl.frozen? ⟨wr.heap.size,2,none⟩ = false:=hq0.frozen 2
        have k3 : wu.cell? ⟨wr.heap.size,4,none⟩ = some (.slice A2 nt c2):=hq1.cell 4
        have k4 : wu.frozen? ⟨wr.heap.size,4,none⟩ = false:=hq1.frozen 4
        clear hgp htp hq0 hq1
        refine wpAnyH_ready (rs:=[8]) (by kernel_rfl) (by simp) ?_
        refine AllReadyH.cons (o:=⟨none,.store 42 (.tmp 81) (.tmp 76),0,"trim.go:113",#[⟨7,.data⟩,⟨2,.data⟩,⟨6,.chain⟩,⟨0,.phase⟩,⟨1,.phase⟩,⟨2,.phase⟩,⟨3,.phase⟩,⟨4,.phase⟩,⟨5,.textOnly .lateStoresUnsure⟩,⟨6,.textOnly .lateStoresUnsure⟩],none⟩) rfl (fun K hK=>?_) AllReadyH.nil
        go_simp
        try rw [hwu]
        have hBr:=hBu
        refine hK.out _ _ ?_ (fun hHeld=>?_)
        ·exact hBr
        clear hK K
        try simp only [Act.put,List.setIfInBounds_toArray,List.set_cons_zero,List.set_cons_succ]
        refine wpAnyH_take (i:=9) (oi:=⟨some 82,.fieldAddr 50 (.tmp 11) 4,0,"trim.go:113",#[⟨0,.phase⟩,⟨1,.phase⟩,⟨2,.phase⟩,⟨3,.phase⟩,⟨4,.phase⟩,⟨5,.phase⟩,⟨6,.phase⟩,⟨7,.phase⟩,⟨8,.phase⟩],none⟩) (v:=?_) rfl (by kernel_rfl) (by kernel_rfl) (by kernel_rfl) (fun _ _ _ h=>h) (Or.inl ⟨by rfl,?_⟩) (by assumption) ?_
        rotate_left
        ·intro w' hSw
         (try dsimp only at hSw)
         go_simp
         all_goals with_reducible rfl
        try simp only [Act.put,List.setIfInBounds_toArray,List.set_cons_zero,List.set_cons_succ]
        refine wpAnyH_ready (rs:=[10]) (by kernel_rfl) (by simp) ?_
        refine AllReadyH.cons (o:=⟨none,.store 43 (.tmp 82) (.tmp 80),0,"trim.go:113",#[⟨9,.data⟩,⟨6,.data⟩,⟨8,.chain⟩,⟨0,.phase⟩,⟨1,.phase⟩,⟨2,.phase⟩,⟨3,.phase⟩,⟨4,.phase⟩,⟨5,.phase⟩,⟨6,.phase⟩,⟨7,.phase⟩,⟨8,.phase⟩],none⟩) rfl (fun K hK=>?_) AllReadyH.nil
        go_simp
        try rw [hwv]
        have hBr:=hBv
        refine hK.out _ _ ?_ (fun hHeld=>?_)
        ·exact hBr
        clear hK K
        try simp only [Act.put,List.setIfInBounds_toArray,List.set_cons_zero,List.set_cons_succ]
        refine wpAnyH_done (by kernel_rfl) ?_ _
        go_wp2_with (fail)
        go_meet
        exact ⟨AG,cG,AT,cT,hq2,hngt,htn,hBv⟩
      case rest=>
       obtain ⟨wx,rfl⟩ : ∃ wx : World,wx = wc:=⟨_,rfl⟩
       obtain ⟨AG,cG,AT,cT,hqx,hgx,htn,hbx⟩:=hcut
       have hlx:=HLAY.out.keep hbx
       have HGTX:=hid hgx
       have HTN:=hid htn
       have HBRX:=hid hbx
       have hxl : x < wr.heap.size:=HLAY.out.box.lt
       have hszx:=hbx.size
       obtain ⟨ws,hws,hqs,hls,hbS⟩:=new_cells wx #[.int .i64 (np : Int),.int .i64 (nq : Int),.slice AG ng cG,.int .i64 r.eat,.slice AT nt cT] 50
       have hlS:=hlx.keep hbS
       obtain ⟨vs,hvs,_⟩:=hlS.rules
       have hnL : (trR l (rs.take k)).length = nL:=HNL.out
       rw [hnL] at hvs
       have HVS:=hid hvs
       have HNEWS:=hid (fun (j : Nat) (u : Value) (e : ([.int .i64 (np : Int),.int .i64 (nq : Int),.slice AG ng cG,.int .i64 r.eat,.slice AT nt cT] : List Value)[j]? = some u)=>World.news_of_block (w:=ws) hqs j u e)
       have HONE:=hid (show ∀ u∈([.int .i64 (np : Int),.int .i64 (nq : Int),.slice AG ng cG,.int .i64 r.eat,.slice AT nt cT] : List Value),u.oneCell' = true from fun u hu=>by
        simp only [List.mem_cons,List.not_mem_nil,or_false] at hu
        rcases hu with rfl | rfl | rfl | rfl | rfl <;> rfl)
       have HLS:=hid hlS
       have HBXS:=hid (hbx.trans (hbS.mono hszx))
       have HXS:=hid (show x + 1≤ws.heap.size by omega)
       obtain ⟨i9,hi9,hy0,hy1,hy2⟩:=info_parts infoRule
       have xv:=hlx.box.at4
       have l0:=hqx.cell 0
       have l1:=hqx.cell 1
       have l2:=hqx.cell 2
       have l3:=hqx.cell 3
       have l4:=hqx.cell 4
       simp only [List.getElem?_toArray,List.getElem?_cons_zero,List.getElem?_cons_succ] at l0 l1 l2 l3 l4
       clear hqx hgx htn hbx hlx hqs hls hlS hvs hbS
       go_wp2_with (at_builtin;go_must (refine wpList_append_own_at _ rfl _ _ 23 rfl (x + 1) 50 i9 _ 5 72 Tryz.underlying23 hi9 hy0 hy1 hy2 rfl (by decide) v nL vs rfl HVS.out ⟨wx.heap.size,0,none⟩ 1 1 [.int .i64 (np : Int),.int .i64 (nq : Int),.slice AG ng cG,.int .i64 r.eat,.slice AT nt cT] rfl rfl HNEWS.out HONE.out ?c3 ?c4 HXS.out ?_))
       case c3=>simp only [maxLen];omega
       case c4=>omega
       intro v9 w9 hown9 hg9 _ hat9
       have hx9 : some x≠v.ownBlock:=fun e=>by have:=(World.ownsRow.lt HVS.out x e.symm).1;omega
       have hdb:=HLS.out.box.keep (hg9.block x (by have:=HXS.out;omega) hx9)
       obtain ⟨g9,c9,hv9,_,_⟩:=World.ownsRow.form hown9 (by omega)
       subst hv9
       have k1:=hdb.at4
       have k2:=hdb.frozen 4
       obtain ⟨wn,hwn⟩ : ∃ wn,w9.setCell ⟨x,4,none⟩ (.slice (some ⟨g9,0,none⟩) (nL + 1) c9) = wn:=⟨_,rfl⟩
       have hnext:=rule_kept HK.out HRK.out HMP.out HMQ.out HLAY.out HBL.out HNIL.out HBXS.out (Nat.le_of_lt HRB.out) (NewGT.keep HGTX.out (by rw [← hws];simp) (fun b _ hlt=>by rw [← hws];exact Below.heap_alloc wx _ _ hlt)) HTN.out (by rw [hnL];exact HVS.out) hg9 (by rw [HNN.out.1,HNN.out.2,hnL,HNP.out.1,HNP.out.2];exact hown9) hat9
       rw [hwn] at hnext
       have HNEXT:=hid hnext
       clear hnext hdb hown9 hg9 hat9
       go_wp2_with (fail)
       go_roundw
       case rel=>exact HNEXT.out
       case measure=>simp [intOf];omega
    ·obtain rfl : k = rs.length:=by omega
     obtain ⟨wA,hwA⟩ : ∃ wA : World,wA = wr:=⟨_,rfl⟩
     subst hwA
     have hlay2 : LayS (x + 1) x i o (l.length : Int) (ns : Int) (trR l rs) [] v (.slice none 0 0) wA:=by
      rw [List.take_length] at hlay
      exact hlay
     have HST2:=hid (show KfRel x i o (l.length : Int) (ns : Int) l rs fs wz v (.int .i64 (0 : Nat)) wA from ⟨0,.slice none 0 0,Nat.zero_le _,rfl,by rw [List.take_zero];exact hlay2,hbl,by rw [List.take_length] at hnil;exact hnil,by rw [List.take_zero];exact NilW.nil_ _ _ _ _ _⟩)
     obtain ⟨z0,z1,z2,z3,z4,z5⟩:=HDD.out wA hbl
     clear hlay hlay2 hbl hnil HLAY HBL HNIL
     go_wp2_with (fail)
     clear z0 z1 z2 z3 z4 z5
     go_loopw [93] (fun iv wr=>KfRel x i o (l.length : Int) (ns : Int) l rs fs wz v iv wr) (fun iv _=>fs.length - (intOf iv).toNat)
     case atStart=>exact HST2.out
     case round=>
      obtain ⟨k,vf,hk,rfl,hlay,hbl,hnr,hnil⟩:=hrel
      have HLAY:=hid hlay
      have HBL:=hid hbl
      have HNR:=hid hnr
      have HNIL:=hid hnil
      by_cases hlt : k < fs.length
      ·have hdw:=HZ.out wr hbl
       obtain ⟨b,off,A',c',A2,c2,hA,hbB,d0,d2,d4,⟨hg,hgc,hgl,hgm⟩,ht,htc,htl⟩:=hdw.finals.at_ hlt
       have HNT:=hid (fun e : A2 = none=>hdw.nf b off hA k hlt fs[k].out.length c2 (by rw [← e];exact d4))
       obtain ⟨r,hrk⟩ : ∃ r,fs[k] = r:=⟨_,rfl⟩
       have HRK:=hid hrk
       rw [hrk] at d0 d2 d4 hg hgc hgl hgm ht htc htl
       obtain ⟨f0,f1,f4,f5,f6,f7⟩:=HFS.out r (by rw [← hrk];exact List.getElem_mem hlt)
       obtain ⟨p,hp⟩ : ∃ p : Nat,r.frm = (p : Int):=⟨r.frm.toNat,by omega⟩
       try dsimp only at f1
       have hpN : p < N:=by omega
       have hp' : r.frm.toNat = p:=by omega
       rw [hp] at d0
       have HGU0:=hid (fun W (h : RGs W A' r.gs.length r.gs)=>guards_new A' c' r.gs W h (by omega) (fun g hg=>by have:=f5 g hg;omega))
       have HTE0:=hid (fun W g (h : RTm W A2 r.out.length r.out) (hc : W.cell? ⟨g,0,none⟩ = some (.slice A2 r.out.length c2)) (hlt : g < W.heap.size)=>terms_new g 1 c2 A2 r.out W hc hlt h (by omega) (fun t ht=>by have:=f7 t ht;omega) HNT.out)
       obtain ⟨ng,hng⟩ : ∃ ng,r.gs.length = ng:=⟨_,rfl⟩
       obtain ⟨nt,hnt⟩ : ∃ nt,r.out.length = nt:=⟨_,rfl⟩
       have HNN:=hid (And.intro hng hnt)
       rw [hng] at d2 hgc hgl hg HGU0
       rw [hnt] at d4 htc htl ht HTE0
       have HG:=hid hg
       have HT:=hid ht
       have HK:=hid hlt
       have HFP:=hid hp'
       have hkb : k < 4096:=by have:=HRL.out.2;omega
       have hzr:=hbl.size
       have hxl : x < wr.heap.size:=hlay.box.lt
       obtain ⟨nL,hnL⟩ : ∃ nL,(trF l (fs.take k)).length = nL:=⟨_,rfl⟩
       have HNL:=hid hnL
       have hnLb : nL≤4096:=by
        have h1:=HRL.out.2
        rw [← hnL]
        unfold trF
        rw [List.length_map]
        refine Nat.le_trans (List.length_filter_le _ _) ?_
        rw [List.length_take]
        omega
       have hwr : w.heap.size≤wr.heap.size:=by have:=HXW.out;omega
       subst hA
       clear hlay hbl hnr hnil hg ht hgm hrk hng hnt hdw f4 f5 f6 f7 hnL
       go_upto_region 20 with (fail)
       obtain ⟨wb0,hwb0⟩ : ∃ wb0,wr.alloc (.cells #[.int .i64 (p : Int),.slice A' ng c',.slice A2 nt c2] 45) = wb0:=⟨_,rfl⟩
       rw [hwb0]
       have hq0 : Blk wb0 wr.heap.size 45 #[.int .i64 (p : Int),.slice A' ng c',.slice A2 nt c2]:=by
        rw [← hwb0]
        exact heap_alloc_new wr _
       have hs0' : wb0.heap.size = wr.heap.size + 1:=by rw [← hwb0];simp
       have HB0:=hid (show Below wr.heap.size wr wb0 by rw [← hwb0];exact (Below.refl _ _).alloc (Nat.le_refl _) _)
       have HQ0:=hid hq0
       have hbz0 : Below x wz wb0:=HBL.out.trans (HB0.out.mono (by omega))
       have m1:=HMK.out wb0 hbz0 p hpN
       have nm1:=HNM.out wb0 hbz0 p hpN
       have j0:=hq0.cell 0
       have jf:=hq0.frozen 0
       simp only [List.getElem?_toArray,List.getElem?_cons_zero] at j0
       have n1 : (0 : Int)≤(p : Int):=Int.natCast_nonneg _
       have n2 : (p : Int) < (N : Int):=by omega
       clear hq0 hbz0 hwb0
       cases hfp : f p with
       | false=>
        rw [hfp] at m1
        have HGO:=hid (show KfRel x i o (l.length : Int) (ns : Int) l rs fs wz v (.int .i64 ((k + 1 : Nat) : Int)) wb0 from final_gone HK.out (by
         rw [HRK.out,HFP.out]
         exact decide_eq_false fun hm=>by have:=(HMM.out p hpN).1 hm;rw [hfp] at this;cases this) HLAY.out HBL.out HNR.out HNIL.out HB0.out)
        go_wp2_with (fail)
        go_roundw
        case rel=>exact HGO.out
        case measure=>simp [intOf];omega
       | true=>
       rw [hfp] at m1
       have HMP:=hid (show r.frm.toNat∈l by rw [HFP.out];exact (HMM.out p hpN).2 hfp)
       obtain ⟨np,hnp⟩ : ∃ np,numF l l.length p = np:=⟨_,rfl⟩
       have HNP:=hid (show numL l r.frm.toNat = np by rw [← numF_all HMP.out,HFP.out];exact hnp)
       rw [hnp] at nm1
       clear hnp hfp
       go_upto_region 22 with (fail)
       obtain ⟨wb,hwb⟩ : ∃ wb,wb0.setCell ⟨wr.heap.size,0,none⟩ (.int .i64 (np : Int)) = wb:=⟨_,rfl⟩
       rw [hwb]
       have hqb : Blk wb wr.heap.size 45 #[.int .i64 (np : Int),.slice A' ng c',.slice A2 nt c2]:=by rw [← hwb];exact HQ0.out.set_ 0 _
       have HBR:=hid (show Below wr.heap.size wr wb by rw [← hwb];exact HB0.out.setCell (Nat.le_refl _) _)
       have HQ:=hid hqb
       have HRB:=hid hqb.lt
       have HSZ:=hid (Nat.le_of_lt hqb.lt)
       have HGU:=hid (fun W (hb : Below wb.heap.size wb W)=>HGU0.out W (by have:=HG.out.belowM (HBR.out.trans (hb.mono HSZ.out));exact this))
       have HTE:=hid (fun W (hb : Below wb.heap.size wb W) g hc hlt=>HTE0.out W g (HT.out.belowM (HBR.out.trans (hb.mono HSZ.out))) hc hlt)
       clear hqb hwb m1 nm1 j0 jf
       go_cut [] (fun wx=>∃ AG cG AT cT,Blk wx wr.heap.size 45 #[.int .i64 (np : Int),.slice AG ng cG,.slice AT nt cT]∧NewGT wb.heap.size r.gs r.out AG cG AT cT wx∧(AT = none→cT = 0)∧Below wr.heap.size wr wx)
       case first=>
        have hBr : Below wr.heap.size wr wb.drew:=HBR.out.drew
        have hBn : Below wb.heap.size wb wb.drew:=(Below.refl _ _).drew
        obtain ⟨wd,hwd⟩ : ∃ wd,wb.drew = wd:=⟨_,rfl⟩
        refine wp_region_held_drew (S:=fun W=>Below wr.heap.size wr W) (by kernel_rfl) hBr (fun hHeld=>?_)
        rw [hwd] at hBr hBn hHeld ⊢
        refine wpAnyH_take (i:=0) (oi:=⟨some 108,.fieldAddr 45 (.tmp 13) 1,0,"trim.go:120",#[],none⟩) (v:=?_) rfl (by kernel_rfl) (by kernel_rfl) (by kernel_rfl) (fun _ _ _ h=>h) (Or.inl ⟨by rfl,?_⟩) (by assumption) ?_
        rotate_left
        ·intro w' hSw
         (try dsimp only at hSw)
         go_simp
         all_goals with_reducible rfl
        try simp only [Act.put,List.setIfInBounds_toArray,List.set_cons_zero,List.set_cons_succ]
        refine wpAnyH_take (i:=3) (oi:=⟨some 111,.fieldAddr 45 (.tmp 13) 2,0,"trim.go:120",#[],none⟩) (v:=?_) rfl (by kernel_rfl) (by kernel_rfl) (by kernel_rfl) (fun _ _ _ h=>h) (Or.inl ⟨by rfl,?_⟩) (by assumption) ?_
        rotate_left
        ·intro w' hSw
         (try dsimp only at hSw)
         go_simp
         all_goals with_reducible rfl
        try simp only [Act.put,List.setIfInBounds_toArray,List.set_cons_zero,List.set_cons_succ]
        refine wpAnyH_ready (rs:=[1,4]) (by kernel_rfl) (by simp) ?_
        refine (AllReadyH.cons (o:=⟨some 109,.load 42 (.tmp 108),42,"trim.go:120",#[⟨0,.data⟩],none⟩) rfl (fun K hK=>?_) (AllReadyH.cons (o:=⟨some 112,.load 43 (.tmp 111),43,"trim.go:120",#[⟨3,.data⟩],none⟩) rfl (fun K hK=>?_) AllReadyH.nil))
        focus
         have hcl : wd.cell? ⟨wr.heap.size,1,none⟩ = some (.slice A' ng c'):=(HQ.out.below hBn HRB.out).cell 1
         go_simp
         clear hcl
         refine hK.out _ _ ?_ (fun hHeld=>?_)
         ·exact hBr
         clear hK K
         try simp only [Act.put,List.setIfInBounds_toArray,List.set_cons_zero,List.set_cons_succ]
         refine wpAnyH_ready (rs:=[2,4]) (by kernel_rfl) (by simp) ?_
         refine (AllReadyH.cons (o:=⟨some 110,.call { callee:=.value (.func 40),args:=#[.tmp 109],argTypes:=#[42] },42,"trim.go:120",#[⟨1,.data⟩],none⟩) rfl (fun K hK=>?_) (AllReadyH.cons (o:=⟨some 112,.load 43 (.tmp 111),43,"trim.go:120",#[⟨3,.data⟩],none⟩) rfl (fun K hK=>?_) AllReadyH.nil))
         focus
          go_simp
          go_wp2_with (go_at_call 40;(with_reducible refine (HGU.out _ hBn).mono ?_);rintro eg wg ⟨vG,rfl,hrG,hbG⟩)
          have hszG:=hBn.size
          have hBr:=nextB hBr hbG (Nat.le_trans HSZ.out hBn.size)
          have hBn:=nextB hBn hbG hBn.size
          obtain ⟨AG,cG,hvG,hgp,hgl,_⟩:=RowB.far hrG
          have hgp:=rgp_keep hgp (Below.refl _ _) hszG
          rw [HNN.out.1] at hvG hgl
          subst hvG
          refine hK.out _ _ ?_ (fun hHeld=>?_)
          ·exact hBr
          clear hK K
          try simp only [Act.put,List.setIfInBounds_toArray,List.set_cons_zero,List.set_cons_succ]
          refine wpAnyH_ready (rs:=[4]) (by kernel_rfl) (by simp) ?_
          refine (AllReadyH.cons (o:=⟨some 112,.load 43 (.tmp 111),43,"trim.go:120",#[⟨3,.data⟩],none⟩) rfl (fun K hK=>?_) AllReadyH.nil)
          have hcl : wg.cell? ⟨wr.heap.size,2,none⟩ = some (.slice A2 nt c2):=(HQ.out.below hBn HRB.out).cell 2
          go_simp
          clear hcl
          refine hK.out _ _ ?_ (fun hHeld=>?_)
          ·exact hBr
          clear hK K
          try simp only [Act.put,List.setIfInBounds_toArray,List.set_cons_zero,List.set_cons_succ]
          refine wpAnyH_take (i:=7) (oi:=⟨some 115,.fieldAddr 45 (.tmp 13) 1,0,"trim.go:120",#[⟨0,.phase⟩,⟨1,.phase⟩,⟨2,.phase⟩,⟨3,.phase⟩,⟨4,.phase⟩,⟨5,.textOnly .lateStoresUnsure⟩,⟨6,.textOnly .lateStoresUnsure⟩],none⟩) (v:=?_) rfl (by kernel_rfl) (by kernel_rfl) (by kernel_rfl) (fun _ _ _ h=>h) (Or.inl ⟨by rfl,?_⟩) (by assumption) ?_
          rotate_left
          ·intro w' hSw
           (try dsimp only at hSw)
           go_simp
           all_goals with_reducible rfl
          try simp only [Act.put,List.setIfInBounds_toArray,List.set_cons_zero,List.set_cons_succ]
          refine wpAnyH_ready (rs:=[5]) (by kernel_rfl) (by simp) ?_
          refine (AllReadyH.cons (o:=⟨some 113,.buildSlice 90 1 #[(0,.tmp 112)],90,"trim.go:120",#[⟨4,.data⟩],none⟩) rfl (fun K hK=>?_) AllReadyH.nil)
          obtain ⟨ws,hws,hqs,hls,hbS⟩:=new_cells wg #[.slice A2 nt c2] 43
          go_simp
          try rw [hws]
          have hBr:=nextB hBr hbS (Nat.le_trans HSZ.out hBn.size)
          have hBn:=nextB hBn hbS hBn.size
          have hgp:=rgp_keep hgp hbS (Nat.le_refl _)
          refine hK.out _ _ ?_ (fun hHeld=>?_)
          ·exact hBr
          clear hK K
          try simp only [Act.put,List.setIfInBounds_toArray,List.set_cons_zero,List.set_cons_succ]
          refine wpAnyH_ready (rs:=[6]) (by kernel_rfl) (by simp) ?_
          refine (AllReadyH.cons (o:=⟨some 114,.call { callee:=.value (.func 41),args:=#[.tmp 113],argTypes:=#[90] },43,"trim.go:120",#[⟨5,.data⟩,⟨2,.chain⟩],none⟩) rfl (fun K hK=>?_) AllReadyH.nil)
          go_simp
          go_wp2_with (go_at_call 41;(with_reducible refine (HTE.out _ hBn _ (hqs.cell 0) hls).mono ?_);rintro et wt ⟨vT,rfl,hrT,hbT⟩)
          have hszT:=hBn.size
          have hBr:=nextB hBr hbT (Nat.le_trans HSZ.out hBn.size)
          have hBn:=nextB hBn hbT hBn.size
          obtain ⟨AT,cT,hvT,htp,htl,htn⟩:=RowT.far hrT
          have htp:=rtp_keep htp (Below.refl _ _) hszT
          have hgp:=rgp_keep hgp hbT (Nat.le_refl _)
          rw [HNN.out.2] at hvT htl
          subst hvT
          refine hK.out _ _ ?_ (fun hHeld=>?_)
          ·exact hBr
          clear hK K
          try simp only [Act.put,List.setIfInBounds_toArray,List.set_cons_zero,List.set_cons_succ]
          obtain ⟨wl,rfl⟩ : ∃ wl : World,wl = wt:=⟨_,rfl⟩
         rotate_left 1
         focus
          have hcl : wd.cell? ⟨wr.heap.size,2,none⟩ = some (.slice A2 nt c2):=(HQ.out.below hBn HRB.out).cell 2
          go_simp
          clear hcl
          refine hK.out _ _ ?_ (fun hHeld=>?_)
          ·exact hBr
          clear hK K
          try simp only [Act.put,List.setIfInBounds_toArray,List.set_cons_zero,List.set_cons_succ]
          refine wpAnyH_ready (rs:=[2,5]) (by kernel_rfl) (by simp) ?_
          refine (AllReadyH.cons (o:=⟨some 110,.call { callee:=.value (.func 40),args:=#[.tmp 109],argTypes:=#[42] },42,"trim.go:120",#[⟨1,.data⟩],none⟩) rfl (fun K hK=>?_) (AllReadyH.cons (o:=⟨some 113,.buildSlice 90 1 #[(0,.tmp 112)],90,"trim.go:120",#[⟨4,.data⟩],none⟩) rfl (fun K hK=>?_) AllReadyH.nil))
          focus
           go_simp
           go_wp2_with (go_at_call 40;(with_reducible refine (HGU.out _ hBn).mono ?_);rintro eg wg ⟨vG,rfl,hrG,hbG⟩)
           have hszG:=hBn.size
           have hBr:=nextB hBr hbG (Nat.le_trans HSZ.out hBn.size)
           have hBn:=nextB hBn hbG hBn.size
           obtain ⟨AG,cG,hvG,hgp,hgl,_⟩:=RowB.far hrG
           have hgp:=rgp_keep hgp (Below.refl _ _) hszG
           rw [HNN.out.1] at hvG hgl
           subst hvG
           refine hK.out _ _ ?_ (fun hHeld=>?_)
           ·exact hBr
           clear hK K
           try simp only [Act.put,List.setIfInBounds_toArray,List.set_cons_zero,List.set_cons_succ]
           refine wpAnyH_take (i:=7) (oi:=⟨some 115,.fieldAddr 45 (.tmp 13) 1,0,"trim.go:120",#[⟨0,.phase⟩,⟨1,.phase⟩,⟨2,.phase⟩,⟨3,.phase⟩,⟨4,.phase⟩,⟨5,.textOnly .lateStoresUnsure⟩,⟨6,.textOnly .lateStoresUnsure⟩],none⟩) (v:=?_) rfl (by kernel_rfl) (by kernel_rfl) (by kernel_rfl) (fun _ _ _ h=>h) (Or.inl ⟨by rfl,?_⟩) (by assumption) ?_
           rotate_left
           ·intro w' hSw
            (try dsimp only at hSw)
            go_simp
            all_goals with_reducible rfl
           try simp only [Act.put,List.setIfInBounds_toArray,List.set_cons_zero,List.set_cons_succ]
           refine wpAnyH_ready (rs:=[5]) (by kernel_rfl) (by simp) ?_
           refine (AllReadyH.cons (o:=⟨some 113,.buildSlice 90 1 #[(0,.tmp 112)],90,"trim.go:120",#[⟨4,.data⟩],none⟩) rfl (fun K hK=>?_) AllReadyH.nil)
           obtain ⟨ws,hws,hqs,hls,hbS⟩:=new_cells wg #[.slice A2 nt c2] 43
           go_simp
           try rw [hws]
           have hBr:=nextB hBr hbS (Nat.le_trans HSZ.out hBn.size)
           have hBn:=nextB hBn hbS hBn.size
           have hgp:=rgp_keep hgp hbS (Nat.le_refl _)
           refine hK.out _ _ ?_ (fun hHeld=>?_)
           ·exact hBr
           clear hK K
           try simp only [Act.put,List.setIfInBounds_toArray,List.set_cons_zero,List.set_cons_succ]
           refine wpAnyH_ready (rs:=[6]) (by kernel_rfl) (by simp) ?_
           refine (AllReadyH.cons (o:=⟨some 114,.call { callee:=.value (.func 41),args:=#[.tmp 113],argTypes:=#[90] },43,"trim.go:120",#[⟨5,.data⟩,⟨2,.chain⟩],none⟩) rfl (fun K hK=>?_) AllReadyH.nil)
           go_simp
           go_wp2_with (go_at_call 41;(with_reducible refine (HTE.out _ hBn _ (hqs.cell 0) hls).mono ?_);rintro et wt ⟨vT,rfl,hrT,hbT⟩)
           have hszT:=hBn.size
           have hBr:=nextB hBr hbT (Nat.le_trans HSZ.out hBn.size)
           have hBn:=nextB hBn hbT hBn.size
           obtain ⟨AT,cT,hvT,htp,htl,htn⟩:=RowT.far hrT
           have htp:=rtp_keep htp (Below.refl _ _) hszT
           have hgp:=rgp_keep hgp hbT (Nat.le_refl _)
           rw [HNN.out.2] at hvT htl
           subst hvT
           refine hK.out _ _ ?_ (fun hHeld=>?_)
           ·exact hBr
           clear hK K
           try simp only [Act.put,List.setIfInBounds_toArray,List.set_cons_zero,List.set_cons_succ]
           obtain ⟨wl,rfl⟩ : ∃ wl : World,wl = wt:=⟨_,rfl⟩
          rotate_left 1
          focus
           obtain ⟨ws,hws,hqs,hls,hbS⟩:=new_cells wd #[.slice A2 nt c2] 43
           go_simp
           try rw [hws]
           have hBr:=nextB hBr hbS (Nat.le_trans HSZ.out hBn.size)
           have hBn:=nextB hBn hbS hBn.size
           refine hK.out _ _ ?_ (fun hHeld=>?_)
           ·exact hBr
           clear hK K
           try simp only [Act.put,List.setIfInBounds_toArray,List.set_cons_zero,List.set_cons_succ]
           refine wpAnyH_ready (rs:=[2]) (by kernel_rfl) (by simp) ?_
           refine (AllReadyH.cons (o:=⟨some 110,.call { callee:=.value (.func 40),args:=#[.tmp 109],argTypes:=#[42] },42,"trim.go:120",#[⟨1,.data⟩],none⟩) rfl (fun K hK=>?_) AllReadyH.nil)
           go_simp
           go_wp2_with (go_at_call 40;(with_reducible refine (HGU.out _ hBn).mono ?_);rintro eg wg ⟨vG,rfl,hrG,hbG⟩)
           have hszG:=hBn.size
           have hBr:=nextB hBr hbG (Nat.le_trans HSZ.out hBn.size)
           have hBn:=nextB hBn hbG hBn.size
           obtain ⟨AG,cG,hvG,hgp,hgl,_⟩:=RowB.far hrG
           have hgp:=rgp_keep hgp (Below.refl _ _) hszG
           rw [HNN.out.1] at hvG hgl
           subst hvG
           have hqs:=hqs.below hbG hls
           have hls:=Nat.lt_of_lt_of_le hls hbG.size
           refine hK.out _ _ ?_ (fun hHeld=>?_)
           ·exact hBr
           clear hK K
           try simp only [Act.put,List.setIfInBounds_toArray,List.set_cons_zero,List.set_cons_succ]
           refine wpAnyH_take (i:=7) (oi:=⟨some 115,.fieldAddr 45 (.tmp 13) 1,0,"trim.go:120",#[⟨0,.phase⟩,⟨1,.phase⟩,⟨2,.phase⟩,⟨3,.phase⟩,⟨4,.phase⟩,⟨5,.textOnly .lateStoresUnsure⟩,⟨6,.textOnly .lateStoresUnsure⟩],none⟩) (v:=?_) rfl (by kernel_rfl) (by kernel_rfl) (by kernel_rfl) (fun _ _ _ h=>h) (Or.inl ⟨by rfl,?_⟩) (by assumption) ?_
           rotate_left
           ·intro w' hSw
            (try dsimp only at hSw)
            go_simp
            all_goals with_reducible rfl
           try simp only [Act.put,List.setIfInBounds_toArray,List.set_cons_zero,List.set_cons_succ]
           refine wpAnyH_ready (rs:=[6]) (by kernel_rfl) (by simp) ?_
           refine (AllReadyH.cons (o:=⟨some 114,.call { callee:=.value (.func 41),args:=#[.tmp 113],argTypes:=#[90] },43,"trim.go:120",#[⟨5,.data⟩,⟨2,.chain⟩],none⟩) rfl (fun K hK=>?_) AllReadyH.nil)
           go_simp
           go_wp2_with (go_at_call 41;(with_reducible refine (HTE.out _ hBn _ (hqs.cell 0) hls).mono ?_);rintro et wt ⟨vT,rfl,hrT,hbT⟩)
           have hszT:=hBn.size
           have hBr:=nextB hBr hbT (Nat.le_trans HSZ.out hBn.size)
           have hBn:=nextB hBn hbT hBn.size
           obtain ⟨AT,cT,hvT,htp,htl,htn⟩:=RowT.far hrT
           have htp:=rtp_keep htp (Below.refl _ _) hszT
           have hgp:=rgp_keep hgp hbT (Nat.le_refl _)
           rw [HNN.out.2] at hvT htl
           subst hvT
           refine hK.out _ _ ?_ (fun hHeld=>?_)
           ·exact hBr
           clear hK K
           try simp only [Act.put,List.setIfInBounds_toArray,List.set_cons_zero,List.set_cons_succ]
           obtain ⟨wl,rfl⟩ : ∃ wl : World,wl = wt:=⟨_,rfl⟩
        rotate_left 3
        focus
         have hcl : wd.cell? ⟨wr.heap.size,2,none⟩ = some (.slice A2 nt c2):=(HQ.out.below hBn HRB.out).cell 2
         go_simp
         clear hcl
         refine hK.out _ _ ?_ (fun hHeld=>?_)
         ·exact hBr
         clear hK K
         try simp only [Act.put,List.setIfInBounds_toArray,List.set_cons_zero,List.set_cons_succ]
         refine wpAnyH_ready (rs:=[1,5]) (by kernel_rfl) (by simp) ?_
         refine (AllReadyH.cons (o:=⟨some 109,.load 42 (.tmp 108),42,"trim.go:120",#[⟨0,.data⟩],none⟩) rfl (fun K hK=>?_) (AllReadyH.cons (o:=⟨some 113,.buildSlice 90 1 #[(0,.tmp 112)],90,"trim.go:120",#[⟨4,.data⟩],none⟩) rfl (fun K hK=>?_) AllReadyH.nil))
         focus
          have hcl : wd.cell? ⟨wr.heap.size,1,none⟩ = some (.slice A' ng c'):=(HQ.out.below hBn HRB.out).cell 1
          go_simp
          clear hcl
          refine hK.out _ _ ?_ (fun hHeld=>?_)
          ·exact hBr
          clear hK K
          try simp only [Act.put,List.setIfInBounds_toArray,List.set_cons_zero,List.set_cons_succ]
          refine wpAnyH_ready (rs:=[2,5]) (by kernel_rfl) (by simp) ?_
          refine (AllReadyH.cons (o:=⟨some 110,.call { callee:=.value (.func 40),args:=#[.tmp 109],argTypes:=#[42] },42,"trim.go:120",#[⟨1,.data⟩],none⟩) rfl (fun K hK=>?_) (AllReadyH.cons (o:=⟨some 113,.buildSlice 90 1 #[(0,.tmp 112)],90,"trim.go:120",#[⟨4,.data⟩],none⟩) rfl (fun K hK=>?_) AllReadyH.nil))
          focus
           go_simp
           go_wp2_with (go_at_call 40;(with_reducible refine (HGU.out _ hBn).mono ?_);rintro eg wg ⟨vG,rfl,hrG,hbG⟩)
           have hszG:=hBn.size
           have hBr:=nextB hBr hbG (Nat.le_trans HSZ.out hBn.size)
           have hBn:=nextB hBn hbG hBn.size
           obtain ⟨AG,cG,hvG,hgp,hgl,_⟩:=RowB.far hrG
           have hgp:=rgp_keep hgp (Below.refl _ _) hszG
           rw [HNN.out.1] at hvG hgl
           subst hvG
           refine hK.out _ _ ?_ (fun hHeld=>?_)
           ·exact hBr
           clear hK K
           try simp only [Act.put,List.setIfInBounds_toArray,List.set_cons_zero,List.set_cons_succ]
           refine wpAnyH_take (i:=7) (oi:=⟨some 115,.fieldAddr 45 (.tmp 13) 1,0,"trim.go:120",#[⟨0,.phase⟩,⟨1,.phase⟩,⟨2,.phase⟩,⟨3,.phase⟩,⟨4,.phase⟩,⟨5,.textOnly .lateStoresUnsure⟩,⟨6,.textOnly .lateStoresUnsure⟩],none⟩) (v:=?_) rfl (by kernel_rfl) (by kernel_rfl) (by kernel_rfl) (fun _ _ _ h=>h) (Or.inl ⟨by rfl,?_⟩) (by assumption) ?_
           rotate_left
           ·intro w' hSw
            (try dsimp only at hSw)
            go_simp
            all_goals with_reducible rfl
           try simp only [Act.put,List.setIfInBounds_toArray,List.set_cons_zero,List.set_cons_succ]
           refine wpAnyH_ready (rs:=[5]) (by kernel_rfl) (by simp) ?_
           refine (AllReadyH.cons (o:=⟨some 113,.buildSlice 90 1 #[(0,.tmp 112)],90,"trim.go:120",#[⟨4,.data⟩],none⟩) rfl (fun K hK=>?_) AllReadyH.nil)
           obtain ⟨ws,hws,hqs,hls,hbS⟩:=new_cells wg #[.slice A2 nt c2] 43
           go_simp
           try rw [hws]
           have hBr:=nextB hBr hbS (Nat.le_trans HSZ.out hBn.size)
           have hBn:=nextB hBn hbS hBn.size
           have hgp:=rgp_keep hgp hbS (Nat.le_refl _)
           refine hK.out _ _ ?_ (fun hHeld=>?_)
           ·exact hBr
           clear hK K
           try simp only [Act.put,List.setIfInBounds_toArray,List.set_cons_zero,List.set_cons_succ]
           refine wpAnyH_ready (rs:=[6]) (by kernel_rfl) (by simp) ?_
           refine (AllReadyH.cons (o:=⟨some 114,.call { callee:=.value (.func 41),args:=#[.tmp 113],argTypes:=#[90] },43,"trim.go:120",#[⟨5,.data⟩,⟨2,.chain⟩],none⟩) rfl (fun K hK=>?_) AllReadyH.nil)
           go_simp
           go_wp2_with (go_at_call 41;(with_reducible refine (HTE.out _ hBn _ (hqs.cell 0) hls).mono ?_);rintro et wt ⟨vT,rfl,hrT,hbT⟩)
           have hszT:=hBn.size
           have hBr:=nextB hBr hbT (Nat.le_trans HSZ.out hBn.size)
           have hBn:=nextB hBn hbT hBn.size
           obtain ⟨AT,cT,hvT,htp,htl,htn⟩:=RowT.far hrT
           have htp:=rtp_keep htp (Below.refl _ _) hszT
           have hgp:=rgp_keep hgp hbT (Nat.le_refl _)
           rw [HNN.out.2] at hvT htl
           subst hvT
           refine hK.out _ _ ?_ (fun hHeld=>?_)
           ·exact hBr
           clear hK K
           try simp only [Act.put,List.setIfInBounds_toArray,List.set_cons_zero,List.set_cons_succ]
           obtain ⟨wl,rfl⟩ : ∃ wl : World,wl = wt:=⟨_,rfl⟩
          rotate_left 1
          focus
           obtain ⟨ws,hws,hqs,hls,hbS⟩:=new_cells wd #[.slice A2 nt c2] 43
           go_simp
           try rw [hws]
           have hBr:=nextB hBr hbS (Nat.le_trans HSZ.out hBn.size)
           have hBn:=nextB hBn hbS hBn.size
           refine hK.out _ _ ?_ (fun hHeld=>?_)
           ·exact hBr
           clear hK K
           try simp only [Act.put,List.setIfInBounds_toArray,List.set_cons_zero,List.set_cons_succ]
           refine wpAnyH_ready (rs:=[2]) (by kernel_rfl) (by simp) ?_
           refine (AllReadyH.cons (o:=⟨some 110,.call { callee:=.value (.func 40),args:=#[.tmp 109],argTypes:=#[42] },42,"trim.go:120",#[⟨1,.data⟩],none⟩) rfl (fun K hK=>?_) AllReadyH.nil)
           go_simp
           go_wp2_with (go_at_call 40;(with_reducible refine (HGU.out _ hBn).mono ?_);rintro eg wg ⟨vG,rfl,hrG,hbG⟩)
           have hszG:=hBn.size
           have hBr:=nextB hBr hbG (Nat.le_trans HSZ.out hBn.size)
           have hBn:=nextB hBn hbG hBn.size
           obtain ⟨AG,cG,hvG,hgp,hgl,_⟩:=RowB.far hrG
           have hgp:=rgp_keep hgp (Below.refl _ _) hszG
           rw [HNN.out.1] at hvG hgl
           subst hvG
           have hqs:=hqs.below hbG hls
           have hls:=Nat.lt_of_lt_of_le hls hbG.size
           refine hK.out _ _ ?_ (fun hHeld=>?_)
           ·exact hBr
           clear hK K
           try simp only [Act.put,List.setIfInBounds_toArray,List.set_cons_zero,List.set_cons_succ]
           refine wpAnyH_take (i:=7) (oi:=⟨some 115,.fieldAddr 45 (.tmp 13) 1,0,"trim.go:120",#[⟨0,.phase⟩,⟨1,.phase⟩,⟨2,.phase⟩,⟨3,.phase⟩,⟨4,.phase⟩,⟨5,.textOnly .lateStoresUnsure⟩,⟨6,.textOnly .lateStoresUnsure⟩],none⟩) (v:=?_) rfl (by kernel_rfl) (by kernel_rfl) (by kernel_rfl) (fun _ _ _ h=>h) (Or.inl ⟨by rfl,?_⟩) (by assumption) ?_
           rotate_left
           ·intro w' hSw
            (try dsimp only at hSw)
            go_simp
            all_goals with_reducible rfl
           try simp only [Act.put,List.setIfInBounds_toArray,List.set_cons_zero,List.set_cons_succ]
           refine wpAnyH_ready (rs:=[6]) (by kernel_rfl) (by simp) ?_
           refine (AllReadyH.cons (o:=⟨some 114,.call { callee:=.value (.func 41),args:=#[.tmp 113],argTypes:=#[90] },43,"trim.go:120",#[⟨5,.data⟩,⟨2,.chain⟩],none⟩) rfl (fun K hK=>?_) AllReadyH.nil)
           go_simp
           go_wp2_with (go_at_call 41;(with_reducible refine (HTE.out _ hBn _ (hqs.cell 0) hls).mono ?_);rintro et wt ⟨vT,rfl,hrT,hbT⟩)
           have hszT:=hBn.size
           have hBr:=nextB hBr hbT (Nat.le_trans HSZ.out hBn.size)
           have hBn:=nextB hBn hbT hBn.size
           obtain ⟨AT,cT,hvT,htp,htl,htn⟩:=RowT.far hrT
           have htp:=rtp_keep htp (Below.refl _ _) hszT
           have hgp:=rgp_keep hgp hbT (Nat.le_refl _)
           rw [HNN.out.2] at hvT htl
           subst hvT
           refine hK.out _ _ ?_ (fun hHeld=>?_)
           ·exact hBr
           clear hK K
           try simp only [Act.put,List.setIfInBounds_toArray,List.set_cons_zero,List.set_cons_succ]
           obtain ⟨wl,rfl⟩ : ∃ wl : World,wl = wt:=⟨_,rfl⟩
         rotate_left 2
         focus
          obtain ⟨ws,hws,hqs,hls,hbS⟩:=new_cells wd #[.slice A2 nt c2] 43
          go_simp
          try rw [hws]
          have hBr:=nextB hBr hbS (Nat.le_trans HSZ.out hBn.size)
          have hBn:=nextB hBn hbS hBn.size
          refine hK.out _ _ ?_ (fun hHeld=>?_)
          ·exact hBr
          clear hK K
          try simp only [Act.put,List.setIfInBounds_toArray,List.set_cons_zero,List.set_cons_succ]
          refine wpAnyH_ready (rs:=[1]) (by kernel_rfl) (by simp) ?_
          refine (AllReadyH.cons (o:=⟨some 109,.load 42 (.tmp 108),42,"trim.go:120",#[⟨0,.data⟩],none⟩) rfl (fun K hK=>?_) AllReadyH.nil)
          have hcl : ws.cell? ⟨wr.heap.size,1,none⟩ = some (.slice A' ng c'):=(HQ.out.below hBn HRB.out).cell 1
          go_simp
          clear hcl
          refine hK.out _ _ ?_ (fun hHeld=>?_)
          ·exact hBr
          clear hK K
          try simp only [Act.put,List.setIfInBounds_toArray,List.set_cons_zero,List.set_cons_succ]
          refine wpAnyH_ready (rs:=[2]) (by kernel_rfl) (by simp) ?_
          refine (AllReadyH.cons (o:=⟨some 110,.call { callee:=.value (.func 40),args:=#[.tmp 109],argTypes:=#[42] },42,"trim.go:120",#[⟨1,.data⟩],none⟩) rfl (fun K hK=>?_) AllReadyH.nil)
          go_simp
          go_wp2_with (go_at_call 40;(with_reducible refine (HGU.out _ hBn).mono ?_);rintro eg wg ⟨vG,rfl,hrG,hbG⟩)
          have hszG:=hBn.size
          have hBr:=nextB hBr hbG (Nat.le_trans HSZ.out hBn.size)
          have hBn:=nextB hBn hbG hBn.size
          obtain ⟨AG,cG,hvG,hgp,hgl,_⟩:=RowB.far hrG
          have hgp:=rgp_keep hgp (Below.refl _ _) hszG
          rw [HNN.out.1] at hvG hgl
          subst hvG
          have hqs:=hqs.below hbG hls
          have hls:=Nat.lt_of_lt_of_le hls hbG.size
          refine hK.out _ _ ?_ (fun hHeld=>?_)
          ·exact hBr
          clear hK K
          try simp only [Act.put,List.setIfInBounds_toArray,List.set_cons_zero,List.set_cons_succ]
          refine wpAnyH_take (i:=7) (oi:=⟨some 115,.fieldAddr 45 (.tmp 13) 1,0,"trim.go:120",#[⟨0,.phase⟩,⟨1,.phase⟩,⟨2,.phase⟩,⟨3,.phase⟩,⟨4,.phase⟩,⟨5,.textOnly .lateStoresUnsure⟩,⟨6,.textOnly .lateStoresUnsure⟩],none⟩) (v:=?_) rfl (by kernel_rfl) (by kernel_rfl) (by kernel_rfl) (fun _ _ _ h=>h) (Or.inl ⟨by rfl,?_⟩) (by assumption) ?_
          rotate_left
          ·intro w' hSw
           (try dsimp only at hSw)
           go_simp
           all_goals with_reducible rfl
          try simp only [Act.put,List.setIfInBounds_toArray,List.set_cons_zero,List.set_cons_succ]
          refine wpAnyH_ready (rs:=[6]) (by kernel_rfl) (by simp) ?_
          refine (AllReadyH.cons (o:=⟨some 114,.call { callee:=.value (.func 41),args:=#[.tmp 113],argTypes:=#[90] },43,"trim.go:120",#[⟨5,.data⟩,⟨2,.chain⟩],none⟩) rfl (fun K hK=>?_) AllReadyH.nil)
          go_simp
          go_wp2_with (go_at_call 41;(with_reducible refine (HTE.out _ hBn _ (hqs.cell 0) hls).mono ?_);rintro et wt ⟨vT,rfl,hrT,hbT⟩)
          have hszT:=hBn.size
          have hBr:=nextB hBr hbT (Nat.le_trans HSZ.out hBn.size)
          have hBn:=nextB hBn hbT hBn.size
          obtain ⟨AT,cT,hvT,htp,htl,htn⟩:=RowT.far hrT
          have htp:=rtp_keep htp (Below.refl _ _) hszT
          have hgp:=rgp_keep hgp hbT (Nat.le_refl _)
          rw [HNN.out.2] at hvT htl
          subst hvT
          refine hK.out _ _ ?_ (fun hHeld=>?_)
          ·exact hBr
          clear hK K
          try simp only [Act.put,List.setIfInBounds_toArray,List.set_cons_zero,List.set_cons_succ]
          obtain ⟨wl,rfl⟩ : ∃ wl : World,wl = wt:=⟨_,rfl⟩
        all_goals
         have hq0:=HQ.out.below hBn HRB.out
         have hsz0:=hBn.size
         obtain ⟨wu,hwu⟩ : ∃ wu,wl.setCell ⟨wr.heap.size,1,none⟩ (.slice AG ng cG) = wu:=⟨_,rfl⟩
         have hq1 : Blk wu wr.heap.size 45 #[.int .i64 (np : Int),.slice AG ng cG,.slice A2 nt c2]:=by rw [← hwu];exact hq0.set_ 1 _
         obtain ⟨wv,hwv⟩ : ∃ wv,wu.setCell ⟨wr.heap.size,2,none⟩ (.slice AT nt cT) = wv:=⟨_,rfl⟩
         have hq2 : Blk wv wr.heap.size 45 #[.int .i64 (np : Int),.slice AG ng cG,.slice AT nt cT]:=by rw [← hwv];exact hq1.set_ 2 _
         have hBu : Below wr.heap.size wr wu:=by rw [← hwu];exact hBr.setCell (Nat.le_refl _) _
         have hBv : Below wr.heap.size wr wv:=by rw [← hwv];exact hBu.setCell (Nat.le_refl _) _
         have hngt : NewGT wb.heap.size r.gs r.out AG cG AT cT wv:=NewGT.keep (w:=wl) ⟨hgp,by rw [HNN.out.1];exact hgl,htp,by rw [HNN.out.2];exact htl⟩ (by rw [← hwv,← hwu];simp) (fun b hb _=>by
          have hne : b≠wr.heap.size:=fun e=>by have:=HRB.out;omega
          rw [← hwv,heap_setCell_other wu ⟨wr.heap.size,2,none⟩ b _ hne,← hwu,heap_setCell_other wl ⟨wr.heap.size,1,none⟩ b _ hne])
         have k1 : wl.cell? ⟨wr.heap.size,1,none⟩ = some (.slice A' ng c'):=hq0.cell 1
         have k2 : wl.frozen? ⟨wr.heap.size,1,none⟩ = false:=hq0.frozen 1
         have k3 : wu.cell? ⟨wr.heap.size,2,none⟩ = some (.slice A2 nt c2):=hq1.cell 2
         have k4 : wu.frozen? ⟨wr.heap.size,2,none⟩ = false:=hq1.frozen 2
         clear hgp htp hq0 hq1
         refine wpAnyH_ready (rs:=[8]) (by kernel_rfl) (by simp) ?_
         refine AllReadyH.cons (o:=⟨none,.store 42 (.tmp 115) (.tmp 110),0,"trim.go:120",#[⟨7,.data⟩,⟨2,.data⟩,⟨6,.chain⟩,⟨0,.phase⟩,⟨1,.phase⟩,⟨2,.phase⟩,⟨3,.phase⟩,⟨4,.phase⟩,⟨5,.textOnly .lateStoresUnsure⟩,⟨6,.textOnly .lateStoresUnsure⟩],none⟩) rfl (fun K hK=>?_) AllReadyH.nil
         go_simp
         try rw [hwu]
         have hBr:=hBu
         refine hK.out _ _ ?_ (fun hHeld=>?_)
         ·exact hBr
         clear hK K
         try simp only [Act.put,List.setIfInBounds_toArray,List.set_cons_zero,List.set_cons_succ]
         refine wpAnyH_take (i:=9) (oi:=⟨some 116,.fieldAddr 45 (.tmp 13) 2,0,"trim.go:120",#[⟨0,.phase⟩,⟨1,.phase⟩,⟨2,.phase⟩,⟨3,.phase⟩,⟨4,.phase⟩,⟨5,.phase⟩,⟨6,.phase⟩,⟨7,.phase⟩,⟨8,.phase⟩],none⟩) (v:=?_) rfl (by kernel_rfl) (by kernel_rfl) (by kernel_rfl) (fun _ _ _ h=>h) (Or.inl ⟨by rfl,?_⟩) (by assumption) ?_
         rotate_left
         ·intro w' hSw
          (try dsimp only at hSw)
          go_simp
          all_goals with_reducible rfl
         try simp only [Act.put,List.setIfInBounds_toArray,List.set_cons_zero,List.set_cons_succ]
         refine wpAnyH_ready (rs:=[10]) (by kernel_rfl) (by simp) ?_
         refine AllReadyH.cons (o:=⟨none,.store 43 (.tmp 116) (.tmp 114),0,"trim.go:120",#[⟨9,.data⟩,⟨6,.data⟩,⟨8,.chain⟩,⟨0,.phase⟩,⟨1,.phase⟩,⟨2,.phase⟩,⟨3,.phase⟩,⟨4,.phase⟩,⟨5,.phase⟩,⟨6,.phase⟩,⟨7,.phase⟩,⟨8,.phase⟩],none⟩) rfl (fun K hK=>?_) AllReadyH.nil
         go_simp
         try rw [hwv]
         have hBr:=hBv
         refine hK.out _ _ ?_ (fun hHeld=>?_)
         ·exact hBr
         clear hK K
         try simp only [Act.put,List.setIfInBounds_toArray,List.set_cons_zero,List.set_cons_succ]
         refine wpAnyH_done (by kernel_rfl) ?_ _
         go_wp2_with (fail)
         go_meet
         exact ⟨AG,cG,AT,cT,hq2,hngt,htn,hBv⟩
       case rest=>
        obtain ⟨wx,rfl⟩ : ∃ wx : World,wx = wc:=⟨_,rfl⟩
        obtain ⟨AG,cG,AT,cT,hqx,hgx,htn,hbx⟩:=hcut
        have hlx:=HLAY.out.keep hbx
        have HGTX:=hid hgx
        have HTN:=hid htn
        have HBRX:=hid hbx
        have hxl : x < wr.heap.size:=HLAY.out.box.lt
        have hszx:=hbx.size
        obtain ⟨ws,hws,hqs,hls,hbS⟩:=new_cells wx #[.int .i64 (np : Int),.slice AG ng cG,.slice AT nt cT] 45
        have hlS:=hlx.keep hbS
        obtain ⟨vs,hvs,_⟩:=hlS.finals
        have hnL : (trF l (fs.take k)).length = nL:=HNL.out
        rw [hnL] at hvs
        have HVS:=hid hvs
        have HNEWS:=hid (fun (j : Nat) (u : Value) (e : ([.int .i64 (np : Int),.slice AG ng cG,.slice AT nt cT] : List Value)[j]? = some u)=>World.news_of_block (w:=ws) hqs j u e)
        have HONE:=hid (show ∀ u∈([.int .i64 (np : Int),.slice AG ng cG,.slice AT nt cT] : List Value),u.oneCell' = true from fun u hu=>by
         simp only [List.mem_cons,List.not_mem_nil,or_false] at hu
         rcases hu with rfl | rfl | rfl <;> rfl)
        have HLS:=hid hlS
        have HBXS:=hid (hbx.trans (hbS.mono hszx))
        have HXS:=hid (show x + 1≤ws.heap.size by omega)
        obtain ⟨i9,hi9,hy0,hy1,hy2⟩:=info_parts infoFinal
        have xv:=hlx.box.at5
        have l0:=hqx.cell 0
        have l1:=hqx.cell 1
        have l2:=hqx.cell 2
        simp only [List.getElem?_toArray,List.getElem?_cons_zero,List.getElem?_cons_succ] at l0 l1 l2
        clear hqx hgx htn hbx hlx hqs hls hlS hvs hbS
        go_wp2_with (at_builtin;go_must (refine wpList_append_own_at _ rfl _ _ 24 rfl (x + 1) 45 i9 _ 3 56 Tryz.underlying24 hi9 hy0 hy1 hy2 rfl (by decide) vf nL vs rfl HVS.out ⟨wx.heap.size,0,none⟩ 1 1 [.int .i64 (np : Int),.slice AG ng cG,.slice AT nt cT] rfl rfl HNEWS.out HONE.out ?c3 ?c4 HXS.out ?_))
        case c3=>simp only [maxLen];omega
        case c4=>omega
        intro v9 w9 hown9 hg9 _ hat9
        have hx9 : some x≠vf.ownBlock:=fun e=>by have:=(World.ownsRow.lt HVS.out x e.symm).1;omega
        have hdb:=HLS.out.box.keep (hg9.block x (by have:=HXS.out;omega) hx9)
        obtain ⟨g9,c9,hv9,_,_⟩:=World.ownsRow.form hown9 (by omega)
        subst hv9
        have k1:=hdb.at5
        have k2:=hdb.frozen 5
        obtain ⟨wn,hwn⟩ : ∃ wn,w9.setCell ⟨x,5,none⟩ (.slice (some ⟨g9,0,none⟩) (nL + 1) c9) = wn:=⟨_,rfl⟩
        have hnext:=final_kept HK.out HRK.out HMP.out HLAY.out HBL.out HNR.out HNIL.out HBXS.out (Nat.le_of_lt HRB.out) (NewGT.keep HGTX.out (by rw [← hws];simp) (fun b _ hlt=>by rw [← hws];exact Below.heap_alloc wx _ _ hlt)) HTN.out (by rw [hnL];exact HVS.out) hg9 (by rw [HNN.out.1,HNN.out.2,hnL,HNP.out];exact hown9) hat9
        rw [hwn] at hnext
        have HNEXT:=hid hnext
        clear hnext hdb hown9 hg9 hat9
        go_wp2_with (fail)
        go_roundw
        case rel=>exact HNEXT.out
        case measure=>simp [intOf];omega
      ·obtain rfl : k = fs.length:=by omega
       rw [List.take_length] at hlay hnil
       have hbw:=HBW.out.trans (hbl.mono HXW.out.1)
       have HZR:=hid (HRES.out wr hbl)
       have hbR : ∀ r∈trR l rs,r.gs.length≤maxLen∧(∀ g∈r.gs,g.length≤maxLen)∧r.out.length≤maxLen∧IntR r.eat:=fun r hr=>by
        obtain ⟨q,hq,e1,e2,e3⟩:=trR_mem hr
        obtain ⟨_,_,_,_,q5,q6,q7,_,q9,q10⟩:=HRS.out q hq
        rw [e1,e2,e3]
        unfold maxLen IntR
        exact ⟨by omega,fun g hg=>by have:=q6 g hg;omega,by omega,by omega,by omega⟩
       have hbF : ∀ r∈trF l fs,r.gs.length≤maxLen∧(∀ g∈r.gs,g.length≤maxLen)∧r.out.length≤maxLen:=fun r hr=>by
        obtain ⟨q,hq,e1,e2⟩:=trF_mem hr
        obtain ⟨_,_,q5,q6,q7,_⟩:=HFS.out q hq
        rw [e1,e2]
        unfold maxLen
        exact ⟨by omega,fun g hg=>by have:=q6 g hg;omega,by omega⟩
       obtain ⟨AR,cR,hvR,hrR,hcR,hmR⟩:=RowRu.reads hlay.rules hbR
       obtain ⟨AF,cF,hvF,hrF,hcF,hmF⟩:=RowFi.reads hlay.finals hbF
       subst hvR hvF
       obtain ⟨x0,x1,x2,x3,x4,x5⟩:=hlay.box.cells
       have HBW2:=hid hbw
       have HLZ:=hid hlay
       have HBRR:=hid hbR
       have HBFF:=hid hbF
       have HNR2:=hid hnr
       have HNF2:=hid hnil
       have HXL:=hid (show w.heap.size + 1 < x + 1 by have:=HXW.out.1;omega)
       have HML:=hid (And.intro hmR hmF)
       clear hlay hbl hrR hrF hbw hbR hbF hnr hnil
       unfold maxLen at hmR hmF
       have z0:=HZR.out.cell 0
       have y0:=HZR.out.frozen 0
       have z1:=HZR.out.cell 1
       have y1:=HZR.out.frozen 1
       have z2:=HZR.out.cell 2
       have y2:=HZR.out.frozen 2
       have z3:=HZR.out.cell 3
       have y3:=HZR.out.frozen 3
       have z4:=HZR.out.cell 4
       have y4:=HZR.out.frozen 4
       have z5:=HZR.out.cell 5
       have y5:=HZR.out.frozen 5
       simp only [List.getElem?_toArray,List.getElem?_cons_zero,List.getElem?_cons_succ] at z0 z1 z2 z3 z4 z5
       go_wp2_with (fail)
       obtain ⟨wE,hwE⟩ : ∃ wE,((((((wr.setCell ⟨w.heap.size + 1,0,none⟩ (.int .i64 i)).setCell ⟨w.heap.size + 1,1,none⟩ (.int .i64 o)).setCell ⟨w.heap.size + 1,2,none⟩ (.int .i64 (l.length : Int))).setCell ⟨w.heap.size + 1,3,none⟩ (.int .i64 (ns : Int))).setCell ⟨w.heap.size + 1,4,none⟩ (.slice AR (trR l rs).length cR)).setCell ⟨w.heap.size + 1,5,none⟩ (.slice AF (trF l fs).length cF)) = wE:=⟨_,rfl⟩
       have hqE : Blk wE (w.heap.size + 1) 26 #[.int .i64 i,.int .i64 o,.int .i64 (l.length : Int),.int .i64 (ns : Int),.slice AR (trR l rs).length cR,.slice AF (trF l fs).length cF]:=by
        rw [← hwE]
        exact (((((HZR.out.set_ 0 _).set_ 1 _).set_ 2 _).set_ 3 _).set_ 4 _).set_ 5 _
       have hbE : Below w.heap.size w wE:=by
        rw [← hwE]
        exact (((((HBW2.out.setCell (by simp) _).setCell (by simp) _).setCell (by simp) _).setCell (by simp) _).setCell (by simp) _).setCell (by simp) _
       have hother : ∀ g,g≠w.heap.size + 1→wE.heap[g]? = wr.heap[g]?:=fun g hg=>by
        rw [← hwE]
        rw [heap_setCell_other _ ⟨w.heap.size + 1,5,none⟩ g _ hg,heap_setCell_other _ ⟨w.heap.size + 1,4,none⟩ g _ hg,heap_setCell_other _ ⟨w.heap.size + 1,3,none⟩ g _ hg,heap_setCell_other _ ⟨w.heap.size + 1,2,none⟩ g _ hg,heap_setCell_other _ ⟨w.heap.size + 1,1,none⟩ g _ hg,heap_setCell_other _ ⟨w.heap.size + 1,0,none⟩ g _ hg]
       have k0:=hqE.cell 0
       have k1:=hqE.cell 1
       have k2:=hqE.cell 2
       have k3:=hqE.cell 3
       have k4:=hqE.cell 4
       have k5:=hqE.cell 5
       simp only [List.getElem?_toArray,List.getElem?_cons_zero,List.getElem?_cons_succ] at k0 k1 k2 k3 k4 k5
       try rw [hwE]
       have hoR : ∀ g,(Value.slice AR (trR l rs).length cR).ownBlock = some g→wE.heap[g]? = wr.heap[g]?:=fun g e=>hother g (by
        obtain ⟨vs0,h0,_⟩:=HLZ.out.rules
        have:=(World.ownsRow.lt h0 g e).1
        have:=HXL.out
        omega)
       have hoF : ∀ g,(Value.slice AF (trF l fs).length cF).ownBlock = some g→wE.heap[g]? = wr.heap[g]?:=fun g e=>hother g (by
        obtain ⟨vs0,h0,_⟩:=HLZ.out.finals
        have:=(World.ownsRow.lt h0 g e).1
        have:=HXL.out
        omega)
       have hrr : RowRu _ wE (x + 1) _ (trR l rs):=HLZ.out.rules.keep (by rw [← hwE];simp) hoR (fun g hg _ _=>hother g (by have:=hg.1;have:=HXL.out;omega)) (fun _ hp _=>hp)
       have hff : RowFi _ wE (x + 1) _ (trF l fs):=HLZ.out.finals.keep (by rw [← hwE];simp) hoF (fun g hg _ _=>hother g (by have:=hg.1;have:=HXL.out;omega)) (fun _ hp _=>hp)
       have hdm : ∀ W,wE.heap.size≤W.heap.size→(∀ g,w.heap.size≤g→g < wE.heap.size→W.heap[g]? = wE.heap[g]?)→DM W ⟨i,o,(l.length : Int),(ns : Int),AR,cR,AF,cF,trR l rs,trF l fs⟩:=fun W hWs hW=>by
        have hxw:=HXW.out.1
        have howR : ∀ g,(Value.slice AR (trR l rs).length cR).ownBlock = some g→W.heap[g]? = wE.heap[g]?:=fun g e=>by
         obtain ⟨vs0,h0,_⟩:=hrr
         have h1:=World.ownsRow.lt h0 g e
         exact hW g (by omega) h1.2
        have howF : ∀ g,(Value.slice AF (trF l fs).length cF).ownBlock = some g→W.heap[g]? = wE.heap[g]?:=fun g e=>by
         obtain ⟨vs0,h0,_⟩:=hff
         have h1:=World.ownsRow.lt h0 g e
         exact hW g (by omega) h1.2
        have hr2 : RowRu _ W (x + 1) _ (trR l rs):=hrr.keep hWs howR (fun g hg _ hlt=>hW g (by have:=hg.1;omega) hlt) (fun _ hp _=>hp)
        have hf2 : RowFi _ W (x + 1) _ (trF l fs):=hff.keep hWs howF (fun g hg _ hlt=>hW g (by have:=hg.1;omega) hlt) (fun _ hp _=>hp)
        obtain ⟨AR',cR',hvR',hrR',_,_⟩:=RowRu.reads hr2 HBRR.out
        obtain ⟨AF',cF',hvF',hrF',_,_⟩:=RowFi.reads hf2 HBFF.out
        injection hvR' with e1 _ e2
        injection hvF' with e3 _ e4
        subst e1 e3
        exact ⟨hrR',HML.out.1,hrF',HML.out.2,((HNR2.out.keep hoR).keep howR).nilT (by omega),((HNF2.out.keep hoF).keep howF).nilT (by omega)⟩
       have hnsl : ns = numL l sn:=by rw [← HNS.out];exact numF_all ((HMM.out sn hsn).2 HFN.out)
       rw [HLL.out]
       exact bodyPost_ret (v:=dsc i o (l.length : Int) (ns : Int) AR (trR l rs).length cR AF (trF l fs).length cF) (by simp [results,Tryz.results34,go_sem,k0,k1,k2,k3,k4,k5]) rfl ⟨hbE,AR,cR,AF,cF,by rw [hnsl],by rw [← hnsl];exact hdm⟩
end Go.Proofs.YtoofgpoeheponaaGreatDoor.Tr
