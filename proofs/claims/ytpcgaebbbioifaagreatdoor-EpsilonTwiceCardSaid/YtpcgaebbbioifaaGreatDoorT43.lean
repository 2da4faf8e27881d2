import Derived.Test.YtpcgaebbbioifaaGreatDoorT0
import Derived.Test.YtpcgaebbbioifaaGreatDoorT42
set_option maxRecDepth 100000
namespace Go.Proofs.YtpcgaebbbioifaaGreatDoor.Ep
set_option maxHeartbeats 64000000
open Go Go.RowKit Sp Pa Te Mi De Tr Lt
open Go.Lib (hid)
def cT (x : Int) : TmL:=⟨0,0,21,0,x,[]⟩
def exR8 : List RuL:=[⟨0,1,[],0,[cT 120]⟩,⟨1,1,[[(97,97)]],1,[cT 121]⟩]
def exF8 : List FiL:=[⟨1,[],[]⟩]
theorem num_c {x : Int} (hx : 0≤x∧x≤255) : numB 0 0 21 0 x [] = true:=by
 unfold numB
 have hr : riseB [] = true:=riseB_true (k:=0) (fun i h1 h2=>by omega) (Nat.le_refl _)
 rw [hr]
 have h1 : Sm x:=by unfold Sm;omega
 rw [decide_eq_true h1]
 decide
theorem fits_c {x : Int} (hx : 0≤x∧x≤255) {gs : List (List Span)} (hg : gs.length≤4) (hs : ∀ xs,Fi.WinS gs xs→∀ y∈xs,Sy y) : fitF 1 1 gs (cT x) = true:=by
 rw [fitF_iff]
 refine ⟨hg,?_,fun xs hw _=>?_⟩
 ·unfold rightT
  simp only [cT]
  rw [num_c hx]
  unfold partsB
  simp only [List.all_nil]
  decide
 ·have hsx : Sy x:=by unfold Sy;omega
  have hv : valueT 0 0 21 0 x [] xs = (x,true):=by
   rw [Fi.value_is (num_c hx) rfl]
   have hi : Fi.innT xs x [] = x:=by unfold Fi.innT;simp
   rw [hi,if_pos ⟨hs xs hw,hsx⟩,val_all hsx,Int.zero_add]
  unfold Fi.HasVal
  simp only [cT]
  rw [hv]
  refine ⟨rfl,by unfold Rng;simp only;omega,(0,255),by simp [Fi.domL],?_,?_⟩ <;> simp only <;> omega
theorem guard8 : guardsB 1 [[(97,97)]] = true:=by
 unfold guardsB guardB
 have h2 : plainB [(97,97)] = true:=plainB_true ⟨List.pairwise_singleton _ _,fun p hp=>by obtain rfl:=List.mem_singleton.1 hp;unfold Ok;simp only;omega⟩
 have h3 : subB 1 [(97,97)] = true:=by
  unfold subB
  refine @decide_eq_true _ (Classical.propDecidable _) fun y h=>?_
  obtain ⟨hy,p,hp,k1,k2⟩:=h.1
  obtain rfl:=List.mem_singleton.1 hp
  simp only at k1 k2
  exact h.2 ⟨hy,(0,255),by simp [De.domL],by simp only;omega,by simp only;omega⟩
 simp only [List.all_cons,List.all_nil,h2,h3]
 simp
theorem ex8_edges : epsE exR8 = [(0,1)]:=by decide
theorem ex8_cyc : cycE (epsE exR8) 2 = false:=cyc_no fun q hq=>by
 rw [ex8_edges] at hq
 obtain ⟨e,he,_,hw⟩:=hq
 obtain rfl:=List.mem_singleton.1 he
 obtain ⟨e2,he2,h2,_⟩:=hw
 obtain rfl:=List.mem_singleton.1 he2
 simp at h2
theorem ex8_where : whereD 1 1 ((2 : Nat) : Int) 0 exR8 exF8 = (0,0):=
 where_zero (by unfold headB;rw [sort_one (.inl rfl)];decide) (fun r hr=>by
  rcases (show r = ⟨0,1,[],0,[cT 120]⟩∨r = ⟨1,1,[[(97,97)]],1,[cT 121]⟩ by simpa [exR8] using hr) with rfl | rfl
  ·unfold ruleB eatB termsB
   dsimp only
   rw [guards_nil,show stB ((2 : Nat) : Int) 0 = true from rfl,show stB ((2 : Nat) : Int) 1 = true from rfl,List.all_cons,fits_c (gs:=[]) ⟨by omega,by omega⟩ (by simp) (fun xs hw y hy=>by
    have h0:=List.eq_nil_of_length_eq_zero hw.1
    rw [h0] at hy
    cases hy)]
   decide
  ·unfold ruleB eatB termsB
   dsimp only
   rw [guard8,show stB ((2 : Nat) : Int) 1 = true from rfl,List.all_cons,fits_c (gs:=[[(97,97)]]) ⟨by omega,by omega⟩ (by simp) (fun xs hw y hy=>by
    obtain ⟨hl,hm⟩:=hw
    obtain ⟨x,rfl⟩:=List.length_eq_one_iff.1 hl
    have hx:=hm 0 (by simp) (by simp)
    simp only [List.getElem_cons_zero] at hx
    obtain rfl:=List.mem_singleton.1 hy
    obtain ⟨_,p,hp,h1,h2⟩:=hx
    obtain rfl:=List.mem_singleton.1 hp
    simp only at h1 h2
    unfold Sy
    omega)]
   decide) (fun f hf=>by
  obtain rfl:=List.mem_singleton.1 hf
  exact empty_final ⟨by omega,by omega⟩) ex8_cyc
theorem ex8_succ : succD exR8 0 = [1]∧succD exR8 1 = []:=by decide
theorem ex8_ways : waysN exR8 2 = 3:=by
 have hr : ∀ x,∀ t∈succD exR8 x,rkE (epsE exR8) 2 t < rkE (epsE exR8) 2 x:=fun x t ht=>rkE_down ex8_cyc (succ_edge ht)
 have h1 : Lt.cnt (succD exR8) (rkE (epsE exR8) 2) 1 = 1:=by rw [cnt_eq hr,ex8_succ.2];rfl
 have h0 : Lt.cnt (succD exR8) (rkE (epsE exR8) 2) 0 = 2:=by rw [cnt_eq hr,ex8_succ.1];simp [h1]
 unfold waysN sumC
 rw [show List.range 2 = [0,1] from rfl]
 simp [h0,h1]
theorem ex8_free : freeR exR8 2 = [⟨0,1,[[(97,97)]],1,[cT 120,cT 121]⟩,⟨1,1,[[(97,97)]],1,[cT 121]⟩]∧freeF exR8 exF8 2 = [⟨0,[],[cT 120]⟩,⟨1,[],[]⟩]:=⟨rfl,rfl⟩
theorem ex8_ok : FreeOk exR8 exF8 2:=by
 unfold FreeOk
 rw [ex8_free.1,ex8_free.2]
 refine ⟨by decide,by decide,fun r hr=>?_,fun r hr=>?_⟩
 all_goals
  simp only [List.mem_cons,List.not_mem_nil,or_false] at hr
  rcases hr with rfl | rfl <;> decide
theorem lit_c {W : World} {b : Nat} {x : Int} (h : Blk W b 51 #[.int .i64 0,.int .i64 0,.int .i64 21,.int .i64 0,.int .i64 x,.slice none 0 0]) : RTm W (some ⟨b,0,none⟩) 1 [cT x]:=
 ⟨rfl,fun _=>⟨b,0,rfl,h.lt,fun j hj=>by
  obtain rfl : j = 0:=by simp at hj;omega
  exact ⟨h.cell 0,h.cell 1,h.cell 2,h.cell 3,h.cell 4,none,0,h.cell 5,⟨rfl,fun h=>absurd h (Nat.not_lt_zero _)⟩,Nat.le_refl _,Nat.zero_le _⟩⟩⟩
theorem lit_g {W : World} {b g : Nat} {x : Int} (h : Blk W b 47 #[.int .i64 x,.int .i64 x]) (hg : Blk W g 48 #[.slice (some ⟨b,0,none⟩) 1 1]) : RGs W (some ⟨g,0,none⟩) 1 [[(x,x)]]:=
 ⟨rfl,fun _=>⟨g,0,rfl,hg.lt,fun j hj=>by
  obtain rfl : j = 0:=by simp at hj;omega
  exact ⟨some ⟨b,0,none⟩,1,hg.cell 0,⟨rfl,fun _=>⟨b,0,rfl,h.lt,fun j hj=>by
   obtain rfl : j = 0:=by simp at hj;omega
   exact ⟨h.cell 0,h.cell 1⟩⟩⟩,Nat.le_refl _,fun e=>by cases e⟩⟩⟩
theorem lit_exR8 {W : World} {b1 g1 c1 c2 r : Nat} (h1 : Blk W b1 47 #[.int .i64 97,.int .i64 97]) (k1 : Blk W g1 48 #[.slice (some ⟨b1,0,none⟩) 1 1]) (h2 : Blk W c1 51 #[.int .i64 0,.int .i64 0,.int .i64 21,.int .i64 0,.int .i64 120,.slice none 0 0]) (k2 : Blk W c2 51 #[.int .i64 0,.int .i64 0,.int .i64 21,.int .i64 0,.int .i64 121,.slice none 0 0])
  (hr : Blk W r 43 #[.int .i64 0,.int .i64 1,.slice none 0 0,.int .i64 0,.slice (some ⟨c1,0,none⟩) 1 1,.int .i64 1,.int .i64 1,.slice (some ⟨g1,0,none⟩) 1 1,.int .i64 1,.slice (some ⟨c2,0,none⟩) 1 1]) : RRu W (some ⟨r,0,none⟩) 2 exR8:=
 ⟨rfl,fun _=>⟨r,0,rfl,hr.lt,fun j hj=>by
  have hm : (1 : Nat)≤maxLen:=by simp only [maxLen];decide
  rcases (show j = 0∨j = 1 by simp [exR8] at hj;omega) with rfl | rfl
  ·exact ⟨hr.cell 0,hr.cell 1,hr.cell 3,⟨none,0,hr.cell 2,RGs.nil_ _ _,Nat.le_refl _,Nat.zero_le _,fun g hg=>by cases hg⟩,some ⟨c1,0,none⟩,1,hr.cell 4,lit_c h2,Nat.le_refl _,hm,by show IntR 0;unfold IntR;omega⟩
  ·exact ⟨hr.cell 5,hr.cell 6,hr.cell 8,⟨some ⟨g1,0,none⟩,1,hr.cell 7,lit_g h1 k1,Nat.le_refl _,hm,fun g hg=>by
    obtain rfl : g = [(97,97)]:=by simpa [exR8] using hg
    exact hm⟩,some ⟨c2,0,none⟩,1,hr.cell 9,lit_c k2,Nat.le_refl _,hm,by show IntR 1;unfold IntR;omega⟩⟩⟩
theorem lit_exF8 {W : World} {bf : Nat} (hf : Blk W bf 45 #[.int .i64 1,.slice none 0 0,.slice none 0 0]) : RFi W (some ⟨bf,0,none⟩) 1 exF8:=
 ⟨rfl,fun _=>⟨bf,0,rfl,hf.lt,fun j hj=>by
  obtain rfl : j = 0:=by simp [exF8] at hj;omega
  exact ⟨hf.cell 0,⟨none,0,hf.cell 1,RGs.nil_ _ _,Nat.le_refl _,Nat.zero_le _,fun g hg=>by cases hg⟩,none,0,hf.cell 2,RTm.nil_ _ _,Nat.le_refl _,Nat.zero_le _⟩⟩⟩
theorem nil_blk {W : World} {g m k n : Nat} {t : TypeId} {cs : Array Value} (h : Blk W g t cs) (hc : ∀ j,j < n→∀ l c,cs[j * m + k]? = some (.slice none l c)→c = 0) : NilT W (some ⟨g,0,none⟩) n m k:=fun b off e j hj l c hjc=>by
 injection e with e
 injection e with e1 e2
 subst e1 e2
 refine hc j hj l c ?_
 rw [← hjc,Nat.zero_add]
 exact (h.cell (j * m + k)).symm
theorem awake_any (w : World) (hT : Fi.TabB w) : Calls Tryz.prog 7 #[] w (RetB true w):=by
 obtain ⟨u1,hu1,qu1,lu1,bu1⟩:=new_cells w #[.int .i64 97,.int .i64 97] 47
 have su1 : u1.heap.size = w.heap.size + 1:=by rw [← hu1,World.size_alloc]
 obtain ⟨u2,hu2,qu2,lu2,bu2⟩:=new_cells u1 #[.slice (some ⟨w.heap.size,0,none⟩) 1 1] 48
 have su2 : u2.heap.size = w.heap.size + 1 + 1:=by rw [← hu2,World.size_alloc,su1]
 rw [su1] at qu2
 obtain ⟨u3,hu3,qu3,lu3,bu3⟩:=new_cells u2 #[.int .i64 1,.slice none 0 0,.slice none 0 0] 45
 have su3 : u3.heap.size = w.heap.size + 1 + 1 + 1:=by rw [← hu3,World.size_alloc,su2]
 rw [su2] at qu3
 obtain ⟨u4,hu4,qu4,lu4,bu4⟩:=new_cells u3 #[.int .i64 0,.int .i64 0,.int .i64 21,.int .i64 0,.int .i64 120,.slice none 0 0] 51
 have su4 : u4.heap.size = w.heap.size + 1 + 1 + 1 + 1:=by rw [← hu4,World.size_alloc,su3]
 rw [su3] at qu4
 obtain ⟨u5,hu5,qu5,lu5,bu5⟩:=new_cells u4 #[.int .i64 0,.int .i64 0,.int .i64 21,.int .i64 0,.int .i64 121,.slice none 0 0] 51
 have su5 : u5.heap.size = w.heap.size + 1 + 1 + 1 + 1 + 1:=by rw [← hu5,World.size_alloc,su4]
 rw [su4] at qu5
 obtain ⟨u6,hu6,qu6,lu6,bu6⟩:=new_cells u5 #[.int .i64 0,.int .i64 1,.slice none 0 0,.int .i64 0,.slice (some ⟨w.heap.size + 1 + 1 + 1,0,none⟩) 1 1,.int .i64 1,.int .i64 1,.slice (some ⟨w.heap.size + 1,0,none⟩) 1 1,.int .i64 1,.slice (some ⟨w.heap.size + 1 + 1 + 1 + 1,0,none⟩) 1 1] 43
 have su6 : u6.heap.size = w.heap.size + 1 + 1 + 1 + 1 + 1 + 1:=by rw [← hu6,World.size_alloc,su5]
 rw [su5] at qu6
 obtain ⟨u7,hu7,qu7,lu7,bu7⟩:=new_cells u6 #[.int .i64 1,.int .i64 1,.int .i64 2,.int .i64 0,.slice (some ⟨w.heap.size + 1 + 1 + 1 + 1 + 1,0,none⟩) 2 2,.slice (some ⟨w.heap.size + 1 + 1,0,none⟩) 1 1] 26
 have su7 : u7.heap.size = w.heap.size + 1 + 1 + 1 + 1 + 1 + 1 + 1:=by rw [← hu7,World.size_alloc,su6]
 rw [su6] at qu7
 have qu1:=qu1.below bu2 (by omega)
 have qu1:=qu1.below bu3 (by omega)
 have qu1:=qu1.below bu4 (by omega)
 have qu1:=qu1.below bu5 (by omega)
 have qu1:=qu1.below bu6 (by omega)
 have qu1:=qu1.below bu7 (by omega)
 have qu2:=qu2.below bu3 (by omega)
 have qu2:=qu2.below bu4 (by omega)
 have qu2:=qu2.below bu5 (by omega)
 have qu2:=qu2.below bu6 (by omega)
 have qu2:=qu2.below bu7 (by omega)
 have qu3:=qu3.below bu4 (by omega)
 have qu3:=qu3.below bu5 (by omega)
 have qu3:=qu3.below bu6 (by omega)
 have qu3:=qu3.below bu7 (by omega)
 have qu4:=qu4.below bu5 (by omega)
 have qu4:=qu4.below bu6 (by omega)
 have qu4:=qu4.below bu7 (by omega)
 have qu5:=qu5.below bu6 (by omega)
 have qu5:=qu5.below bu7 (by omega)
 have qu6:=qu6.below bu7 (by omega)
 have B1:=bu1
 have B1:=B1.trans (bu2.mono (by omega))
 have B1:=B1.trans (bu3.mono (by omega))
 have B1:=B1.trans (bu4.mono (by omega))
 have B1:=B1.trans (bu5.mono (by omega))
 have B1:=B1.trans (bu6.mono (by omega))
 have B1:=B1.trans (bu7.mono (by omega))
 have HRW:=hid (lit_exR8 qu1 qu2 qu4 qu5 qu6)
 have HFW:=hid (lit_exF8 qu3)
 have HNR:=hid (nil_blk (m:=5) (k:=4) (n:=2) qu6 (fun j hj l c e=>by
  rcases (show j = 0∨j = 1 by omega) with rfl | rfl <;> simp at e))
 have HNF:=hid (nil_blk (m:=3) (k:=2) (n:=1) qu3 (fun j hj l c e=>by
  obtain rfl : j = 0:=by omega
  simp at e;exact e.2.symm))
 have HQD:=hid (fun W (h : Below u7.heap.size u7 W)=>show DB W (w.heap.size + 1 + 1 + 1 + 1 + 1 + 1) 1 1 2 0 (some ⟨w.heap.size + 1 + 1 + 1 + 1 + 1,0,none⟩) 2 2 (some ⟨w.heap.size + 1 + 1,0,none⟩) 1 1 from by
  have h1:=qu7.below h (by omega)
  exact ⟨h1.cell 0,h1.cell 1,h1.cell 2,h1.cell 3,h1.cell 4,h1.cell 5⟩)
 have hsu:=su7
 have HB:=hid (fun W (h : Below u7.heap.size u7 W)=>show Below w.heap.size w W from B1.trans (h.mono (by omega)))
 have HTB:=hid (fun W (h : Below u7.heap.size u7 W)=>show Fi.TabB W from hT.next (B1.trans (h.mono (by omega))))
 have hmx : (2 : Nat)≤maxLen:=by simp only [maxLen];decide
 have hmx1 : (1 : Nat)≤maxLen:=by simp only [maxLen];decide
 have HDM:=hid (fun W (h : Below u7.heap.size u7 W)=>show DM W ⟨1,1,((2 : Nat) : Int),0,some ⟨w.heap.size + 1 + 1 + 1 + 1 + 1,0,none⟩,2,some ⟨w.heap.size + 1 + 1,0,none⟩,1,exR8,exF8⟩ from DM.below (w:=u7) ⟨HRW.out,hmx,HFW.out,hmx1,HNR.out,HNF.out⟩ h)
 have Hu1:=hid hu1
 have Hu2:=hid hu2
 have Hu3:=hid hu3
 have Hu4:=hid hu4
 have Hu5:=hid hu5
 have Hu6:=hid hu6
 have Hu7:=hid hu7
 clear hT hmx hmx1 B1 hu1 qu1 lu1 bu1 hu2 qu2 lu2 bu2 hu3 qu3 lu3 bu3 hu4 qu4 lu4 bu4 hu5 qu5 lu5 bu5 hu6 qu6 lu6 bu6 hu7 qu7 lu7 bu7
 clear su1 su2 su3 su4 su5 su6 su7
 have HFR:=hid (fun W (h : Below u7.heap.size u7 W)=>show Calls Tryz.prog 11 #[dsc 1 1 2 0 (some ⟨w.heap.size + 1 + 1 + 1 + 1 + 1,0,none⟩) 2 2 (some ⟨w.heap.size + 1 + 1,0,none⟩) 1 1] W (FreeOut 1 1 2 0 exR8 exF8 W) from
  free_ok 1 1 2 0 (some ⟨w.heap.size + 1 + 1 + 1 + 1 + 1,0,none⟩) 2 (some ⟨w.heap.size + 1 + 1,0,none⟩) 1 exR8 exF8 W (HDM.out W h) (HTB.out W h) (by rw [ex8_where]) (by rw [ex8_ways];omega))
 have HWY:=hid (fun W (h : Below u7.heap.size u7 W)=>show Calls Tryz.prog 8 #[dsc 1 1 2 0 (some ⟨w.heap.size + 1 + 1 + 1 + 1 + 1,0,none⟩) 2 2 (some ⟨w.heap.size + 1 + 1,0,none⟩) 1 1] W (WaysD (3,0) W) from by
  have h1:=ways_any 1 1 ((2 : Nat) : Int) 0 (some ⟨w.heap.size + 1 + 1 + 1 + 1 + 1,0,none⟩) 2 (some ⟨w.heap.size + 1 + 1,0,none⟩) 1 exR8 exF8 W (HDM.out W h) (HTB.out W h)
  have h2 : waysV 1 1 ((2 : Nat) : Int) 0 exR8 exF8 = (3,0):=by
   unfold waysV
   rw [if_pos (by rw [ex8_where]),Int.toNat_natCast,ex8_ways,if_pos (by omega)]
   rfl
  rw [h2] at h1
  exact h1)
 go_enter Tryz.func7,Tryz.ntmps7
 go_upto_region 3 with (fail)
 rw [Hu1.out,Hu2.out,Hu3.out,Hu4.out,Hu5.out,Hu6.out,Hu7.out]
 obtain ⟨p0,p1,p2,p3,p4,p5⟩:=HQD.out u7 (Below.refl _ _)
 go_wp2_with (fail)
 refine (HFR.out u7 (Below.refl _ _)).mono ?_
 rintro e w1 ⟨hb1,hto⟩
 rcases hto with ⟨h,_⟩ | ⟨_,A3,c3,B3,d3,rfl,hdm⟩
 ·exact absurd ex8_ok h
 rw [ex8_free.1,ex8_free.2] at hdm ⊢
 have H1:=hid hb1
 have HDM1:=hid hdm
 clear hb1 hdm p0 p1 p2 p3 p4 p5
 obtain ⟨w4,hw4,hq4,hl4,hb4⟩:=new_cells w1 #[.int .i64 1,.int .i64 1,.int .i64 2,.int .i64 0,.slice A3 2 c3,.slice B3 2 d3] 26
 have HQ4:=hid hq4
 have HL4:=hid hl4
 have HW4:=hid hw4
 have HB4:=hid hb4
 have H4:=hid (below_nextD H1.out hb4)
 clear hw4 hq4 hl4 hb4
 go_upto_region 4 with (fail)
 try rw [HW4.out]
 obtain ⟨p0,p1,p2,p3,p4,p5⟩:=HQD.out w4 H4.out
 go_wp2_with (fail)
 refine (HWY.out w4 H4.out).mono ?_
 rintro e w5 ⟨rfl,hb5⟩
 have hrr:=((HDM1.out.below HB4.out).below hb5).rules
 have hq5:=HQ4.out.below hb5 HL4.out
 obtain ⟨b,off,G,gc,T,tc,hA,_,_,_,_,_,d4,_,hrt,_⟩:=hrr.at_ (k:=0) (by simp)
 simp only [List.getElem_cons_zero] at d4 hrt
 obtain ⟨b2,off2,hA2,_,hc2⟩:=hrt.2 (by decide)
 have d5:=(hc2 1 (by decide)).2.2.2.2.1
 simp only [List.getElem_cons_succ,List.getElem_cons_zero,cT] at d5
 subst hA hA2
 have z4:=hq5.cell 4
 have z5:=hq5.cell 5
 simp only [sD,sE,sF] at z4 z5
 have HE:=hid (HB.out w5 (below_nextD H4.out hb5))
 clear hrr hq5 hrt hc2 hb5 p0 p1 p2 p3 p4 p5
 go_wp2_with (fail)
 go_ret
 exact ⟨rfl,HE.out⟩
theorem fits_more {i o : Int} {gs : List (List Span)} {t : TmL} (h : fitF i o [] t = true) (hg : gs.length≤4) : fitF i o gs t = true:=by
 rw [fitF_iff] at h ⊢
 obtain ⟨_,h2,h3⟩:=h
 have hl : t.ps = []:=by
  have h4:=(Fi.parts_all (n:=0) (Fi.right_num h2).2).2
  cases hc : t.ps with
  | nil=>rfl
  | cons p l=>
   have:=h4 p (by rw [hc];simp)
   omega
 rw [hl] at h2 h3 ⊢
 refine ⟨hg,?_,fun xs hw hs=>?_⟩
 ·unfold rightT at h2 ⊢
  unfold partsB at h2 ⊢
  simp only [List.all_nil] at h2 ⊢
  exact h2
 ·have h5:=h3 [] ⟨rfl,fun j hj=>absurd hj (Nat.not_lt_zero _)⟩ (fun x hx=>by cases hx)
  have hnum:=(Fi.right_num h2).1
  have e1:=Fi.value_is (xs:=([] : List Int)) hnum (show partsB ([] : List Int).length [] = true from rfl)
  have e2:=Fi.value_is (xs:=xs) hnum (show partsB xs.length [] = true from rfl)
  have hi : Fi.innT xs t.s [] = t.s:=by unfold Fi.innT;simp
  have hi0 : Fi.innT [] t.s [] = t.s:=by unfold Fi.innT;simp
  rw [hi0] at e1
  rw [hi] at e2
  unfold Fi.HasVal at h5 ⊢
  rw [e1] at h5
  rw [e2]
  by_cases hc : Sy t.s
  ·rw [if_pos ⟨fun x hx=>(by cases hx),hc⟩] at h5
   rw [if_pos ⟨hs,hc⟩]
   exact h5
  ·rw [if_neg fun q=>hc q.2] at h5
   exact absurd h5.1 (by simp)
section
variable {RO : Nat→List RuL} {Q : TmL→Prop}
theorem waysT_mem (hQ : ∀ q,∀ r∈RO q,r.gs.length = 0→∀ t∈r.out,Q t) : ∀ (m q : Nat) (ts : List TmL),(∀ t∈ts,Q t)→∀ z∈waysT RO m q ts,∀ t∈z.2,Q t:=by
 intro m
 induction m with
 | zero=>intro q ts _ z hz;cases hz
 | succ m ih=>
  intro q ts hts z hz
  simp only [waysT] at hz
  rcases List.mem_cons.1 hz with rfl | hz
  ·exact hts
  ·obtain ⟨r,hr,hz⟩:=List.mem_flatMap.1 hz
   obtain ⟨h1,h2⟩:=List.mem_filter.1 hr
   exact ih r.to_.toNat (ts ++ r.out) (fun t ht=>(List.mem_append.1 ht).elim (hts t) (hQ q r h1 (by simpa using h2) t)) z hz
end
section
variable {i o s : Int} {N : Nat} {rs : List RuL} {fs : List FiL}
theorem eps_fits (hw : (whereD i o (N : Int) s rs fs).1 = 0) : ∀ q,∀ r∈roD rs q,r.gs.length = 0→∀ t∈r.out,fitF i o [] t = true:=fun q r hr h0 t ht=>by
 obtain ⟨_,h2,_,_⟩:=where_parts hw
 have h8:=h2 r (roD_mem hr).1
 have e0 : r.gs = []:=List.eq_nil_of_length_eq_zero h0
 unfold ruleB termsB at h8
 simp only [Bool.and_eq_true] at h8
 rw [e0] at h8
 exact List.all_eq_true.1 h8.2.2.2.2.2 t ht
theorem freed_right (hw : (whereD i o (N : Int) s rs fs).1 = 0) (hok : FreeOk rs fs N) : whereD i o (N : Int) s (freeR rs N) (freeF rs fs N) = (0,0):=by
 obtain ⟨h1,h2,h3,_⟩:=where_parts hw
 unfold headB at h1
 simp only [Bool.and_eq_true,decide_eq_true_eq] at h1
 obtain ⟨a1,a2,a3,a4,a5,a6,a7⟩:=h1
 refine where_of ?_ (fun r' hr'=>?_) (fun f' hf'=>?_) ?_
 ·unfold headB
  rw [a1,a2,decide_eq_true a3,decide_eq_true a4,a5,decide_eq_true hok.1,decide_eq_true hok.2.1]
  rfl
 ·have hlen:=hok.2.2.1 r' hr'
  unfold freeR allR at hr'
  obtain ⟨q,hq,hr'⟩:=List.mem_flatMap.1 hr'
  obtain ⟨z,hz,hr'⟩:=List.mem_flatMap.1 hr'
  obtain ⟨r0,h0,rfl⟩:=List.mem_map.1 hr'
  obtain ⟨h5,_⟩:=List.mem_filter.1 h0
  have h6:=roD_mem h5
  have h8:=h2 r0 h6.1
  have hfit:=waysT_mem (eps_fits hw) (N + 2) q [] (fun t ht=>by cases ht) z hz
  have hqN:=List.mem_range.1 hq
  unfold ruleB termsB at h8 ⊢
  simp only [Bool.and_eq_true,decide_eq_true_eq] at h8 ⊢
  have hg4 : r0.gs.length≤4:=(guards_bound h8.2.2.1).1
  refine ⟨stB_t (by simp only [wayR];omega) (by simp only [wayR];omega),h8.2.1,h8.2.2.1,h8.2.2.2.1,hlen,?_⟩
  rw [List.all_eq_true]
  intro t ht
  rcases List.mem_append.1 ht with k | k
  ·exact fits_more (hfit t k) hg4
  ·exact List.all_eq_true.1 h8.2.2.2.2.2 t k
 ·have hlen:=hok.2.2.2 f' hf'
  unfold freeF allF at hf'
  obtain ⟨q,hq,hf'⟩:=List.mem_flatMap.1 hf'
  obtain ⟨z,hz,hf'⟩:=List.mem_flatMap.1 hf'
  obtain ⟨f0,h0,rfl⟩:=List.mem_map.1 hf'
  have h6:=foD_mem h0
  have h8:=h3 f0 h6.1
  have hfit:=waysT_mem (eps_fits hw) (N + 2) q [] (fun t ht=>by cases ht) z hz
  have hqN:=List.mem_range.1 hq
  unfold finB termsB at h8 ⊢
  simp only [Bool.and_eq_true,decide_eq_true_eq] at h8 ⊢
  have hg4 : f0.gs.length≤4:=(guards_bound h8.2.1).1
  refine ⟨stB_t (by simp only [wayF];omega) (by simp only [wayF];omega),h8.2.1,hlen,?_⟩
  rw [List.all_eq_true]
  intro t ht
  rcases List.mem_append.1 ht with k | k
  ·exact fits_more (hfit t k) hg4
  ·exact List.all_eq_true.1 h8.2.2.2 t k
 ·have he : epsE (freeR rs N) = []:=by
   unfold epsE
   rw [List.map_eq_nil_iff,List.filter_eq_nil_iff]
   intro r hr
   obtain ⟨r0,_,h0,q,ts,_,rfl⟩:=freeR_mem hr
   unfold epsR
   simpa [wayR] using h0
  rw [he]
  exact cyc_nil _
end
theorem waysT_one {RO : Nat→List RuL} (h : ∀ q,∀ r∈RO q,r.gs.length≠0) (m q : Nat) (ts : List TmL) : waysT RO (m + 1) q ts = [(q,ts)]:=by
 simp only [waysT]
 have : (RO q).filter (fun r=>r.gs.length == 0) = []:=List.filter_eq_nil_iff.2 fun r hr=>by simpa using h q r hr
 rw [this]
 rfl
theorem freeR_no (rs : List RuL) (N q : Nat) : ∀ r∈roD (freeR rs N) q,r.gs.length≠0:=fun r hr=>by
 obtain ⟨r0,_,h0,q,ts,_,rfl⟩:=freeR_mem (roD_mem hr).1
 exact h0
theorem filter_flat {α : Type} {N q : Nat} {f : Nat→List α} {p : Nat→α→Bool} (h : ∀ j,∀ x∈f j,∀ k,p k x = decide (k = j)) (hq : q < N) : ((List.range N).flatMap f).filter (p q) = f q:=by
 rw [List.filter_flatMap]
 have e : ∀ j∈List.range N,(f j).filter (p q) = if j = q then f q else []:=fun j _=>by
  by_cases hj : j = q
  ·rw [if_pos hj,hj]
   exact List.filter_eq_self.2 fun x hx=>by rw [h q x hx q];simp
  ·rw [if_neg hj]
   exact List.filter_eq_nil_iff.2 fun x hx=>by rw [h j x hx q];simp;omega
 rw [flatMap_congr' e]
 clear e h
 induction N with
 | zero=>omega
 | succ N ih=>
  rw [List.range_succ,List.flatMap_append]
  rcases Nat.lt_or_ge q N with k | k
  ·rw [ih k]
   simp
   omega
  ·obtain rfl : q = N:=by omega
   have : ((List.range q).flatMap fun j=>if j = q then f q else []) = []:=by
    rw [List.flatMap_eq_nil_iff]
    intro j hj
    have:=List.mem_range.1 hj
    rw [if_neg (by omega)]
   rw [this]
   simp
theorem twice_R (rs : List RuL) (N : Nat) : freeR (freeR rs N) N = freeR rs N:=by
 have key : ∀ q,q < N→wayRs (roD (freeR rs N)) (q : Int) (waysT (roD (freeR rs N)) (N + 2) q []) = wayRs (roD rs) (q : Int) (waysT (roD rs) (N + 2) q []):=fun q hq=>by
  rw [waysT_one (freeR_no rs N)]
  have h1 : roD (freeR rs N) q = wayRs (roD rs) (q : Int) (waysT (roD rs) (N + 2) q []):=by
   unfold roD freeR allR
   refine filter_flat (p:=fun k (r : RuL)=>decide (r.frm = (k : Int))) (fun j r hr k=>?_) hq
   obtain ⟨z,_,hr⟩:=List.mem_flatMap.1 hr
   obtain ⟨r0,_,rfl⟩:=List.mem_map.1 hr
   simp only [wayR]
   exact decide_eq_decide.2 (by omega)
  have h2 : wayRs (roD (freeR rs N)) (q : Int) [(q,[])] = roD (freeR rs N) q:=by
   unfold wayRs laidR
   simp only [List.flatMap_cons,List.flatMap_nil,List.append_nil]
   rw [List.filter_eq_self.2 fun r hr=>by simpa using freeR_no rs N q r hr]
   conv=>rhs;rw [← List.map_id (roD (freeR rs N) q)]
   refine List.map_congr_left fun r hr=>?_
   have:=(roD_mem hr).2
   obtain ⟨a,b,c,d,e⟩:=r
   simp only at this
   simp [wayR,this]
  rw [h2,h1]
 show (List.range N).flatMap _ = (List.range N).flatMap _
 exact flatMap_congr' fun q hq=>key q (List.mem_range.1 hq)
theorem twice_F (rs : List RuL) (fs : List FiL) (N : Nat) : freeF (freeR rs N) (freeF rs fs N) N = freeF rs fs N:=by
 have key : ∀ q,q < N→wayFs (foD (freeF rs fs N)) (q : Int) (waysT (roD (freeR rs N)) (N + 2) q []) = wayFs (foD fs) (q : Int) (waysT (roD rs) (N + 2) q []):=fun q hq=>by
  rw [waysT_one (freeR_no rs N)]
  have h1 : foD (freeF rs fs N) q = wayFs (foD fs) (q : Int) (waysT (roD rs) (N + 2) q []):=by
   unfold freeF allF
   unfold foD
   refine filter_flat (p:=fun k (r : FiL)=>decide (r.frm = (k : Int))) (fun j r hr k=>?_) hq
   obtain ⟨z,_,hr⟩:=List.mem_flatMap.1 hr
   obtain ⟨r0,_,rfl⟩:=List.mem_map.1 hr
   simp only [wayF]
   exact decide_eq_decide.2 (by omega)
  have h2 : wayFs (foD (freeF rs fs N)) (q : Int) [(q,[])] = foD (freeF rs fs N) q:=by
   unfold wayFs laidF
   simp only [List.flatMap_cons,List.flatMap_nil,List.append_nil]
   conv=>rhs;rw [← List.map_id (foD (freeF rs fs N) q)]
   refine List.map_congr_left fun r hr=>?_
   have:=(foD_mem hr).2
   obtain ⟨a,b,c⟩:=r
   simp only at this
   simp [wayF,this]
  rw [h2,h1]
 show (List.range N).flatMap _ = (List.range N).flatMap _
 exact flatMap_congr' fun q hq=>key q (List.mem_range.1 hq)
theorem twice_ways (rs : List RuL) (N : Nat) : waysN (freeR rs N) N = N:=by
 have h0 : ∀ q,succD (freeR rs N) q = []:=fun q=>by
  unfold succD
  rw [List.map_eq_nil_iff,List.filter_eq_nil_iff]
  intro r hr
  obtain ⟨r0,_,h0,p,ts,_,rfl⟩:=freeR_mem hr
  simp [wayR]
  intro h
  exact absurd (by simpa using h) h0
 have h1 : ∀ rk q,Lt.cnt (succD (freeR rs N)) rk q = 1:=fun rk q=>by
  unfold Lt.cnt cntF
  rw [h0]
  rfl
 have h2 : ∀ (rk : Nat→Nat) (l : List Nat),(l.map (Lt.cnt (succD (freeR rs N)) rk)).sum = l.length:=fun rk l=>by
  induction l with
  | nil=>rfl
  | cons a l ih=>
   rw [List.map_cons,List.sum_cons,ih,h1,List.length_cons]
   omega
 unfold waysN sumC
 rw [h2,List.length_range]
theorem twice_ok {rs : List RuL} {fs : List FiL} {N : Nat} (h : FreeOk rs fs N) : FreeOk (freeR rs N) (freeF rs fs N) N:=by
 unfold FreeOk
 rw [twice_R,twice_F]
 exact h
end Go.Proofs.YtpcgaebbbioifaaGreatDoor.Ep
namespace Go.Proofs.YtpcgaebbbioifaaGreatDoor.Ep
set_option maxHeartbeats 64000000
open Go Go.RowKit Sp Pa Te Mi De Tr Lt
open Go.Lib (hid)
theorem twice_no (i o n s : Int) (A : Option Addr) (cr : Nat) (B : Option Addr) (cf : Nat) (rs : List RuL) (fs : List FiL) (w : World) (hd : DM w ⟨i,o,n,s,A,cr,B,cf,rs,fs⟩) (hT : Fi.TabB w) (E : Int) (hE : E = 2∨E = 4) (hF : ∀ W,Below w.heap.size w W→Calls Tryz.prog 11 #[dsc i o n s A rs.length cr B fs.length cf] W (ErrOut E W)) : Calls Tryz.prog 5 #[dsc i o n s A rs.length cr B fs.length cf] w (RetB true w):=by
 obtain ⟨w1,hw1⟩ : ∃ w1,w.alloc (.cells #[.int .i64 i,.int .i64 o,.int .i64 n,.int .i64 s,.slice A rs.length cr,.slice B fs.length cf] 26) = w1:=⟨_,rfl⟩
 have hs1 : w1.heap.size = w.heap.size + 1:=by rw [← hw1];simp
 have hb1 : Below w.heap.size w w1:=by rw [← hw1];exact (Below.refl _ _).alloc (Nat.le_refl _) _
 have hq1 : Blk w1 w.heap.size 26 #[.int .i64 i,.int .i64 o,.int .i64 n,.int .i64 s,.slice A rs.length cr,.slice B fs.length cf]:=by rw [← hw1];exact heap_alloc_new w _
 have H1:=hid (show w.heap.size≤w1.heap.size by omega)
 have HBW:=hid (fun W (h : Below w1.heap.size w1 W)=>show Below w.heap.size w W from hb1.trans (h.mono H1.out))
 have HDB:=hid (fun W (h : Below w1.heap.size w1 W)=>show DB W w.heap.size i o n s A rs.length cr B fs.length cf from by
  have h1:=hq1.below h (by omega)
  exact ⟨h1.cell 0,h1.cell 1,h1.cell 2,h1.cell 3,h1.cell 4,h1.cell 5⟩)
 have HTB:=hid (fun W (h : Below w1.heap.size w1 W)=>show Fi.TabB W from hT.next (HBW.out W h))
 have HDM:=hid (fun W (h : Below w1.heap.size w1 W)=>show DM W ⟨i,o,n,s,A,cr,B,cf,rs,fs⟩ from hd.below (HBW.out W h))
 have HA:=hid (fun W (h : Below w1.heap.size w1 W)=>awake_any W (HTB.out W h))
 have HSM:=hid (Rg.rsmall_any i o n s A cr B cf rs fs w1 (HDM.out w1 (Below.refl _ _)).rules (HDM.out w1 (Below.refl _ _)).finals)
 have HFE:=hid (fun W (h : Below w1.heap.size w1 W)=>hF W (HBW.out W h))
 clear hF
 obtain ⟨p0,p1,p2,p3,p4,p5⟩:=HDB.out w1 (Below.refl _ _)
 clear hd hT hb1 hq1
 go_enter Tryz.func5,Tryz.ntmps5
 go_wp2_with (fail)
 refine HSM.out.mono ?_
 rintro e w2 ⟨b,rfl,_,hb2⟩
 have H2:=hid hb2
 clear hb2 p0 p1 p2 p3 p4 p5
 obtain ⟨p0,p1,p2,p3,p4,p5⟩:=HDB.out w2 H2.out
 cases b with
 | false=>
  go_wp2_with (fail)
  refine (HA.out w2 H2.out).mono ?_
  rintro e wq ⟨rfl,hbq⟩
  have HQ:=hid (HBW.out wq (below_nextD H2.out hbq))
  clear hbq
  go_wp2_with (fail)
  go_ret
  exact ⟨rfl,HQ.out⟩
 | true=>
 go_wp2_with (fail)
 refine (HFE.out w2 H2.out).mono ?_
 rintro e w3 ⟨rfl,hb⟩
 have H3:=hid (below_nextD H2.out hb)
 obtain ⟨w4,hw4,hq4,hl4,hb4⟩:=new_cells w3 #[.int .i64 0,.int .i64 0,.int .i64 0,.int .i64 0,.slice none 0 0,.slice none 0 0] 26
 have HQ4:=hid hq4
 have HL4:=hid hl4
 have HW4:=hid hw4
 have HB4:=hid hb4
 have H4:=hid (below_nextD H3.out hb4)
 clear hw4 hq4 hl4 hb4 hb p0 p1 p2 p3 p4 p5
 go_upto_region 4 with (fail)
 try rw [HW4.out]
 rcases hE with rfl | rfl
 all_goals
  go_wp2_with (fail)
  refine (HA.out w4 H4.out).mono ?_
  rintro e wq ⟨rfl,hbq⟩
  have HQ:=hid (HBW.out wq (below_nextD H4.out hbq))
  clear hbq
  go_wp2_with (fail)
  go_ret
  exact ⟨rfl,HQ.out⟩
theorem twice_fine (i o s : Int) (N : Nat) (A : Option Addr) (cr : Nat) (B : Option Addr) (cf : Nat) (rs : List RuL) (fs : List FiL) (w : World) (hd : DM w ⟨i,o,(N : Int),s,A,cr,B,cf,rs,fs⟩) (hT : Fi.TabB w) (hw : (whereD i o (N : Int) s rs fs).1 = 0) (hn : waysN rs N≤4096) (hok : FreeOk rs fs N) : Calls Tryz.prog 5 #[dsc i o (N : Int) s A rs.length cr B fs.length cf] w (RetB true w):=by
 obtain ⟨w1,hw1⟩ : ∃ w1,w.alloc (.cells #[.int .i64 i,.int .i64 o,.int .i64 (N : Int),.int .i64 s,.slice A rs.length cr,.slice B fs.length cf] 26) = w1:=⟨_,rfl⟩
 have hs1 : w1.heap.size = w.heap.size + 1:=by rw [← hw1];simp
 have hb1 : Below w.heap.size w w1:=by rw [← hw1];exact (Below.refl _ _).alloc (Nat.le_refl _) _
 have hq1 : Blk w1 w.heap.size 26 #[.int .i64 i,.int .i64 o,.int .i64 (N : Int),.int .i64 s,.slice A rs.length cr,.slice B fs.length cf]:=by rw [← hw1];exact heap_alloc_new w _
 have H1:=hid (show w.heap.size≤w1.heap.size by omega)
 have HBW:=hid (fun W (h : Below w1.heap.size w1 W)=>show Below w.heap.size w W from hb1.trans (h.mono H1.out))
 have HDB:=hid (fun W (h : Below w1.heap.size w1 W)=>show DB W w.heap.size i o (N : Int) s A rs.length cr B fs.length cf from by
  have h1:=hq1.below h (by omega)
  exact ⟨h1.cell 0,h1.cell 1,h1.cell 2,h1.cell 3,h1.cell 4,h1.cell 5⟩)
 have HTB:=hid (fun W (h : Below w1.heap.size w1 W)=>show Fi.TabB W from hT.next (HBW.out W h))
 have HDM:=hid (fun W (h : Below w1.heap.size w1 W)=>show DM W ⟨i,o,(N : Int),s,A,cr,B,cf,rs,fs⟩ from hd.below (HBW.out W h))
 have HA:=hid (fun W (h : Below w1.heap.size w1 W)=>awake_any W (HTB.out W h))
 have HSM:=hid (Rg.rsmall_any i o (N : Int) s A cr B cf rs fs w1 (HDM.out w1 (Below.refl _ _)).rules (HDM.out w1 (Below.refl _ _)).finals)
 have HFE:=hid (fun W (h : Below w1.heap.size w1 W)=>free_ok i o N s A cr B cf rs fs W (HDM.out W h) (HTB.out W h) hw hn)
 have HOK:=hid hok
 have hR : RightD ⟨i,o,(N : Int),s,A,cr,B,cf,rs,fs⟩:=DV.right.rightD (d:=⟨i,o,(N : Int),s,A,cr,B,cf,rs,fs⟩) hw
 have hN4 : N≤4096:=by have:=hR.n.2;dsimp only at this;omega
 have hwf:=freed_right hw hok
 have HSH:=hid (show (∀ q∈freeR rs N,∀ g∈q.gs,g.length≤1099511627776)∧∀ q∈freeF rs fs N,∀ g∈q.gs,g.length≤1099511627776 from ⟨fun q hq g hg=>by
  obtain ⟨r0,h0,_,p,ts,_,rfl⟩:=freeR_mem hq
  have:=(hR.rs r0 h0).2.2.2.2.2.1 g hg
  omega,fun q hq g hg=>by
  obtain ⟨r0,h0,p,ts,_,rfl⟩:=freeF_mem hq
  have:=(hR.fs r0 h0).2.2.2.1 g hg
  omega⟩)
 obtain ⟨R',hR'⟩ : ∃ R',freeR rs N = R':=⟨_,rfl⟩
 obtain ⟨F',hF'⟩ : ∃ F',freeF rs fs N = F':=⟨_,rfl⟩
 have ht1:=twice_R rs N
 have ht2:=twice_F rs fs N
 have ht3:=twice_ways rs N
 have ht4:=twice_ok hok
 rw [hR'] at ht1 ht3
 rw [hR',hF'] at ht2 ht4 hwf HSH
 obtain ⟨L1,hL1⟩ : ∃ L1,R'.length = L1:=⟨_,rfl⟩
 obtain ⟨L2,hL2⟩ : ∃ L2,F'.length = L2:=⟨_,rfl⟩
 have HLL:=hid (And.intro hL1 hL2)
 have HRF:=hid (And.intro hR' hF')
 have HF2:=hid (fun W (h : Below w1.heap.size w1 W) A3 c3 B3 d3 (hdm : DM W ⟨i,o,(N : Int),s,A3,c3,B3,d3,R',F'⟩)=>show Calls Tryz.prog 11 #[dsc i o (N : Int) s A3 L1 c3 B3 L2 d3] W (fun e w'=>Below W.heap.size W w'∧∃ A' cr' B' cf',e = .returned (.tuple #[dsc i o (N : Int) s A' L1 cr' B' L2 cf',.int .i64 0])∧DM w' ⟨i,o,(N : Int),s,A',cr',B',cf',R',F'⟩) from by
  have h1:=free_ok i o N s A3 c3 B3 d3 R' F' W hdm (HTB.out W h) (by rw [hwf]) (by rw [ht3];exact hN4)
  rw [hL1,hL2] at h1
  refine h1.mono ?_
  rintro e w' ⟨hb,⟨hno,_⟩ | ⟨_,A',cr',B',cf',rfl,hd2⟩⟩
  ·exact absurd ht4 hno
  ·rw [ht1,ht2,hL1,hL2]
   rw [ht1,ht2] at hd2
   exact ⟨hb,A',cr',B',cf',rfl,hd2⟩)
 have HW2:=hid (fun W (h : Below w1.heap.size w1 W) A3 c3 B3 d3 (hdm : DM W ⟨i,o,(N : Int),s,A3,c3,B3,d3,R',F'⟩)=>show Calls Tryz.prog 8 #[dsc i o (N : Int) s A3 L1 c3 B3 L2 d3] W (WaysD ((N : Int),0) W) from by
  have h1:=ways_any i o (N : Int) s A3 c3 B3 d3 R' F' W hdm (HTB.out W h)
  have h2 : waysV i o (N : Int) s R' F' = ((N : Int),0):=by
   unfold waysV
   rw [if_pos (by rw [hwf]),Int.toNat_natCast,ht3,if_pos hN4]
  rw [h2,hL1,hL2] at h1
  exact h1)
 clear hw hn hok hR hwf ht1 ht2 ht3 ht4 hL1 hL2 hR' hF'
 obtain ⟨p0,p1,p2,p3,p4,p5⟩:=HDB.out w1 (Below.refl _ _)
 clear hd hT hb1 hq1
 go_enter Tryz.func5,Tryz.ntmps5
 go_wp2_with (fail)
 refine HSM.out.mono ?_
 rintro e w2 ⟨b,rfl,_,hb2⟩
 have H2:=hid hb2
 clear hb2 p0 p1 p2 p3 p4 p5
 obtain ⟨p0,p1,p2,p3,p4,p5⟩:=HDB.out w2 H2.out
 cases b with
 | false=>
  go_wp2_with (fail)
  refine (HA.out w2 H2.out).mono ?_
  rintro e wq ⟨rfl,hbq⟩
  have HQ:=hid (HBW.out wq (below_nextD H2.out hbq))
  clear hbq
  go_wp2_with (fail)
  go_ret
  exact ⟨rfl,HQ.out⟩
 | true=>
 go_wp2_with (fail)
 refine (HFE.out w2 H2.out).mono ?_
 rintro e w3 ⟨hb,⟨hno,_⟩ | ⟨_,A3,c3,B3,d3,rfl,hdm⟩⟩
 ·exact absurd HOK.out hno
 rw [HRF.out.1,HRF.out.2] at hdm ⊢
 rw [HLL.out.1,HLL.out.2]
 have HDM3:=hid hdm
 clear hdm
 have H3:=hid (below_nextD H2.out hb)
 obtain ⟨w4,hw4,hq4,hl4,hb4⟩:=new_cells w3 #[.int .i64 i,.int .i64 o,.int .i64 (N : Int),.int .i64 s,.slice A3 L1 c3,.slice B3 L2 d3] 26
 have HQ4:=hid hq4
 have HL4:=hid hl4
 have HW4:=hid hw4
 have HB4:=hid hb4
 have H4:=hid (below_nextD H3.out hb4)
 clear hw4 hq4 hl4 hb4 hb p0 p1 p2 p3 p4 p5
 go_upto_region 4 with (fail)
 try rw [HW4.out]
 have HDM4:=hid (HDM3.out.below HB4.out)
 have hq4:=HQ4.out
 have z0:=hq4.cell 0
 have z1:=hq4.cell 1
 have z2:=hq4.cell 2
 have z3:=hq4.cell 3
 have z4:=hq4.cell 4
 have z5:=hq4.cell 5
 simp only [sD,sE,sF] at z0 z1 z2 z3 z4 z5
 clear hq4
 go_wp2_with (fail)
 refine (HF2.out w4 H4.out A3 c3 B3 d3 HDM4.out).mono ?_
 rintro e w5 ⟨hb,A5,c5,B5,d5,rfl,hdm⟩
 have HDM5:=hid hdm
 have HQ5:=hid (HQ4.out.below hb HL4.out)
 have HDC5:=hid (HDM4.out.below hb)
 have H5:=hid (below_nextD H4.out hb)
 clear hdm z0 z1 z2 z3 z4 z5
 obtain ⟨w6,hw6,hq6,hl6,hb6⟩:=new_cells w5 #[.int .i64 i,.int .i64 o,.int .i64 (N : Int),.int .i64 s,.slice A5 L1 c5,.slice B5 L2 d5] 26
 have HQ6:=hid hq6
 have HL6:=hid hl6
 have HW6:=hid hw6
 have HB6:=hid hb6
 have H6:=hid (below_nextD H5.out hb6)
 clear hw6 hq6 hl6 hb6 hb
 go_upto_region 7 with (fail)
 try rw [HW6.out]
 have HDC6:=hid (HDC5.out.below HB6.out)
 have HDM6:=hid (HDM5.out.below HB6.out)
 have HC6:=hid (HQ5.out.below HB6.out HQ5.out.lt)
 have hq6:=HC6.out
 have z0:=hq6.cell 0
 have z1:=hq6.cell 1
 have z2:=hq6.cell 2
 have z3:=hq6.cell 3
 have z4:=hq6.cell 4
 have z5:=hq6.cell 5
 simp only [sD,sE,sF] at z0 z1 z2 z3 z4 z5
 clear hq6
 go_wp2_with (fail)
 refine (HW2.out w6 H6.out A3 c3 B3 d3 HDC6.out).mono ?_
 rintro e w7 ⟨rfl,hb⟩
 have H7:=hid (below_nextD H6.out hb)
 have hq7:=HC6.out.below hb HC6.out.lt
 have hy7:=HQ6.out.below hb HL6.out
 have HSA:=hid (show Calls Tryz.prog 12 #[dsc i o (N : Int) s A5 L1 c5 B5 L2 d5,dsc i o (N : Int) s A3 L1 c3 B3 L2 d3] w7 (RetB true w7) from by
  have hd7:=HDM6.out.below hb
  have hc7:=HDC6.out.below hb
  have:=rdesc_eq i o (N : Int) s A5 A3 c5 c3 B5 B3 d5 d3 R' F' w7 hd7.rules hc7.rules hd7.rl hd7.finals hc7.finals hd7.fl HSH.out.1 HSH.out.2
  rw [HLL.out.1,HLL.out.2] at this
  exact this)
 clear hb z0 z1 z2 z3 z4 z5
 have z0:=hq7.cell 0
 have z1:=hq7.cell 1
 have z2:=hq7.cell 2
 have z3:=hq7.cell 3
 have z4:=hq7.cell 4
 have z5:=hq7.cell 5
 simp only [sD,sE,sF] at z0 z1 z2 z3 z4 z5
 have y0:=hy7.cell 0
 have y1:=hy7.cell 1
 have y2:=hy7.cell 2
 have y3:=hy7.cell 3
 have y4:=hy7.cell 4
 have y5:=hy7.cell 5
 simp only [sD,sE,sF] at y0 y1 y2 y3 y4 y5
 have HC7:=hid hq7
 clear hq7 hy7
 go_wp2_with (fail)
 refine HSA.out.mono ?_
 rintro e w8 ⟨rfl,hb⟩
 have H8:=hid (below_nextD H7.out hb)
 have hq8:=HC7.out.below hb HC7.out.lt
 clear hb z0 z1 z2 z3 z4 z5 y0 y1 y2 y3 y4 y5
 have z0:=hq8.cell 0
 have z1:=hq8.cell 1
 have z2:=hq8.cell 2
 have z3:=hq8.cell 3
 have z4:=hq8.cell 4
 have z5:=hq8.cell 5
 simp only [sD,sE,sF] at z0 z1 z2 z3 z4 z5
 clear hq8
 go_wp2_with (fail)
 refine (HA.out w8 H8.out).mono ?_
 rintro e wq ⟨rfl,hbq⟩
 have HQ:=hid (HBW.out wq (below_nextD H8.out hbq))
 clear hbq
 go_wp2_with (fail)
 go_ret
 exact ⟨rfl,HQ.out⟩
theorem twice_law (i o n s : Int) (A : Option Addr) (cr : Nat) (B : Option Addr) (cf : Nat) (rs : List RuL) (fs : List FiL) (w : World) (hd : DM w ⟨i,o,n,s,A,cr,B,cf,rs,fs⟩) (hT : Fi.TabB w) : Calls Tryz.prog 5 #[dsc i o n s A rs.length cr B fs.length cf] w (RetB true w):=by
 by_cases hw : (whereD i o n s rs fs).1 = 0
 ·have hR : RightD ⟨i,o,n,s,A,cr,B,cf,rs,fs⟩:=DV.right.rightD (d:=⟨i,o,n,s,A,cr,B,cf,rs,fs⟩) hw
  obtain ⟨N,hN⟩ : ∃ N : Nat,n = (N : Int):=⟨n.toNat,by have:=hR.n;dsimp only at this;omega⟩
  subst hN
  by_cases hn : waysN rs N≤4096
  ·by_cases hok : FreeOk rs fs N
   ·exact twice_fine i o s N A cr B cf rs fs w hd hT hw hn hok
   ·refine twice_no i o (N : Int) s A cr B cf rs fs w hd hT 4 (.inr rfl) fun W hW=>?_
    refine (free_ok i o N s A cr B cf rs fs W (hd.below hW) (hT.next hW) hw hn).mono ?_
    rintro e w' ⟨hb,⟨_,rfl⟩ | ⟨h,_⟩⟩
    ·exact ⟨rfl,hb⟩
    ·exact absurd h hok
  ·exact twice_no i o (N : Int) s A cr B cf rs fs w hd hT 4 (.inr rfl) fun W hW=>free_err i o (N : Int) s A cr B cf rs fs W (hd.below hW) (hT.next hW) 4 (.inr rfl) (by unfold waysV;rw [if_pos hw,Int.toNat_natCast,if_neg hn])
 ·exact twice_no i o n s A cr B cf rs fs w hd hT 2 (.inl rfl) fun W hW=>free_err i o n s A cr B cf rs fs W (hd.below hW) (hT.next hW) 2 (.inl rfl) (by unfold waysV;rw [if_neg hw])
end Go.Proofs.YtpcgaebbbioifaaGreatDoor.Ep
