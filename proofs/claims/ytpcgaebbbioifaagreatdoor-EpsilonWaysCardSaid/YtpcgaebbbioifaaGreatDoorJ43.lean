import Derived.Test.YtpcgaebbbioifaaGreatDoorJ0
import Derived.Test.YtpcgaebbbioifaaGreatDoorJ42
namespace Go.Proofs.YtpcgaebbbioifaaGreatDoor.Ep
set_option maxHeartbeats 64000000
set_option maxRecDepth 100000
open Go Go.RowKit Sp Pa Te Mi De Tr Lt
open Go.Lib (hid)
def cT (x : Int) : TmL:=⟨0,0,21,0,x,[]⟩
def exR8 : List RuL:=[⟨0,1,[],0,[cT 120]⟩,⟨1,1,[[(97,97)]],1,[cT 121]⟩]
def exF8 : List FiL:=[⟨1,[],[]⟩]
theorem num_c {x : Int} (hx : 0≤x∧x≤255) : numB 0 0 21 0 x [] = true:=by
 unfold numB
 have hr : riseB [] = true:=riseB_true (k:=0) (fun i h1 h2=>by omega) (Nat.le_refl _)
 rw [hr]
 have h1 : Sm x:=by unfold Sm;omega
 rw [decide_eq_true h1]
 decide
theorem fits_c {x : Int} (hx : 0≤x∧x≤255) {gs : List (List Span)} (hg : gs.length≤4) (hs : ∀ xs,Fi.WinS gs xs→∀ y∈xs,Sy y) : fitF 1 1 gs (cT x) = true:=by
 rw [fitF_iff]
 refine ⟨hg,?_,fun xs hw _=>?_⟩
 ·unfold rightT
  simp only [cT]
  rw [num_c hx]
  unfold partsB
  simp only [List.all_nil]
  decide
 ·have hsx : Sy x:=by unfold Sy;omega
  have hv : valueT 0 0 21 0 x [] xs = (x,true):=by
   rw [Fi.value_is (num_c hx) rfl]
   have hi : Fi.innT xs x [] = x:=by unfold Fi.innT;simp
   rw [hi,if_pos ⟨hs xs hw,hsx⟩,val_all hsx,Int.zero_add]
  unfold Fi.HasVal
  simp only [cT]
  rw [hv]
  refine ⟨rfl,by unfold Rng;simp only;omega,(0,255),by simp [Fi.domL],?_,?_⟩ <;> simp only <;> omega
theorem guard8 : guardsB 1 [[(97,97)]] = true:=by
 unfold guardsB guardB
 have h2 : plainB [(97,97)] = true:=plainB_true ⟨List.pairwise_singleton _ _,fun p hp=>by obtain rfl:=List.mem_singleton.1 hp;unfold Ok;simp only;omega⟩
 have h3 : subB 1 [(97,97)] = true:=by
  unfold subB
  refine @decide_eq_true _ (Classical.propDecidable _) fun y h=>?_
  obtain ⟨hy,p,hp,k1,k2⟩:=h.1
  obtain rfl:=List.mem_singleton.1 hp
  simp only at k1 k2
  exact h.2 ⟨hy,(0,255),by simp [De.domL],by simp only;omega,by simp only;omega⟩
 simp only [List.all_cons,List.all_nil,h2,h3]
 simp
theorem ex8_edges : epsE exR8 = [(0,1)]:=by decide
theorem ex8_cyc : cycE (epsE exR8) 2 = false:=cyc_no fun q hq=>by
 rw [ex8_edges] at hq
 obtain ⟨e,he,_,hw⟩:=hq
 obtain rfl:=List.mem_singleton.1 he
 obtain ⟨e2,he2,h2,_⟩:=hw
 obtain rfl:=List.mem_singleton.1 he2
 simp at h2
theorem ex8_where : whereD 1 1 ((2 : Nat) : Int) 0 exR8 exF8 = (0,0):=
 where_zero (by unfold headB;rw [sort_one (.inl rfl)];decide) (fun r hr=>by
  rcases (show r = ⟨0,1,[],0,[cT 120]⟩∨r = ⟨1,1,[[(97,97)]],1,[cT 121]⟩ by simpa [exR8] using hr) with rfl | rfl
  ·unfold ruleB eatB termsB
   dsimp only
   rw [guards_nil,show stB ((2 : Nat) : Int) 0 = true from rfl,show stB ((2 : Nat) : Int) 1 = true from rfl,List.all_cons,fits_c (gs:=[]) ⟨by omega,by omega⟩ (by simp) (fun xs hw y hy=>by
    have h0:=List.eq_nil_of_length_eq_zero hw.1
    rw [h0] at hy
    cases hy)]
   decide
  ·unfold ruleB eatB termsB
   dsimp only
   rw [guard8,show stB ((2 : Nat) : Int) 1 = true from rfl,List.all_cons,fits_c (gs:=[[(97,97)]]) ⟨by omega,by omega⟩ (by simp) (fun xs hw y hy=>by
    obtain ⟨hl,hm⟩:=hw
    obtain ⟨x,rfl⟩:=List.length_eq_one_iff.1 hl
    have hx:=hm 0 (by simp) (by simp)
    simp only [List.getElem_cons_zero] at hx
    obtain rfl:=List.mem_singleton.1 hy
    obtain ⟨_,p,hp,h1,h2⟩:=hx
    obtain rfl:=List.mem_singleton.1 hp
    simp only at h1 h2
    unfold Sy
    omega)]
   decide) (fun f hf=>by
  obtain rfl:=List.mem_singleton.1 hf
  exact empty_final ⟨by omega,by omega⟩) ex8_cyc
theorem ex8_succ : succD exR8 0 = [1]∧succD exR8 1 = []:=by decide
theorem ex8_ways : waysN exR8 2 = 3:=by
 have hr : ∀ x,∀ t∈succD exR8 x,rkE (epsE exR8) 2 t < rkE (epsE exR8) 2 x:=fun x t ht=>rkE_down ex8_cyc (succ_edge ht)
 have h1 : Lt.cnt (succD exR8) (rkE (epsE exR8) 2) 1 = 1:=by rw [cnt_eq hr,ex8_succ.2];rfl
 have h0 : Lt.cnt (succD exR8) (rkE (epsE exR8) 2) 0 = 2:=by rw [cnt_eq hr,ex8_succ.1];simp [h1]
 unfold waysN sumC
 rw [show List.range 2 = [0,1] from rfl]
 simp [h0,h1]
theorem ex8_free : freeR exR8 2 = [⟨0,1,[[(97,97)]],1,[cT 120,cT 121]⟩,⟨1,1,[[(97,97)]],1,[cT 121]⟩]∧freeF exR8 exF8 2 = [⟨0,[],[cT 120]⟩,⟨1,[],[]⟩]:=⟨rfl,rfl⟩
theorem ex8_ok : FreeOk exR8 exF8 2:=by
 unfold FreeOk
 rw [ex8_free.1,ex8_free.2]
 refine ⟨by decide,by decide,fun r hr=>?_,fun r hr=>?_⟩
 all_goals
  simp only [List.mem_cons,List.not_mem_nil,or_false] at hr
  rcases hr with rfl | rfl <;> decide
theorem lit_c {W : World} {b : Nat} {x : Int} (h : Blk W b 51 #[.int .i64 0,.int .i64 0,.int .i64 21,.int .i64 0,.int .i64 x,.slice none 0 0]) : RTm W (some ⟨b,0,none⟩) 1 [cT x]:=
 ⟨rfl,fun _=>⟨b,0,rfl,h.lt,fun j hj=>by
  obtain rfl : j = 0:=by simp at hj;omega
  exact ⟨h.cell 0,h.cell 1,h.cell 2,h.cell 3,h.cell 4,none,0,h.cell 5,⟨rfl,fun h=>absurd h (Nat.not_lt_zero _)⟩,Nat.le_refl _,Nat.zero_le _⟩⟩⟩
theorem lit_g {W : World} {b g : Nat} {x : Int} (h : Blk W b 47 #[.int .i64 x,.int .i64 x]) (hg : Blk W g 48 #[.slice (some ⟨b,0,none⟩) 1 1]) : RGs W (some ⟨g,0,none⟩) 1 [[(x,x)]]:=
 ⟨rfl,fun _=>⟨g,0,rfl,hg.lt,fun j hj=>by
  obtain rfl : j = 0:=by simp at hj;omega
  exact ⟨some ⟨b,0,none⟩,1,hg.cell 0,⟨rfl,fun _=>⟨b,0,rfl,h.lt,fun j hj=>by
   obtain rfl : j = 0:=by simp at hj;omega
   exact ⟨h.cell 0,h.cell 1⟩⟩⟩,Nat.le_refl _,fun e=>by cases e⟩⟩⟩
theorem lit_exR8 {W : World} {b1 g1 c1 c2 r : Nat} (h1 : Blk W b1 47 #[.int .i64 97,.int .i64 97]) (k1 : Blk W g1 48 #[.slice (some ⟨b1,0,none⟩) 1 1]) (h2 : Blk W c1 51 #[.int .i64 0,.int .i64 0,.int .i64 21,.int .i64 0,.int .i64 120,.slice none 0 0]) (k2 : Blk W c2 51 #[.int .i64 0,.int .i64 0,.int .i64 21,.int .i64 0,.int .i64 121,.slice none 0 0])
  (hr : Blk W r 43 #[.int .i64 0,.int .i64 1,.slice none 0 0,.int .i64 0,.slice (some ⟨c1,0,none⟩) 1 1,.int .i64 1,.int .i64 1,.slice (some ⟨g1,0,none⟩) 1 1,.int .i64 1,.slice (some ⟨c2,0,none⟩) 1 1]) : RRu W (some ⟨r,0,none⟩) 2 exR8:=
 ⟨rfl,fun _=>⟨r,0,rfl,hr.lt,fun j hj=>by
  have hm : (1 : Nat)≤maxLen:=by simp only [maxLen];decide
  rcases (show j = 0∨j = 1 by simp [exR8] at hj;omega) with rfl | rfl
  ·exact ⟨hr.cell 0,hr.cell 1,hr.cell 3,⟨none,0,hr.cell 2,RGs.nil_ _ _,Nat.le_refl _,Nat.zero_le _,fun g hg=>by cases hg⟩,some ⟨c1,0,none⟩,1,hr.cell 4,lit_c h2,Nat.le_refl _,hm,by show IntR 0;unfold IntR;omega⟩
  ·exact ⟨hr.cell 5,hr.cell 6,hr.cell 8,⟨some ⟨g1,0,none⟩,1,hr.cell 7,lit_g h1 k1,Nat.le_refl _,hm,fun g hg=>by
    obtain rfl : g = [(97,97)]:=by simpa [exR8] using hg
    exact hm⟩,some ⟨c2,0,none⟩,1,hr.cell 9,lit_c k2,Nat.le_refl _,hm,by show IntR 1;unfold IntR;omega⟩⟩⟩
theorem lit_exF8 {W : World} {bf : Nat} (hf : Blk W bf 45 #[.int .i64 1,.slice none 0 0,.slice none 0 0]) : RFi W (some ⟨bf,0,none⟩) 1 exF8:=
 ⟨rfl,fun _=>⟨bf,0,rfl,hf.lt,fun j hj=>by
  obtain rfl : j = 0:=by simp [exF8] at hj;omega
  exact ⟨hf.cell 0,⟨none,0,hf.cell 1,RGs.nil_ _ _,Nat.le_refl _,Nat.zero_le _,fun g hg=>by cases hg⟩,none,0,hf.cell 2,RTm.nil_ _ _,Nat.le_refl _,Nat.zero_le _⟩⟩⟩
theorem nil_blk {W : World} {g m k n : Nat} {t : TypeId} {cs : Array Value} (h : Blk W g t cs) (hc : ∀ j,j < n→∀ l c,cs[j * m + k]? = some (.slice none l c)→c = 0) : NilT W (some ⟨g,0,none⟩) n m k:=fun b off e j hj l c hjc=>by
 injection e with e
 injection e with e1 e2
 subst e1 e2
 refine hc j hj l c ?_
 rw [← hjc,Nat.zero_add]
 exact (h.cell (j * m + k)).symm
theorem awake_any (w : World) (hT : Fi.TabB w) : Calls Tryz.prog 7 #[] w (RetB true w):=by
 obtain ⟨u1,hu1,qu1,lu1,bu1⟩:=new_cells w #[.int .i64 97,.int .i64 97] 47
 have su1 : u1.heap.size = w.heap.size + 1:=by rw [← hu1,World.size_alloc]
 obtain ⟨u2,hu2,qu2,lu2,bu2⟩:=new_cells u1 #[.slice (some ⟨w.heap.size,0,none⟩) 1 1] 48
 have su2 : u2.heap.size = w.heap.size + 1 + 1:=by rw [← hu2,World.size_alloc,su1]
 rw [su1] at qu2
 obtain ⟨u3,hu3,qu3,lu3,bu3⟩:=new_cells u2 #[.int .i64 1,.slice none 0 0,.slice none 0 0] 45
 have su3 : u3.heap.size = w.heap.size + 1 + 1 + 1:=by rw [← hu3,World.size_alloc,su2]
 rw [su2] at qu3
 obtain ⟨u4,hu4,qu4,lu4,bu4⟩:=new_cells u3 #[.int .i64 0,.int .i64 0,.int .i64 21,.int .i64 0,.int .i64 120,.slice none 0 0] 51
 have su4 : u4.heap.size = w.heap.size + 1 + 1 + 1 + 1:=by rw [← hu4,World.size_alloc,su3]
 rw [su3] at qu4
 obtain ⟨u5,hu5,qu5,lu5,bu5⟩:=new_cells u4 #[.int .i64 0,.int .i64 0,.int .i64 21,.int .i64 0,.int .i64 121,.slice none 0 0] 51
 have su5 : u5.heap.size = w.heap.size + 1 + 1 + 1 + 1 + 1:=by rw [← hu5,World.size_alloc,su4]
 rw [su4] at qu5
 obtain ⟨u6,hu6,qu6,lu6,bu6⟩:=new_cells u5 #[.int .i64 0,.int .i64 1,.slice none 0 0,.int .i64 0,.slice (some ⟨w.heap.size + 1 + 1 + 1,0,none⟩) 1 1,.int .i64 1,.int .i64 1,.slice (some ⟨w.heap.size + 1,0,none⟩) 1 1,.int .i64 1,.slice (some ⟨w.heap.size + 1 + 1 + 1 + 1,0,none⟩) 1 1] 43
 have su6 : u6.heap.size = w.heap.size + 1 + 1 + 1 + 1 + 1 + 1:=by rw [← hu6,World.size_alloc,su5]
 rw [su5] at qu6
 obtain ⟨u7,hu7,qu7,lu7,bu7⟩:=new_cells u6 #[.int .i64 1,.int .i64 1,.int .i64 2,.int .i64 0,.slice (some ⟨w.heap.size + 1 + 1 + 1 + 1 + 1,0,none⟩) 2 2,.slice (some ⟨w.heap.size + 1 + 1,0,none⟩) 1 1] 26
 have su7 : u7.heap.size = w.heap.size + 1 + 1 + 1 + 1 + 1 + 1 + 1:=by rw [← hu7,World.size_alloc,su6]
 rw [su6] at qu7
 have qu1:=qu1.below bu2 (by omega)
 have qu1:=qu1.below bu3 (by omega)
 have qu1:=qu1.below bu4 (by omega)
 have qu1:=qu1.below bu5 (by omega)
 have qu1:=qu1.below bu6 (by omega)
 have qu1:=qu1.below bu7 (by omega)
 have qu2:=qu2.below bu3 (by omega)
 have qu2:=qu2.below bu4 (by omega)
 have qu2:=qu2.below bu5 (by omega)
 have qu2:=qu2.below bu6 (by omega)
 have qu2:=qu2.below bu7 (by omega)
 have qu3:=qu3.below bu4 (by omega)
 have qu3:=qu3.below bu5 (by omega)
 have qu3:=qu3.below bu6 (by omega)
 have qu3:=qu3.below bu7 (by omega)
 have qu4:=qu4.below bu5 (by omega)
 have qu4:=qu4.below bu6 (by omega)
 have qu4:=qu4.below bu7 (by omega)
 have qu5:=qu5.below bu6 (by omega)
 have qu5:=qu5.below bu7 (by omega)
 have qu6:=qu6.below bu7 (by omega)
 have B1:=bu1
 have B1:=B1.trans (bu2.mono (by omega))
 have B1:=B1.trans (bu3.mono (by omega))
 have B1:=B1.trans (bu4.mono (by omega))
 have B1:=B1.trans (bu5.mono (by omega))
 have B1:=B1.trans (bu6.mono (by omega))
 have B1:=B1.trans (bu7.mono (by omega))
 have HRW:=hid (lit_exR8 qu1 qu2 qu4 qu5 qu6)
 have HFW:=hid (lit_exF8 qu3)
 have HNR:=hid (nil_blk (m:=5) (k:=4) (n:=2) qu6 (fun j hj l c e=>by
  rcases (show j = 0∨j = 1 by omega) with rfl | rfl <;> simp at e))
 have HNF:=hid (nil_blk (m:=3) (k:=2) (n:=1) qu3 (fun j hj l c e=>by
  obtain rfl : j = 0:=by omega
  simp at e;exact e.2.symm))
 have HQD:=hid (fun W (h : Below u7.heap.size u7 W)=>show DB W (w.heap.size + 1 + 1 + 1 + 1 + 1 + 1) 1 1 2 0 (some ⟨w.heap.size + 1 + 1 + 1 + 1 + 1,0,none⟩) 2 2 (some ⟨w.heap.size + 1 + 1,0,none⟩) 1 1 from by
  have h1:=qu7.below h (by omega)
  exact ⟨h1.cell 0,h1.cell 1,h1.cell 2,h1.cell 3,h1.cell 4,h1.cell 5⟩)
 have hsu:=su7
 have HB:=hid (fun W (h : Below u7.heap.size u7 W)=>show Below w.heap.size w W from B1.trans (h.mono (by omega)))
 have HTB:=hid (fun W (h : Below u7.heap.size u7 W)=>show Fi.TabB W from hT.next (B1.trans (h.mono (by omega))))
 have hmx : (2 : Nat)≤maxLen:=by simp only [maxLen];decide
 have hmx1 : (1 : Nat)≤maxLen:=by simp only [maxLen];decide
 have HDM:=hid (fun W (h : Below u7.heap.size u7 W)=>show DM W ⟨1,1,((2 : Nat) : Int),0,some ⟨w.heap.size + 1 + 1 + 1 + 1 + 1,0,none⟩,2,some ⟨w.heap.size + 1 + 1,0,none⟩,1,exR8,exF8⟩ from DM.below (w:=u7) ⟨HRW.out,hmx,HFW.out,hmx1,HNR.out,HNF.out⟩ h)
 have Hu1:=hid hu1
 have Hu2:=hid hu2
 have Hu3:=hid hu3
 have Hu4:=hid hu4
 have Hu5:=hid hu5
 have Hu6:=hid hu6
 have Hu7:=hid hu7
 clear hT hmx hmx1 B1 hu1 qu1 lu1 bu1 hu2 qu2 lu2 bu2 hu3 qu3 lu3 bu3 hu4 qu4 lu4 bu4 hu5 qu5 lu5 bu5 hu6 qu6 lu6 bu6 hu7 qu7 lu7 bu7
 clear su1 su2 su3 su4 su5 su6 su7
 have HFR:=hid (fun W (h : Below u7.heap.size u7 W)=>show Calls Tryz.prog 11 #[dsc 1 1 2 0 (some ⟨w.heap.size + 1 + 1 + 1 + 1 + 1,0,none⟩) 2 2 (some ⟨w.heap.size + 1 + 1,0,none⟩) 1 1] W (FreeOut 1 1 2 0 exR8 exF8 W) from
  free_ok 1 1 2 0 (some ⟨w.heap.size + 1 + 1 + 1 + 1 + 1,0,none⟩) 2 (some ⟨w.heap.size + 1 + 1,0,none⟩) 1 exR8 exF8 W (HDM.out W h) (HTB.out W h) (by rw [ex8_where]) (by rw [ex8_ways];omega))
 have HWY:=hid (fun W (h : Below u7.heap.size u7 W)=>show Calls Tryz.prog 8 #[dsc 1 1 2 0 (some ⟨w.heap.size + 1 + 1 + 1 + 1 + 1,0,none⟩) 2 2 (some ⟨w.heap.size + 1 + 1,0,none⟩) 1 1] W (WaysD (3,0) W) from by
  have h1:=ways_any 1 1 ((2 : Nat) : Int) 0 (some ⟨w.heap.size + 1 + 1 + 1 + 1 + 1,0,none⟩) 2 (some ⟨w.heap.size + 1 + 1,0,none⟩) 1 exR8 exF8 W (HDM.out W h) (HTB.out W h)
  have h2 : waysV 1 1 ((2 : Nat) : Int) 0 exR8 exF8 = (3,0):=by
   unfold waysV
   rw [if_pos (by rw [ex8_where]),Int.toNat_natCast,ex8_ways,if_pos (by omega)]
   rfl
  rw [h2] at h1
  exact h1)
 go_enter Tryz.func7,Tryz.ntmps7
 go_upto_region 3 with (fail)
 rw [Hu1.out,Hu2.out,Hu3.out,Hu4.out,Hu5.out,Hu6.out,Hu7.out]
 obtain ⟨p0,p1,p2,p3,p4,p5⟩:=HQD.out u7 (Below.refl _ _)
 go_wp2_with (fail)
 refine (HFR.out u7 (Below.refl _ _)).mono ?_
 rintro e w1 ⟨hb1,hto⟩
 rcases hto with ⟨h,_⟩ | ⟨_,A3,c3,B3,d3,rfl,hdm⟩
 ·exact absurd ex8_ok h
 rw [ex8_free.1,ex8_free.2] at hdm ⊢
 have H1:=hid hb1
 have HDM1:=hid hdm
 clear hb1 hdm p0 p1 p2 p3 p4 p5
 obtain ⟨w4,hw4,hq4,hl4,hb4⟩:=new_cells w1 #[.int .i64 1,.int .i64 1,.int .i64 2,.int .i64 0,.slice A3 2 c3,.slice B3 2 d3] 26
 have HQ4:=hid hq4
 have HL4:=hid hl4
 have HW4:=hid hw4
 have HB4:=hid hb4
 have H4:=hid (below_nextD H1.out hb4)
 clear hw4 hq4 hl4 hb4
 go_upto_region 4 with (fail)
 try rw [HW4.out]
 obtain ⟨p0,p1,p2,p3,p4,p5⟩:=HQD.out w4 H4.out
 go_wp2_with (fail)
 refine (HWY.out w4 H4.out).mono ?_
 rintro e w5 ⟨rfl,hb5⟩
 have hrr:=((HDM1.out.below HB4.out).below hb5).rules
 have hq5:=HQ4.out.below hb5 HL4.out
 obtain ⟨b,off,G,gc,T,tc,hA,_,_,_,_,_,d4,_,hrt,_⟩:=hrr.at_ (k:=0) (by simp)
 simp only [List.getElem_cons_zero] at d4 hrt
 obtain ⟨b2,off2,hA2,_,hc2⟩:=hrt.2 (by decide)
 have d5:=(hc2 1 (by decide)).2.2.2.2.1
 simp only [List.getElem_cons_succ,List.getElem_cons_zero,cT] at d5
 subst hA hA2
 have z4:=hq5.cell 4
 have z5:=hq5.cell 5
 simp only [sD,sE,sF] at z4 z5
 have HE:=hid (HB.out w5 (below_nextD H4.out hb5))
 clear hrr hq5 hrt hc2 hb5 p0 p1 p2 p3 p4 p5
 go_wp2_with (fail)
 go_ret
 exact ⟨rfl,HE.out⟩
end Go.Proofs.YtpcgaebbbioifaaGreatDoor.Ep
