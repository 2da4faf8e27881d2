import Derived.Test.YtoofgpoeheponaaGreatDoorT16
import Derived.Test.YtoofgpoeheponaaGreatDoorT18
set_option maxRecDepth 100000
namespace Go.Proofs.YtoofgpoeheponaaGreatDoor.Tr
open Go Go.RowKit Sp Pa Te Mi De
def RK {α : Type} (k : Nat) (enc : α→List Value) (w : World) (A : Option Addr) (l : List α) : Prop:=
 0 < l.length→∃ b off,A = some ⟨b,off,none⟩∧b < w.heap.size∧∀ (j : Nat) (h : j < l.length),∀ r,r < k→w.cell? ⟨b,off + j * k + r,none⟩ = (enc l[j])[r]?
theorem RK.below {α : Type} {k : Nat} {enc : α→List Value} {w w' : World} {A : Option Addr} {l : List α} (h : RK k enc w A l) (hb : Below w.heap.size w w') : RK k enc w' A l:=fun hn=>by
 obtain ⟨b,off,e,hlt,hc⟩:=h hn
 exact ⟨b,off,e,Nat.lt_of_lt_of_le hlt hb.size,fun j hj r hr=>(hb.cell (p:=⟨b,off + j * k + r,none⟩) hlt).trans (hc j hj r hr)⟩
def OwnsY {α : Type} (k : Nat) (enc : α→List Value) (eS eE : TypeId) (w : World) (gN b N : Nat) (L : Nat→List α) : Prop:=
 ∃ vs : Nat→Value,w.ownsRow gN eS 1 (.slice (some ⟨gN,0,none⟩) N N) N ((List.range N).map vs)∧(∀ q,q < N→w.ownsRow b eE k (vs q) (L q).length ((L q).flatMap enc)) ∧
  (∀ p q,p < N→q < N→∀ x,(vs p).ownBlock = some x→(vs q).ownBlock = some x→p = q)
section
variable {α : Type} {k : Nat} {enc : α→List Value} {eS eE : TypeId} {w w' : World} {gN b N : Nat} {L : Nat→List α}
theorem OwnsY.keep (h : OwnsY k enc eS eE w gN b N L) (hk : ∀ x,x = gN∨b≤x→x < w.heap.size→w'.heap[x]? = w.heap[x]?) : OwnsY k enc eS eE w' gN b N L:=by
 obtain ⟨vs,h1,h2,h3⟩:=h
 refine ⟨vs,ownsRow_keep h1 fun x e=>hk x (.inl (by simpa [Value.ownBlock] using e.symm)) (World.ownsRow.lt h1 x e).2,fun q hq=>ownsRow_keep (h2 q hq) fun x e=>hk x (.inr (World.ownsRow.lt (h2 q hq) x e).1) (World.ownsRow.lt (h2 q hq) x e).2,h3⟩
theorem OwnsY.below (h : OwnsY k enc eS eE w gN b N L) (hb : Below w.heap.size w w') : OwnsY k enc eS eE w' gN b N L:=h.keep fun x _ hx=>hb.block x hx
theorem OwnsY.at_ (h : OwnsY k enc eS eE w gN b N L) {q : Nat} (hq : q < N) : ∃ A c,w.cell? ⟨gN,q,none⟩ = some (.slice A (L q).length c)∧w.frozen? ⟨gN,q,none⟩ = false∧gN < w.heap.size∧w.ownsRow b eE k (.slice A (L q).length c) (L q).length ((L q).flatMap enc):=by
 obtain ⟨vs,h1,h2,h3⟩:=h
 obtain ⟨A,c,e⟩:=own_shape (h2 q hq)
 have ho:=h2 q hq
 refine ⟨A,c,?_,World.ownsRow.frozenAt h1 q,(World.ownsRow.lt h1 gN rfl).2,by rw [e] at ho;exact ho⟩
 rw [World.ownsRow.cellAt h1 q (by omega)]
 simp [hq,e]
theorem OwnsY.longer {w1 : World} (h : OwnsY k enc eS eE w gN b N L) (hgb : gN < b) {a : Nat} (ha : a < N) {A : Option Addr} {c : Nat} (hc : w.cell? ⟨gN,a,none⟩ = some (.slice A (L a).length c)) (x : α) {v' : Value}
  (ho : w1.ownsRow b eE k v' ((L a).length + 1) ((L a).flatMap enc ++ enc x)) (hg : w.grownBy w1 (Value.slice A (L a).length c).ownBlock) (hat : (Value.slice A (L a).length c).ownBlock = v'.ownBlock∨∃ y,v'.ownBlock = some y∧w.heap.size≤y) :
  OwnsY k enc eS eE (w1.setCell ⟨gN,a,none⟩ v') gN b N (fun q=>if q = a then L a ++ [x] else L q):=by
 obtain ⟨vs,h1,h2,h3⟩:=h
 have hva : vs a = .slice A (L a).length c:=by
  rw [World.ownsRow.cellAt h1 a (by omega)] at hc
  simpa [ha] using hc
 rw [← hva] at hg hat
 have hout : w1.ownsRow gN eS 1 (.slice (some ⟨gN,0,none⟩) N N) N ((List.range N).map vs):=by
  refine World.ownsRow.kept h1 hg (.inr fun e=>?_)
  have e2 : (vs a).ownBlock = some gN:=by rw [← e];rfl
  have:=(World.ownsRow.lt (h2 a ha) gN e2).1
  omega
 have hst:=(World.ownsRow.stored hout a v').1
 refine ⟨fun q=>if q = a then v' else vs q,?_,fun q hq=>?_,fun p q hp hq y hkp hkq=>?_⟩
 ·have e : (List.range N).map (fun q=>if q = a then v' else vs q) = ((List.range N).map vs).set a v':=List.ext_getElem (by simp) fun j h1 h2=>by
   simp only [List.getElem_map,List.getElem_range,List.getElem_set]
   by_cases e : j = a
   ·rw [if_pos e,if_pos e.symm]
   ·rw [if_neg e,if_neg fun y=>e y.symm]
  rw [e]
  exact hst
 ·by_cases e : q = a
  ·simp only [if_pos e]
   have : w1.ownsRow b eE k v' (L a ++ [x]).length ((L a ++ [x]).flatMap enc):=by
    rw [List.length_append,List.flatMap_append]
    simpa using ho
   exact ownsRow_setCell_below this (a:=⟨gN,a,none⟩) hgb v'
  ·simp only [if_neg e]
   refine ownsRow_setCell_below (World.ownsRow.kept (h2 q hq) hg ?_) (a:=⟨gN,a,none⟩) hgb v'
   cases hu : (vs q).ownBlock with
   | none=>exact .inl rfl
   | some y=>exact .inr fun k2=>e (h3 q a hq ha y hu k2.symm)
 ·by_cases e1 : p = a
  ·by_cases e2 : q = a
   ·rw [e1,e2]
   ·simp only [if_pos e1] at hkp
    simp only [if_neg e2] at hkq
    rcases hat with e | ⟨k',e,hk'⟩
    ·rw [e1];exact h3 a q ha hq y (by rw [e];exact hkp) hkq
    ·rw [e] at hkp
     injection hkp with hkp
     have:=(World.ownsRow.lt (h2 q hq) y hkq).2
     omega
  ·simp only [if_neg e1] at hkp
   by_cases e2 : q = a
   ·simp only [if_pos e2] at hkq
    rcases hat with e | ⟨k',e,hk'⟩
    ·rw [e2];exact h3 p a hp ha y hkp (by rw [e];exact hkq)
    ·rw [e] at hkq
     injection hkq with hkq
     have:=(World.ownsRow.lt (h2 p hp) y hkp).2
     omega
   ·simp only [if_neg e2] at hkq
    exact h3 p q hp hq y hkp hkq
end
def byL {α : Type} (key : α→Nat) (l : List α) (q : Nat) : List α:=l.filter fun x=>key x == q
theorem byL_more {α : Type} (key : α→Nat) (l : List α) (x : α) : byL key (l ++ [x]) = fun q=>if q = key x then byL key l (key x) ++ [x] else byL key l q:=by
 funext q
 unfold byL
 rw [List.filter_append]
 by_cases e : q = key x
 ·subst e
  simp
 ·have : (key x == q) = false:=by simp;exact fun h=>e h.symm
  simp [e,this]
open Go.Lib (hid)
def encE (x : Nat × Nat) : List Value:=[.int .i64 (x.1 : Int),.int .i64 (x.2 : Int)]
theorem infoEdge : (Tryz.prog.info? 81).map (fun i=>(i.zero,i.size,i.bytes)) = some (some (.agg #[.int .i64 0,.int .i64 0]),2,16):=by kernel_rfl
theorem infoEdges : (Tryz.prog.info? 79).map (fun i=>(i.zero,i.size,i.bytes)) = some (some (.slice none 0 0),1,24):=by kernel_rfl
def KeyOut (x : Int) (w : World) (e : Ending) (w' : World) : Prop:=e = .returned (.int .i64 x)∧Below w.heap.size w w'
set_option maxHeartbeats 1000000 in
theorem key_edge (x y : Int) (w : World) : Calls Tryz.prog 64 #[.agg #[.int .i64 x,.int .i64 y]] w (KeyOut x w):=by
 go_enter Tryz.func64,Tryz.ntmps64
 go_wp2_with (fail)
 go_ret
 exact ⟨rfl,(Below.refl _ _).alloc (Nat.le_refl _) _⟩
def ByRel (l : List (Nat × Nat)) (N : Nat) (w : World) (iv : Value) (wr : World) : Prop:=
 ∃ k : Nat,k≤l.length∧iv = .int .i64 k∧OwnsY 2 encE 79 81 wr w.heap.size (w.heap.size + 1) N (byL Prod.fst (l.take k))∧Below w.heap.size w wr
def ByOut (l : List (Nat × Nat)) (N : Nat) (w : World) (e : Ending) (w' : World) : Prop:=
 e = .returned (.slice (some ⟨w.heap.size,0,none⟩) N N)∧OwnsY 2 encE 79 81 w' w.heap.size (w.heap.size + 1) N (byL Prod.fst l)∧Below w.heap.size w w'
set_option maxHeartbeats 8000000 in
theorem by_edge (A : Option Addr) (c : Nat) (l : List (Nat × Nat)) (N : Nat) (w : World) (h : RK 2 encE w A l) (hl : l.length≤100000) (hN : 1≤N∧N≤1024) (hk : ∀ x∈l,x.1 < N∧x.2 < N) :
  Calls Tryz.prog 63 #[.slice A l.length c,.int .i64 N,.func (.func 64) #[] #[]] w (ByOut l N w):=by
 obtain ⟨hN1,hN2⟩:=hN
 obtain ⟨w1,hw1⟩ : ∃ w1,w.alloc (.cells (madeCells #[.slice none 0 0] N) 79) = w1:=⟨_,rfl⟩
 have hmk:=run_make_row' (P:=Tryz.prog) 94 79 (.slice none 0 0) 24 Tryz.underlying94 infoEdges rfl .i64 .i64 N (by omega) (by omega) w
 rw [hw1] at hmk
 have hb1 : Below w.heap.size w w1:=by rw [← hw1];exact (Below.refl _ _).alloc (Nat.le_refl _) _
 have hox : w1.ownsRow w.heap.size 79 1 (.slice (some ⟨w.heap.size,0,none⟩) N N) N ((List.range N).map fun _=>Value.slice none 0 0):=by
  have:=World.ownsRow_lit (base:=w.heap.size) (e:=79) (size:=1) w (madeCells #[.slice none 0 0] N) N (by omega) (by simp only [maxLen];omega) (by simp [madeCells])
  rw [toList_madeCells_one,hw1] at this
  rw [show (List.range N).map (fun _=>Value.slice none 0 0) = List.replicate N (.slice none 0 0) from List.ext_getElem (by simp) fun j h1 h2=>by simp]
  exact this
 have HST:=hid (show ByRel l N w (.int .i64 (0 : Nat)) w1 from ⟨0,Nat.zero_le _,rfl,⟨fun _=>.slice none 0 0,hox,fun q _=>by
  simp only [List.take_zero,byL,List.filter_nil,List.length_nil,List.flatMap_nil]
  exact World.ownsRow_nil _ _ _ _,fun p q _ _ k e=>by simp [Value.ownBlock] at e⟩,hb1⟩)
 have H:=hid h
 have HK:=hid hk
 clear h hk hox hb1
 go_enter Tryz.func63,Tryz.ntmps63
 go_wp2_with (fail)
 clear hmk
 go_loopw [15] (fun iv wr=>ByRel l N w iv wr) (fun iv _=>l.length - (intOf iv).toNat)
 case atStart=>exact HST.out
 case round=>
  obtain ⟨k,hk,rfl,hy,hbl⟩:=hrel
  have HY:=hid hy
  have HB:=hid hbl
  by_cases hlt : k < l.length
  ·obtain ⟨b,off,hA,hbB,hc⟩:=(H.out.below hbl) (by omega)
   have d0:=hc k hlt 0 (by omega)
   have d1:=hc k hlt 1 (by omega)
   obtain ⟨a,t,hat⟩ : ∃ a t,l[k] = (a,t):=⟨_,_,rfl⟩
   have HE:=hid hat
   have hkk:=HK.out _ (List.getElem_mem hlt)
   rw [hat] at d0 d1 hkk
   rw [Nat.add_zero] at d0
   have d0' : wr.cell? ⟨b,off + k * 2,none⟩ = some (.int .i64 (a : Int)):=d0
   have d1' : wr.cell? ⟨b,off + k * 2 + 1,none⟩ = some (.int .i64 (t : Int)):=d1
   have HLT:=hid hlt
   have haN : a < N:=hkk.1
   have HAN:=hid haN
   obtain ⟨Aa,ca,hca,hfa,hgl,hoa⟩:=hy.at_ haN
   obtain ⟨na,hna⟩ : ∃ na,(byL Prod.fst (l.take k) a).length = na:=⟨_,rfl⟩
   have HNA:=hid hna
   have hnal : na≤100000:=by
    rw [← hna]
    unfold byL
    have:=List.length_filter_le (fun x : Nat × Nat=>x.1 == a) (l.take k)
    rw [List.length_take] at this
    omega
   rw [hna] at hca hoa
   have HLOW:=hid (show ∀ x,(Value.slice Aa na ca).ownBlock = some x→w.heap.size + 1≤x∧x < wr.heap.size from fun x e=>World.ownsRow.lt hoa x e)
   have hsw:=hbl.size
   obtain ⟨w5,hw5⟩ : ∃ w5,wr.alloc (.cells #[.int .i64 (a : Int),.int .i64 (t : Int)] 81) = w5:=⟨_,rfl⟩
   have hs5 : w5.heap.size = wr.heap.size + 1:=by rw [← hw5];simp
   have hb5 : Below wr.heap.size wr w5:=by rw [← hw5];exact (Below.refl _ _).alloc (Nat.le_refl _) _
   have hq5 : Blk w5 wr.heap.size 81 #[.int .i64 (a : Int),.int .i64 (t : Int)]:=by rw [← hw5];exact heap_alloc_new wr _
   have e0:=hq5.cell 0
   have e1:=hq5.cell 1
   simp only [List.getElem?_toArray,List.getElem?_cons_zero,List.getElem?_cons_succ] at e0 e1
   have HQ5:=hid hq5
   have HCA:=hid hca
   have HFA:=hid hfa
   have HOA:=hid hoa
   have H5:=hid hb5
   have HWR:=hid (show w.heap.size < wr.heap.size from hgl)
   subst hA
   clear hy hbl hc d0 d1 hat hkk hca hfa hoa hna hb5 hq5
   go_wp2_with (fail)
   refine (key_edge a t w5).mono ?_
   rintro e w6 ⟨rfl,hb6⟩
   have hs6:=hb6.size
   have h56 : Below wr.heap.size wr w6:=H5.out.trans (hb6.mono (by omega))
   have HY6:=hid (HY.out.below h56)
   have HB6:=hid (HB.out.trans (h56.mono (by omega)))
   have hq6:=HQ5.out.below hb6 (by omega)
   have HQ6:=hid hq6
   have hca6:=hid ((h56.cell (p:=⟨w.heap.size,a,none⟩) hgl).trans HCA.out)
   have hfa6:=hid ((h56.frozen (p:=⟨w.heap.size,a,none⟩) hgl).trans HFA.out)
   have hoa6:=hid (ownsRow_keep HOA.out fun x e=>h56.block x (HLOW.out x e).2)
   clear HCA HFA HOA
   have HCA:=hca6
   have HFA:=hfa6
   have HOA:=hoa6
   have HGN:=hid (show w.heap.size < w6.heap.size by omega)
   have HZ6:=hid (show wr.heap.size≤w6.heap.size by omega)
   have i1 : (0 : Int)≤(a : Int):=Int.natCast_nonneg _
   have i2 : (a : Int) < (N : Int):=by omega
   obtain ⟨i0,hi0,hz0,hz1,hz2⟩:=info_parts infoEdge
   clear hb6 h56 e0 e1 hq6 hca6 hfa6 hoa6
   go_wp2_with (fail)
   obtain ⟨wd,hwd⟩ : ∃ wd,w6.drew = wd:=⟨_,rfl⟩
   have hBx : Below w6.heap.size w6 wd:=by rw [← hwd];exact (Below.refl _ _).drew
   have hQW : Blk wd wr.heap.size 81 #[.int .i64 (a : Int),.int .i64 (t : Int)]:=by rw [← hwd];exact HQ6.out.drew
   refine wp_region_held_drew (S:=fun W=>Blk W wr.heap.size 81 #[.int .i64 (a : Int),.int .i64 (t : Int)]) (by kernel_rfl) (by rw [hwd];exact hQW) (fun hHeld=>?_)
   rw [hwd] at hHeld ⊢
   refine wpAnyH_take (i:=0) (oi:=⟨some 22,.move (.tmp 7),94,"states.go:11",#[],none⟩) (v:=?_) rfl (by kernel_rfl) (by kernel_rfl) (by kernel_rfl) (fun _ _ _ h=>h) (Or.inl ⟨by rfl,?_⟩) (by assumption) ?_
   rotate_left
   ·intro w' hSw
    (try dsimp only at hSw)
    go_simp
    all_goals with_reducible rfl
   try simp only [Act.put,List.setIfInBounds_toArray,List.set_cons_zero,List.set_cons_succ]
   refine wpAnyH_take (i:=1) (oi:=⟨some 23,.move (.tmp 10),3,"states.go:11",#[],none⟩) (v:=?_) rfl (by kernel_rfl) (by kernel_rfl) (by kernel_rfl) (fun _ _ _ h=>h) (Or.inl ⟨by rfl,?_⟩) (by assumption) ?_
   rotate_left
   ·intro w' hSw
    (try dsimp only at hSw)
    go_simp
    all_goals with_reducible rfl
   try simp only [Act.put,List.setIfInBounds_toArray,List.set_cons_zero,List.set_cons_succ]
   refine wpAnyH_take (i:=2) (oi:=⟨some 24,.move (.tmp 7),94,"states.go:11",#[],none⟩) (v:=?_) rfl (by kernel_rfl) (by kernel_rfl) (by kernel_rfl) (fun _ _ _ h=>h) (Or.inl ⟨by rfl,?_⟩) (by assumption) ?_
   rotate_left
   ·intro w' hSw
    (try dsimp only at hSw)
    go_simp
    all_goals with_reducible rfl
   try simp only [Act.put,List.setIfInBounds_toArray,List.set_cons_zero,List.set_cons_succ]
   refine wpAnyH_take (i:=3) (oi:=⟨some 25,.move (.tmp 10),3,"states.go:11",#[],none⟩) (v:=?_) rfl (by kernel_rfl) (by kernel_rfl) (by kernel_rfl) (fun _ _ _ h=>h) (Or.inl ⟨by rfl,?_⟩) (by assumption) ?_
   rotate_left
   ·intro w' hSw
    (try dsimp only at hSw)
    go_simp
    all_goals with_reducible rfl
   try simp only [Act.put,List.setIfInBounds_toArray,List.set_cons_zero,List.set_cons_succ]
   refine wpAnyH_take (i:=4) (oi:=⟨some 26,.indexAddr 94 (.tmp 24) (.tmp 25),0,"states.go:11",#[⟨2,.data⟩,⟨3,.data⟩],none⟩) (v:=?_) rfl (by kernel_rfl) (by kernel_rfl) (by kernel_rfl) (fun _ _ _ h=>h) (Or.inl ⟨by rfl,?_⟩) (by assumption) ?_
   rotate_left
   ·intro w' hSw
    (try dsimp only at hSw)
    go_simp
    all_goals with_reducible rfl
   try simp only [Act.put,List.setIfInBounds_toArray,List.set_cons_zero,List.set_cons_succ]
   refine wpAnyH_take (i:=6) (oi:=⟨some 28,.load 81 (.tmp 9),81,"states.go:11",#[],none⟩) (v:=?_) rfl (by kernel_rfl) (by kernel_rfl) (by kernel_rfl) (fun _ _ _ h=>h) (Or.inl ⟨by rfl,?_⟩) (by assumption) ?_
   rotate_left
   ·intro w' hSw
    (try dsimp only at hSw)
    have l0:=hSw.cell 0
    have l1:=hSw.cell 1
    simp only [List.getElem?_toArray,List.getElem?_cons_zero,List.getElem?_cons_succ] at l0 l1
    go_simp
    all_goals with_reducible rfl
   try simp only [Act.put,List.setIfInBounds_toArray,List.set_cons_zero,List.set_cons_succ]
   refine wpAnyH_ready (rs:=[5,7]) (by kernel_rfl) (by simp) ?_
   refine (AllReadyH.cons (o:=⟨some 27,.load 79 (.tmp 26),79,"states.go:11",#[⟨4,.data⟩],none⟩) rfl (fun K hK=>?_) (AllReadyH.cons (o:=⟨some 29,.buildSlice 79 1 #[(0,.tmp 28)],79,"states.go:11",#[⟨6,.data⟩],none⟩) rfl (fun K hK=>?_) AllReadyH.nil))
   ·have hcl : wd.cell? ⟨w.heap.size,a,none⟩ = some (.slice Aa na ca):=(hBx.cell (p:=⟨w.heap.size,a,none⟩) HGN.out).trans HCA.out
    go_simp
    clear hcl
    refine hK.out _ _ ?_ (fun hHeld=>?_)
    ·exact hQW
    clear hK K
    try simp only [Act.put,List.setIfInBounds_toArray,List.set_cons_zero,List.set_cons_succ]
    refine wpAnyH_ready (rs:=[7]) (by kernel_rfl) (by simp) ?_
    refine (AllReadyH.cons (o:=⟨some 29,.buildSlice 79 1 #[(0,.tmp 28)],79,"states.go:11",#[⟨6,.data⟩],none⟩) rfl (fun K hK=>?_) AllReadyH.nil)
    ·obtain ⟨ws,hws,hqs,hls,hbS⟩:=new_cells wd #[.int .i64 (a : Int),.int .i64 (t : Int)] 81
     have hQW:=hQW.below hbS hQW.lt
     have hBx:=below_nextD hBx hbS
     go_simp
     try rw [hws]
     refine hK.out _ _ ?_ (fun hHeld=>?_)
     ·exact hQW
     clear hK K
     try simp only [Act.put,List.setIfInBounds_toArray,List.set_cons_zero,List.set_cons_succ]
     refine wpAnyH_ready (rs:=[8]) (by kernel_rfl) (by simp) ?_
     refine (AllReadyH.cons (o:=⟨some 30,.call { callee:=.builtin .append,args:=#[.tmp 27,.tmp 29],argTypes:=#[79,79] },79,"states.go:11",#[⟨5,.data⟩,⟨7,.data⟩],none⟩) rfl (fun K hK=>?_) AllReadyH.nil)
     ·have hszW:=hBx.size
      have hoW:=ownsRow_keep HOA.out (fun x e=>hBx.block x (Nat.lt_of_lt_of_le (HLOW.out x e).2 HZ6.out))
      (refine step_append_lies _ (by rfl) _ _ _ (by rfl) (w.heap.size + 1) 81 i0 _ 2 16 Tryz.underlying79 hi0 hz0 hz1 hz2 rfl (by omega) (.slice Aa na ca) na _ (by rfl) hoW ⟨wd.heap.size,0,none⟩ 1 1 [.int .i64 (a : Int),.int .i64 (t : Int)] (by rfl) (by rfl) (World.news_of_block (cs:=#[.int .i64 (a : Int),.int .i64 (t : Int)]) (t:=81) (fr:=(0,0)) hqs) (by simp [Value.oneCell']) (by omega) (by simp only [maxLen];omega) (by omega) (by omega) (ws.heap.size) rfl ?_;intro gg capg w9 hown9 hg9 hat9 hlt9)
      have hQW:=Blk_keep hQW (hg9.block wr.heap.size hQW.lt (fun e=>by have:=(HLOW.out wr.heap.size e.symm).2;omega))
      refine hK.out _ _ ?_ (fun hHeld=>?_)
      ·exact hQW
      clear hK K
      try simp only [Act.put,List.setIfInBounds_toArray,List.set_cons_zero,List.set_cons_succ]
      have hgN:=HGN.out
      have hne : some w.heap.size≠(Value.slice Aa na ca).ownBlock:=fun e=>by have:=(HLOW.out w.heap.size e.symm).1;omega
      have k1 : w9.cell? ⟨w.heap.size,a,none⟩ = some (.slice Aa na ca):=(World.cell?_of_block (a:=⟨w.heap.size,a,none⟩) (hg9.block w.heap.size (by omega) hne)).trans ((hBx.cell (p:=⟨w.heap.size,a,none⟩) HGN.out).trans HCA.out)
      have k2 : w9.frozen? ⟨w.heap.size,a,none⟩ = false:=(World.frozen?_of_block (a:=⟨w.heap.size,a,none⟩) (hg9.block w.heap.size (by omega) hne)).trans ((hBx.frozen (p:=⟨w.heap.size,a,none⟩) HGN.out).trans HFA.out)
      obtain ⟨wz,hwz⟩ : ∃ wz,w9.setCell ⟨w.heap.size,a,none⟩ (.slice (some ⟨gg,0,none⟩) (na + 1) capg) = wz:=⟨_,rfl⟩
      have HYZ:=hid (show OwnsY 2 encE 79 81 wz w.heap.size (w.heap.size + 1) N (byL Prod.fst (l.take (k + 1))) by
       rw [← hwz,List.take_succ_eq_append_getElem HLT.out,HE.out,byL_more]
       refine (HY6.out.below hBx).longer (by omega) HAN.out (A:=Aa) (c:=ca) (by rw [HNA.out];exact (hBx.cell (p:=⟨w.heap.size,a,none⟩) HGN.out).trans HCA.out) (a,t) (by rw [HNA.out];exact hown9) (by rw [HNA.out];exact hg9) ?_
       rw [HNA.out]
       rcases hat9 with q | q
       ·exact .inl (by rw [q];rfl)
       ·exact .inr ⟨gg,rfl,by omega⟩)
      have HBZ:=hid (show Below w.heap.size w wz by
       rw [← hwz]
       exact ((HB6.out.trans (hBx.mono (by omega))).grown hg9 (by omega) (fun q e=>by have:=(HLOW.out q e).1;omega)).setCell (p:=⟨w.heap.size,a,none⟩) (Nat.le_refl _) _)
      have hQZ:=Blk_keep hQW (show wz.heap[wr.heap.size]? = w9.heap[wr.heap.size]? by rw [← hwz];exact heap_setCell_other w9 ⟨w.heap.size,a,none⟩ wr.heap.size _ (show wr.heap.size≠w.heap.size by have:=HWR.out;omega))
      refine wpAnyH_take (i:=9) (oi:=⟨some 31,.indexAddr 94 (.tmp 22) (.tmp 23),0,"states.go:11",#[⟨0,.data⟩,⟨1,.data⟩,⟨0,.phase⟩,⟨1,.phase⟩,⟨2,.phase⟩,⟨3,.phase⟩,⟨4,.phase⟩,⟨5,.phase⟩,⟨6,.phase⟩,⟨7,.phase⟩,⟨8,.phase⟩],none⟩) (v:=?_) rfl (by kernel_rfl) (by kernel_rfl) (by kernel_rfl) (fun _ _ _ h=>h) (Or.inl ⟨by rfl,?_⟩) (by assumption) ?_
      rotate_left
      ·intro w' hSw
       (try dsimp only at hSw)
       go_simp
       all_goals with_reducible rfl
      try simp only [Act.put,List.setIfInBounds_toArray,List.set_cons_zero,List.set_cons_succ]
      refine wpAnyH_ready (rs:=[10]) (by kernel_rfl) (by simp) ?_
      refine AllReadyH.cons (o:=⟨none,.store 79 (.tmp 31) (.tmp 30),0,"states.go:11",#[⟨9,.data⟩,⟨8,.data⟩,⟨8,.chain⟩,⟨0,.phase⟩,⟨1,.phase⟩,⟨2,.phase⟩,⟨3,.phase⟩,⟨4,.phase⟩,⟨5,.phase⟩,⟨6,.phase⟩,⟨7,.phase⟩,⟨8,.phase⟩],none⟩) rfl (fun K hK=>?_) AllReadyH.nil
      go_simp
      try rw [hwz]
      have hQW:=hQZ
      refine hK.out _ _ ?_ (fun hHeld=>?_)
      ·exact hQW
      clear hK K
      try simp only [Act.put,List.setIfInBounds_toArray,List.set_cons_zero,List.set_cons_succ]
      refine wpAnyH_done (by kernel_rfl) ?_ _
      clear k1 k2 hQW hQZ hown9 hat9 hg9
      go_wp2_with (fail)
      go_roundw
      case rel=>exact ⟨k + 1,by omega,by go_num,HYZ.out,HBZ.out⟩
      case measure=>simp [intOf];omega
   ·obtain ⟨ws,hws,hqs,hls,hbS⟩:=new_cells wd #[.int .i64 (a : Int),.int .i64 (t : Int)] 81
    have hQW:=hQW.below hbS hQW.lt
    have hBx:=below_nextD hBx hbS
    go_simp
    try rw [hws]
    refine hK.out _ _ ?_ (fun hHeld=>?_)
    ·exact hQW
    clear hK K
    try simp only [Act.put,List.setIfInBounds_toArray,List.set_cons_zero,List.set_cons_succ]
    refine wpAnyH_ready (rs:=[5]) (by kernel_rfl) (by simp) ?_
    refine (AllReadyH.cons (o:=⟨some 27,.load 79 (.tmp 26),79,"states.go:11",#[⟨4,.data⟩],none⟩) rfl (fun K hK=>?_) AllReadyH.nil)
    ·have hcl : ws.cell? ⟨w.heap.size,a,none⟩ = some (.slice Aa na ca):=(hBx.cell (p:=⟨w.heap.size,a,none⟩) HGN.out).trans HCA.out
     go_simp
     clear hcl
     refine hK.out _ _ ?_ (fun hHeld=>?_)
     ·exact hQW
     clear hK K
     try simp only [Act.put,List.setIfInBounds_toArray,List.set_cons_zero,List.set_cons_succ]
     refine wpAnyH_ready (rs:=[8]) (by kernel_rfl) (by simp) ?_
     refine (AllReadyH.cons (o:=⟨some 30,.call { callee:=.builtin .append,args:=#[.tmp 27,.tmp 29],argTypes:=#[79,79] },79,"states.go:11",#[⟨5,.data⟩,⟨7,.data⟩],none⟩) rfl (fun K hK=>?_) AllReadyH.nil)
     ·have hszW:=hBx.size
      have hoW:=ownsRow_keep HOA.out (fun x e=>hBx.block x (Nat.lt_of_lt_of_le (HLOW.out x e).2 HZ6.out))
      (refine step_append_lies _ (by rfl) _ _ _ (by rfl) (w.heap.size + 1) 81 i0 _ 2 16 Tryz.underlying79 hi0 hz0 hz1 hz2 rfl (by omega) (.slice Aa na ca) na _ (by rfl) hoW ⟨wd.heap.size,0,none⟩ 1 1 [.int .i64 (a : Int),.int .i64 (t : Int)] (by rfl) (by rfl) (World.news_of_block (cs:=#[.int .i64 (a : Int),.int .i64 (t : Int)]) (t:=81) (fr:=(0,0)) hqs) (by simp [Value.oneCell']) (by omega) (by simp only [maxLen];omega) (by omega) (by omega) (ws.heap.size) rfl ?_;intro gg capg w9 hown9 hg9 hat9 hlt9)
      have hQW:=Blk_keep hQW (hg9.block wr.heap.size hQW.lt (fun e=>by have:=(HLOW.out wr.heap.size e.symm).2;omega))
      refine hK.out _ _ ?_ (fun hHeld=>?_)
      ·exact hQW
      clear hK K
      try simp only [Act.put,List.setIfInBounds_toArray,List.set_cons_zero,List.set_cons_succ]
      have hgN:=HGN.out
      have hne : some w.heap.size≠(Value.slice Aa na ca).ownBlock:=fun e=>by have:=(HLOW.out w.heap.size e.symm).1;omega
      have k1 : w9.cell? ⟨w.heap.size,a,none⟩ = some (.slice Aa na ca):=(World.cell?_of_block (a:=⟨w.heap.size,a,none⟩) (hg9.block w.heap.size (by omega) hne)).trans ((hBx.cell (p:=⟨w.heap.size,a,none⟩) HGN.out).trans HCA.out)
      have k2 : w9.frozen? ⟨w.heap.size,a,none⟩ = false:=(World.frozen?_of_block (a:=⟨w.heap.size,a,none⟩) (hg9.block w.heap.size (by omega) hne)).trans ((hBx.frozen (p:=⟨w.heap.size,a,none⟩) HGN.out).trans HFA.out)
      obtain ⟨wz,hwz⟩ : ∃ wz,w9.setCell ⟨w.heap.size,a,none⟩ (.slice (some ⟨gg,0,none⟩) (na + 1) capg) = wz:=⟨_,rfl⟩
      have HYZ:=hid (show OwnsY 2 encE 79 81 wz w.heap.size (w.heap.size + 1) N (byL Prod.fst (l.take (k + 1))) by
       rw [← hwz,List.take_succ_eq_append_getElem HLT.out,HE.out,byL_more]
       refine (HY6.out.below hBx).longer (by omega) HAN.out (A:=Aa) (c:=ca) (by rw [HNA.out];exact (hBx.cell (p:=⟨w.heap.size,a,none⟩) HGN.out).trans HCA.out) (a,t) (by rw [HNA.out];exact hown9) (by rw [HNA.out];exact hg9) ?_
       rw [HNA.out]
       rcases hat9 with q | q
       ·exact .inl (by rw [q];rfl)
       ·exact .inr ⟨gg,rfl,by omega⟩)
      have HBZ:=hid (show Below w.heap.size w wz by
       rw [← hwz]
       exact ((HB6.out.trans (hBx.mono (by omega))).grown hg9 (by omega) (fun q e=>by have:=(HLOW.out q e).1;omega)).setCell (p:=⟨w.heap.size,a,none⟩) (Nat.le_refl _) _)
      have hQZ:=Blk_keep hQW (show wz.heap[wr.heap.size]? = w9.heap[wr.heap.size]? by rw [← hwz];exact heap_setCell_other w9 ⟨w.heap.size,a,none⟩ wr.heap.size _ (show wr.heap.size≠w.heap.size by have:=HWR.out;omega))
      refine wpAnyH_take (i:=9) (oi:=⟨some 31,.indexAddr 94 (.tmp 22) (.tmp 23),0,"states.go:11",#[⟨0,.data⟩,⟨1,.data⟩,⟨0,.phase⟩,⟨1,.phase⟩,⟨2,.phase⟩,⟨3,.phase⟩,⟨4,.phase⟩,⟨5,.phase⟩,⟨6,.phase⟩,⟨7,.phase⟩,⟨8,.phase⟩],none⟩) (v:=?_) rfl (by kernel_rfl) (by kernel_rfl) (by kernel_rfl) (fun _ _ _ h=>h) (Or.inl ⟨by rfl,?_⟩) (by assumption) ?_
      rotate_left
      ·intro w' hSw
       (try dsimp only at hSw)
       go_simp
       all_goals with_reducible rfl
      try simp only [Act.put,List.setIfInBounds_toArray,List.set_cons_zero,List.set_cons_succ]
      refine wpAnyH_ready (rs:=[10]) (by kernel_rfl) (by simp) ?_
      refine AllReadyH.cons (o:=⟨none,.store 79 (.tmp 31) (.tmp 30),0,"states.go:11",#[⟨9,.data⟩,⟨8,.data⟩,⟨8,.chain⟩,⟨0,.phase⟩,⟨1,.phase⟩,⟨2,.phase⟩,⟨3,.phase⟩,⟨4,.phase⟩,⟨5,.phase⟩,⟨6,.phase⟩,⟨7,.phase⟩,⟨8,.phase⟩],none⟩) rfl (fun K hK=>?_) AllReadyH.nil
      go_simp
      try rw [hwz]
      have hQW:=hQZ
      refine hK.out _ _ ?_ (fun hHeld=>?_)
      ·exact hQW
      clear hK K
      try simp only [Act.put,List.setIfInBounds_toArray,List.set_cons_zero,List.set_cons_succ]
      refine wpAnyH_done (by kernel_rfl) ?_ _
      clear k1 k2 hQW hQZ hown9 hat9 hg9
      go_wp2_with (fail)
      go_roundw
      case rel=>exact ⟨k + 1,by omega,by go_num,HYZ.out,HBZ.out⟩
      case measure=>simp [intOf];omega
  ·obtain rfl : k = l.length:=by omega
   rw [List.take_length] at hy
   have HY2:=hid hy
   clear hy hbl
   go_wp2_with (fail)
   go_ret
   exact ⟨rfl,HY2.out,HB.out⟩
inductive Reach (E : List (Nat × Nat)) (F : List Nat) : Nat → Prop
  | first {q : Nat} : q ∈ F → Reach E F q
  | step {e : Nat × Nat} : e ∈ E → Reach E F e.1 → Reach E F e.2
open Classical in
noncomputable def reachB (E : List (Nat × Nat)) (F : List Nat) (q : Nat) : Bool := decide (Reach E F q)
theorem reachB_iff {E : List (Nat × Nat)} {F : List Nat} {q : Nat} : reachB E F q = true ↔ Reach E F q := by
  unfold reachB
  simp
structure RInv (E : List (Nat × Nat)) (F : List Nat) (N : Nat) (m : List Bool) (t : List Nat) : Prop where
  len : m.length = N
  sound : ∀ q, m[q]? = some true → Reach E F q
  todo : ∀ q ∈ t, q < N ∧ Reach E F q
  fst : ∀ q ∈ F, m[q]? = some true ∨ q ∈ t
  edge : ∀ e ∈ E, m[e.1]? = some true → m[e.2]? = some true ∨ e.2 ∈ t
def rM (E : List (Nat × Nat)) (m : List Bool) (t : List Nat) : Nat := t.length + (E.filter fun e => m[e.1]? != some true).length
section
variable {E : List (Nat × Nat)} {F : List Nat} {N : Nat} {m : List Bool} {t : List Nat} {q : Nat}
theorem RInv.start (hF : ∀ q ∈ F, q < N) : RInv E F N (List.replicate N false) F := by
  have hno : ∀ q, (List.replicate N false)[q]? ≠ some true := fun q e => by
    obtain ⟨h, e⟩ := List.getElem?_eq_some_iff.1 e
    simp at e
  exact ⟨by simp, fun q e => absurd e (hno q), fun q h => ⟨hF q h, .first h⟩, fun q h => .inr h, fun e _ h => absurd h (hno _)⟩
theorem RInv.pop (h : RInv E F N m (t ++ [q])) (hq : m[q]? = some true) : RInv E F N m t :=
  ⟨h.len, h.sound, fun x hx => h.todo x (by simp [hx]), fun x hx => by
    rcases h.fst x hx with k | k
    · exact .inl k
    · rcases List.mem_append.1 k with k | k
      · exact .inr k
      · rw [List.mem_singleton.1 k]; exact .inl hq, fun e he hm => by
    rcases h.edge e he hm with k | k
    · exact .inl k
    · rcases List.mem_append.1 k with k | k
      · exact .inr k
      · rw [List.mem_singleton.1 k]; exact .inl hq⟩
theorem RInv.mark (h : RInv E F N m (t ++ [q])) (hE : ∀ e ∈ E, e.1 < N ∧ e.2 < N) : RInv E F N (m.set q true) (t ++ (byL Prod.fst E q).map Prod.snd) := by
  have hqq := h.todo q (by simp)
  have hset : ∀ x, (m.set q true)[x]? = some true ↔ x = q ∨ m[x]? = some true := fun x => by
    rw [List.getElem?_set]
    by_cases e : q = x
    · subst e
      simp [h.len, hqq.1]
    · rw [if_neg e]
      constructor
      · exact .inr
      · rintro (k | k)
        · exact absurd k.symm e
        · exact k
  have hin : ∀ x, x ∈ t ++ [q] → (m.set q true)[x]? = some true ∨ x ∈ t ++ (byL Prod.fst E q).map Prod.snd := fun x hx => by
    rcases List.mem_append.1 hx with k | k
    · exact .inr (List.mem_append.2 (.inl k))
    · exact .inl ((hset x).2 (.inl (List.mem_singleton.1 k)))
  refine ⟨by simp [h.len], fun x hx => ?_, fun x hx => ?_, fun x hx => ?_, fun e he hm => ?_⟩
  · rcases (hset x).1 hx with k | k
    · rw [k]; exact hqq.2
    · exact h.sound x k
  · rcases List.mem_append.1 hx with k | k
    · exact h.todo x (by simp [k])
    · obtain ⟨e, he, rfl⟩ := List.mem_map.1 k
      unfold byL at he
      obtain ⟨he1, he2⟩ := List.mem_filter.1 he
      have : e.1 = q := by simpa using he2
      exact ⟨(hE e he1).2, .step he1 (by rw [this]; exact hqq.2)⟩
  · rcases h.fst x hx with k | k
    · exact .inl ((hset x).2 (.inr k))
    · exact hin x k
  · rcases (hset e.1).1 hm with k | k
    · refine .inr (List.mem_append.2 (.inr (List.mem_map.2 ⟨e, ?_, rfl⟩)))
      unfold byL
      exact List.mem_filter.2 ⟨he, by simpa using k⟩
    · rcases h.edge e he k with k | k
      · exact .inl ((hset e.2).2 (.inr k))
      · exact hin _ k
theorem RInv.done (h : RInv E F N m []) : m = (List.range N).map (reachB E F) := by
  have hall : ∀ q, Reach E F q → m[q]? = some true := fun q hq => by
    induction hq with
    | first k => rcases h.fst _ k with k | k
                 · exact k
                 · cases k
    | step he _ ih => rcases h.edge _ he ih with k | k
                      · exact k
                      · cases k
  refine List.ext_getElem (by simp [h.len]) fun j h1 h2 => ?_
  simp only [List.getElem_map, List.getElem_range]
  cases e : m[j] with
  | true => exact (reachB_iff.2 (h.sound j (by rw [List.getElem?_eq_getElem h1, e]))).symm
  | false =>
    cases e2 : reachB E F j with
    | false => rfl
    | true =>
      have := hall j (reachB_iff.1 e2)
      rw [List.getElem?_eq_getElem h1, e] at this
      cases this
theorem rM_start (E : List (Nat × Nat)) (m : List Bool) (F : List Nat) : rM E m F ≤ F.length + E.length := by
  unfold rM
  have := List.length_filter_le (fun e : Nat × Nat => m[e.1]? != some true) E
  omega
theorem rM_pop (E : List (Nat × Nat)) (m : List Bool) (t : List Nat) (q : Nat) : rM E m (t ++ [q]) = rM E m t + 1 := by
  unfold rM
  simp
  omega
theorem filter_parts (m : List Bool) (q : Nat) (hq : m[q]? = some false) : ∀ E : List (Nat × Nat), (E.filter fun e => m[e.1]? != some true).length = (E.filter fun e => (m.set q true)[e.1]? != some true).length + (byL Prod.fst E q).length
  | [] => rfl
  | e :: E => by
    have ih := filter_parts m q hq E
    unfold byL at ih ⊢
    have hlt : q < m.length := (List.getElem?_eq_some_iff.1 hq).1
    by_cases e1 : e.1 = q
    · have h1 : (m[e.1]? != some true) = true := by rw [e1, hq]; rfl
      have h2 : ((m.set q true)[e.1]? != some true) = false := by rw [e1, List.getElem?_set]; simp [hlt]
      have h3 : (e.1 == q) = true := by simp [e1]
      simp only [List.filter_cons, h1, h2, h3, if_true, List.length_cons]
      simp
      omega
    · have h2 : ((m.set q true)[e.1]? != some true) = (m[e.1]? != some true) := by rw [List.getElem?_set, if_neg fun k => e1 k.symm]
      have h3 : (e.1 == q) = false := by simp [e1]
      simp only [List.filter_cons, h2, h3]
      cases (m[e.1]? != some true) <;> simp <;> omega
theorem rM_mark (hq : m[q]? = some false) : rM E m (t ++ [q]) = rM E (m.set q true) (t ++ (byL Prod.fst E q).map Prod.snd) + 1 := by
  unfold rM
  have := filter_parts m q hq E
  simp
  omega
theorem rM_len (E : List (Nat × Nat)) (m : List Bool) (t : List Nat) : t.length ≤ rM E m t := Nat.le_add_right _ _
end
end Go.Proofs.YtoofgpoeheponaaGreatDoor.Tr
namespace Go.Proofs.YtoofgpoeheponaaGreatDoor.Tr
open Go Go.RowKit Sp Pa Te Mi De
open Go.Lib (hid)
def boolV (l : List Bool) : List Value:=l.map .bool
theorem infoBool : (Tryz.prog.info? 4).map (fun i=>(i.zero,i.size,i.bytes)) = some (some (.bool false),1,1):=by kernel_rfl
theorem encE_at : ∀ (L : List (Nat × Nat)) (j : Nat) (h : j < L.length) (r : Nat),r < 2→(L.flatMap encE)[j * 2 + r]? = (encE L[j])[r]?
 | e :: L,0,_,r,hr=>by
  rw [List.flatMap_cons,List.getElem?_append_left (by simp [encE];omega)]
  simp
 | e :: L,j + 1,h,r,hr=>by
  rw [List.flatMap_cons,List.getElem?_append_right (by simp [encE];omega)]
  have:=encE_at L j (by simpa using h) r hr
  rw [show (j + 1) * 2 + r - (encE e).length = j * 2 + r by simp [encE];omega,this]
  rfl
structure MR (S N : Nat) (row : Option Nat) (wb : World) (v : Value) (t : List Nat) (m : List Bool) (wr : World) : Prop where
 todo : wr.ownsRow 0 3 1 v t.length (natV t)
 apart : v.ownBlock = row∨∃ y,v.ownBlock = some y∧S < y
 out : wr.ownsRow S 4 1 (.slice (some ⟨S,0,none⟩) N N) N (boolV m)
 grown : wb.grownBy wr row
 size : S = wb.heap.size
section
variable {S N : Nat} {row : Option Nat} {wb wr : World} {v : Value} {t : List Nat} {m : List Bool}
theorem MR.low (h : MR S N row wb v t m wr) : S < wr.heap.size:=(World.ownsRow.lt h.out S rfl).2
theorem MR.own_ne (h : MR S N row wb v t m wr) (hr : ∀ k,row = some k→k < S) : v.ownBlock = none∨v.ownBlock≠some S:=by
 rcases h.apart with e | ⟨y,e,hy⟩
 ·rw [e]
  cases row with
  | none=>exact .inl rfl
  | some k=>exact .inr fun q=>by injection q with q;have:=hr k rfl;omega
 ·rw [e]
  exact .inr fun q=>by injection q with q;omega
theorem MR.set (h : MR S N row wb v t m wr) (hr : ∀ k,row = some k→k < S) (q : Nat) (b : Bool) : MR S N row wb v t (m.set q b) (wr.setCell ⟨S,q,none⟩ (.bool b)):=by
 obtain ⟨h1,h2⟩:=World.ownsRow.stored h.out q (.bool b)
 refine ⟨World.ownsRow.kept h.todo h2 (h.own_ne hr),h.apart,?_,⟨h2.os.trans h.grown.os,h2.tape.trans h.grown.tape,h2.output.trans h.grown.output,Nat.le_trans h.grown.size h2.size,fun k hk hne=>(h2.block k (Nat.lt_of_lt_of_le hk h.grown.size) (fun e=>by injection e with e;have:=h.size;omega)).trans (h.grown.block k hk hne)⟩,h.size⟩
 unfold boolV at h1 ⊢
 rw [List.map_set]
 exact h1
theorem MR.pop {g n c q : Nat} (h : MR S N row wb (.slice (some ⟨g,0,none⟩) (n + 1) c) (t ++ [q]) m wr) (hn : t.length = n) : MR S N row wb (.slice (some ⟨g,0,none⟩) n c) t m wr:=by
 have h1:=h.todo
 rw [List.length_append,List.length_singleton,hn,show natV (t ++ [q]) = natV t ++ natV [q] by unfold natV;rw [List.map_append]] at h1
 refine ⟨?_,h.apart,h.out,h.grown,h.size⟩
 rw [hn]
 exact ownsRow_pop (by simp [natV,hn]) h1
theorem MR.below {w' : World} (h : MR S N row wb v t m wr) (hb : Below wr.heap.size wr w') : MR S N row wb v t m w':=by
 refine ⟨ownsRow_keep h.todo fun x e=>hb.block x (World.ownsRow.lt h.todo x e).2,h.apart,ownsRow_keep h.out fun x e=>hb.block x (World.ownsRow.lt h.out x e).2,⟨hb.os.trans h.grown.os,hb.tape.trans h.grown.tape,hb.output.trans h.grown.output,Nat.le_trans h.grown.size hb.size,fun k hk hne=>(hb.block k (Nat.lt_of_lt_of_le hk h.grown.size)).trans (h.grown.block k hk hne)⟩,h.size⟩
theorem MR.more {w9 : World} {v9 : Value} {x : Nat} (h : MR S N row wb v t m wr) (hr : ∀ k,row = some k→k < S) (hown : w9.ownsRow 0 3 1 v9 (t.length + 1) (natV t ++ [.int .i64 (x : Int)])) (hg : wr.grownBy w9 v.ownBlock) (hat : v9.ownBlock = v.ownBlock∨v9.ownBlock = some wr.heap.size) : MR S N row wb v9 (t ++ [x]) m w9:=by
 refine ⟨?_,?_,World.ownsRow.kept h.out hg (.inr fun e=>?_),⟨hg.os.trans h.grown.os,hg.tape.trans h.grown.tape,hg.output.trans h.grown.output,Nat.le_trans h.grown.size hg.size,fun k hk hne=>(hg.block k (Nat.lt_of_lt_of_le hk h.grown.size) (fun e=>?_)).trans (h.grown.block k hk hne)⟩,h.size⟩
 ·rw [List.length_append,List.length_singleton]
  unfold natV at hown ⊢
  rw [List.map_append]
  exact hown
 ·rcases hat with e | e
  ·rw [e];exact h.apart
  ·exact .inr ⟨_,e,h.low⟩
 ·rcases h.own_ne hr with k | k
  ·rw [k] at e;cases e
  ·exact k e.symm
 ·rcases h.apart with k2 | ⟨y,k2,hy⟩
  ·exact hne (e.trans k2)
  ·rw [k2] at e
   injection e with e
   have:=h.size
   omega
theorem MR.mark_at (h : MR S N row wb v t m wr) (hm : m.length = N) {q : Nat} (hq : q < N) : ∃ b,m[q]? = some b∧wr.cell? ⟨S,q,none⟩ = some (.bool b)∧wr.frozen? ⟨S,q,none⟩ = false:=by
 refine ⟨m[q]'(by omega),List.getElem?_eq_getElem _,?_,World.ownsRow.frozenAt h.out q⟩
 rw [World.ownsRow.cellAt h.out q (by omega)]
 unfold boolV
 rw [List.getElem?_map,List.getElem?_eq_getElem (by omega)]
 rfl
theorem MR.keepRow {w2 : World} {k2 : Nat} {e2 : TypeId} {v2 : Value} {n2 b2 : Nat} {xs : List Value} (h : MR S N row wb v t m w2) (hr : ∀ k,row = some k→k < b2) (ho : wb.ownsRow b2 e2 k2 v2 n2 xs) : w2.ownsRow b2 e2 k2 v2 n2 xs:=
 ownsRow_keep ho fun x e=>h.grown.block x (World.ownsRow.lt ho x e).2 fun k=>by have:=hr x k.symm;have:=(World.ownsRow.lt ho x e).1;omega
end
def RRel (S N : Nat) (row : Option Nat) (wb : World) (E : List (Nat × Nat)) (F : List Nat) (k : Nat) (v : Value) (wr : World) : Prop:=
 ∃ t m,MR S N row wb v t m wr∧RInv E F N m t∧rM E m t≤k∧k≤F.length + E.length
def IRel (S N : Nat) (row : Option Nat) (wb : World) (t : List Nat) (m : List Bool) (L : List (Nat × Nat)) (v iv : Value) (wr : World) : Prop:=
 ∃ j : Nat,j≤L.length∧iv = .int .i64 j∧MR S N row wb v (t ++ (L.take j).map Prod.snd) m wr
def ReachedOut (E : List (Nat × Nat)) (F : List Nat) (N : Nat) (row : Option Nat) (w : World) (e : Ending) (w' : World) : Prop:=
 ∃ S,w.heap.size≤S∧e = .returned (.slice (some ⟨S,0,none⟩) N N)∧w'.ownsRow S 4 1 (.slice (some ⟨S,0,none⟩) N N) N (boolV ((List.range N).map (reachB E F)))∧w.grownBy w' row
set_option maxHeartbeats 8000000 in
theorem reached_any (A : Option Addr) (c : Nat) (E : List (Nat × Nat)) (F : List Nat) (AF : Option Addr) (cF : Nat) (N : Nat) (w : World) (h : RK 2 encE w A E) (hF : w.ownsRow 0 3 1 (.slice AF F.length cF) F.length (natV F)) (hl : E.length≤8192) (hlF : F.length≤8192) (hN : 1≤N∧N≤1024) (hk : ∀ x∈E,x.1 < N∧x.2 < N) (hkF : ∀ q∈F,q < N) :
  Calls Tryz.prog 47 #[.int .i64 N,.slice AF F.length cF,.slice A E.length c] w (ReachedOut E F N (Value.slice AF F.length cF).ownBlock w):=by
 obtain ⟨i0,hi0,hz0,hz1,hz2⟩:=info_parts infoInt
 have HBY:=hid (by_edge A c E N w h (by omega) hN hk)
 obtain ⟨hN1,hN2⟩:=hN
 obtain ⟨row,hrow⟩ : ∃ row,(Value.slice AF F.length cF).ownBlock = row:=⟨_,rfl⟩
 have HROW:=hid hrow
 have hrl : ∀ k,row = some k→k < w.heap.size:=fun k e=>(World.ownsRow.lt hF k (hrow.trans e)).2
 have HRL:=hid hrl
 have HF:=hid hF
 have HK:=hid hk
 have HKF:=hid hkF
 rw [hrow]
 clear h hk hF hrow hrl hkF
 go_enter Tryz.func47,Tryz.ntmps47
 go_wp2_with (fail)
 refine HBY.out.mono ?_
 rintro e wb ⟨rfl,hy,hbw⟩
 have HY:=hid hy
 have HBW:=hid hbw
 have hszb:=hbw.size
 have hmk:=run_make_row' (P:=Tryz.prog) 38 4 (.bool false) 1 Tryz.underlying38 infoBool rfl .i64 .i64 N (by omega) (by omega) wb
 obtain ⟨S,hS⟩ : ∃ S,wb.heap.size = S:=⟨_,rfl⟩
 have HS:=hid hS.symm
 obtain ⟨w2,hw2⟩ : ∃ w2,wb.alloc (.cells (madeCells #[.bool false] N) 4) = w2:=⟨_,rfl⟩
 rw [hw2,hS] at hmk
 have hgb : w.heap.size < wb.heap.size:=by obtain ⟨vs,h1,_⟩:=hy;exact (World.ownsRow.lt h1 _ rfl).2
 have HM0:=hid (show MR S N row wb (.slice AF F.length cF) F (List.replicate N false) w2 from by
  refine ⟨?_,.inl HROW.out,?_,?_,HS.out⟩
  ·rw [← hw2]
   refine World.ownsRow.alloc (ownsRow_keep HF.out fun x e=>hbw.block x (World.ownsRow.lt HF.out x e).2) _
  ·have:=World.ownsRow_lit (base:=S) (e:=4) (size:=1) wb (madeCells #[.bool false] N) N (by omega) (by simp only [maxLen];omega) (by simp [madeCells])
   rw [toList_madeCells_one,hw2,hS] at this
   unfold boolV
   rw [List.map_replicate]
   exact this
  ·rw [← hw2];exact World.grownBy_alloc wb _ row)
 have HRS:=hid (show ∀ k,row = some k→k < S from fun k e=>by have:=HRL.out k e;omega)
 have hgS : w.heap.size < S:=by omega
 clear hy hbw
 go_wp2_with (fail)
 clear hmk
 go_loopg [9] (F.length + E.length) (fun k v wr=>RRel S N row wb E F k v wr)
 case atStart=>exact ⟨F,_,HM0.out,RInv.start HKF.out,rM_start _ _ _,Nat.le_refl _⟩
 case round=>
  obtain ⟨t,m,hm,hi,hle,hkk⟩:=hrel
  rcases List.eq_nil_or_concat t with e | ⟨t',q,e⟩
  ·subst e
   obtain ⟨Av,cv,hv⟩:=own_shape hm.todo
   subst hv
   have HM:=hid hm
   have HI:=hid hi
   clear hm hi
   simp only [List.length_nil]
   go_wp2_with (fail)
   go_ret
   exact ⟨S,by omega,rfl,by rw [← HI.out.done];exact HM.out.out,⟨HM.out.grown.os.trans HBW.out.os,HM.out.grown.tape.trans HBW.out.tape,HM.out.grown.output.trans HBW.out.output,Nat.le_trans hszb HM.out.grown.size,fun k hk hne=>(HM.out.grown.block k (Nat.lt_of_lt_of_le hk hszb) hne).trans (HBW.out.block k hk)⟩⟩
  ·rw [List.concat_eq_append] at e
   subst e
   obtain ⟨g,cv,hv,_,hgl⟩:=World.ownsRow.form hm.todo (by simp)
   subst hv
   obtain ⟨n,hn⟩ : ∃ n,t'.length = n:=⟨_,rfl⟩
   have hnl : n + 1≤16384:=by have:=rM_len E m (t' ++ [q]);simp at this;omega
   rw [List.length_append,List.length_singleton,hn] at hm ⊢
   have HN:=hid hn
   have HM:=hid hm
   have HI:=hid hi
   have hqq:=(hi.todo q (by simp)).1
   obtain ⟨b,hb,hcb,hfb⟩:=hm.mark_at hi.len hqq
   have HB:=hid hb
   have hct : wr.cell? ⟨g,n,none⟩ = some (.int .i64 (q : Int)):=by
    have ht:=hm.todo
    rw [List.length_append,List.length_singleton,hn] at ht
    rw [World.ownsRow.cellAt ht n (by omega)]
    simp [natV,hn]
   have hlw:=hm.low
   have hcap : (n : Int)≤(cv : Int)∧(cv : Int)≤9223372036854775807:=by
    rcases hm.todo.2 with ⟨h0,_⟩ | ⟨g',cap,cur,h0,_,_,h1,h2,_⟩
    ·cases h0
    ·simp only [maxLen] at h2
     simp only [Value.slice.injEq] at h0
     obtain ⟨_,h0l,h0c⟩:=h0
     omega
   obtain ⟨hcap,hcap2⟩:=hcap
   have hcap0 : (0 : Int)≤(n : Int):=Int.natCast_nonneg _
   clear hm hi hb hn
   have i1 : (0 : Int)≤(q : Int):=Int.natCast_nonneg _
   have i2 : (q : Int) < (N : Int):=by omega
   cases b
   ·go_upto_region 9 with (fail)
    obtain ⟨wz,hwz⟩ : ∃ wz,wr.setCell ⟨S,q,none⟩ (.bool true) = wz:=⟨_,rfl⟩
    have HMZ:=hid (show MR S N row wb (.slice (some ⟨g,0,none⟩) n cv) t' (m.set q true) wz by rw [← hwz];exact (HM.out.pop HN.out).set HRS.out q true)
    obtain ⟨A2,c2,hc2w,_,hg2,ho2⟩:=HY.out.at_ hqq
    have hc2:=HMZ.out.grown.cell hc2w (fun e=>by have:=HRL.out w.heap.size e.symm;omega)
    obtain ⟨L,hL⟩ : ∃ L,byL Prod.fst E q = L:=⟨_,rfl⟩
    have HL:=hid hL
    have hLl : L.length≤8192:=by
     rw [← hL]
     unfold byL
     exact Nat.le_trans (List.length_filter_le _ _) hl
    rw [hL] at hc2 ho2
    have HO2:=hid ho2
    clear hc2w ho2 hL
    rw [hwz]
    clear hcb hfb hct
    go_wp2_with (fail)
    go_loopw [9,45] (fun v iv wr=>IRel S N row wb t' (m.set q true) L v iv wr) (fun _ iv _=>L.length - (intOf iv).toNat)
    case atStart=>exact ⟨0,Nat.zero_le _,rfl,by simpa using HMZ.out⟩
    case round=>
     obtain ⟨j,hj,rfl,hmj⟩:=hrel
     by_cases hlt : j < L.length
     ·rename World=>wy
      have hoy:=hmj.keepRow (fun k e=>by have:=HRL.out k e;omega) HO2.out
      obtain ⟨b,c3,hA,_,hbl⟩:=World.ownsRow.form hoy (by omega)
      simp only [Value.slice.injEq] at hA
      obtain ⟨hA,-,-⟩:=hA
      subst hA
      obtain ⟨a,x,hax⟩ : ∃ a x,L[j] = (a,x):=⟨_,_,rfl⟩
      have HAX:=hid hax
      have d0:=(World.ownsRow.cellAt hoy (j * 2 + 0) (by omega)).trans (encE_at L j hlt 0 (by omega))
      have d1:=(World.ownsRow.cellAt hoy (j * 2 + 1) (by omega)).trans (encE_at L j hlt 1 (by omega))
      rw [hax] at d0 d1
      have d0' : wy.cell? ⟨b,j * 2,none⟩ = some (.int .i64 (a : Int)):=d0
      have d1' : wy.cell? ⟨b,j * 2 + 1,none⟩ = some (.int .i64 (x : Int)):=d1
      obtain ⟨Av,cw,hv⟩:=own_shape hmj.todo
      subst hv
      obtain ⟨T,hT⟩ : ∃ T,t' ++ (L.take j).map Prod.snd = T:=⟨_,rfl⟩
      have HT:=hid hT
      rw [hT] at hmj ⊢
      obtain ⟨nT,hnT⟩ : ∃ nT,T.length = nT:=⟨_,rfl⟩
      have HNT:=hid hnT
      have hnTl : nT≤24576:=by
       rw [← hnT,← hT]
       simp
       have:=HN.out
       omega
      obtain ⟨w5,hw5⟩ : ∃ w5,wy.alloc (.cells #[.int .i64 (a : Int),.int .i64 (x : Int)] 81) = w5:=⟨_,rfl⟩
      have hb5 : Below wy.heap.size wy w5:=by rw [← hw5];exact (Below.refl _ _).alloc (Nat.le_refl _) _
      have hq5 : Blk w5 wy.heap.size 81 #[.int .i64 (a : Int),.int .i64 (x : Int)]:=by rw [← hw5];exact heap_alloc_new wy _
      have e1:=hq5.cell 1
      simp only [List.getElem?_toArray,List.getElem?_cons_zero,List.getElem?_cons_succ] at e1
      have hs5 : w5.heap.size = wy.heap.size + 1:=by rw [← hw5];simp
      have HM5:=hid (hmj.below hb5)
      have HO5:=HM5.out.todo
      rw [hnT] at HO5 ⊢
      have HO5:=hid HO5
      have HLT:=hid hlt
      clear hmj hoy d0 d1 hax hT hnT hq5 hb5
      go_wp2_with (at_builtin;go_must (refine wpList_append_own_at _ rfl _ _ 34 rfl 0 3 i0 _ 1 8 Tryz.underlying34 hi0 hz0 hz1 hz2 rfl (by decide) (.slice Av nT cw) nT (natV T) rfl (HO5.out.alloc _) ⟨wy.heap.size + 1,0,none⟩ 1 1 [.int .i64 (x : Int)] rfl rfl ?c1 ?c2 ?c3 ?c4 ?c5 ?_))
      case c1=>
       have:=World.news_of_block (cs:=#[.int .i64 (x : Int)]) (t:=3) (fr:=(0,0)) (heap_alloc_new w5 (.cells #[.int .i64 (x : Int)] 3))
       rw [hs5] at this
       exact this
      case c2=>simp [Value.oneCell']
      case c3=>simp only [maxLen];omega
      case c4=>omega
      case c5=>simp
      intro v9 w9 hown9 hg9 _ hat9
      have HN9:=hid ((HM5.out.below ((Below.refl _ _).alloc (Nat.le_refl _) _)).more (x:=x) HRS.out (by rw [HNT.out];exact hown9) (by rw [HNT.out];exact hg9) (by rw [HNT.out];simpa [hs5] using hat9))
      clear hown9 hg9 hat9
      go_wp2_with (fail)
      go_roundw
      case rel=>exact ⟨j + 1,by omega,by go_num,by
       rw [List.take_succ_eq_append_getElem HLT.out,List.map_append,← List.append_assoc,HT.out,HAX.out]
       exact HN9.out⟩
      case measure=>simp [intOf];omega
     ·obtain rfl : j = L.length:=by omega
      rw [List.take_length] at hmj
      have HMJ:=hid hmj
      clear hmj
      go_wp2_with (fail)
      go_roundg (gk - 1)
      case measure=>
       have:=rM_pop E m t' q
       omega
      case rel=>
       have:=rM_mark (E:=E) (t:=t') HB.out
       rw [HL.out] at this
       exact ⟨_,_,HMJ.out,by rw [← HL.out];exact HI.out.mark HK.out,by omega,by omega⟩
   ·go_wp2_with (fail)
    go_roundg (gk - 1)
    case measure=>
     have:=rM_pop E m t' q
     omega
    case rel=>
     have:=rM_pop E m t' q
     exact ⟨t',m,HM.out.pop HN.out,HI.out.pop HB.out,by omega,by omega⟩
open Go.Lib (hid)
theorem RK.of_owns {w : World} {b : Nat} {e : TypeId} {A : Option Addr} {c : Nat} {L : List (Nat × Nat)} (h : w.ownsRow b e 2 (.slice A L.length c) L.length (L.flatMap encE)) : RK 2 encE w A L:=fun hn=>by
 obtain ⟨g,cap,hv,_,hl⟩:=World.ownsRow.form h hn
 simp only [Value.slice.injEq] at hv
 obtain ⟨rfl,-,-⟩:=hv
 exact ⟨g,0,rfl,hl,fun j hj r hr=>by
  show w.cell? ⟨g,0 + j * 2 + r,none⟩ = _
  rw [Nat.zero_add,World.ownsRow.cellAt h (j * 2 + r) (by omega),encE_at L j hj r hr]⟩
theorem reached_call (A : Option Addr) (c : Nat) (E : List (Nat × Nat)) (F : List Nat) (AF : Option Addr) (cF : Nat) (N nE nF : Nat) (w : World) (hE : E.length = nE) (hFl : F.length = nF) (h : RK 2 encE w A E) (hF : w.ownsRow 0 3 1 (.slice AF nF cF) nF (natV F)) (hl : E.length≤8192) (hlF : F.length≤8192) (hN : 1≤N∧N≤1024) (hk : ∀ x∈E,x.1 < N∧x.2 < N) (hkF : ∀ q∈F,q < N) :
  Calls Tryz.prog 47 #[.int .i64 N,.slice AF nF cF,.slice A nE c] w (ReachedOut E F N (Value.slice AF nF cF).ownBlock w):=by
 subst hE hFl
 exact reached_any A c E F AF cF N w h hF hl hlF hN hk hkF
def ToldOut (f : Nat→Bool) (N : Nat) (w : World) (e : Ending) (w' : World) : Prop:=
 ∃ S,w.heap.size≤S∧e = .returned (.slice (some ⟨S,0,none⟩) N N)∧w'.ownsRow S 4 1 (.slice (some ⟨S,0,none⟩) N N) N (boolV ((List.range N).map f))∧Below w.heap.size w w'
theorem ReachedOut.told {E : List (Nat × Nat)} {F : List Nat} {N : Nat} {row : Option Nat} {w wr w' : World} {e : Ending} (h : ReachedOut E F N row wr e w') (hb : Below w.heap.size w wr) (hr : ∀ k,row = some k→w.heap.size≤k) : ToldOut (reachB E F) N w e w':=by
 obtain ⟨S,h1,h2,h3,h4⟩:=h
 exact ⟨S,Nat.le_trans hb.size h1,h2,h3,hb.grown h4 hb.size hr⟩
theorem lit_low {g b : Nat} (h : b≤g) (n c : Nat) : ∀ k,(Value.slice (some ⟨g,0,none⟩) n c).ownBlock = some k→b≤k:=fun k e=>by
 simp [Value.ownBlock] at e
 omega
def edgB (r : RuL) : Nat × Nat:=((edg r).2,(edg r).1)
theorem snoc_own {w : World} {b : Nat} {v : Value} {k a t : Nat} {es : List (Nat × Nat)} {e : Nat × Nat} (he : e = (a,t)) (h : w.ownsRow b 81 2 v (k + 1) (es.flatMap encE ++ [.int .i64 (a : Int),.int .i64 (t : Int)])) : w.ownsRow b 81 2 v (k + 1) ((es ++ [e]).flatMap encE):=by
 rw [List.flatMap_append,he]
 simpa [encE] using h
def TrRel (ed : RuL→Nat × Nat) (N : Nat) (i o s : Int) (A : Option Addr) (cr : Nat) (Bf : Option Addr) (f cf : Nat) (rs : List RuL) (w : World) (v iv : Value) (wr : World) : Prop:=
 ∃ k : Nat,k≤rs.length∧iv = .int .i64 k∧wr.ownsRow (w.heap.size + 1) 81 2 v k (((rs.take k).map ed).flatMap encE)∧Below w.heap.size w wr∧w.heap.size < wr.heap.size∧DB wr w.heap.size i o (N : Int) s A rs.length cr Bf f cf
noncomputable def comesF (rs : List RuL) (sn : Nat) : Nat→Bool:=reachB (rs.map edg) [sn]
set_option maxHeartbeats 8000000 in
theorem comes_any (N : Nat) (i o : Int) (sn : Nat) (A : Option Addr) (cr : Nat) (Bf : Option Addr) (cf : Nat) (rs : List RuL) (fs : List FiL) (w : World) (h : RRu w A rs.length rs) (hff : RFi w Bf fs.length fs) (hl : rs.length≤4096) (hlf : fs.length≤1024) (hN : 1≤N∧N≤1024) (hsn : sn < N) (hst : ∀ j (hj : j < rs.length),stB N rs[j].frm = true∧stB N rs[j].to_ = true) (hsf : ∀ j (hj : j < fs.length),stB N fs[j].frm = true) :
  Calls Tryz.prog 32 #[dsc i o (N : Int) (sn : Int) A rs.length cr Bf fs.length cf] w (ToldOut (comesF rs sn) N w):=by
 obtain ⟨i0,hi0,hz0,hz1,hz2⟩:=info_parts infoInt
 obtain ⟨i1,hi1,hy0,hy1,hy2⟩:=info_parts infoEdge
 obtain ⟨hN1,hN2⟩:=hN
 obtain ⟨nf,hnf⟩ : ∃ nf,fs.length = nf:=⟨_,rfl⟩
 rw [hnf]
 have HNF:=hid hnf
 obtain ⟨w0,hw0⟩ : ∃ w0,w.alloc (.cells #[.int .i64 i,.int .i64 o,.int .i64 (N : Int),.int .i64 (sn : Int),.slice A rs.length cr,.slice Bf nf cf] 26) = w0:=⟨_,rfl⟩
 have hs0 : w0.heap.size = w.heap.size + 1:=by rw [← hw0];simp
 have hb0 : Below w.heap.size w w0:=by rw [← hw0];exact (Below.refl _ _).alloc (Nat.le_refl _) _
 have hd0 : DB w0 w.heap.size i o N sn A rs.length cr Bf nf cf:=by rw [← hw0];exact DB.boxed
 have HRL:=hid (show TrRel edg N i o sn A cr Bf nf cf rs w (.slice none 0 0) (.int .i64 (0 : Nat)) w0 from ⟨0,Nat.zero_le _,rfl,World.ownsRow_nil _ _ _ _,hb0,by omega,hd0⟩)
 have H:=hid h
 have HFF:=hid hff
 have HST:=hid hst
 have HSF:=hid hsf
 obtain ⟨p0,p1,p2,p3,p4,p5⟩:=hd0
 have hlf2 : nf≤1024:=by omega
 clear h hff hst hsf hb0 hnf hlf
 go_enter Tryz.func32,Tryz.ntmps32
 go_wp2_with (fail)
 go_loopw [3,9] (fun v iv wr=>TrRel edg N i o sn A cr Bf nf cf rs w v iv wr) (fun _ iv _=>rs.length - (intOf iv).toNat)
 case atStart=>exact HRL.out
 case round=>
  obtain ⟨k,hk,rfl,hv,hbl,hgw,hdb⟩:=hrel
  obtain ⟨Av,cv,hvs⟩:=own_shape hv
  subst hvs
  have HB:=hid hbl
  have HV:=hid hv
  have HD:=hid hdb
  by_cases hlt : k < rs.length
  ·obtain ⟨b,off,A',c',A2,c2,hA,hbB,d0,d1,d2,d3,d4,_,_⟩:=(H.out.belowM hbl).at_ hlt
   obtain ⟨a,ha,haN⟩ : ∃ a : Nat,rs[k].frm = (a : Int)∧a < N:=by
    have:=of_decide_eq_true (HST.out k hlt).1
    exact ⟨rs[k].frm.toNat,by omega,by omega⟩
   obtain ⟨t,ht,htN⟩ : ∃ t : Nat,rs[k].to_ = (t : Int)∧t < N:=by
    have:=of_decide_eq_true (HST.out k hlt).2
    exact ⟨rs[k].to_.toNat,by omega,by omega⟩
   have HED:=hid (show edg rs[k] = (a,t) by unfold  edg;rw [ha,ht];rfl)
   rw [ha] at d0
   rw [ht] at d1
   obtain ⟨g,hg⟩ : ∃ g,rs[k].gs.length = g:=⟨_,rfl⟩
   obtain ⟨no,hno⟩ : ∃ no,rs[k].out.length = no:=⟨_,rfl⟩
   obtain ⟨ea,hea⟩ : ∃ ea,rs[k].eat = ea:=⟨_,rfl⟩
   rw [hg] at d2
   rw [hea] at d3
   rw [hno] at d4
   have HLT:=hid hlt
   obtain ⟨w5,hw5⟩ : ∃ w5,wr.alloc (.cells #[.int .i64 (a : Int),.int .i64 (t : Int),.slice A' g c',.int .i64 ea,.slice A2 no c2] 50) = w5:=⟨_,rfl⟩
   have hs5 : w5.heap.size = wr.heap.size + 1:=by rw [← hw5];simp
   have hb5 : Below wr.heap.size wr w5:=by rw [← hw5];exact (Below.refl _ _).alloc (Nat.le_refl _) _
   have hrb : RB w5 wr.heap.size a t A' g c' ea A2 no c2:=by rw [← hw5];exact RB.boxed
   have HV5:=hid (ownsRow_keep hv fun x e=>hb5.block x (World.ownsRow.lt hv x e).2)
   have HB5:=hid (hbl.trans (hb5.mono (by omega)))
   have HD5:=hid (hdb.below hgw hb5)
   obtain ⟨r0,r1,r2,r3,r4⟩:=hrb
   subst hA
   clear hv hbl hdb hg hno hea ha ht hb5
   go_wp2_with (at_builtin;go_must (refine wpList_append_own_at _ rfl _ _ 79 rfl (w.heap.size + 1) 81 i1 _ 2 16 Tryz.underlying79 hi1 hy0 hy1 hy2 rfl (by decide) (.slice Av k cv) k (((rs.take k).map edg).flatMap encE) rfl (HV5.out.alloc _) ⟨wr.heap.size + 1,0,none⟩ 1 1 [.int .i64 (a : Int),.int .i64 (t : Int)] rfl rfl ?c1 ?c2 ?c3 ?c4 ?c5 ?_))
   case c1=>
    have:=World.news_of_block (cs:=#[.int .i64 (a : Int),.int .i64 (t : Int)]) (t:=81) (fr:=(0,0)) (heap_alloc_new w5 (.cells #[.int .i64 (a : Int),.int .i64 (t : Int)] 81))
    rw [hs5] at this
    exact this
   case c2=>simp [Value.oneCell']
   case c3=>simp only [maxLen];omega
   case c4=>omega
   case c5=>simp;omega
   intro v9 w9 hown9 hg9 _ hat9
   have hlow : ∀ q,(Value.slice Av k cv).ownBlock = some q→w.heap.size + 1≤q:=fun q e=>(World.ownsRow.lt HV5.out q e).1
   have hbA : Below (w.heap.size + 1) w5 w9:=(((Below.refl _ _).alloc (by omega) _)).grown hg9 (by simp;omega) hlow
   have HN9:=hid (show TrRel edg N i o sn A' cr Bf nf cf rs w v9 (.int .i64 ((k + 1 : Nat) : Int)) w9 = TrRel edg N i o sn A' cr Bf nf cf rs w v9 (.int .i64 ((k + 1 : Nat) : Int)) w9 from rfl)
   have HO9:=hid (show w9.ownsRow (w.heap.size + 1) 81 2 v9 (k + 1) (((rs.take (k + 1)).map edg).flatMap encE) by
    rw [List.take_succ_eq_append_getElem HLT.out,List.map_append]
    exact snoc_own HED.out (by simpa only [List.map_take] using hown9))
   have HB9:=hid (HB5.out.trans (hbA.mono (by omega)))
   have HD9:=hid (HD5.out.below (by omega) hbA)
   have hsz9:=hbA.size
   clear hown9 hg9 hat9 hlow hbA HN9 r0 r1 r2 r3 r4 d0 d1 d2 d3 d4
   go_wp2_with (fail)
   go_roundw
   case rel=>exact ⟨k + 1,by omega,by go_num,HO9.out,HB9.out,by omega,HD9.out⟩
   case measure=>simp [intOf];omega
  ·obtain rfl : k = rs.length:=by omega
   rw [List.take_length] at hv
   have HE:=hid (show ∀ x∈rs.map edg,x.1 < N∧x.2 < N from fun x hx=>by
    obtain ⟨r,hr,rfl⟩:=List.mem_map.1 hx
    obtain ⟨j,hj,rfl⟩:=List.mem_iff_getElem.1 hr
    have h1:=of_decide_eq_true (HST.out j hj).1
    have h2:=of_decide_eq_true (HST.out j hj).2
    unfold  edg
    constructor <;> simp <;> omega)
   have HRK:=hid (RK.of_owns (L:=rs.map edg) (by rw [List.length_map];exact hv))
   obtain ⟨q0,q1,q2,q3,q4,q5⟩:=hdb
   rename World=>wr
   obtain ⟨w5,hw5⟩ : ∃ w5,wr.alloc (.cells #[.int .i64 (sn : Int)] 3) = w5:=⟨_,rfl⟩
   have hb5 : Below wr.heap.size wr w5:=by rw [← hw5];exact (Below.refl _ _).alloc (Nat.le_refl _) _
   have HB5:=hid (hbl.trans (hb5.mono hbl.size))
   have HO5:=hid (show w5.ownsRow 0 3 1 (.slice (some ⟨wr.heap.size,0,none⟩) 1 1) 1 (natV [sn]) by
    rw [← hw5]
    exact World.ownsRow_lit wr #[.int .i64 (sn : Int)] 1 (Nat.zero_le _) (by simp only [maxLen];omega) (by simp))
   have HCL:=hid (reached_call Av cv (rs.map edg) [sn] (some ⟨wr.heap.size,0,none⟩) 1 N rs.length 1 w5 (by simp) rfl (HRK.out.below hb5) HO5.out (by simp;omega) (by simp) ⟨hN1,hN2⟩ HE.out (by simpa using hsn))
   have hsz:=hbl.size
   clear hv hbl hb5
   go_wp2_with (fail)
   refine HCL.out.mono ?_
   intro e w6 hout
   obtain ⟨S,h1,rfl,h3⟩:=hout.told HB5.out (lit_low hsz 1 1)
   have H3:=hid h3
   have H1:=hid h1
   clear hout h3 h1
   go_wp2_with (fail)
   go_ret
   exact ⟨S,H1.out,rfl,H3.out⟩
open Go.Lib (hid)
theorem owns_zero {w : World} {b : Nat} {e : TypeId} {k : Nat} {v : Value} {n : Nat} {xs : List Value} (h : w.ownsRow b e k v n xs) : w.ownsRow 0 e k v n xs:=by
 refine ⟨h.1,?_⟩
 rcases h.2 with h0 | ⟨g,cap,cur,e1,_,h2⟩
 ·exact .inl h0
 ·exact .inr ⟨g,cap,cur,e1,Nat.zero_le _,h2⟩
noncomputable def goesF (rs : List RuL) (fs : List FiL) : Nat→Bool:=reachB (rs.map edgB) (fs.map fun f=>f.frm.toNat)
def FRel (fs : List FiL) (g1 : Nat) (wl : World) (v iv : Value) (wr : World) : Prop:=
 ∃ k : Nat,k≤fs.length∧iv = .int .i64 k∧wr.ownsRow g1 3 1 v k (natV ((fs.take k).map fun f=>f.frm.toNat))∧Below g1 wl wr
set_option maxHeartbeats 8000000 in
theorem goes_any (N : Nat) (i o : Int) (sn : Nat) (A : Option Addr) (cr : Nat) (Bf : Option Addr) (cf : Nat) (rs : List RuL) (fs : List FiL) (w : World) (h : RRu w A rs.length rs) (hff : RFi w Bf fs.length fs) (hl : rs.length≤4096) (hlf : fs.length≤1024) (hN : 1≤N∧N≤1024) (_ : sn < N) (hst : ∀ j (hj : j < rs.length),stB N rs[j].frm = true∧stB N rs[j].to_ = true) (hsf : ∀ j (hj : j < fs.length),stB N fs[j].frm = true) :
  Calls Tryz.prog 33 #[dsc i o (N : Int) (sn : Int) A rs.length cr Bf fs.length cf] w (ToldOut (goesF rs fs) N w):=by
 obtain ⟨i0,hi0,hz0,hz1,hz2⟩:=info_parts infoInt
 obtain ⟨i1,hi1,hy0,hy1,hy2⟩:=info_parts infoEdge
 obtain ⟨hN1,hN2⟩:=hN
 obtain ⟨nf,hnf⟩ : ∃ nf,fs.length = nf:=⟨_,rfl⟩
 rw [hnf]
 have HNF:=hid hnf
 obtain ⟨w0,hw0⟩ : ∃ w0,w.alloc (.cells #[.int .i64 i,.int .i64 o,.int .i64 (N : Int),.int .i64 (sn : Int),.slice A rs.length cr,.slice Bf nf cf] 26) = w0:=⟨_,rfl⟩
 have hs0 : w0.heap.size = w.heap.size + 1:=by rw [← hw0];simp
 have hb0 : Below w.heap.size w w0:=by rw [← hw0];exact (Below.refl _ _).alloc (Nat.le_refl _) _
 have hd0 : DB w0 w.heap.size i o N sn A rs.length cr Bf nf cf:=by rw [← hw0];exact DB.boxed
 have HRL:=hid (show TrRel edgB N i o sn A cr Bf nf cf rs w (.slice none 0 0) (.int .i64 (0 : Nat)) w0 from ⟨0,Nat.zero_le _,rfl,World.ownsRow_nil _ _ _ _,hb0,by omega,hd0⟩)
 have H:=hid h
 have HFF:=hid hff
 have HST:=hid hst
 have HSF:=hid hsf
 obtain ⟨p0,p1,p2,p3,p4,p5⟩:=hd0
 have hlf2 : nf≤1024:=by omega
 clear h hff hst hsf hb0 hnf hlf
 go_enter Tryz.func33,Tryz.ntmps33
 go_wp2_with (fail)
 go_loopw [3,12] (fun v iv wr=>TrRel edgB N i o sn A cr Bf nf cf rs w v iv wr) (fun _ iv _=>rs.length - (intOf iv).toNat)
 case atStart=>exact HRL.out
 case round=>
  obtain ⟨k,hk,rfl,hv,hbl,hgw,hdb⟩:=hrel
  obtain ⟨Av,cv,hvs⟩:=own_shape hv
  subst hvs
  have HB:=hid hbl
  have HV:=hid hv
  have HD:=hid hdb
  by_cases hlt : k < rs.length
  ·obtain ⟨b,off,A',c',A2,c2,hA,hbB,d0,d1,d2,d3,d4,_,_⟩:=(H.out.belowM hbl).at_ hlt
   obtain ⟨a,ha,haN⟩ : ∃ a : Nat,rs[k].frm = (a : Int)∧a < N:=by
    have:=of_decide_eq_true (HST.out k hlt).1
    exact ⟨rs[k].frm.toNat,by omega,by omega⟩
   obtain ⟨t,ht,htN⟩ : ∃ t : Nat,rs[k].to_ = (t : Int)∧t < N:=by
    have:=of_decide_eq_true (HST.out k hlt).2
    exact ⟨rs[k].to_.toNat,by omega,by omega⟩
   have HED:=hid (show edgB rs[k] = (t,a) by unfold edgB edg;rw [ha,ht];rfl)
   rw [ha] at d0
   rw [ht] at d1
   obtain ⟨g,hg⟩ : ∃ g,rs[k].gs.length = g:=⟨_,rfl⟩
   obtain ⟨no,hno⟩ : ∃ no,rs[k].out.length = no:=⟨_,rfl⟩
   obtain ⟨ea,hea⟩ : ∃ ea,rs[k].eat = ea:=⟨_,rfl⟩
   rw [hg] at d2
   rw [hea] at d3
   rw [hno] at d4
   have HLT:=hid hlt
   obtain ⟨w5,hw5⟩ : ∃ w5,wr.alloc (.cells #[.int .i64 (a : Int),.int .i64 (t : Int),.slice A' g c',.int .i64 ea,.slice A2 no c2] 50) = w5:=⟨_,rfl⟩
   have hs5 : w5.heap.size = wr.heap.size + 1:=by rw [← hw5];simp
   have hb5 : Below wr.heap.size wr w5:=by rw [← hw5];exact (Below.refl _ _).alloc (Nat.le_refl _) _
   have hrb : RB w5 wr.heap.size a t A' g c' ea A2 no c2:=by rw [← hw5];exact RB.boxed
   have HV5:=hid (ownsRow_keep hv fun x e=>hb5.block x (World.ownsRow.lt hv x e).2)
   have HB5:=hid (hbl.trans (hb5.mono (by omega)))
   have HD5:=hid (hdb.below hgw hb5)
   obtain ⟨r0,r1,r2,r3,r4⟩:=hrb
   subst hA
   clear hv hbl hdb hg hno hea ha ht hb5
   go_wp2_with (at_builtin;go_must (refine wpList_append_own_at _ rfl _ _ 79 rfl (w.heap.size + 1) 81 i1 _ 2 16 Tryz.underlying79 hi1 hy0 hy1 hy2 rfl (by decide) (.slice Av k cv) k (((rs.take k).map edgB).flatMap encE) rfl (HV5.out.alloc _) ⟨wr.heap.size + 1,0,none⟩ 1 1 [.int .i64 (t : Int),.int .i64 (a : Int)] rfl rfl ?c1 ?c2 ?c3 ?c4 ?c5 ?_))
   case c1=>
    have:=World.news_of_block (cs:=#[.int .i64 (t : Int),.int .i64 (a : Int)]) (t:=81) (fr:=(0,0)) (heap_alloc_new w5 (.cells #[.int .i64 (t : Int),.int .i64 (a : Int)] 81))
    rw [hs5] at this
    exact this
   case c2=>simp [Value.oneCell']
   case c3=>simp only [maxLen];omega
   case c4=>omega
   case c5=>simp;omega
   intro v9 w9 hown9 hg9 _ hat9
   have hlow : ∀ q,(Value.slice Av k cv).ownBlock = some q→w.heap.size + 1≤q:=fun q e=>(World.ownsRow.lt HV5.out q e).1
   have hbA : Below (w.heap.size + 1) w5 w9:=(((Below.refl _ _).alloc (by omega) _)).grown hg9 (by simp;omega) hlow
   have HN9:=hid (show TrRel edgB N i o sn A' cr Bf nf cf rs w v9 (.int .i64 ((k + 1 : Nat) : Int)) w9 = TrRel edgB N i o sn A' cr Bf nf cf rs w v9 (.int .i64 ((k + 1 : Nat) : Int)) w9 from rfl)
   have HO9:=hid (show w9.ownsRow (w.heap.size + 1) 81 2 v9 (k + 1) (((rs.take (k + 1)).map edgB).flatMap encE) by
    rw [List.take_succ_eq_append_getElem HLT.out,List.map_append]
    exact snoc_own HED.out (by simpa only [List.map_take] using hown9))
   have HB9:=hid (HB5.out.trans (hbA.mono (by omega)))
   have HD9:=hid (HD5.out.below (by omega) hbA)
   have hsz9:=hbA.size
   clear hown9 hg9 hat9 hlow hbA HN9 r0 r1 r2 r3 r4 d0 d1 d2 d3 d4
   go_wp2_with (fail)
   go_roundw
   case rel=>exact ⟨k + 1,by omega,by go_num,HO9.out,HB9.out,by omega,HD9.out⟩
   case measure=>simp [intOf];omega
  ·obtain rfl : k = rs.length:=by omega
   rw [List.take_length] at hv
   have HE:=hid (show ∀ x∈rs.map edgB,x.1 < N∧x.2 < N from fun x hx=>by
    obtain ⟨r,hr,rfl⟩:=List.mem_map.1 hx
    obtain ⟨j,hj,rfl⟩:=List.mem_iff_getElem.1 hr
    have h1:=of_decide_eq_true (HST.out j hj).1
    have h2:=of_decide_eq_true (HST.out j hj).2
    unfold edgB edg
    constructor <;> simp <;> omega)
   have HRK:=hid (RK.of_owns (L:=rs.map edgB) (by rw [List.length_map];exact hv))
   obtain ⟨q0,q1,q2,q3,q4,q5⟩:=hdb
   rename World=>wl
   have HDL:=hid HD.out
   have hszl:=hbl.size
   clear hv hbl
   go_wp2_with (fail)
   go_loopw [6,28] (fun v iv wr=>FRel fs wl.heap.size wl v iv wr) (fun _ iv _=>nf - (intOf iv).toNat)
   case atStart=>exact ⟨0,Nat.zero_le _,rfl,World.ownsRow_nil _ _ _ _,Below.refl _ _⟩
   case round=>
    obtain ⟨m,hm,rfl,hvf,hblf⟩:=hrel
    obtain ⟨Af,cvf,hvs⟩:=own_shape hvf
    subst hvs
    rename World=>wr
    have HVF:=hid hvf
    have HBF:=hid hblf
    have hszr:=hblf.size
    have hBW:=HB.out.trans (hblf.mono HB.out.size)
    have HBW:=hid hBW
    by_cases hlt2 : m < fs.length
    ·obtain ⟨b,off,A',c',A2,c2,hA,hbB,d0,d1,d2,_,_⟩:=(HFF.out.belowM hBW).at_ hlt2
     obtain ⟨a,ha,haN⟩ : ∃ a : Nat,fs[m].frm = (a : Int)∧a < N:=by
      have:=of_decide_eq_true (HSF.out m hlt2)
      exact ⟨fs[m].frm.toNat,by omega,by omega⟩
     have HA:=hid ha
     rw [ha] at d0
     obtain ⟨g,hg⟩ : ∃ g,fs[m].gs.length = g:=⟨_,rfl⟩
     obtain ⟨no,hno⟩ : ∃ no,fs[m].out.length = no:=⟨_,rfl⟩
     rw [hg] at d1
     rw [hno] at d2
     have HLT:=hid hlt2
     have hlt3 : m < nf:=by rw [← HNF.out];exact hlt2
     obtain ⟨w5,hw5⟩ : ∃ w5,wr.alloc (.cells #[.int .i64 (a : Int),.slice A' g c',.slice A2 no c2] 45) = w5:=⟨_,rfl⟩
     have hs5 : w5.heap.size = wr.heap.size + 1:=by rw [← hw5];simp
     have hb5 : Below wr.heap.size wr w5:=by rw [← hw5];exact (Below.refl _ _).alloc (Nat.le_refl _) _
     have f0 : w5.cell? ⟨wr.heap.size,0,none⟩ = some (.int .i64 (a : Int)):=by rw [← hw5];simp
     have HV5:=hid (ownsRow_keep hvf fun x e=>hb5.block x (World.ownsRow.lt hvf x e).2)
     have HB5:=hid (hblf.trans (hb5.mono hszr))
     subst hA
     clear hvf hblf hg hno ha hb5 hBW
     go_wp2_with (at_builtin;go_must (refine wpList_append_own_at _ rfl _ _ 34 rfl wl.heap.size 3 i0 _ 1 8 Tryz.underlying34 hi0 hz0 hz1 hz2 rfl (by decide) (.slice Af m cvf) m (natV ((fs.take m).map fun f=>f.frm.toNat)) rfl (HV5.out.alloc _) ⟨wr.heap.size + 1,0,none⟩ 1 1 [.int .i64 (a : Int)] rfl rfl ?c1 ?c2 ?c3 ?c4 ?c5 ?_))
     case c1=>
      have:=World.news_of_block (cs:=#[.int .i64 (a : Int)]) (t:=3) (fr:=(0,0)) (heap_alloc_new w5 (.cells #[.int .i64 (a : Int)] 3))
      rw [hs5] at this
      exact this
     case c2=>simp [Value.oneCell']
     case c3=>simp only [maxLen];omega
     case c4=>omega
     case c5=>simp;omega
     intro v9 w9 hown9 hg9 _ hat9
     have hlow : ∀ q,(Value.slice Af m cvf).ownBlock = some q→wl.heap.size≤q:=fun q e=>(World.ownsRow.lt HV5.out q e).1
     have HB9:=hid ((HB5.out.alloc (by omega) _).grown hg9 (by simp;omega) hlow)
     have HO9:=hid (show w9.ownsRow wl.heap.size 3 1 v9 (m + 1) (natV ((fs.take (m + 1)).map fun f=>f.frm.toNat)) by
      rw [List.take_succ_eq_append_getElem HLT.out,List.map_append]
      unfold natV at hown9 ⊢
      rw [List.map_append]
      simpa [HA.out,List.map_take] using hown9)
     clear hown9 hg9 hat9 hlow f0 d0 d1 d2
     go_wp2_with (fail)
     go_roundw
     case rel=>exact ⟨m + 1,by omega,by go_num,HO9.out,HB9.out⟩
     case measure=>simp [intOf];have:=HNF.out;omega
    ·have hmn : m = nf:=by have:=HNF.out;omega
     have htk : fs.take m = fs:=List.take_of_length_le (by omega)
     rw [htk] at hvf
     clear hlt2 hm htk
     subst hmn
     have HCL:=hid (reached_call Av cv (rs.map edgB) (fs.map fun f=>f.frm.toNat) Af cvf N rs.length m wr (by simp) (by rw [List.length_map];exact HNF.out) (HRK.out.below hblf) (owns_zero hvf) (by rw [List.length_map];omega) (by rw [List.length_map,HNF.out];omega) ⟨hN1,hN2⟩ HE.out (fun q hq=>by
      obtain ⟨f,hf,rfl⟩:=List.mem_map.1 hq
      obtain ⟨j,hj,rfl⟩:=List.mem_iff_getElem.1 hf
      have:=of_decide_eq_true (HSF.out j hj)
      omega))
     have HLW:=hid (show ∀ k,(Value.slice Af m cvf).ownBlock = some k→w.heap.size≤k from fun k e=>by
      have:=(World.ownsRow.lt hvf k e).1
      omega)
     have hq:=HDL.out.below (by omega) hblf
     obtain ⟨q0,q1,q2,q3,q4,q5⟩:=hq
     clear hvf hblf hBW
     go_wp2_with (fail)
     refine HCL.out.mono ?_
     intro e w6 hout
     obtain ⟨S,h1,rfl,h3⟩:=hout.told HBW.out HLW.out
     have H3:=hid h3
     have H1:=hid h1
     clear hout h3 h1
     go_wp2_with (fail)
     go_ret
     exact ⟨S,H1.out,rfl,H3.out⟩
open Go.Lib (hid)
def Marks (w : World) (S N : Nat) (f : Nat→Bool) : Prop:=w.ownsRow S 4 1 (.slice (some ⟨S,0,none⟩) N N) N (boolV ((List.range N).map f))
theorem Marks.cell {w : World} {S N : Nat} {f : Nat→Bool} (h : Marks w S N f) {q : Nat} (hq : q < N) : w.cell? ⟨S,q,none⟩ = some (.bool (f q)):=by
 rw [World.ownsRow.cellAt h q (by omega)]
 unfold boolV
 simp [hq]
theorem Marks.keep {w w' : World} {S N : Nat} {f : Nat→Bool} (h : Marks w S N f) (hb : Below w.heap.size w w') : Marks w' S N f:=ownsRow_keep h fun x e=>hb.block x (World.ownsRow.lt h x e).2
theorem rangeF_more {P : Nat→Bool} {k : Nat} (h : P k = true) : (List.range (k + 1)).filter P = (List.range k).filter P ++ [k]:=by rw [List.range_succ,List.filter_append];simp [h]
theorem rangeF_skip {P : Nat→Bool} {k : Nat} (h : P k = false) : (List.range (k + 1)).filter P = (List.range k).filter P:=by rw [List.range_succ,List.filter_append];simp [h]
def RisOut (l : List Nat) (w : World) (e : Ending) (w' : World) : Prop:=∃ v,e = .returned v∧w'.ownsRow w.heap.size 3 1 v l.length (natV l)∧Below w.heap.size w w'
def RisRel (f : Nat→Bool) (N : Nat) (w : World) (v iv : Value) (wr : World) : Prop:=
 ∃ k : Nat,k≤N∧iv = .int .i64 k∧wr.ownsRow w.heap.size 3 1 v ((List.range k).filter f).length (natV ((List.range k).filter f))∧Below w.heap.size w wr
set_option maxHeartbeats 8000000 in
theorem rising_any (f : Nat→Bool) (N S : Nat) (w : World) (h : Marks w S N f) (hN : N≤1024) :
  Calls Tryz.prog 31 #[.slice (some ⟨S,0,none⟩) N N] w (RisOut ((List.range N).filter f) w):=by
 obtain ⟨i0,hi0,hz0,hz1,hz2⟩:=info_parts infoInt
 have H:=hid h
 clear h
 go_enter Tryz.func31,Tryz.ntmps31
 go_wp2_with (fail)
 go_loopw [3,8] (fun v iv wr=>RisRel f N w v iv wr) (fun _ iv _=>N - (intOf iv).toNat)
 case atStart=>exact ⟨0,Nat.zero_le _,rfl,World.ownsRow_nil _ _ _ _,Below.refl _ _⟩
 case round=>
  obtain ⟨k,hk,rfl,hv,hbl⟩:=hrel
  obtain ⟨Av,cv,hvs⟩:=own_shape hv
  subst hvs
  have HB:=hid hbl
  by_cases hlt : k < N
  ·have hc:=(H.out.keep hbl).cell hlt
   obtain ⟨L,hL⟩ : ∃ L,(List.range k).filter f = L:=⟨_,rfl⟩
   have HL:=hid hL
   rw [hL] at hv ⊢
   have hLl : L.length≤k:=by rw [← hL];exact Nat.le_trans (List.length_filter_le _ _) (by simp)
   obtain ⟨nL,hnL⟩ : ∃ nL,L.length = nL:=⟨_,rfl⟩
   have HNL:=hid hnL
   rw [hnL] at hv hLl ⊢
   have HV:=hid hv
   obtain ⟨y,hy⟩ : ∃ y,f k = y:=⟨_,rfl⟩
   have HY:=hid hy
   rw [hy] at hc
   have hsz:=hbl.size
   clear hv hbl hL hnL hy
   cases y
   ·go_wp2_with (fail)
    go_roundw
    case rel=>exact ⟨k + 1,by omega,by go_num,by rw [rangeF_skip HY.out,HL.out,HNL.out];exact HV.out,HB.out⟩
    case measure=>simp [intOf];omega
   ·go_wp2_with (at_builtin;go_must (refine wpList_append_own_at _ rfl _ _ 34 rfl w.heap.size 3 i0 _ 1 8 Tryz.underlying34 hi0 hz0 hz1 hz2 rfl (by decide) (.slice Av nL cv) nL (natV L) rfl (HV.out.alloc _) ⟨wr.heap.size,0,none⟩ 1 1 [.int .i64 (k : Int)] rfl rfl ?c1 ?c2 ?c3 ?c4 ?c5 ?_))
    case c1=>exact World.news_of_block (cs:=#[.int .i64 (k : Int)]) (t:=3) (fr:=(0,0)) (heap_alloc_new wr _)
    case c2=>simp [Value.oneCell']
    case c3=>simp only [maxLen];omega
    case c4=>omega
    case c5=>simp;omega
    intro v9 w9 hown9 hg9 _ hat9
    have hlow : ∀ q,(Value.slice Av nL cv).ownBlock = some q→w.heap.size≤q:=fun q e=>(World.ownsRow.lt HV.out q e).1
    have HB9:=hid ((HB.out.alloc (by omega) _).grown hg9 (by simp;omega) hlow)
    have HO9:=hid (show w9.ownsRow w.heap.size 3 1 v9 (L ++ [k]).length (natV (L ++ [k])) by
     rw [List.length_append,HNL.out]
     unfold natV at hown9 ⊢
     rw [List.map_append]
     exact hown9)
    clear hown9 hg9 hat9 hlow hc
    go_wp2_with (fail)
    go_roundw
    case rel=>exact ⟨k + 1,by omega,by go_num,by rw [rangeF_more HY.out,HL.out];exact HO9.out,HB9.out⟩
    case measure=>simp [intOf];omega
  ·obtain rfl : k = N:=by omega
   have HV:=hid hv
   clear hv hbl
   go_wp2_with (fail)
   go_ret
   exact ⟨_,rfl,HV.out,HB.out⟩
def BothRel (f g : Nat→Bool) (N : Nat) (w : World) (iv : Value) (wr : World) : Prop:=
 ∃ k : Nat,k≤N∧iv = .int .i64 k∧Marks wr w.heap.size N (fun q=>decide (q < k) && (f q && g q))∧Below w.heap.size w wr
def BothOut (f : Nat→Bool) (N : Nat) (w : World) (e : Ending) (w' : World) : Prop:=e = .returned (.slice (some ⟨w.heap.size,0,none⟩) N N)∧Marks w' w.heap.size N f∧Below w.heap.size w w'
theorem Marks.stored {w : World} {B N k : Nat} {f g : Nat→Bool} {b : Bool} (h : Marks w B N (fun q=>decide (q < k) && (f q && g q))) (hb : (f k && g k) = b) : Marks (w.setCell ⟨B,k,none⟩ (.bool b)) B N (fun q=>decide (q < k + 1) && (f q && g q)):=by
 have h1:=(World.ownsRow.stored h k (.bool b)).1
 unfold Marks
 rw [show boolV ((List.range N).map fun q=>decide (q < k + 1) && (f q && g q)) = (boolV ((List.range N).map fun q=>decide (q < k) && (f q && g q))).set k (.bool b) from List.ext_getElem (by simp [boolV]) fun j h1 h2=>by
  simp only [boolV,List.getElem_map,List.getElem_range,List.getElem_set]
  by_cases e : k = j
  ·subst e
   rw [if_pos rfl,← hb]
   simp
  ·rw [if_neg e]
   have : decide (j < k + 1) = decide (j < k):=by rw [decide_eq_decide];omega
   rw [this]]
 exact h1
set_option maxHeartbeats 8000000 in
theorem both_any (f g : Nat→Bool) (N S T : Nat) (w : World) (h : Marks w S N f) (hg : Marks w T N g) (hN : N≤1024) :
  Calls Tryz.prog 35 #[.slice (some ⟨S,0,none⟩) N N,.slice (some ⟨T,0,none⟩) N N] w (BothOut (fun q=>f q && g q) N w):=by
 have hmk:=run_make_row' (P:=Tryz.prog) 38 4 (.bool false) 1 Tryz.underlying38 infoBool rfl .i64 .i64 N (by omega) (by omega) w
 obtain ⟨w2,hw2⟩ : ∃ w2,w.alloc (.cells (madeCells #[.bool false] N) 4) = w2:=⟨_,rfl⟩
 rw [hw2] at hmk
 have HR0:=hid (show BothRel f g N w (.int .i64 (0 : Nat)) w2 from ⟨0,Nat.zero_le _,rfl,by
  have:=World.ownsRow_lit (base:=w.heap.size) (e:=4) (size:=1) w (madeCells #[.bool false] N) N (by omega) (by simp only [maxLen];omega) (by simp [madeCells])
  rw [toList_madeCells_one,hw2] at this
  unfold Marks boolV
  rw [show ((List.range N).map fun q=>decide (q < 0) && (f q && g q)).map Value.bool = List.replicate N (.bool false) from List.ext_getElem (by simp) fun j h1 h2=>by simp]
  exact this,by rw [← hw2];exact (Below.refl _ _).alloc (Nat.le_refl _) _⟩)
 have H:=hid h
 have HG:=hid hg
 have hSl : S < w.heap.size:=(World.ownsRow.lt h S rfl).2
 have hTl : T < w.heap.size:=(World.ownsRow.lt hg T rfl).2
 clear h hg
 go_enter Tryz.func35,Tryz.ntmps35
 go_wp2_with (fail)
 clear hmk
 go_loopw [12] (fun iv wr=>BothRel f g N w iv wr) (fun iv _=>N - (intOf iv).toNat)
 case atStart=>exact HR0.out
 case round=>
  obtain ⟨k,hk,rfl,hm,hbl⟩:=hrel
  have HB:=hid hbl
  have HM:=hid hm
  by_cases hlt : k < N
  ·have hc:=(H.out.keep hbl).cell hlt
   have hd:=(HG.out.keep hbl).cell hlt
   have hf:=World.ownsRow.frozenAt hm k
   have he:=hm.cell hlt
   obtain ⟨x,hx⟩ : ∃ x,f k = x:=⟨_,rfl⟩
   obtain ⟨y,hy⟩ : ∃ y,g k = y:=⟨_,rfl⟩
   have HX:=hid hx
   have HY:=hid hy
   rw [hx] at hc
   rw [hy] at hd
   have hsz:=hbl.size
   have HLT:=hid hlt
   clear hm hbl hx hy
   cases x <;> cases y
   all_goals go_wp2_with (fail)
   all_goals go_roundw
   all_goals first
    | exact ⟨k + 1,by omega,by go_num,HM.out.stored (by rw [HX.out,HY.out];rfl),HB.out.setCell (Nat.le_refl _) _⟩
    | (simp [intOf];omega)
  ·obtain rfl : k = N:=by omega
   have HM2:=hid (show Marks wr w.heap.size k (fun q=>f q && g q) by
    unfold Marks at hm ⊢
    rw [show (List.range k).map (fun q=>f q && g q) = (List.range k).map (fun q=>decide (q < k) && (f q && g q)) from List.map_congr_left fun q hq=>by simp [List.mem_range.1 hq]]
    exact hm)
   clear hm hbl
   go_wp2_with (fail)
   go_ret
   exact ⟨rfl,HM2.out,HB.out⟩
def numL (l : List Nat) (q : Nat) : Nat:=l.idxOf q
def trR (l : List Nat) (rs : List RuL) : List RuL:=(rs.filter fun r=>decide (r.frm.toNat∈l) && decide (r.to_.toNat∈l)).map fun r=>{ r with frm:=(numL l r.frm.toNat : Int),to_:=(numL l r.to_.toNat : Int) }
def trF (l : List Nat) (fs : List FiL) : List FiL:=(fs.filter fun f=>decide (f.frm.toNat∈l)).map fun f=>{ f with frm:=(numL l f.frm.toNat : Int) }
noncomputable def keptL (N s : Nat) (rs : List RuL) (fs : List FiL) : List Nat:=(List.range N).filter fun q=>comesF rs s q && goesF rs fs q
section
variable {N s : Nat} {rs : List RuL} {fs : List FiL}
theorem keptL_iff {q : Nat} : q∈keptL N s rs fs↔q < N∧Reach (rs.map edg) [s] q∧Reach (rs.map edgB) (fs.map fun f=>f.frm.toNat) q:=by
 unfold keptL comesF goesF
 rw [List.mem_filter,List.mem_range,Bool.and_eq_true,reachB_iff,reachB_iff]
theorem keptL_nodup : (keptL N s rs fs).Nodup:=List.Pairwise.filter _ List.nodup_range
theorem comes_kept (hr : ∀ r∈rs,r.frm.toNat < N∧r.to_.toNat < N) {q : Nat} (h : Reach (rs.map edg) [s] q) : q∈keptL N s rs fs→Reach ((trR (keptL N s rs fs) rs).map edg) [numL (keptL N s rs fs) s] (numL (keptL N s rs fs) q):=by
 induction h with
 | first h=>
  intro _
  rw [List.mem_singleton.1 h]
  exact .first (by simp)
 | step he hre ih=>
  intro hq
  obtain ⟨r,hm,rfl⟩:=List.mem_map.1 he
  have h2:=keptL_iff.1 hq
  have hf : r.frm.toNat∈keptL N s rs fs:=keptL_iff.2 ⟨(hr r hm).1,hre,.step (e:=edgB r) (List.mem_map.2 ⟨r,hm,rfl⟩) h2.2.2⟩
  refine .step (e:=(numL (keptL N s rs fs) r.frm.toNat,numL (keptL N s rs fs) r.to_.toNat)) (List.mem_map.2 ⟨{ r with frm:=(numL (keptL N s rs fs) r.frm.toNat : Int),to_:=(numL (keptL N s rs fs) r.to_.toNat : Int) },List.mem_map.2 ⟨r,List.mem_filter.2 ⟨hm,?_⟩,rfl⟩,?_⟩) (ih hf)
  ·rw [decide_eq_true hf,decide_eq_true (show r.to_.toNat∈keptL N s rs fs from hq)];rfl
  ·unfold edg;simp
theorem goes_kept (hr : ∀ r∈rs,r.frm.toNat < N∧r.to_.toNat < N) {q : Nat} (h : Reach (rs.map edgB) (fs.map fun f=>f.frm.toNat) q) : q∈keptL N s rs fs→Reach ((trR (keptL N s rs fs) rs).map edgB) ((trF (keptL N s rs fs) fs).map fun f=>f.frm.toNat) (numL (keptL N s rs fs) q):=by
 induction h with
 | first h=>
  intro hq
  obtain ⟨f,hm,rfl⟩:=List.mem_map.1 h
  refine .first (List.mem_map.2 ⟨{ f with frm:=(numL (keptL N s rs fs) f.frm.toNat : Int) },List.mem_map.2 ⟨f,List.mem_filter.2 ⟨hm,decide_eq_true hq⟩,rfl⟩,?_⟩)
  simp
 | step he hre ih=>
  intro hq
  obtain ⟨r,hm,rfl⟩:=List.mem_map.1 he
  have h2:=keptL_iff.1 hq
  have hf : r.to_.toNat∈keptL N s rs fs:=keptL_iff.2 ⟨(hr r hm).2,.step (e:=edg r) (List.mem_map.2 ⟨r,hm,rfl⟩) h2.2.1,hre⟩
  refine .step (e:=(numL (keptL N s rs fs) r.to_.toNat,numL (keptL N s rs fs) r.frm.toNat)) (List.mem_map.2 ⟨{ r with frm:=(numL (keptL N s rs fs) r.frm.toNat : Int),to_:=(numL (keptL N s rs fs) r.to_.toNat : Int) },List.mem_map.2 ⟨r,List.mem_filter.2 ⟨hm,?_⟩,rfl⟩,?_⟩) (ih hf)
  ·rw [decide_eq_true hf,decide_eq_true (show r.frm.toNat∈keptL N s rs fs from hq)];rfl
  ·unfold edgB edg;simp
theorem kept_whole (hr : ∀ r∈rs,r.frm.toNat < N∧r.to_.toNat < N) : keptL (keptL N s rs fs).length (numL (keptL N s rs fs) s) (trR (keptL N s rs fs) rs) (trF (keptL N s rs fs) fs) = List.range (keptL N s rs fs).length:=by
 refine List.filter_eq_self.2 fun j hj=>?_
 have hj:=List.mem_range.1 hj
 have hm : (keptL N s rs fs)[j]∈keptL N s rs fs:=List.getElem_mem hj
 have hn : numL (keptL N s rs fs) (keptL N s rs fs)[j] = j:=by
  unfold numL
  exact List.Nodup.idxOf_getElem keptL_nodup j hj
 have h1:=comes_kept hr (keptL_iff.1 hm).2.1 hm
 have h2:=goes_kept hr (keptL_iff.1 hm).2.2 hm
 rw [hn] at h1 h2
 rw [Bool.and_eq_true]
 exact ⟨reachB_iff.2 h1,reachB_iff.2 h2⟩
theorem num_range {n q : Nat} (h : q < n) : numL (List.range n) q = q:=by
 unfold numL
 have:=List.Nodup.idxOf_getElem (List.nodup_range (n:=n)) q (by simpa using h)
 simpa using this
theorem trR_whole (hr : ∀ r∈rs,stB N r.frm = true∧stB N r.to_ = true) : trR (List.range N) rs = rs:=by
 have hs : ∀ x : Int,stB N x = true→x.toNat < N∧(x.toNat : Int) = x:=fun x h=>by
  have:=of_decide_eq_true h
  omega
 unfold trR
 rw [List.filter_eq_self.2 fun r h=>by
  rw [decide_eq_true (List.mem_range.2 (hs _ (hr r h).1).1),decide_eq_true (List.mem_range.2 (hs _ (hr r h).2).1)];rfl]
 refine (List.map_congr_left fun r h=>?_).trans (List.map_id _)
 obtain ⟨a1,a2⟩:=hs _ (hr r h).1
 obtain ⟨b1,b2⟩:=hs _ (hr r h).2
 rw [num_range a1,num_range b1,a2,b2]
 rfl
theorem trF_whole (hr : ∀ f∈fs,stB N f.frm = true) : trF (List.range N) fs = fs:=by
 have hs : ∀ x : Int,stB N x = true→x.toNat < N∧(x.toNat : Int) = x:=fun x h=>by
  have:=of_decide_eq_true h
  omega
 unfold trF
 rw [List.filter_eq_self.2 fun r h=>decide_eq_true (List.mem_range.2 (hs _ (hr r h)).1)]
 refine (List.map_congr_left fun r h=>?_).trans (List.map_id _)
 obtain ⟨a1,a2⟩:=hs _ (hr r h)
 rw [num_range a1,a2]
 rfl
theorem start_kept (hs : s < N) (hg : goesF rs fs s = true) : s∈keptL N s rs fs:=keptL_iff.2 ⟨hs,.first (by simp),reachB_iff.1 hg⟩
end
def numF (l : List Nat) (k q : Nat) : Nat:=if q∈l.take k then numL l q else 0
theorem numF_zero (l : List Nat) : numF l 0 = fun _=>0:=by
 funext q
 simp [numF]
theorem numF_all {l : List Nat} {q : Nat} (h : q∈l) : numF l l.length q = numL l q:=by simp [numF,h]
theorem numF_next {l : List Nat} (hn : l.Nodup) {k : Nat} (hk : k < l.length) : numF l (k + 1) = upd (numF l k) l[k] k:=by
 funext q
 have hi : numL l l[k] = k:=by
  unfold numL
  exact List.Nodup.idxOf_getElem hn k hk
 have hmem : q∈l.take (k + 1)↔q∈l.take k∨q = l[k]:=by rw [List.take_succ_eq_append_getElem hk,List.mem_append,List.mem_singleton]
 unfold numF upd
 by_cases e : q = l[k]
 ·rw [if_pos (hmem.2 (.inr e)),if_pos e,e,hi]
 ·rw [if_neg e]
  show _ = if q∈l.take k then numL l q else 0
  by_cases m : q∈l.take k
  ·rw [if_pos m,if_pos (hmem.2 (.inl m))]
  ·rw [if_neg m,if_neg fun h=>(hmem.1 h).elim m e]
theorem numL_lt {l : List Nat} {q : Nat} (h : q∈l) : numL l q < l.length:=List.idxOf_lt_length_iff.2 h
open Go.Lib (hid)
def TellsOut (l : List Nat) (w : World) (e : Ending) (w' : World) : Prop:=∃ v,e = .returned (.tuple #[v,.int .i64 0])∧w'.ownsRow w.heap.size 3 1 v l.length (natV l)∧Below w.heap.size w w'
theorem owns_le {w : World} {b b2 : Nat} {e : TypeId} {k : Nat} {v : Value} {n : Nat} {xs : List Value} (h : w.ownsRow b e k v n xs) (hb : b2≤b) : w.ownsRow b2 e k v n xs:=by
 refine ⟨h.1,?_⟩
 rcases h.2 with h0 | ⟨g,cap,cur,e1,h1,h2⟩
 ·exact .inl h0
 ·exact .inr ⟨g,cap,cur,e1,Nat.le_trans hb h1,h2⟩
set_option maxHeartbeats 2000000 in
theorem Comes_ok (N : Nat) (i o : Int) (sn : Nat) (A : Option Addr) (cr : Nat) (Bf : Option Addr) (cf : Nat) (rs : List RuL) (fs : List FiL) (w : World) (h : RRu w A rs.length rs) (hff : RFi w Bf fs.length fs) (hl : rs.length≤4096) (hlf : fs.length≤1024) (hN : 1≤N∧N≤1024) (hsn : sn < N) (hst : ∀ j (hj : j < rs.length),stB N rs[j].frm = true∧stB N rs[j].to_ = true) (hsf : ∀ j (hj : j < fs.length),stB N fs[j].frm = true)
  (hC : ∀ W,Below w.heap.size w W→Calls Tryz.prog 25 #[dsc i o (N : Int) (sn : Int) A rs.length cr Bf fs.length cf] W (RetI 0 W)) :
  Calls Tryz.prog 15 #[dsc i o (N : Int) (sn : Int) A rs.length cr Bf fs.length cf] w (TellsOut ((List.range N).filter (comesF rs sn)) w):=by
 obtain ⟨w1,hw1⟩ : ∃ w1,w.alloc (.cells #[.int .i64 i,.int .i64 o,.int .i64 (N : Int),.int .i64 (sn : Int),.slice A rs.length cr,.slice Bf fs.length cf] 26) = w1:=⟨_,rfl⟩
 have hs1 : w1.heap.size = w.heap.size + 1:=by rw [← hw1];simp
 have hb1 : Below w.heap.size w w1:=by rw [← hw1];exact (Below.refl _ _).alloc (Nat.le_refl _) _
 have hd1 : DB w1 w.heap.size i o N sn A rs.length cr Bf fs.length cf:=by rw [← hw1];exact DB.boxed
 have HC:=hid (hC w1 hb1)
 have HG:=hid (fun (W : World) (hW : Below w.heap.size w W)=>comes_any N i o sn A cr Bf cf rs fs W (h.belowM hW) (hff.belowM hW) hl hlf hN hsn hst hsf)
 have HB:=hid hb1
 have HD:=hid hd1
 have HN:=hid hN.2
 obtain ⟨p0,p1,p2,p3,p4,p5⟩:=hd1
 clear hC hb1 h hff hN hst hsf hsn hl hlf
 go_enter Tryz.func15,Tryz.ntmps15
 go_wp2_with (fail)
 refine HC.out.mono ?_
 rintro e w2 ⟨rfl,hb2⟩
 have HB2:=hid (HB.out.trans (hb2.mono HB.out.size))
 obtain ⟨q0,q1,q2,q3,q4,q5⟩:=HD.out.below (by omega) hb2
 have hsz2:=hb2.size
 clear hb2 p0 p1 p2 p3 p4 p5
 go_wp2_with (fail)
 refine (HG.out w2 HB2.out).mono ?_
 rintro e w3 ⟨S,hS,rfl,ho,hb3⟩
 have HO:=hid (show Marks w3 S N (comesF rs sn) from ho)
 have HB3:=hid (HB2.out.trans (hb3.mono HB2.out.size))
 have HS3:=hid hb3.size
 clear ho hb3
 go_wp2_with (fail)
 refine (rising_any (comesF rs sn) N S w3 HO.out HN.out).mono ?_
 rintro e w4 ⟨v,rfl,ho4,hb4⟩
 have HO4:=hid (owns_le (b2:=w.heap.size) ho4 HB3.out.size)
 have HB4:=hid (HB3.out.trans (hb4.mono HB3.out.size))
 clear ho4 hb4
 go_wp2_with (fail)
 go_ret2
 exact ⟨v,rfl,HO4.out,HB4.out⟩
set_option maxHeartbeats 2000000 in
theorem GoesOn_ok (N : Nat) (i o : Int) (sn : Nat) (A : Option Addr) (cr : Nat) (Bf : Option Addr) (cf : Nat) (rs : List RuL) (fs : List FiL) (w : World) (h : RRu w A rs.length rs) (hff : RFi w Bf fs.length fs) (hl : rs.length≤4096) (hlf : fs.length≤1024) (hN : 1≤N∧N≤1024) (hsn : sn < N) (hst : ∀ j (hj : j < rs.length),stB N rs[j].frm = true∧stB N rs[j].to_ = true) (hsf : ∀ j (hj : j < fs.length),stB N fs[j].frm = true)
  (hC : ∀ W,Below w.heap.size w W→Calls Tryz.prog 25 #[dsc i o (N : Int) (sn : Int) A rs.length cr Bf fs.length cf] W (RetI 0 W)) :
  Calls Tryz.prog 16 #[dsc i o (N : Int) (sn : Int) A rs.length cr Bf fs.length cf] w (TellsOut ((List.range N).filter (goesF rs fs)) w):=by
 obtain ⟨w1,hw1⟩ : ∃ w1,w.alloc (.cells #[.int .i64 i,.int .i64 o,.int .i64 (N : Int),.int .i64 (sn : Int),.slice A rs.length cr,.slice Bf fs.length cf] 26) = w1:=⟨_,rfl⟩
 have hs1 : w1.heap.size = w.heap.size + 1:=by rw [← hw1];simp
 have hb1 : Below w.heap.size w w1:=by rw [← hw1];exact (Below.refl _ _).alloc (Nat.le_refl _) _
 have hd1 : DB w1 w.heap.size i o N sn A rs.length cr Bf fs.length cf:=by rw [← hw1];exact DB.boxed
 have HC:=hid (hC w1 hb1)
 have HG:=hid (fun (W : World) (hW : Below w.heap.size w W)=>goes_any N i o sn A cr Bf cf rs fs W (h.belowM hW) (hff.belowM hW) hl hlf hN hsn hst hsf)
 have HB:=hid hb1
 have HD:=hid hd1
 have HN:=hid hN.2
 obtain ⟨p0,p1,p2,p3,p4,p5⟩:=hd1
 clear hC hb1 h hff hN hst hsf hsn hl hlf
 go_enter Tryz.func16,Tryz.ntmps16
 go_wp2_with (fail)
 refine HC.out.mono ?_
 rintro e w2 ⟨rfl,hb2⟩
 have HB2:=hid (HB.out.trans (hb2.mono HB.out.size))
 obtain ⟨q0,q1,q2,q3,q4,q5⟩:=HD.out.below (by omega) hb2
 have hsz2:=hb2.size
 clear hb2 p0 p1 p2 p3 p4 p5
 go_wp2_with (fail)
 refine (HG.out w2 HB2.out).mono ?_
 rintro e w3 ⟨S,hS,rfl,ho,hb3⟩
 have HO:=hid (show Marks w3 S N (goesF rs fs) from ho)
 have HB3:=hid (HB2.out.trans (hb3.mono HB2.out.size))
 have HS3:=hid hb3.size
 clear ho hb3
 go_wp2_with (fail)
 refine (rising_any (goesF rs fs) N S w3 HO.out HN.out).mono ?_
 rintro e w4 ⟨v,rfl,ho4,hb4⟩
 have HO4:=hid (owns_le (b2:=w.heap.size) ho4 HB3.out.size)
 have HB4:=hid (HB3.out.trans (hb4.mono HB3.out.size))
 clear ho4 hb4
 go_wp2_with (fail)
 go_ret2
 exact ⟨v,rfl,HO4.out,HB4.out⟩
def setM (m : Nat→Bool) (q : Nat) : Nat→Bool:=fun x=>x == q || m x
def unM (N : Nat) (m : Nat→Bool) : Nat:=((List.range N).filter fun q=>!m q).length
theorem unM_le (N : Nat) (m : Nat→Bool) : unM N m≤N:=by
 unfold unM
 have:=List.length_filter_le (fun q=>!m q) (List.range N)
 simpa using this
theorem unM_set {N q : Nat} {m : Nat→Bool} (hq : q < N) (h : m q = false) : unM N (setM m q) < unM N m:=by
 have e1 : ((List.range N).filter fun x=>!setM m q x) = ((List.range N).filter fun x=>!m x).filter fun x=>!(x == q):=by
  rw [List.filter_filter]
  refine List.filter_congr fun x _=>?_
  unfold setM
  cases x == q <;> cases m x <;> rfl
 unfold unM
 rw [e1]
 refine Nat.lt_of_le_of_ne (List.length_filter_le _ _) fun e2=>?_
 have:=List.length_filter_eq_length_iff.1 e2 q (List.mem_filter.2 ⟨List.mem_range.2 hq,by simp [h]⟩)
 simp at this
theorem Marks.set_ {w : World} {S N q : Nat} {m : Nat→Bool} (h : Marks w S N m) : Marks (w.setCell ⟨S,q,none⟩ (.bool true)) S N (setM m q):=by
 have h1:=(World.ownsRow.stored h q (.bool true)).1
 unfold Marks
 rw [show boolV ((List.range N).map (setM m q)) = (boolV ((List.range N).map m)).set q (.bool true) from List.ext_getElem (by simp [boolV]) fun j h1 h2=>by
  simp only [boolV,List.getElem_map,List.getElem_range,List.getElem_set]
  unfold setM
  by_cases e : q = j
  ·subst e
   simp
  ·rw [if_neg e]
   have : (j == q) = false:=by simpa using fun k=>e k.symm
   rw [this]
   rfl]
 exact h1
theorem Marks.congr {w : World} {S N : Nat} {m f : Nat→Bool} (h : Marks w S N m) (he : ∀ q,q < N→m q = f q) : Marks w S N f:=by
 unfold Marks at h ⊢
 rw [show ((List.range N).map f) = (List.range N).map m from List.map_congr_left fun q hq=>(he q (List.mem_range.1 hq)).symm]
 exact h
theorem Marks.frozen {w : World} {S N : Nat} {m : Nat→Bool} (h : Marks w S N m) (q : Nat) : w.frozen? ⟨S,q,none⟩ = false:=by
 have h' : w.ownsRow S 4 1 (.slice (some ⟨S,0,none⟩) N N) N (boolV ((List.range N).map m)):=h
 rcases h'.2 with ⟨h0,_⟩ | ⟨g,cap,cur,h0,_,hb,_⟩
 ·cases h0
 ·simp only [Value.slice.injEq,Option.some.injEq,Addr.mk.injEq] at h0
  obtain ⟨⟨rfl,_⟩,_⟩:=h0
  simp [World.frozen?,hb]
theorem marks_done {E : List (Nat × Nat)} {F : List Nat} {N : Nat} {m : Nat→Bool} (h1 : ∀ q,q < N→m q = true→Reach E F q) (h2 : ∀ q∈F,m q = true) (h3 : ∀ e∈E,m e.1 = true→m e.2 = true) : ∀ q,q < N→m q = reachB E F q:=fun q hq=>by
 cases hm : m q with
 | true=>exact (reachB_iff.2 (h1 q hq hm)).symm
 | false=>
  symm
  rw [Bool.eq_false_iff]
  intro h
  have key : ∀ q,Reach E F q→m q = true:=fun q hr=>by
   induction hr with
   | first hm=>exact h2 _ hm
   | step he _ ih=>exact h3 _ he ih
  rw [key q (reachB_iff.1 h)] at hm
  cases hm
def PassRel (S N : Nat) (E : List (Nat × Nat)) (F : List Nat) (w2 : World) (gk : Nat) (v : Value) (wr : World) : Prop:=
 ∃ (m : Nat→Bool) (more : Bool),v = .bool more∧Marks wr S N m∧(∀ q,q < N→m q = true→Reach E F q)∧(∀ q∈F,m q = true)∧(more = false→∀ e∈E,m e.1 = true→m e.2 = true)∧Below S w2 wr∧2 * unM N m + (if more = true then 1 else 0)≤gk
def EdgeRel (S N : Nat) (E : List (Nat × Nat)) (F : List Nat) (w2 : World) (m : Nat→Bool) (v iv : Value) (wr : World) : Prop:=
 ∃ (k : Nat) (m' : Nat→Bool) (more : Bool),v = .bool more∧iv = .int .i64 k∧k≤E.length∧Marks wr S N m'∧(∀ q,q < N→m' q = true→Reach E F q)∧(∀ q∈F,m' q = true)∧Below S w2 wr∧(more = false→m' = m∧∀ e∈E.take k,m e.1 = true→m e.2 = true)∧(more = true→unM N m' < unM N m)
section
variable {S N : Nat} {E : List (Nat × Nat)} {F : List Nat} {w2 wr : World} {m m' : Nat→Bool} {more : Bool} {k : Nat}
theorem edge_skip (hk : k < E.length) (hM : Marks wr S N m') (h1 : ∀ q,q < N→m' q = true→Reach E F q) (h2 : ∀ q∈F,m' q = true) (hb : Below S w2 wr) (h3 : more = false→m' = m∧∀ e∈E.take k,m e.1 = true→m e.2 = true) (h4 : more = true→unM N m' < unM N m) (hs : m' E[k].1 = true→m' E[k].2 = true) :
  EdgeRel S N E F w2 m (.bool more) (.int .i64 ((k + 1 : Nat) : Int)) wr:=
 ⟨k + 1,m',more,rfl,rfl,hk,hM,h1,h2,hb,fun hf=>by
  obtain ⟨e,h5⟩:=h3 hf
  refine ⟨e,fun x hx=>?_⟩
  rw [List.take_succ_eq_append_getElem hk,List.mem_append,List.mem_singleton] at hx
  rcases hx with hx | rfl
  ·exact h5 x hx
  ·rw [← e];exact hs,h4⟩
theorem unM_next {P : Prop} {q : Nat} (hq : q < N) (hs : m' q = false) (h3 : more = false→m' = m∧P) (h4 : more = true→unM N m' < unM N m) : unM N (setM m' q) < unM N m:=by
 have h5:=unM_set hq hs
 cases hmo : more with
 | false=>rw [(h3 hmo).1] at h5 ⊢;exact h5
 | true=>exact Nat.lt_trans h5 (h4 hmo)
theorem edge_set (hk : k < E.length) (hM : Marks wr S N m') (h1 : ∀ q,q < N→m' q = true→Reach E F q) (h2 : ∀ q∈F,m' q = true) (hb : Below S w2 wr) (h3 : more = false→m' = m∧∀ e∈E.take k,m e.1 = true→m e.2 = true) (h4 : more = true→unM N m' < unM N m) (hp : E[k].1 < N) (hq : E[k].2 < N) (hs1 : m' E[k].1 = true) (hs2 : m' E[k].2 = false) :
  EdgeRel S N E F w2 m (.bool true) (.int .i64 ((k + 1 : Nat) : Int)) (wr.setCell ⟨S,E[k].2,none⟩ (.bool true)):=
 ⟨k + 1,setM m' E[k].2,true,rfl,rfl,hk,hM.set_,fun x hx hm=>by
  unfold setM at hm
  rw [Bool.or_eq_true,beq_iff_eq] at hm
  rcases hm with rfl | hm
  ·exact .step (List.getElem_mem hk) (h1 _ hp hs1)
  ·exact h1 x hx hm,fun x hx=>by unfold setM;rw [h2 x hx,Bool.or_true],hb.setCell (Nat.le_refl _) _,(fun h=>by cases h),fun _=>unM_next hq hs2 h3 h4⟩
theorem pass_next {gk : Nat} {v : Value} (hrel : EdgeRel S N E F w2 m v (.int .i64 (E.length : Int)) wr) (hg : 2 * unM N m + 1≤gk) : PassRel S N E F w2 (gk - 1) v wr:=by
 obtain ⟨k,m',more,rfl,hk,_,hM,h1,h2,hb,h3,h4⟩:=hrel
 simp only [Value.int.injEq,true_and] at hk
 have hkE : k = E.length:=by omega
 subst hkE
 rw [List.take_length] at h3
 refine ⟨m',more,rfl,hM,h1,h2,fun hf=>by rw [(h3 hf).1];exact (h3 hf).2,hb,?_⟩
 cases more with
 | false=>rw [(h3 rfl).1];simp;omega
 | true=>have:=h4 rfl;simp;omega
end
open Go.Lib (hid)
def FinRel (S N : Nat) (rs : List RuL) (fs : List FiL) (w2 : World) (iv : Value) (wr : World) : Prop:=
 ∃ (k : Nat) (m : Nat→Bool),k≤fs.length∧iv = .int .i64 k∧Marks wr S N m∧(∀ q,q < N→m q = true→Reach (rs.map edgB) (fs.map fun f=>f.frm.toNat) q)∧(∀ q∈(fs.take k).map (fun f=>f.frm.toNat),m q = true)∧Below S w2 wr
set_option maxHeartbeats 8000000 in
theorem rcomes_any (N : Nat) (i o : Int) (sn : Nat) (A : Option Addr) (cr : Nat) (Bf : Option Addr) (cf : Nat) (rs : List RuL) (fs : List FiL) (w : World) (h : RRu w A rs.length rs) (hff : RFi w Bf fs.length fs) (hl : rs.length≤4096) (_ : fs.length≤4096) (hN : 1≤N∧N≤1024) (hsn : sn < N) (hst : ∀ j (hj : j < rs.length),stB N rs[j].frm = true∧stB N rs[j].to_ = true) (hsf : ∀ j (hj : j < fs.length),stB N fs[j].frm = true) :
  Calls Tryz.prog 18 #[dsc i o (N : Int) (sn : Int) A rs.length cr Bf fs.length cf] w (ToldOut (comesF rs sn) N w):=by
 obtain ⟨w1,hw1⟩ : ∃ w1,w.alloc (.cells #[.int .i64 i,.int .i64 o,.int .i64 (N : Int),.int .i64 (sn : Int),.slice A rs.length cr,.slice Bf fs.length cf] 26) = w1:=⟨_,rfl⟩
 have hs1 : w1.heap.size = w.heap.size + 1:=by rw [← hw1];simp
 have hb1 : Below w.heap.size w w1:=by rw [← hw1];exact (Below.refl _ _).alloc (Nat.le_refl _) _
 have hd1 : DB w1 w.heap.size i o N sn A rs.length cr Bf fs.length cf:=by rw [← hw1];exact DB.boxed
 have HS1:=hid (show w.heap.size < w1.heap.size by omega)
 have HBW:=hid (fun W (hb : Below w1.heap.size w1 W)=>show Below w.heap.size w W from hb1.trans (hb.mono (Nat.le_of_lt HS1.out)))
 have HDB:=hid (fun W (hb : Below w1.heap.size w1 W)=>show DB W w.heap.size i o N sn A rs.length cr Bf fs.length cf from hd1.below HS1.out hb)
 have HR:=hid (fun W (hb : Below w1.heap.size w1 W)=>show RRu W A rs.length rs from h.belowM (HBW.out W hb))
 have HFI:=hid (fun W (hb : Below w1.heap.size w1 W)=>show RFi W Bf fs.length fs from hff.belowM (HBW.out W hb))
 have HST:=hid hst
 have HSF:=hid hsf
 obtain ⟨hN1,hN2⟩:=hN
 obtain ⟨S,hS⟩ : ∃ S,w1.heap.size = S:=⟨_,rfl⟩
 have hmk:=run_make_row' (P:=Tryz.prog) 38 4 (.bool false) 1 Tryz.underlying38 infoBool rfl .i64 .i64 N (by omega) (by omega) w1
 obtain ⟨w2,hw2⟩ : ∃ w2,w1.alloc (.cells (madeCells #[.bool false] N) 4) = w2:=⟨_,rfl⟩
 rw [hw2,hS] at hmk
 have hb2 : Below w1.heap.size w1 w2:=by rw [← hw2];exact (Below.refl _ _).alloc (Nat.le_refl _) _
 have hM0 : Marks w2 S N (fun _=>false):=by
  have:=World.ownsRow_lit (base:=S) (e:=4) (size:=1) w1 (madeCells #[.bool false] N) N (by omega) (by simp only [maxLen];omega) (by simp [madeCells])
  rw [toList_madeCells_one,hw2,hS] at this
  unfold Marks boolV
  rw [show ((List.range N).map fun _=>false) = List.replicate N false from List.ext_getElem (by simp) fun j h1 h2=>by simp,List.map_replicate]
  exact this
 have HM0:=hid hM0
 have HB2:=hid hb2
 have HSW:=hid hS
 rw [hS] at HB2 HDB HR HFI HBW HS1
 have hsS : w.heap.size < S:=HS1.out
 obtain ⟨p0,p1,p2,p3,p4,p5⟩:=hd1
 clear h hff hst hsf hb1 hb2 hM0
 have HBS:=hid (fun W (hb : Below S w2 W)=>show Below S w1 W from HB2.out.trans hb)
 have i1 : (0 : Int)≤(sn : Int):=Int.natCast_nonneg _
 have i2 : (sn : Int) < (N : Int):=by omega
 have hf2:=HM0.out.frozen sn
 have hc2:=HM0.out.cell hsn
 obtain ⟨w3,hw3⟩ : ∃ w3,w2.setCell ⟨S,sn,none⟩ (.bool true) = w3:=⟨_,rfl⟩
 have HM3:=hid (show Marks w3 S N (setM (fun _=>false) sn) by rw [← hw3];exact HM0.out.set_)
 have HB3:=hid (show Below S w2 w3 by rw [← hw3];exact (Below.refl S w2).setCell (p:=⟨S,sn,none⟩) (Nat.le_refl S) _)
 obtain ⟨y0,y1,y2,y3,y4,y5⟩:=HDB.out w2 HB2.out
 go_enter Tryz.func18,Tryz.ntmps18
 go_wp2_with (fail)
 clear hmk hf2 hc2 y0 y1 y2 y3 y4 y5 p0 p1 p2 p3 p4 p5
 go_loopg [4] (2 * N + 1) (fun gk v wr=>PassRel S N (rs.map edg) [sn] w2 gk v wr)
 case atStart=>exact ⟨setM (fun _=>false) sn,true,rfl,HM3.out,fun q _ hm=>by
  have : q = sn:=by simpa [setM] using hm
  rw [this]
  exact .first (by simp),fun q hq=>by
  rw [List.mem_singleton.1 hq]
  simp [setM],(fun h=>by cases h),HB3.out,by
  have:=unM_le N (setM (fun _=>false) sn)
  simp
  omega⟩
 case round=>
  obtain ⟨m,more,rfl,hM,h1,h2,h3,hbl,hg⟩:=hrel
  cases more with
  | false=>
   have HMR:=hid (hM.congr (marks_done h1 h2 (h3 rfl)))
   have HBR:=hid (HBW.out wr (HBS.out wr hbl))
   clear hM h1 h2 h3 hbl hg
   go_wp2_with (fail)
   go_ret
   exact ⟨S,Nat.le_of_lt hsS,rfl,HMR.out,HBR.out⟩
  | true=>
   have HG:=hid (show 2 * unM N m + 1≤gk by simpa using hg)
   have HST0:=hid (show EdgeRel S N (rs.map edg) [sn] w2 m (.bool false) (.int .i64 (0 : Nat)) wr from ⟨0,m,false,rfl,rfl,Nat.zero_le _,hM,h1,h2,hbl,fun _=>⟨rfl,fun e he=>by simp at he⟩,(fun h=>by cases h)⟩)
   clear hM h1 h2 h3 hbl hg
   go_wp2_with (fail)
   go_loopw [4,5] (fun v iv wr=>EdgeRel S N (rs.map edg) [sn] w2 m v iv wr) (fun _ iv _=>rs.length - (intOf iv).toNat)
   case atStart=>exact HST0.out
   case round=>
    obtain ⟨k,m',more,rfl,rfl,hk,hM,h1,h2,hbl,h3,h4⟩:=hrel
    rw [List.length_map] at hk
    by_cases hlt : k < rs.length
    ·have hxx:=hlt
     have hru:=HR.out wr (HBS.out wr hbl)
     obtain ⟨b,off,A',c',A2,c2,hA,hbB,d0,d1,_⟩:=hru.at_ hlt
     obtain ⟨r,hrk⟩ : ∃ r,rs[k] = r:=⟨_,rfl⟩
     have hst:=HST.out k hlt
     rw [hrk] at d0 d1 hst
     have hst1:=of_decide_eq_true hst.1
     have hst2:=of_decide_eq_true hst.2
     obtain ⟨p,hp⟩ : ∃ p : Nat,r.frm = (p : Int):=⟨r.frm.toNat,by omega⟩
     obtain ⟨q,hq⟩ : ∃ q : Nat,r.to_ = (q : Int):=⟨r.to_.toNat,by omega⟩
     have hpN : p < N:=by omega
     have hqN : q < N:=by omega
     have hke : k < (rs.map edg).length:=by rw [List.length_map];exact hlt
     have hek : (rs.map edg)[k]'hke = (p,q):=by
      rw [List.getElem_map,hrk]
      unfold edg
      rw [hp,hq]
      simp
     rw [hp] at d0
     rw [hq] at d1
     obtain ⟨z0,z1,z2,z3,z4,z5⟩:=HDB.out wr (HBS.out wr hbl)
     have n1 : (0 : Int)≤(p : Int):=Int.natCast_nonneg _
     have n2 : (p : Int) < (N : Int):=by omega
     have n3 : (0 : Int)≤(q : Int):=Int.natCast_nonneg _
     have n4 : (q : Int) < (N : Int):=by omega
     have m1:=hM.cell (q:=p) hpN
     have m2:=hM.cell (q:=q) hqN
     have mf:=hM.frozen q
     have HSK:=hid (fun (hs : m' p = true→m' q = true)=>edge_skip (more:=more) hke hM h1 h2 hbl h3 h4 (by rw [hek];exact hs))
     have HSE:=hid (fun (ha : m' p = true) (hb : m' q = false)=>edge_set (more:=more) hke hM h1 h2 hbl h3 h4 (by rw [hek];exact hpN) (by rw [hek];exact hqN) (by rw [hek];exact ha) (by rw [hek];exact hb))
     rw [hek] at HSE
     have hkb : k < 4096:=by omega
     subst hA
     clear hru hM h1 h2 h3 h4 hbl hek hrk hst
     cases ha : m' p with
     | false=>
      rw [ha] at m1
      have HGO:=hid (HSK.out (by rw [ha];intro h;cases h))
      clear HSK HSE
      go_wp2_with (fail)
      go_roundw
      case rel=>exact HGO.out
      case measure=>simp [intOf];omega
     | true=>
     rw [ha] at m1
     cases hb : m' q with
     | true=>
      rw [hb] at m2
      have HGO:=hid (HSK.out fun _=>hb)
      clear HSK HSE
      go_wp2_with (fail)
      go_roundw
      case rel=>exact HGO.out
      case measure=>simp [intOf];omega
     | false=>
     rw [hb] at m2
     have HGO:=hid (HSE.out ha hb)
     obtain ⟨wn,hwn⟩ : ∃ wn,wr.setCell ⟨S,q,none⟩ (.bool true) = wn:=⟨_,rfl⟩
     rw [hwn] at HGO
     clear HSK HSE
     go_wp2_with (fail)
     go_roundw
     case rel=>exact HGO.out
     case measure=>simp [intOf];omega
    ·obtain rfl : k = rs.length:=by omega
     obtain ⟨z0,z1,z2,z3,z4,z5⟩:=HDB.out wr (HBS.out wr hbl)
     have HNX:=hid (pass_next (v:=.bool more) (show EdgeRel S N (rs.map edg) [sn] w2 m (.bool more) (.int .i64 ((rs.map edg).length : Int)) wr from ⟨(rs.map edg).length,m',more,rfl,rfl,Nat.le_refl _,hM,h1,h2,hbl,by rw [List.length_map];exact h3,h4⟩) HG.out)
     clear hM h1 h2 hbl h3 h4
     go_wp2_with (fail)
     go_roundg (gk - 1)
     case measure=>have:=HG.out;omega
     case rel=>exact HNX.out
set_option maxHeartbeats 8000000 in
theorem rgoes_any (N : Nat) (i o : Int) (sn : Nat) (A : Option Addr) (cr : Nat) (Bf : Option Addr) (cf : Nat) (rs : List RuL) (fs : List FiL) (w : World) (h : RRu w A rs.length rs) (hff : RFi w Bf fs.length fs) (hl : rs.length≤4096) (hlf : fs.length≤4096) (hN : 1≤N∧N≤1024) (hsn : sn < N) (hst : ∀ j (hj : j < rs.length),stB N rs[j].frm = true∧stB N rs[j].to_ = true) (hsf : ∀ j (hj : j < fs.length),stB N fs[j].frm = true) :
  Calls Tryz.prog 19 #[dsc i o (N : Int) (sn : Int) A rs.length cr Bf fs.length cf] w (ToldOut (goesF rs fs) N w):=by
 obtain ⟨w1,hw1⟩ : ∃ w1,w.alloc (.cells #[.int .i64 i,.int .i64 o,.int .i64 (N : Int),.int .i64 (sn : Int),.slice A rs.length cr,.slice Bf fs.length cf] 26) = w1:=⟨_,rfl⟩
 have hs1 : w1.heap.size = w.heap.size + 1:=by rw [← hw1];simp
 have hb1 : Below w.heap.size w w1:=by rw [← hw1];exact (Below.refl _ _).alloc (Nat.le_refl _) _
 have hd1 : DB w1 w.heap.size i o N sn A rs.length cr Bf fs.length cf:=by rw [← hw1];exact DB.boxed
 have HS1:=hid (show w.heap.size < w1.heap.size by omega)
 have HBW:=hid (fun W (hb : Below w1.heap.size w1 W)=>show Below w.heap.size w W from hb1.trans (hb.mono (Nat.le_of_lt HS1.out)))
 have HDB:=hid (fun W (hb : Below w1.heap.size w1 W)=>show DB W w.heap.size i o N sn A rs.length cr Bf fs.length cf from hd1.below HS1.out hb)
 have HR:=hid (fun W (hb : Below w1.heap.size w1 W)=>show RRu W A rs.length rs from h.belowM (HBW.out W hb))
 have HFI:=hid (fun W (hb : Below w1.heap.size w1 W)=>show RFi W Bf fs.length fs from hff.belowM (HBW.out W hb))
 have HST:=hid hst
 have HSF:=hid hsf
 obtain ⟨hN1,hN2⟩:=hN
 obtain ⟨S,hS⟩ : ∃ S,w1.heap.size = S:=⟨_,rfl⟩
 have hmk:=run_make_row' (P:=Tryz.prog) 38 4 (.bool false) 1 Tryz.underlying38 infoBool rfl .i64 .i64 N (by omega) (by omega) w1
 obtain ⟨w2,hw2⟩ : ∃ w2,w1.alloc (.cells (madeCells #[.bool false] N) 4) = w2:=⟨_,rfl⟩
 rw [hw2,hS] at hmk
 have hb2 : Below w1.heap.size w1 w2:=by rw [← hw2];exact (Below.refl _ _).alloc (Nat.le_refl _) _
 have hM0 : Marks w2 S N (fun _=>false):=by
  have:=World.ownsRow_lit (base:=S) (e:=4) (size:=1) w1 (madeCells #[.bool false] N) N (by omega) (by simp only [maxLen];omega) (by simp [madeCells])
  rw [toList_madeCells_one,hw2,hS] at this
  unfold Marks boolV
  rw [show ((List.range N).map fun _=>false) = List.replicate N false from List.ext_getElem (by simp) fun j h1 h2=>by simp,List.map_replicate]
  exact this
 have HM0:=hid hM0
 have HB2:=hid hb2
 have HSW:=hid hS
 rw [hS] at HB2 HDB HR HFI HBW HS1
 have hsS : w.heap.size < S:=HS1.out
 obtain ⟨p0,p1,p2,p3,p4,p5⟩:=hd1
 clear h hff hst hsf hb1 hb2 hM0
 have HBS:=hid (fun W (hb : Below S w2 W)=>show Below S w1 W from HB2.out.trans hb)
 have i1 : (0 : Int)≤(sn : Int):=Int.natCast_nonneg _
 have i2 : (sn : Int) < (N : Int):=by omega
 obtain ⟨y0,y1,y2,y3,y4,y5⟩:=HDB.out w2 HB2.out
 have HSTF:=hid (show FinRel S N rs fs w2 (.int .i64 (0 : Nat)) w2 from ⟨0,_,Nat.zero_le _,rfl,HM0.out,fun q _ h=>(by cases h),fun q hq=>(by simp at hq),Below.refl _ _⟩)
 go_enter Tryz.func19,Tryz.ntmps19
 go_wp2_with (fail)
 clear hmk y0 y1 y2 y3 y4 y5 p0 p1 p2 p3 p4 p5
 go_loopw [4] (fun iv wr=>FinRel S N rs fs w2 iv wr) (fun iv _=>fs.length - (intOf iv).toNat)
 case atStart=>exact HSTF.out
 case round=>
  obtain ⟨k,m,hk,rfl,hM,h1,h2,hbl⟩:=hrel
  by_cases hlt : k < fs.length
  ·obtain ⟨b,off,A',c',A2,c2,hA,hbB,d0,_⟩:=(HFI.out wr (HBS.out wr hbl)).at_ hlt
   obtain ⟨r,hrk⟩ : ∃ r,fs[k] = r:=⟨_,rfl⟩
   have hst:=of_decide_eq_true (HSF.out k hlt)
   rw [hrk] at d0 hst
   obtain ⟨p,hp⟩ : ∃ p : Nat,r.frm = (p : Int):=⟨r.frm.toNat,by omega⟩
   have hpN : p < N:=by omega
   rw [hp] at d0
   obtain ⟨z0,z1,z2,z3,z4,z5⟩:=HDB.out wr (HBS.out wr hbl)
   have n1 : (0 : Int)≤(p : Int):=Int.natCast_nonneg _
   have n2 : (p : Int) < (N : Int):=by omega
   have m1:=hM.cell hpN
   have mf:=hM.frozen p
   have hfp : fs[k].frm.toNat = p:=by rw [hrk,hp];simp
   obtain ⟨wn,hwn⟩ : ∃ wn,wr.setCell ⟨S,p,none⟩ (.bool true) = wn:=⟨_,rfl⟩
   have HNX:=hid (show FinRel S N rs fs w2 (.int .i64 ((k + 1 : Nat) : Int)) wn from ⟨k + 1,setM m p,hlt,rfl,by rw [← hwn];exact hM.set_,fun x hx hm=>by
    unfold setM at hm
    rw [Bool.or_eq_true,beq_iff_eq] at hm
    rcases hm with rfl | hm
    ·exact .first (List.mem_map.2 ⟨fs[k],List.getElem_mem hlt,hfp⟩)
    ·exact h1 x hx hm,fun x hx=>by
    rw [List.take_succ_eq_append_getElem hlt,List.map_append,List.mem_append] at hx
    unfold setM
    rcases hx with hx | hx
    ·rw [h2 x hx,Bool.or_true]
    ·have : x = p:=by simpa [hfp] using hx
     rw [this]
     simp,by rw [← hwn];exact hbl.setCell (Nat.le_refl _) _⟩)
   have hkb : k < 4096:=by omega
   subst hA
   clear hM h1 h2 hbl hrk hst hfp
   go_wp2_with (fail)
   go_roundw
   case rel=>exact HNX.out
   case measure=>simp [intOf];omega
  ·obtain rfl : k = fs.length:=by omega
   rw [List.take_length] at h2
   obtain ⟨wA,hwA⟩ : ∃ wA : World,wA = wr:=⟨_,rfl⟩
   subst hwA
   obtain ⟨z0,z1,z2,z3,z4,z5⟩:=HDB.out wA (HBS.out wA hbl)
   have HSP:=hid (show PassRel S N (rs.map edgB) (fs.map fun f=>f.frm.toNat) w2 (2 * N + 1) (.bool true) wA from ⟨m,true,rfl,hM,h1,h2,(fun h=>by cases h),hbl,by
    have:=unM_le N m
    simp
    omega⟩)
   clear hM h1 h2 hbl
   go_wp2_with (fail)
   clear z0 z1 z2 z3 z4 z5
   go_loopg [5] (2 * N + 1) (fun gk v wr=>PassRel S N (rs.map edgB) (fs.map fun f=>f.frm.toNat) w2 gk v wr)
   case atStart=>exact HSP.out
   case round=>
    obtain ⟨m,more,rfl,hM,h1,h2,h3,hbl,hg⟩:=hrel
    cases more with
    | false=>
     have HMR:=hid (hM.congr (marks_done h1 h2 (h3 rfl)))
     have HBR:=hid (HBW.out wr (HBS.out wr hbl))
     clear hM h1 h2 h3 hbl hg
     go_wp2_with (fail)
     go_ret
     exact ⟨S,Nat.le_of_lt hsS,rfl,HMR.out,HBR.out⟩
    | true=>
     have HG:=hid (show 2 * unM N m + 1≤gk by simpa using hg)
     have HST0:=hid (show EdgeRel S N (rs.map edgB) (fs.map fun f=>f.frm.toNat) w2 m (.bool false) (.int .i64 (0 : Nat)) wr from ⟨0,m,false,rfl,rfl,Nat.zero_le _,hM,h1,h2,hbl,fun _=>⟨rfl,fun e he=>by simp at he⟩,(fun h=>by cases h)⟩)
     clear hM h1 h2 h3 hbl hg
     go_wp2_with (fail)
     go_loopw [5,6] (fun v iv wr=>EdgeRel S N (rs.map edgB) (fs.map fun f=>f.frm.toNat) w2 m v iv wr) (fun _ iv _=>rs.length - (intOf iv).toNat)
     case atStart=>exact HST0.out
     case round=>
      obtain ⟨k,m',more,rfl,rfl,hk,hM,h1,h2,hbl,h3,h4⟩:=hrel
      rw [List.length_map] at hk
      by_cases hlt : k < rs.length
      ·have hxx:=hlt
       have hru:=HR.out wr (HBS.out wr hbl)
       obtain ⟨b,off,A',c',A2,c2,hA,hbB,d0,d1,_⟩:=hru.at_ hlt
       obtain ⟨r,hrk⟩ : ∃ r,rs[k] = r:=⟨_,rfl⟩
       have hst:=HST.out k hlt
       rw [hrk] at d0 d1 hst
       have hst1:=of_decide_eq_true hst.1
       have hst2:=of_decide_eq_true hst.2
       obtain ⟨p,hp⟩ : ∃ p : Nat,r.frm = (p : Int):=⟨r.frm.toNat,by omega⟩
       obtain ⟨q,hq⟩ : ∃ q : Nat,r.to_ = (q : Int):=⟨r.to_.toNat,by omega⟩
       have hpN : p < N:=by omega
       have hqN : q < N:=by omega
       have hke : k < (rs.map edgB).length:=by rw [List.length_map];exact hlt
       have hek : (rs.map edgB)[k]'hke = (q,p):=by
        rw [List.getElem_map,hrk]
        unfold edgB edg
        rw [hp,hq]
        simp
       rw [hp] at d0
       rw [hq] at d1
       obtain ⟨z0,z1,z2,z3,z4,z5⟩:=HDB.out wr (HBS.out wr hbl)
       have n1 : (0 : Int)≤(p : Int):=Int.natCast_nonneg _
       have n2 : (p : Int) < (N : Int):=by omega
       have n3 : (0 : Int)≤(q : Int):=Int.natCast_nonneg _
       have n4 : (q : Int) < (N : Int):=by omega
       have m1:=hM.cell (q:=q) hqN
       have m2:=hM.cell (q:=p) hpN
       have mf:=hM.frozen p
       have HSK:=hid (fun (hs : m' q = true→m' p = true)=>edge_skip (more:=more) hke hM h1 h2 hbl h3 h4 (by rw [hek];exact hs))
       have HSE:=hid (fun (ha : m' q = true) (hb : m' p = false)=>edge_set (more:=more) hke hM h1 h2 hbl h3 h4 (by rw [hek];exact hqN) (by rw [hek];exact hpN) (by rw [hek];exact ha) (by rw [hek];exact hb))
       rw [hek] at HSE
       have hkb : k < 4096:=by omega
       subst hA
       clear hru hM h1 h2 h3 h4 hbl hek hrk hst
       cases ha : m' q with
       | false=>
        rw [ha] at m1
        have HGO:=hid (HSK.out (by rw [ha];intro h;cases h))
        clear HSK HSE
        go_wp2_with (fail)
        go_roundw
        case rel=>exact HGO.out
        case measure=>simp [intOf];omega
       | true=>
       rw [ha] at m1
       cases hb : m' p with
       | true=>
        rw [hb] at m2
        have HGO:=hid (HSK.out fun _=>hb)
        clear HSK HSE
        go_wp2_with (fail)
        go_roundw
        case rel=>exact HGO.out
        case measure=>simp [intOf];omega
       | false=>
       rw [hb] at m2
       have HGO:=hid (HSE.out ha hb)
       obtain ⟨wn,hwn⟩ : ∃ wn,wr.setCell ⟨S,p,none⟩ (.bool true) = wn:=⟨_,rfl⟩
       rw [hwn] at HGO
       clear HSK HSE
       go_wp2_with (fail)
       go_roundw
       case rel=>exact HGO.out
       case measure=>simp [intOf];omega
      ·obtain rfl : k = rs.length:=by omega
       obtain ⟨z0,z1,z2,z3,z4,z5⟩:=HDB.out wr (HBS.out wr hbl)
       have HNX:=hid (pass_next (v:=.bool more) (show EdgeRel S N (rs.map edgB) (fs.map fun f=>f.frm.toNat) w2 m (.bool more) (.int .i64 ((rs.map edgB).length : Int)) wr from ⟨(rs.map edgB).length,m',more,rfl,rfl,Nat.le_refl _,hM,h1,h2,hbl,by rw [List.length_map];exact h3,h4⟩) HG.out)
       clear hM h1 h2 hbl h3 h4
       go_wp2_with (fail)
       go_roundg (gk - 1)
       case measure=>have:=HG.out;omega
       case rel=>exact HNX.out
theorem filter_at {f : Nat→Bool} {N s : Nat} (hs : s < N) (h : f s = true) : ∃ hk : ((List.range s).filter f).length < ((List.range N).filter f).length,((List.range N).filter f)[((List.range s).filter f).length] = s:=by
 have e1 : (List.range N).filter f = (List.range s).filter f ++ s :: ((List.range' (s + 1) (N - s - 1)).filter f):=by
  have : List.range N = List.range s ++ s :: List.range' (s + 1) (N - s - 1):=by
   rw [List.range_eq_range',List.range_eq_range',← List.range'_succ]
   rw [show N - s - 1 + 1 = N - s by omega]
   have:=List.range'_append_1 (s:=0) (m:=s) (n:=N - s)
   rw [Nat.zero_add] at this
   rw [this]
   congr 1
   omega
  rw [this,List.filter_append,List.filter_cons,if_pos h]
 refine ⟨by rw [e1];simp,?_⟩
 simp only [e1,List.getElem_append_right (Nat.le_refl _),Nat.sub_self,List.getElem_cons_zero]
open Go.Lib (hid)
def numI (f g : Nat→Bool) (q : Nat) : Int:=if (f q && g q) = true then (((List.range q).filter fun x=>f x && g x).length : Int) else -1
def NuRel (f g : Nat→Bool) (n : Nat) (w : World) (nv iv : Value) (wr : World) : Prop:=
 ∃ k : Nat,k≤n∧iv = .int .i64 k∧nv = .int .i64 (((List.range k).filter fun x=>f x && g x).length : Nat)∧w = wr
theorem filter_len (h : Nat→Bool) (k : Nat) : ((List.range k).filter h).length≤k:=by
 have:=List.length_filter_le h (List.range k)
 simpa using this
theorem numL_filter {h : Nat→Bool} {N q : Nat} (hq : q < N) (hh : h q = true) : numL ((List.range N).filter h) q = ((List.range q).filter h).length:=by
 obtain ⟨hk,hat⟩:=filter_at hq hh
 have:=List.Nodup.idxOf_getElem (List.Pairwise.filter h (List.nodup_range (n:=N))) _ hk
 rw [hat] at this
 exact this
set_option maxHeartbeats 4000000 in
theorem number_any (f g : Nat→Bool) (N S T q : Nat) (w : World) (hf : Marks w S N f) (hg : Marks w T N g) (hN : N≤1024) (hq : q < N) :
  Calls Tryz.prog 36 #[.slice (some ⟨S,0,none⟩) N N,.slice (some ⟨T,0,none⟩) N N,.int .i64 (q : Int)] w (fun e w'=>e = .returned (.int .i64 (numI f g q))∧w' = w):=by
 have HF:=hid hf
 have HG:=hid hg
 have HFL:=hid (filter_len fun x=>f x && g x)
 clear hf hg
 go_enter Tryz.func36,Tryz.ntmps36
 go_wp2_with (fail)
 go_loopw [7,8] (fun nv iv wr=>NuRel f g q w nv iv wr) (fun _ iv _=>q - (intOf iv).toNat)
 case atStart=>exact ⟨0,Nat.zero_le _,rfl,rfl,rfl⟩
 case round=>
  obtain ⟨k,hk,rfl,rfl,rfl⟩:=hrel
  obtain ⟨n,hn⟩ : ∃ n,((List.range k).filter fun x=>f x && g x).length = n:=⟨_,rfl⟩
  have hnk:=HFL.out k
  rw [hn] at hnk ⊢
  by_cases hlt : k < q
  ·have h1:=HF.out.cell (q:=k) (by omega)
   have h2:=HG.out.cell (q:=k) (by omega)
   cases hfk : f k with
   | false=>
    rw [hfk] at h1
    have HNX:=hid (show ((List.range (k + 1)).filter fun x=>f x && g x).length = n by rw [rangeF_skip (by rw [hfk];rfl),hn])
    clear hn
    go_wp2_with (fail)
    go_roundw
    case rel=>exact ⟨k + 1,by omega,by go_num,by rw [HNX.out],rfl⟩
    case measure=>simp [intOf];omega
   | true=>
   rw [hfk] at h1
   cases hgk : g k with
   | false=>
    rw [hgk] at h2
    have HNX:=hid (show ((List.range (k + 1)).filter fun x=>f x && g x).length = n by rw [rangeF_skip (by rw [hgk,Bool.and_false]),hn])
    clear hn
    go_wp2_with (fail)
    go_roundw
    case rel=>exact ⟨k + 1,by omega,by go_num,by rw [HNX.out],rfl⟩
    case measure=>simp [intOf];omega
   | true=>
    rw [hgk] at h2
    have HNX:=hid (show ((List.range (k + 1)).filter fun x=>f x && g x).length = n + 1 by rw [rangeF_more (by rw [hfk,hgk];rfl),List.length_append,hn];rfl)
    clear hn
    go_wp2_with (fail)
    go_roundw
    case rel=>exact ⟨k + 1,by omega,by go_num,by rw [HNX.out];go_num,rfl⟩
    case measure=>simp [intOf];omega
  ·obtain rfl : k = q:=by omega
   have h1:=HF.out.cell hq
   have h2:=HG.out.cell hq
   have HE1:=hid (show (f k && g k) = true→numI f g k = (n : Int) from fun h=>by unfold numI;rw [if_pos h,hn])
   have HE2:=hid (show (f k && g k) = false→numI f g k = -1 from fun h=>by unfold numI;rw [h];rfl)
   clear hn
   cases hfk : f k with
   | false=>
    rw [hfk] at h1
    go_wp2_with (fail)
    go_ret
    exact ⟨by rw [HE2.out (by rw [hfk];rfl)];rfl,rfl⟩
   | true=>
   rw [hfk] at h1
   cases hgk : g k with
   | false=>
    rw [hgk] at h2
    go_wp2_with (fail)
    go_ret
    exact ⟨by rw [HE2.out (by rw [hgk,Bool.and_false])];rfl,rfl⟩
   | true=>
    rw [hgk] at h2
    go_wp2_with (fail)
    go_ret
    exact ⟨by rw [HE1.out (by rw [hfk,hgk];rfl)];rfl,rfl⟩
end Go.Proofs.YtoofgpoeheponaaGreatDoor.Tr
