import Derived.Test.YtpcgaebbbioifaaGreatDoorT3
import Derived.StillTailTactics
set_option maxRecDepth 100000
namespace Go.Proofs.YtpcgaebbbioifaaGreatDoor.Sp
set_option maxHeartbeats 64000000
open Go Go.RowKit
open Go.Lib (hid)
def Blk (w : World) (g : Nat) (t : TypeId) (cs : Array Value) : Prop:=w.heap[g]? = some (.cells cs t (0,0))
section
variable {w w' : World} {g : Nat} {t : TypeId} {cs : Array Value}
theorem Blk.lt (h : Blk w g t cs) : g < w.heap.size:=by
 rcases Nat.lt_or_ge g w.heap.size with hlt | hge
 ·exact hlt
 ·unfold Blk at h;rw [Array.getElem?_eq_none hge] at h;cases h
theorem Blk.cell (h : Blk w g t cs) (i : Nat) : w.cell? ⟨g,i,none⟩ = cs[i]?:=cell_of_row w g i cs t (0,0) h
theorem Blk.frozen (h : Blk w g t cs) (i : Nat) : w.frozen? ⟨g,i,none⟩ = false:=by
 unfold Blk at h
 simp [World.frozen?,h]
theorem Blk.drew (h : Blk w g t cs) : Blk w.drew g t cs:=h
theorem Blk.alloc (h : Blk w g t cs) (o : Obj) : Blk (w.alloc o) g t cs:=(Below.heap_alloc w o g h.lt).trans h
theorem Blk.set_ (h : Blk w g t cs) (i : Nat) (u : Value) : Blk (w.setCell ⟨g,i,none⟩ u) g t (cs.setIfInBounds i u):=by
 unfold Blk at h ⊢
 simp [World.setCell,Array.getElem?_modify,h]
theorem Blk.below {B : Nat} (h : Blk w g t cs) (hb : Below B w w') (hg : g < B) : Blk w' g t cs:=(hb.block g hg).trans h
end
def At (cur : Array Value) (j : Nat) (p : Span) : Prop:=cur[j * 2]? = some (.int .i64 p.1)∧cur[j * 2 + 1]? = some (.int .i64 p.2)
theorem At.other {cur : Array Value} {j i : Nat} {p : Span} (h : At cur j p) (u : Value) (hi : i < j * 2∨j * 2 + 1 < i) : At (cur.setIfInBounds i u) j p:=by
 unfold At at *
 rw [Array.getElem?_setIfInBounds_ne (by omega),Array.getElem?_setIfInBounds_ne (by omega)]
 exact h
theorem At.here {cur : Array Value} {j : Nat} {lo hi : Int} (hs : j * 2 + 1 < cur.size) : At ((cur.setIfInBounds (j * 2) (.int .i64 lo)).setIfInBounds (j * 2 + 1) (.int .i64 hi)) j (lo,hi):=by
 unfold At
 rw [Array.getElem?_setIfInBounds_ne (by omega),Array.getElem?_setIfInBounds_self_of_lt (by omega),Array.getElem?_setIfInBounds_self_of_lt (by simp;omega)]
 exact ⟨rfl,rfl⟩
theorem At.hi {cur : Array Value} {j : Nat} {p : Span} (h : At cur j p) (hi : Int) : At (cur.setIfInBounds (j * 2 + 1) (.int .i64 hi)) j (p.1,hi):=by
 unfold At at *
 have hs : j * 2 + 1 < cur.size:=(Array.getElem?_eq_some_iff.1 h.2).1
 rw [Array.getElem?_setIfInBounds_ne (by omega),Array.getElem?_setIfInBounds_self_of_lt hs]
 exact ⟨h.1,rfl⟩
def JoinMem (w : World) (g cap k : Nat) (out d : List Span) : Prop:=
 ∃ cur,Blk w g 47 cur∧cur.size = cap * 2∧(∀ (j : Nat) (h : j < out.length),At cur j out[j])∧(∀ (j : Nat),k≤j→∀ h : j < d.length,At cur j d[j])
theorem JoinMem.more {w : World} {g cap k : Nat} {out d : List Span} {lo hi : Int} (h : JoinMem w g cap k out d) (hk : out.length≤k) (hc : k < cap) :
  JoinMem ((w.setCell ⟨g,out.length * 2,none⟩ (.int .i64 lo)).setCell ⟨g,out.length * 2 + 1,none⟩ (.int .i64 hi)) g cap (k + 1) (out ++ [(lo,hi)]) d:=by
 obtain ⟨cur,hb,hs,h1,h2⟩:=h
 refine ⟨_,(hb.set_ _ _).set_ _ _,by simp [hs],fun j hj=>?_,fun j hkj hj=>?_⟩
 ·rw [List.length_append,List.length_singleton] at hj
  by_cases e : j = out.length
  ·subst e
   rw [List.getElem_append_right (by omega)]
   simp only [Nat.sub_self,List.getElem_cons_zero]
   exact At.here (by omega)
  ·rw [List.getElem_append_left (by omega)]
   exact ((h1 j (by omega)).other _ (by omega)).other _ (by omega)
 ·exact ((h2 j (by omega) hj).other _ (by omega)).other _ (by omega)
theorem JoinMem.merge {w : World} {g cap k : Nat} {o d : List Span} {r : Span} {hi : Int} (h : JoinMem w g cap k (o ++ [r]) d) (hk : o.length < k) :
  JoinMem (w.setCell ⟨g,o.length * 2 + 1,none⟩ (.int .i64 hi)) g cap (k + 1) (o ++ [(r.1,hi)]) d:=by
 obtain ⟨cur,hb,hs,h1,h2⟩:=h
 refine ⟨_,hb.set_ _ _,by simp [hs],fun j hj=>?_,fun j hkj hj=>?_⟩
 ·rw [List.length_append,List.length_singleton] at hj
  by_cases e : j = o.length
  ·subst e
   have h3:=h1 o.length (by simp)
   rw [List.getElem_append_right (by omega)] at h3 ⊢
   simp only [Nat.sub_self,List.getElem_cons_zero] at h3 ⊢
   exact h3.hi _
  ·have h3:=h1 j (by simp;omega)
   rw [List.getElem_append_left (by omega)] at h3 ⊢
   exact h3.other _ (by omega)
 ·exact (h2 j (by omega) hj).other _ (by omega)
theorem JoinMem.start {w : World} {base g cap : Nat} {d : List Span} (h : OwnsL w base (.slice (some ⟨g,0,none⟩) d.length cap) d) : JoinMem w g cap 0 [] d∧base≤g∧d.length≤cap∧cap≤maxLen:=by
 obtain ⟨_,h2⟩:=h
 rcases h2 with ⟨h2,_⟩ | ⟨g',cap',cur,hv,hbase,hb,hn,hm,hs,ht⟩
 ·cases h2
 ·injection hv with hv _ hcap
  injection hv with hv
  injection hv with hv
  subst hv hcap
  refine ⟨⟨cur,hb,hs,fun j hj=>by simp at hj,fun j _ hj=>?_⟩,hbase,hn,hm⟩
  have h3:=flat_at d j hj
  rw [← ht] at h3
  rw [List.getElem?_take_of_lt (by omega),List.getElem?_take_of_lt (by omega),Array.getElem?_toList,Array.getElem?_toList] at h3
  unfold At
  rw [show j * 2 = 2 * j from by omega]
  exact h3
theorem JoinMem.owns {w : World} {base g cap k : Nat} {out d : List Span} (h : JoinMem w g cap k out d) (hbase : base≤g) (hn : out.length≤cap) (hm : cap≤maxLen) : OwnsL w base (.slice (some ⟨g,0,none⟩) out.length cap) out:=by
 obtain ⟨cur,hb,hs,h1,_⟩:=h
 refine ⟨flat_length out,.inr ⟨g,cap,cur,rfl,hbase,hb,hn,hm,hs,?_⟩⟩
 apply List.ext_getElem?
 intro i
 by_cases hi : i < out.length * 2
 ·rw [List.getElem?_take_of_lt hi,Array.getElem?_toList]
  have h2:=h1 (i / 2) (by omega)
  have h3:=flat_at out (i / 2) (by omega)
  rcases Nat.mod_two_eq_zero_or_one i with e | e
  ·rw [show i = 2 * (i / 2) from by omega,h3.1,← h2.1]
   congr 1;omega
  ·rw [show i = 2 * (i / 2) + 1 from by omega,h3.2,← h2.2]
   congr 1;omega
 ·rw [List.getElem?_take_eq_none (by omega),List.getElem?_eq_none (by rw [flat_length];omega)]
theorem JoinMem.alloc {w : World} {g cap k : Nat} {out d : List Span} (h : JoinMem w g cap k out d) (o : Obj) : JoinMem (w.alloc o) g cap k out d:=by
 obtain ⟨cur,hb,h⟩:=h
 exact ⟨cur,hb.alloc o,h⟩
theorem JoinMem.drewN {w : World} {g cap k : Nat} {out d : List Span} (h : JoinMem w g cap k out d) (n : Nat) : JoinMem (w.drewN n) g cap k out d:=h
theorem JoinMem.drew {w : World} {g cap k : Nat} {out d : List Span} (h : JoinMem w g cap k out d) : JoinMem w.drew g cap k out d:=h
theorem JoinMem.reads {w : World} {g cap k : Nat} {out d : List Span} (h : JoinMem w g cap k out d) (hk : k < d.length) (hc : d.length≤cap) (ho : out.length≤k) : ∃ (lo hi : Int) (o1 o2 : Value),g < w.heap.size∧d[k] = (lo,hi) ∧
  w.cell? ⟨g,k * 2,none⟩ = some (.int .i64 lo)∧w.cell? ⟨g,k * 2 + 1,none⟩ = some (.int .i64 hi)∧w.cell? ⟨g,out.length * 2,none⟩ = some o1∧w.cell? ⟨g,out.length * 2 + 1,none⟩ = some o2∧(∀ i,w.frozen? ⟨g,i,none⟩ = false):=by
 obtain ⟨cur,hb,hs,h1,h2⟩:=h
 have h3:=h2 k (Nat.le_refl _) hk
 have e1 : cur[out.length * 2]? = some (cur[out.length * 2]'(by omega)):=Array.getElem?_eq_getElem (by omega)
 have e2 : cur[out.length * 2 + 1]? = some (cur[out.length * 2 + 1]'(by omega)):=Array.getElem?_eq_getElem (by omega)
 exact ⟨d[k].1,d[k].2,_,_,hb.lt,rfl,(hb.cell _).trans h3.1,(hb.cell _).trans h3.2,(hb.cell _).trans e1,(hb.cell _).trans e2,hb.frozen⟩
theorem JoinMem.last {w : World} {g cap k : Nat} {o d : List Span} {r : Span} (h : JoinMem w g cap k (o ++ [r]) d) : w.cell? ⟨g,o.length * 2 + 1,none⟩ = some (.int .i64 r.2):=by
 obtain ⟨cur,hb,hs,h1,h2⟩:=h
 have h3:=h1 o.length (by simp)
 rw [List.getElem_append_right (by omega)] at h3
 simp only [Nat.sub_self,List.getElem_cons_zero] at h3
 exact (hb.cell _).trans h3.2
def JoinRel (d : List Span) (g cap base : Nat) (w : World) (m i : Value) (wr : World) : Prop:=∃ (k : Nat) (out : List Span),k≤d.length∧i = .int .i64 k∧m = .int .i64 out.length∧JoinInv d k out∧JoinMem wr g cap k out d∧Below base w wr
def JoinOut (w : World) (base : Nat) (d : List Span) (e : Ending) (w' : World) : Prop:=∃ v' out,e = .returned v'∧Is out (mem d)∧OwnsL w' base v' out∧Below base w w'
theorem join_any (base g cap : Nat) (d : List Span) (w : World) (hown : OwnsL w base (.slice (some ⟨g,0,none⟩) d.length cap) d) (hbase : base≤w.heap.size) (hs : SortedLo d) (hd : ∀ p∈d,Ok p) (hlen : d.length≤1099511627776) :
  Calls Tryz.prog 122 #[.slice (some ⟨g,0,none⟩) d.length cap] w (JoinOut w base d):=by
 obtain ⟨hm0,hg,hdc,hcm⟩:=JoinMem.start hown
 clear hown
 have HM0:=hid hm0;clear hm0
 have HS:=hid hs;clear hs
 have HD:=hid hd;clear hd
 unfold maxLen at hcm
 go_enter Tryz.func122,Tryz.ntmps122
 go_wp2_with (fail)
 go_loopw [3,8] (fun m i wr=>JoinRel d g cap base w m i wr) (fun _ i _=>d.length - (intOf i).toNat)
 case atStart=>exact ⟨0,[],Nat.zero_le _,rfl,rfl,JoinInv.start d,HM0.out,Below.refl _ _⟩
 case round=>
  obtain ⟨k,out,hk,rfl,rfl,hi,hm,hb⟩:=hrel
  have hfew:=hi.few
  have HI:=hid hi;clear hi
  by_cases hlt : k < d.length
  ·obtain ⟨lo,hi,o1,o2,hgs,hdk,hc1,hc2,hc3,hc4,hfz⟩:=hm.reads hlt hdc hfew
   have HK:=hid hdk;clear hdk
   have hws:=hb.size
   have HM:=hid hm;clear hm
   rcases List.eq_nil_or_concat out with rfl | ⟨o,r,rfl⟩
   ·have hd0 : decide ((0 : Int) < ((0 : Nat) : Int)) = false:=by simp
    simp only [List.length_nil,Nat.zero_mul,Nat.zero_add] at hc3 hc4
    go_wp2_with (fail)
    go_quiet (fail)
    go_wp2_with (fail)
    have hI1:=HI.out.more HS.out HD.out hlt (fun r hr=>by simp at hr)
    rw [HK.out] at hI1
    have hM1:=(HM.out.alloc (.cells #[.int .i64 lo,.int .i64 hi] 47)).more (lo:=lo) (hi:=hi) (Nat.zero_le _) (by omega)
    simp only [List.length_nil,Nat.zero_mul,Nat.zero_add] at hM1
    go_roundw
    case rel=>exact ⟨k + 1,[] ++ [(lo,hi)],by omega,by go_num,rfl,hI1,hM1,((below_drewN (hb.alloc (by omega) _) _).setCell hg _).setCell hg _⟩
    case measure=>simp [intOf];omega
   ·obtain ⟨rl,rh⟩:=r
    simp only [List.concat_eq_append,List.length_append,List.length_singleton] at *
    have hrl : -1073741824≤rh∧rh≤1073741824:=by
     have:=HI.out.plain.2 (rl,rh) (by simp)
     unfold Ok at this;simp only at this;omega
    have hc5 : wr.cell? ⟨g,o.length * 2 + 1,none⟩ = some (.int .i64 rh):=HM.out.last
    have hd0 : decide ((0 : Int) < ((o.length + 1 : Nat) : Int)) = true:=by simp
    generalize hj : o.length = j at *
    have HJ:=hid hj;clear hj
    by_cases a : lo≤rh + 1
    ·clear hc3 hc4
     go_wp2_with (fail)
     go_quiet (fail)
     have hI1:=HI.out.merge HD.out hlt (by rw [HK.out];exact a)
     rw [HK.out] at hI1
     simp only at hI1
     have HI1:=hid hI1;clear hI1
     by_cases hmx : rh < hi
     ·have hM1:=fun n=>(((HM.out.alloc (.cells #[.int .i64 lo,.int .i64 hi] 47)).drewN n).merge (hi:=hi) (by rw [HJ.out];omega))
      rw [HJ.out] at hM1
      have HM1:=hid hM1;clear hM1
      go_wp2_with (fail)
      go_region
      all_goals go_wp2_with (fail)
      all_goals go_roundw
      case rel=>exact ⟨k + 1,o ++ [(rl,hi)],by omega,by go_num,by rw [List.length_append,HJ.out,List.length_singleton];go_num,by have:=HI1.out;rwa [show max rh hi = hi from by omega] at this,HM1.out _,(below_drewN (hb.alloc (by omega) _) _).setCell hg _⟩
      case measure=>simp [intOf];omega
     ·have hM1:=fun n=>(((HM.out.alloc (.cells #[.int .i64 lo,.int .i64 hi] 47)).drewN n).merge (hi:=rh) (by rw [HJ.out];omega))
      rw [HJ.out] at hM1
      have HM1:=hid hM1;clear hM1
      go_wp2_with (fail)
      go_region
      all_goals go_wp2_with (fail)
      all_goals go_roundw
      case rel=>exact ⟨k + 1,o ++ [(rl,rh)],by omega,by go_num,by rw [List.length_append,HJ.out,List.length_singleton];go_num,by have:=HI1.out;rwa [show max rh hi = rh from by omega] at this,HM1.out _,(below_drewN (hb.alloc (by omega) _) _).setCell hg _⟩
      case measure=>simp [intOf];omega
    ·have hI1:=HI.out.more HS.out HD.out hlt (fun r hr=>by simp at hr;subst hr;rw [HK.out];simp only;omega)
     rw [HK.out] at hI1
     have hM1:=fun n=>((HM.out.alloc (.cells #[.int .i64 lo,.int .i64 hi] 47)).drewN n).more (lo:=lo) (hi:=hi) (by rw [List.length_append,HJ.out,List.length_singleton];omega) (by omega)
     rw [List.length_append,HJ.out,List.length_singleton] at hM1
     have HI1:=hid hI1;clear hI1
     have HM1:=hid hM1;clear hM1
     go_wp2_with (fail)
     go_quiet (fail)
     go_wp2_with (fail)
     go_roundw
     case rel=>exact ⟨k + 1,o ++ [(rl,rh)] ++ [(lo,hi)],by omega,by go_num,by simp only [List.length_append,HJ.out,List.length_singleton];go_num,HI1.out,HM1.out _,((below_drewN (hb.alloc (by omega) _) _).setCell hg _).setCell hg _⟩
     case measure=>simp [intOf];omega
  ·have hkd : d.length≤k:=by omega
   have hlo : out.length≤cap:=by omega
   go_wp2_with (fail)
   go_ret
   exact ⟨_,out,rfl,HI.out.done hkd,hm.owns hg hlo (by unfold maxLen;omega),hb⟩
theorem join_none (w : World) : Calls Tryz.prog 122 #[.slice none 0 0] w (RetW (.slice none 0 0) w):=by
 go_enter Tryz.func122,Tryz.ntmps122
 go_wp2_with (fail)
 go_loop [3,8] (fun m i=>m = .int .i64 (0 : Nat)∧i = .int .i64 (0 : Nat)) (fun _ i=>0 - (intOf i).toNat)
 case atStart=>exact ⟨rfl,rfl⟩
 case round=>
  obtain ⟨rfl,rfl⟩:=hrel
  go_wp2_with (fail)
  go_ret
  exact ⟨rfl,rfl⟩
def Srt (xs : List Int) : Prop:=xs.Pairwise (· < ·)
theorem infoInt : (Tryz.prog.info? 3).map (fun i=>(i.zero,i.size,i.bytes)) = some (some (.int .i64 0),1,8):=by kernel_rfl
structure BS (xs : List Int) (x : Int) (lo hi : Nat) : Prop where
 le : lo≤hi
 top : hi≤xs.length
 below : ∀ (i : Nat) (h : i < xs.length),i < lo→xs[i] < x
 above : ∀ (i : Nat) (h : i < xs.length),hi≤i→x≤xs[i]
structure BInv (done : List Span) (ys : List Int) : Prop where
 srt : Srt ys
 rng : ∀ y∈ys,Rng y
 least : -1073741824∈ys
 lo : ∀ p∈done,-1073741824 < p.1→p.1≤1073741824→p.1∈ys
 hi : ∀ p∈done,-1073741824≤p.2→p.2 < 1073741824→p.2 + 1∈ys
 few : ys.length≤1 + 2 * done.length
structure MakeInv (bs : List Int) (P : Int→Prop) (k : Nat) (out : List Span) : Prop where
 plain : Plain out
 set : ∀ x,mem out x↔(Rng x∧(∀ h : k < bs.length,x < bs[k])∧P x)
 ahead : ∀ r∈out,∀ h : k < bs.length,r.2 < bs[k]
structure Segs (bs : List Int) (P : Int→Prop) : Prop where
 srt : Srt bs
 rng : ∀ y∈bs,Rng y
 least : -1073741824∈bs
 const : ∀ (k : Nat) (hk : k < bs.length) (x : Int),bs[k]≤x→(∀ h : k + 1 < bs.length,x < bs[k + 1])→Rng x→(P bs[k]↔P x)
end Go.Proofs.YtpcgaebbbioifaaGreatDoor.Sp
