import Derived.Test.YtoofgpoeheponaaGreatDoorT38
import Derived.Test.YtoofgpoeheponaaGreatDoorT42
set_option maxRecDepth 100000
namespace Go.Proofs.YtoofgpoeheponaaGreatDoor.Rg
open Go Go.RowKit Go.Shelf Go.Maps Sp Pa Te Mi Sh Fi De
open Go.Lib (hid)
def RgW {α : Type} (P : α→Bool) (l : List α) (w : World) (v : Value) (wr : World) : Prop:=∃ k : Nat,k≤l.length∧v = .int .i64 k∧(∀ j (hj : j < l.length),j < k→P l[j] = true)∧Below w.heap.size w wr
set_option maxHeartbeats 16000000 in
theorem rwhere_bad (i o n s : Int) (A : Option Addr) (cr : Nat) (B : Option Addr) (cf : Nat) (rs : List RuL) (fs : List FiL) (w : World) (hrl : rs.length≤maxLen) (hfl : fs.length≤maxLen) (hbad : headB i o n s rs.length fs.length = false) :
  Calls Tryz.prog 27 #[dsc i o n s A rs.length cr B fs.length cf] w (WhOut (whereD i o n s rs fs) w):=by
 obtain ⟨w1,hw1⟩ : ∃ w1,w.alloc (.cells #[.int .i64 i,.int .i64 o,.int .i64 n,.int .i64 s,.slice A rs.length cr,.slice B fs.length cf] 26) = w1:=⟨_,rfl⟩
 have hs1 : w1.heap.size = w.heap.size + 1:=by rw [← hw1];simp
 have hb1 : Below w.heap.size w w1:=by rw [← hw1];exact (Below.refl _ _).alloc (Nat.le_refl _) _
 have hd1 : DB w1 w.heap.size i o n s A rs.length cr B fs.length cf:=by rw [← hw1];exact DB.boxed
 have HB1:=hid hb1
 obtain ⟨p0,p1,p2,p3,p4,p5⟩:=hd1
 clear hb1
 obtain ⟨v,hv⟩ : ∃ v,whereD i o n s rs fs = v:=⟨_,rfl⟩
 rw [hv]
 have HV:=hid hv
 clear hv
 unfold maxLen at hrl hfl
 go_enter Tryz.func27,Tryz.ntmps27
 go_upto_region 1 with (fail)
 go_cut [61] (fun v wx=>wx = w1∧v = .bool (!(headB i o n s rs.length fs.length)))
 ·by_cases a1 : i = 1∨i = 2
  case neg=>
   have b3 : (i == 1) = false:=by simp;omega
   have b4 : (i == 2) = false:=by simp;omega
   have HHH:=hid (show headB i o n s rs.length fs.length = false by unfold headB sortB;rw [decide_eq_false a1];rfl)
   go_wp2_with (fail)
   go_meet
   exact ⟨rfl,by rw [HHH.out];rfl⟩
  by_cases a2 : o = 1∨o = 2
  case neg=>
   have b3 : (o == 1) = false:=by simp;omega
   have b4 : (o == 2) = false:=by simp;omega
   have HHH:=hid (show headB i o n s rs.length fs.length = false by unfold headB sortB;rw [decide_eq_false a2];simp)
   rcases a1 with rfl | rfl
   all_goals
    go_wp2_with (fail)
    go_meet
    exact ⟨rfl,by rw [HHH.out];rfl⟩
  by_cases a3 : 1≤n
  case neg=>
   have d_ : decide (n < 1) = true:=decide_eq_true (by omega)
   have HHH:=hid (show headB i o n s rs.length fs.length = false by unfold headB;rw [decide_eq_false a3];simp)
   rcases a1 with rfl | rfl <;> rcases a2 with rfl | rfl
   all_goals
    go_wp2_with (fail)
    go_meet
    exact ⟨rfl,by rw [HHH.out];rfl⟩
  have d3 : decide (n < 1) = false:=decide_eq_false (by omega)
  by_cases a4 : n≤1024
  case neg=>
   have d_ : decide (1024 < n) = true:=decide_eq_true (by omega)
   have HHH:=hid (show headB i o n s rs.length fs.length = false by unfold headB;rw [decide_eq_false a4];simp)
   rcases a1 with rfl | rfl <;> rcases a2 with rfl | rfl
   all_goals
    go_wp2_with (fail)
    go_meet
    exact ⟨rfl,by rw [HHH.out];rfl⟩
  have d4 : decide (1024 < n) = false:=decide_eq_false (by omega)
  by_cases a5 : 0≤s
  case neg=>
   have d_ : decide (s < 0) = true:=decide_eq_true (by omega)
   have HHH:=hid (show headB i o n s rs.length fs.length = false by unfold headB stB;rw [decide_eq_false (show ¬ (0≤s∧s < n) from fun q=>a5 q.1)];simp)
   rcases a1 with rfl | rfl <;> rcases a2 with rfl | rfl
   all_goals
    go_wp2_with (fail)
    go_meet
    exact ⟨rfl,by rw [HHH.out];rfl⟩
  have d5 : decide (s < 0) = false:=decide_eq_false (by omega)
  by_cases a6 : s < n
  case neg=>
   have d_ : decide (n≤s) = true:=decide_eq_true (by omega)
   have HHH:=hid (show headB i o n s rs.length fs.length = false by unfold headB stB;rw [decide_eq_false (show ¬ (0≤s∧s < n) from fun q=>a6 q.2)];simp)
   rcases a1 with rfl | rfl <;> rcases a2 with rfl | rfl
   all_goals
    go_wp2_with (fail)
    go_meet
    exact ⟨rfl,by rw [HHH.out];rfl⟩
  have d6 : decide (n≤s) = false:=decide_eq_false (by omega)
  by_cases a7 : rs.length≤4096
  case neg=>
   have d_ : decide ((4096 : Int) < (rs.length : Int)) = true:=decide_eq_true (by omega)
   have HHH:=hid (show headB i o n s rs.length fs.length = false by unfold headB;rw [decide_eq_false a7];simp)
   rcases a1 with rfl | rfl <;> rcases a2 with rfl | rfl
   all_goals
    go_wp2_with (fail)
    go_meet
    exact ⟨rfl,by rw [HHH.out];rfl⟩
  have d7 : decide ((4096 : Int) < (rs.length : Int)) = false:=decide_eq_false (by omega)
  by_cases a8 : fs.length≤4096
  case neg=>
   have d_ : decide ((4096 : Int) < (fs.length : Int)) = true:=decide_eq_true (by omega)
   have HHH:=hid (show headB i o n s rs.length fs.length = false by unfold headB;rw [decide_eq_false a8];simp)
   rcases a1 with rfl | rfl <;> rcases a2 with rfl | rfl
   all_goals
    go_wp2_with (fail)
    go_meet
    exact ⟨rfl,by rw [HHH.out];rfl⟩
  have d8 : decide ((4096 : Int) < (fs.length : Int)) = false:=decide_eq_false (by omega)
  exact absurd hbad (by
   unfold headB sortB stB
   rw [decide_eq_true a1,decide_eq_true a2,decide_eq_true a3,decide_eq_true a4,decide_eq_true (show 0≤s∧s < n from ⟨a5,a6⟩),decide_eq_true a7,decide_eq_true a8]
   decide)
 obtain ⟨hwc,hu⟩:=hcut
 subst hwc hu
 rw [hbad,show (!false) = true from rfl]
 have hvv : v = (1,0):=by rw [← HV.out];unfold whereD whereV;rw [if_neg (by rw [hbad];decide)]
 subst hvv
 clear hw1 hbad
 go_wp2_with (fail)
 go_ret2
 exact ⟨rfl,HB1.out⟩
open Go.Lib (hid)
set_option maxHeartbeats 16000000 in
theorem rwhere_any (i o n s : Int) (A : Option Addr) (cr : Nat) (B : Option Addr) (cf : Nat) (rs : List RuL) (fs : List FiL) (w : World) (hr : RRu w A rs.length rs) (hrl : rs.length≤maxLen) (hf : RFi w B fs.length fs) (hfl : fs.length≤maxLen) :
  Calls Tryz.prog 27 #[dsc i o n s A rs.length cr B fs.length cf] w (WhOut (whereD i o n s rs fs) w):=by
 obtain ⟨w1,hw1⟩ : ∃ w1,w.alloc (.cells #[.int .i64 i,.int .i64 o,.int .i64 n,.int .i64 s,.slice A rs.length cr,.slice B fs.length cf] 26) = w1:=⟨_,rfl⟩
 have hs1 : w1.heap.size = w.heap.size + 1:=by rw [← hw1];simp
 have hb1 : Below w.heap.size w w1:=by rw [← hw1];exact (Below.refl _ _).alloc (Nat.le_refl _) _
 have hd1 : DB w1 w.heap.size i o n s A rs.length cr B fs.length cf:=by rw [← hw1];exact DB.boxed
 have HD1:=hid hd1
 have HB1:=hid hb1
 have HR:=hid (hr.belowM hb1)
 have HF:=hid (hf.belowM hb1)
 obtain ⟨p0,p1,p2,p3,p4,p5⟩:=hd1
 have HST:=hid (show RgW (ruleB i n (fitF i o)) rs w1 (.int .i64 (0 : Nat)) w1 from ⟨0,Nat.zero_le _,rfl,fun j _ h=>absurd h (by omega),Below.refl _ _⟩)
 clear hr hf hb1
 obtain ⟨v,hv⟩ : ∃ v,whereD i o n s rs fs = v:=⟨_,rfl⟩
 rw [hv]
 have HV:=hid hv
 clear hv
 by_cases hh0 : headB i o n s rs.length fs.length = true
 case neg=>
  have q:=rwhere_bad i o n s A cr B cf rs fs w hrl hfl (by simpa using hh0)
  rw [HV.out] at q
  exact q
 have HH0:=hid hh0
 clear hh0
 unfold maxLen at hrl hfl
 go_enter Tryz.func27,Tryz.ntmps27
 go_upto_region 1 with (fail)
 go_cut [61] (fun v wx=>wx = w1∧v = .bool (!(headB i o n s rs.length fs.length)))
 ·have hh2:=HH0.out
  unfold headB sortB stB at hh2
  simp only [Bool.and_eq_true,decide_eq_true_eq] at hh2
  obtain ⟨a1,a2,a3,a4,⟨a5,a6⟩,a7,a8⟩:=hh2
  have d3 : decide (n < 1) = false:=decide_eq_false (by omega)
  have d4 : decide (1024 < n) = false:=decide_eq_false (by omega)
  have d5 : decide (s < 0) = false:=decide_eq_false (by omega)
  have d6 : decide (n≤s) = false:=decide_eq_false (by omega)
  have d7 : decide ((4096 : Int) < (rs.length : Int)) = false:=decide_eq_false (by omega)
  have d8 : decide ((4096 : Int) < (fs.length : Int)) = false:=decide_eq_false (by omega)
  rcases a1 with rfl | rfl <;> rcases a2 with rfl | rfl
  all_goals
   go_wp2_with (fail)
   go_meet
   exact ⟨rfl,by rw [HH0.out];rfl⟩
 obtain ⟨hwc,hu⟩:=hcut
 subst hwc hu
 clear hw1
 have hhd:=HH0.out
 rw [hhd,show (!true) = false from rfl]
 have HHD:=hid hhd
 have hh2:=hhd
 unfold headB sortB stB at hh2
 simp only [Bool.and_eq_true,decide_eq_true_eq] at hh2
 obtain ⟨hii,hoo,hn1,hn2,⟨hs0,hs2⟩,hr4,hf4⟩:=hh2
 have HII:=hid hii
 have HVB:=hid (fun (k : Nat) (hk : k < rs.length) (hok : ∀ j (hj : j < rs.length),j < k→ruleB i n (fitF i o) rs[j] = true) (hb : ruleB i n (fitF i o) rs[k] = false)=>show v = (2,(k : Int)) by rw [← HV.out];unfold whereD whereV;rw [if_pos HHD.out,bad_at hk hb hok])
 have HVF:=hid (fun (hrs : ∀ j (hj : j < rs.length),ruleB i n (fitF i o) rs[j] = true) (k : Nat) (hk : k < fs.length) (hok : ∀ j (hj : j < fs.length),j < k→finB i n (fitF i o) fs[j] = true) (hb : finB i n (fitF i o) fs[k] = false)=>show v = (3,(k : Int)) by rw [← HV.out];unfold whereD whereV;rw [if_pos HHD.out,bad_none (k:=rs.length) (by omega) (fun j hj _=>hrs j hj),bad_at hk hb hok])
 have HVC:=hid (fun (hrs : ∀ j (hj : j < rs.length),ruleB i n (fitF i o) rs[j] = true) (hfs : ∀ j (hj : j < fs.length),finB i n (fitF i o) fs[j] = true)=>show v = if cycE (epsE rs) n.toNat = true then (4,0) else (0,0) by rw [← HV.out];unfold whereD whereV;rw [if_pos HHD.out,bad_none (k:=rs.length) (by omega) (fun j hj _=>hrs j hj),bad_none (k:=fs.length) (by omega) (fun j hj _=>hfs j hj)])
 clear hhd hii hoo
 go_wp2_with (fail)
 go_loopw [4] (fun v wr=>RgW (ruleB i n (fitF i o)) rs wc v wr) (fun v _=>rs.length - (intOf v).toNat)
 case atStart=>exact HST.out
 case round=>
  obtain ⟨k,hk,rfl,hok,hb⟩:=hrel
  have HB:=hid hb
  have HOK:=hid hok
  have hwr:=hb.size
  obtain ⟨p0,p1,p2,p3,p4,p5⟩:=HD1.out.below (by omega) hb
  by_cases hlt : k < rs.length
  case pos=>
   obtain ⟨b,off,A',c',A2,c2,hA,hbB,d0,d1,d2,d3,d4,⟨hg,hgc,hgl,hgm⟩,ht,_,_,_⟩:=(HR.out.belowM hb).at_ hlt
   obtain ⟨q,hq⟩ : ∃ q,rs[k] = q:=⟨_,rfl⟩
   have HVK:=hid (fun h=>HVB.out k hlt HOK.out h)
   have HNX:=hid (fun (h : ruleB i n (fitF i o) q = true) W (hW : Below wc.heap.size wc W)=>show RgW (ruleB i n (fitF i o)) rs wc (.int .i64 ((k : Int) + 1)) W from ⟨k + 1,hlt,rfl,next_ok hlt (by rw [hq];exact h) HOK.out,hW⟩)
   rw [hq] at d0 d1 d2 d3 d4 hg hgc hgl hgm ht HVK
   obtain ⟨w5,hw5⟩ : ∃ w5,wr.alloc (.cells #[.int .i64 q.frm,.int .i64 q.to_,.slice A' q.gs.length c',.int .i64 q.eat,.slice A2 q.out.length c2] 50) = w5:=⟨_,rfl⟩
   have hb5 : Below wr.heap.size wr w5:=by rw [← hw5];exact (Below.refl _ _).alloc (Nat.le_refl _) _
   have hs5 : w5.heap.size = wr.heap.size + 1:=by rw [← hw5];simp
   have hr5 : RB w5 wr.heap.size q.frm q.to_ A' q.gs.length c' q.eat A2 q.out.length c2:=by rw [← hw5];exact RB.boxed
   have hb15 : Below wc.heap.size wc w5:=below_r hb hb5
   have HB5:=hid hb15
   have HR5:=hid hr5
   have HG5:=hid (hg.belowM hb5)
   have HT5:=hid (ht.belowM hb5)
   have HGM:=hid hgm
   obtain ⟨q0,q1,q2,q3,q4⟩:=hr5
   obtain ⟨y0,y1,y2,y3,y4,y5⟩:=HD1.out.below (by omega) hb15
   have HRQ:=hid (show ruleB i n (fitF i o) q = (stB n q.frm && (stB n q.to_ && (guardsB i q.gs && (eatB q.gs.length q.eat && termsB (fitF i o q.gs) q.out)))) from rfl)
   subst hA
   clear hb hok hg ht hgm hb5 hb15 hq
   have s1 : IntKind.i64.wrap ((k : Int) + 1) = (k : Int) + 1:=IntWalk.i64_in _ (by omega)
   have i1 : (0 : Int)≤(k : Int):=Int.natCast_nonneg _
   have i2 : (k : Int) < (rs.length : Int):=by omega
   obtain ⟨g,hgq⟩ : ∃ g,q.gs.length = g:=⟨_,rfl⟩
   obtain ⟨x,hxq⟩ : ∃ x,q.eat = x:=⟨_,rfl⟩
   have HGX:=hid (And.intro hgq hxq)
   rw [hgq] at q2 d2 hgl hgc HRQ
   rw [hxq] at q3 d3 HRQ
   unfold maxLen at hgl
   have hrb2 : RB w5 wr.heap.size q.frm q.to_ A' g c' x A2 q.out.length c2:=⟨q0,q1,q2,q3,q4⟩
   have HR5':=hid hrb2
   rw [hgq,hxq] at hw5
   clear hgq hxq hrb2 HR5
   go_upto_region 8 with (fail)
   go_cut [7] (fun vx wx=>vx = .bool (eatB g x)∧wx = w5)
   ·rcases Nat.eq_zero_or_pos g with g0 | g0
    ·subst g0
     by_cases x0 : x = 0
     ·subst x0
      have HE:=hid (show eatB 0 0 = true from rfl)
      go_wp2_with (fail)
      go_meet
      exact ⟨by rw [HE.out],rfl⟩
     ·have e1 : (x == 0) = false:=by simpa using x0
      have HE:=hid (show eatB 0 x = false from decide_eq_false fun z=>x0 (by have:=z.1;have:=z.2;rw [if_pos rfl] at *;omega))
      by_cases x1 : 1≤x
      ·have e2 : decide (1≤x) = true:=decide_eq_true x1
       have e3 : decide (x≤0) = false:=decide_eq_false (by omega)
       go_wp2_with (fail)
       go_meet
       exact ⟨by rw [HE.out],rfl⟩
      ·have e2 : decide (1≤x) = false:=decide_eq_false x1
       go_wp2_with (fail)
       go_meet
       exact ⟨by rw [HE.out],rfl⟩
    ·have e0 : ((g : Int) == 0) = false:=by simp;omega
     have e0' : decide ((g : Int) = 0) = false:=decide_eq_false (by omega)
     by_cases x1 : 1≤x
     ·have e2 : decide (1≤x) = true:=decide_eq_true x1
      by_cases x2 : x≤g
      ·have e3 : decide (x≤(g : Int)) = true:=decide_eq_true x2
       have HE:=hid (show eatB g x = true from decide_eq_true ⟨by rw [if_neg (by omega)];exact x1,x2⟩)
       go_wp2_with (fail)
       go_meet
       exact ⟨by rw [HE.out],rfl⟩
      ·have e3 : decide (x≤(g : Int)) = false:=decide_eq_false x2
       have HE:=hid (show eatB g x = false from decide_eq_false fun z=>x2 z.2)
       go_wp2_with (fail)
       go_meet
       exact ⟨by rw [HE.out],rfl⟩
     ·have e2 : decide (1≤x) = false:=decide_eq_false x1
      have HE:=hid (show eatB g x = false from decide_eq_false fun z=>x1 (by have:=z.1;rw [if_neg (by omega)] at this;exact this))
      go_wp2_with (fail)
      go_meet
      exact ⟨by rw [HE.out],rfl⟩
   obtain ⟨h7,hw7⟩:=hcut
   subst h7 hw7
   clear hw5
   rename World=>w5
   have HGU:=hid (rguards_any i A' c' q.gs w5 HG5.out (by rw [HGX.out.1];unfold maxLen;exact hgl) HGM.out)
   rw [HGX.out.1] at HGU
   have HWR:=hid (fun (hgv : guardsB i q.gs = true) W (hW : Below w5.heap.size w5 W)=>rwrites_any i o n s (some ⟨b,off,none⟩) rs.length cr B fs.length cf A2 c2 q.out A' c' q.gs W (HT5.out.belowM hW) (HG5.out.belowM hW) (gs_ok hgv HII.out))
   rw [HGX.out.1] at HWR
   by_cases f0 : 0≤q.frm
   case neg=>
    have e_ : decide (q.frm < 0) = true:=decide_eq_true (by omega)
    obtain rfl:=HVK.out (by rw [HRQ.out,stB_lo f0];rfl)
    go_wp2_with (fail)
    go_ret2
    exact ⟨rfl,HB1.out.trans (HB5.out.mono (by omega))⟩
   have f0d : decide (q.frm < 0) = false:=decide_eq_false (by omega)
   by_cases f1 : q.frm < n
   case neg=>
    have e_ : decide (n≤q.frm) = true:=decide_eq_true (by omega)
    obtain rfl:=HVK.out (by rw [HRQ.out,stB_hi f1];rfl)
    go_wp2_with (fail)
    go_ret2
    exact ⟨rfl,HB1.out.trans (HB5.out.mono (by omega))⟩
   have f1d : decide (n≤q.frm) = false:=decide_eq_false (by omega)
   by_cases f2 : 0≤q.to_
   case neg=>
    have e_ : decide (q.to_ < 0) = true:=decide_eq_true (by omega)
    obtain rfl:=HVK.out (by rw [HRQ.out,stB_lo f2];simp)
    go_wp2_with (fail)
    go_ret2
    exact ⟨rfl,HB1.out.trans (HB5.out.mono (by omega))⟩
   have f2d : decide (q.to_ < 0) = false:=decide_eq_false (by omega)
   by_cases f3 : q.to_ < n
   case neg=>
    have e_ : decide (n≤q.to_) = true:=decide_eq_true (by omega)
    obtain rfl:=HVK.out (by rw [HRQ.out,stB_hi f3];simp)
    go_wp2_with (fail)
    go_ret2
    exact ⟨rfl,HB1.out.trans (HB5.out.mono (by omega))⟩
   have f3d : decide (n≤q.to_) = false:=decide_eq_false (by omega)
   obtain ⟨eb,heb⟩ : ∃ eb,eatB g x = eb:=⟨_,rfl⟩
   rw [heb] at HRQ
   rw [heb]
   clear heb
   cases eb
   ·obtain rfl:=HVK.out (by rw [HRQ.out];simp)
    go_wp2_with (fail)
    go_ret2
    exact ⟨rfl,HB1.out.trans (HB5.out.mono (by omega))⟩
   obtain ⟨gv,hgv⟩ : ∃ gv,guardsB i q.gs = gv:=⟨_,rfl⟩
   have HGV:=hid hgv
   rw [hgv] at HGU HRQ
   clear hgv
   go_wp2_with (fail)
   refine HGU.out.mono ?_
   rintro e w6 ⟨rfl,hb6⟩
   have hz6:=hb6.size
   have HB6:=hid (below_r HB5.out hb6)
   obtain ⟨q0,q1,q2,q3,q4⟩:=HR5'.out.below (by omega) hb6
   obtain ⟨y0,y1,y2,y3,y4,y5⟩:=HD1.out.below (by omega) HB6.out
   cases gv
   ·obtain rfl:=HVK.out (by rw [HRQ.out];simp)
    go_wp2_with (fail)
    go_ret2
    exact ⟨rfl,HB1.out.trans (HB6.out.mono (by omega))⟩
   have HW6:=hid (HWR.out HGV.out w6 hb6)
   obtain ⟨tv,htv⟩ : ∃ tv,termsB (fitF i o q.gs) q.out = tv:=⟨_,rfl⟩
   rw [htv] at HW6 HRQ
   clear htv hb6
   go_wp2_with (fail)
   refine HW6.out.mono ?_
   rintro e w7 ⟨rfl,hb7⟩
   have HB7:=hid (below_r HB6.out hb7)
   clear hb7
   cases tv
   ·obtain rfl:=HVK.out (by rw [HRQ.out];simp)
    go_wp2_with (fail)
    go_ret2
    exact ⟨rfl,HB1.out.trans (HB7.out.mono (by omega))⟩
   have HNW:=hid (HNX.out (by rw [HRQ.out,stB_t f0 f1,stB_t f2 f3];rfl) w7 HB7.out)
   go_wp2_with (fail)
   go_roundw
   case rel=>exact HNW.out
   case measure=>simp [intOf];omega
  have HAR:=hid (show ∀ j (hj : j < rs.length),ruleB i n (fitF i o) rs[j] = true from fun j hj=>hok j hj (by omega))
  have HBA:=hid hb
  have HRA:=hid (HR.out.belowM hb)
  rename World=>wa
  have HST2:=hid (show RgW (finB i n (fitF i o)) fs wa (.int .i64 (0 : Nat)) wa from ⟨0,Nat.zero_le _,rfl,fun j _ h=>absurd h (by omega),Below.refl _ _⟩)
  clear hok hb
  go_wp2_with (fail)
  go_loopw [8] (fun v wr=>RgW (finB i n (fitF i o)) fs wa v wr) (fun v _=>fs.length - (intOf v).toNat)
  case atStart=>exact HST2.out
  case round=>
   obtain ⟨m,hm,rfl,hok,hb⟩:=hrel
   have HB:=hid hb
   have HOK2:=hid hok
   have hwr2:=hb.size
   have HBC:=hid (below_r HBA.out hb)
   obtain ⟨p0,p1,p2,p3,p4,p5⟩:=HD1.out.below (by omega) HBC.out
   by_cases hlt2 : m < fs.length
   case pos=>
    obtain ⟨b,off,A',c',A2,c2,hA,hbB,d0,d1,d2,⟨hg,hgc,hgl,hgm⟩,ht,_,_⟩:=(HF.out.belowM HBC.out).at_ hlt2
    obtain ⟨q,hq⟩ : ∃ q,fs[m] = q:=⟨_,rfl⟩
    have HVK:=hid (fun h=>HVF.out HAR.out m hlt2 HOK2.out h)
    have HNX:=hid (fun (h : finB i n (fitF i o) q = true) W (hW : Below wa.heap.size wa W)=>show RgW (finB i n (fitF i o)) fs wa (.int .i64 ((m : Int) + 1)) W from ⟨m + 1,hlt2,rfl,next_ok hlt2 (by rw [hq];exact h) HOK2.out,hW⟩)
    rw [hq] at d0 d1 d2 hg hgc hgl hgm ht HVK
    obtain ⟨g,hgq⟩ : ∃ g,q.gs.length = g:=⟨_,rfl⟩
    have HGQ:=hid hgq
    rw [hgq] at d1 hgc hgl
    obtain ⟨w5,hw5⟩ : ∃ w5,wr.alloc (.cells #[.int .i64 q.frm,.slice A' g c',.slice A2 q.out.length c2] 45) = w5:=⟨_,rfl⟩
    have hb5 : Below wr.heap.size wr w5:=by rw [← hw5];exact (Below.refl _ _).alloc (Nat.le_refl _) _
    have hs5 : w5.heap.size = wr.heap.size + 1:=by rw [← hw5];simp
    have q0 : w5.cell? ⟨wr.heap.size,0,none⟩ = some (.int .i64 q.frm):=by rw [← hw5];simp
    have q1 : w5.cell? ⟨wr.heap.size,1,none⟩ = some (.slice A' g c'):=by rw [← hw5];simp
    have q2 : w5.cell? ⟨wr.heap.size,2,none⟩ = some (.slice A2 q.out.length c2):=by rw [← hw5];simp
    have HQ5:=hid (And.intro q0 (And.intro q1 q2))
    have HB5:=hid (below_r hb hb5)
    have HC5:=hid (below_r HBC.out hb5)
    have HG5:=hid (hg.belowM hb5)
    have HT5:=hid (ht.belowM hb5)
    have HGM:=hid hgm
    obtain ⟨y0,y1,y2,y3,y4,y5⟩:=HD1.out.below (by omega) HC5.out
    have HRQ:=hid (show finB i n (fitF i o) q = (stB n q.frm && (guardsB i q.gs && termsB (fitF i o q.gs) q.out)) from rfl)
    unfold maxLen at hgl
    have HGU:=hid (rguards_any i A' c' q.gs w5 HG5.out (by rw [HGQ.out];unfold maxLen;exact hgl) HGM.out)
    rw [HGQ.out] at HGU
    have HWR:=hid (fun (hgv : guardsB i q.gs = true) W (hW : Below w5.heap.size w5 W)=>rwrites_any i o n s A rs.length cr B fs.length cf A2 c2 q.out A' c' q.gs W (HT5.out.belowM hW) (HG5.out.belowM hW) (gs_ok hgv HII.out))
    rw [HGQ.out] at HWR
    subst hA
    clear hb hok hg ht hgm hb5 hq hgq
    have s1 : IntKind.i64.wrap ((m : Int) + 1) = (m : Int) + 1:=IntWalk.i64_in _ (by omega)
    have i1 : (0 : Int)≤(m : Int):=Int.natCast_nonneg _
    have i2 : (m : Int) < (fs.length : Int):=by omega
    by_cases f0 : 0≤q.frm
    case neg=>
     have e_ : decide (q.frm < 0) = true:=decide_eq_true (by omega)
     obtain rfl:=HVK.out (by rw [HRQ.out,stB_lo f0];rfl)
     go_wp2_with (fail)
     go_ret2
     exact ⟨rfl,HB1.out.trans (HC5.out.mono (by omega))⟩
    have f0d : decide (q.frm < 0) = false:=decide_eq_false (by omega)
    by_cases f1 : q.frm < n
    case neg=>
     have e_ : decide (n≤q.frm) = true:=decide_eq_true (by omega)
     obtain rfl:=HVK.out (by rw [HRQ.out,stB_hi f1];rfl)
     go_wp2_with (fail)
     go_ret2
     exact ⟨rfl,HB1.out.trans (HC5.out.mono (by omega))⟩
    have f1d : decide (n≤q.frm) = false:=decide_eq_false (by omega)
    obtain ⟨gv,hgv⟩ : ∃ gv,guardsB i q.gs = gv:=⟨_,rfl⟩
    have HGV:=hid hgv
    rw [hgv] at HGU HRQ
    clear hgv
    go_wp2_with (fail)
    refine HGU.out.mono ?_
    rintro e w6 ⟨rfl,hb6⟩
    have hz6:=hb6.size
    have HB6:=hid (below_r HB5.out hb6)
    have HC6:=hid (below_r HC5.out hb6)
    have q0:=(hb6.cell (p:=⟨wr.heap.size,0,none⟩) (by show wr.heap.size < _;omega)).trans HQ5.out.1
    have q1:=(hb6.cell (p:=⟨wr.heap.size,1,none⟩) (by show wr.heap.size < _;omega)).trans HQ5.out.2.1
    have q2:=(hb6.cell (p:=⟨wr.heap.size,2,none⟩) (by show wr.heap.size < _;omega)).trans HQ5.out.2.2
    obtain ⟨y0,y1,y2,y3,y4,y5⟩:=HD1.out.below (by omega) HC6.out
    cases gv
    ·obtain rfl:=HVK.out (by rw [HRQ.out];simp)
     go_wp2_with (fail)
     go_ret2
     exact ⟨rfl,HB1.out.trans (HC6.out.mono (by omega))⟩
    have HW6:=hid (HWR.out HGV.out w6 hb6)
    obtain ⟨tv,htv⟩ : ∃ tv,termsB (fitF i o q.gs) q.out = tv:=⟨_,rfl⟩
    rw [htv] at HW6 HRQ
    clear htv hb6
    go_wp2_with (fail)
    refine HW6.out.mono ?_
    rintro e w7 ⟨rfl,hb7⟩
    have HB7:=hid (below_r HB6.out hb7)
    have HC7:=hid (below_r HC6.out hb7)
    clear hb7
    cases tv
    ·obtain rfl:=HVK.out (by rw [HRQ.out];simp)
     go_wp2_with (fail)
     go_ret2
     exact ⟨rfl,HB1.out.trans (HC7.out.mono (by omega))⟩
    have HNW:=hid (HNX.out (by rw [HRQ.out,stB_t f0 f1];rfl) w7 HB7.out)
    go_wp2_with (fail)
    go_roundw
    case rel=>exact HNW.out
    case measure=>simp [intOf];omega
   have HAF:=hid (show ∀ j (hj : j < fs.length),finB i n (fitF i o) fs[j] = true from fun j hj=>hok j hj (by omega))
   have hvc:=HVC.out HAR.out HAF.out
   obtain ⟨N,hN⟩:=Int.eq_ofNat_of_zero_le (show 0≤n by omega)
   subst hN
   have HCY:=hid (rcycle_any N i o s A cr B fs.length cf rs wr (HRA.out.belowM hb) hr4 (by omega) (fun j hj=>by
    have h2:=HAR.out j hj
    unfold ruleB at h2
    simp only [Bool.and_eq_true] at h2
    exact ⟨h2.1,h2.2.1⟩))
   rw [Int.toNat_natCast] at hvc
   obtain ⟨cy,hcy⟩ : ∃ cy,cycE (epsE rs) N = cy:=⟨_,rfl⟩
   rw [hcy] at HCY hvc
   have HBZ:=hid (HB1.out.trans (HBC.out.mono (by omega)))
   clear hok hb hcy
   cases cy
   ·obtain rfl : v = (0,0):=hvc
    go_wp2_with (fail)
    refine HCY.out.mono ?_
    rintro e w9 ⟨rfl,hb9⟩
    have HB9:=hid (below_r HBZ.out hb9)
    clear hb9
    go_wp2_with (fail)
    go_ret2
    exact ⟨rfl,HB9.out⟩
   ·obtain rfl : v = (4,0):=hvc
    go_wp2_with (fail)
    refine HCY.out.mono ?_
    rintro e w9 ⟨rfl,hb9⟩
    have HB9:=hid (below_r HBZ.out hb9)
    clear hb9
    go_wp2_with (fail)
    go_ret2
    exact ⟨rfl,HB9.out⟩
end Go.Proofs.YtoofgpoeheponaaGreatDoor.Rg
namespace Go.Proofs.YtoofgpoeheponaaGreatDoor.De
open Go Go.RowKit Sp Pa Te Mi Rg
set_option maxHeartbeats 4000000 in
theorem rright_any (i o n s : Int) (A : Option Addr) (cr : Nat) (B : Option Addr) (cf : Nat) (rs : List RuL) (fs : List FiL) (w : World) (hr : RRu w A rs.length rs) (hrl : rs.length≤maxLen) (hf : RFi w B fs.length fs) (hfl : fs.length≤maxLen) :
  Calls Tryz.prog 11 #[dsc i o n s A rs.length cr B fs.length cf] w (RetB (decide ((whereD i o n s rs fs).1 = 0)) w):=by
 obtain ⟨w1,hw1⟩ : ∃ w1,w.alloc (.cells #[.int .i64 i,.int .i64 o,.int .i64 n,.int .i64 s,.slice A rs.length cr,.slice B fs.length cf] 26) = w1:=⟨_,rfl⟩
 have hb1 : Below w.heap.size w w1:=by rw [← hw1];exact (Below.refl _ _).alloc (Nat.le_refl _) _
 have hd1 : DB w1 w.heap.size i o n s A rs.length cr B fs.length cf:=by rw [← hw1];exact DB.boxed
 have HB1:=Lib.hid hb1
 have HW:=Lib.hid (rwhere_any i o n s A cr B cf rs fs w1 (hr.belowM hb1) hrl (hf.belowM hb1) hfl)
 obtain ⟨p0,p1,p2,p3,p4,p5⟩:=hd1
 obtain ⟨⟨k,a⟩,hka⟩ : ∃ q,whereD i o n s rs fs = q:=⟨_,rfl⟩
 rw [hka] at HW
 rw [hka]
 clear hr hrl hf hfl hb1 hka
 go_enter Tryz.func11,Tryz.ntmps11
 go_wp2_with (fail)
 refine HW.out.mono ?_
 rintro e w2 ⟨rfl,hb2⟩
 have HB2:=Lib.hid (below_r HB1.out hb2)
 clear hb2
 by_cases hk : k = 0
 ·subst hk
  go_wp2_with (fail)
  go_ret
  exact ⟨rfl,HB2.out⟩
 ·have e1 : (k == 0) = false:=by simpa using hk
  have e2 : decide (k = 0) = false:=decide_eq_false hk
  clear hk
  go_wp2_with (fail)
  go_ret
  exact ⟨by rw [show decide ((k,a).1 = 0) = false from e2];rfl,HB2.out⟩
end Go.Proofs.YtoofgpoeheponaaGreatDoor.De
namespace Go.Proofs.YtoofgpoeheponaaGreatDoor.Tr
open Go Go.RowKit Sp Pa Te Mi De
open Go.Lib (hid)
set_option maxHeartbeats 8000000 in
theorem takes_bad (i o n s : Int) (A : Option Addr) (cr : Nat) (B : Option Addr) (cf : Nat) (rs : List RuL) (fs : List FiL) (w : World) (hd : DM w ⟨i,o,n,s,A,cr,B,cf,rs,fs⟩) (hT : Fi.TabB w) (hw : (whereD i o n s rs fs).1≠0) : Calls Tryz.prog 5 #[dsc i o n s A rs.length cr B fs.length cf] w (RetB true w):=by
 obtain ⟨w1,hw1⟩ : ∃ w1,w.alloc (.cells #[.int .i64 i,.int .i64 o,.int .i64 n,.int .i64 s,.slice A rs.length cr,.slice B fs.length cf] 26) = w1:=⟨_,rfl⟩
 have hs1 : w1.heap.size = w.heap.size + 1:=by rw [← hw1];simp
 have hb1 : Below w.heap.size w w1:=by rw [← hw1];exact (Below.refl _ _).alloc (Nat.le_refl _) _
 have hq1 : Blk w1 w.heap.size 26 #[.int .i64 i,.int .i64 o,.int .i64 n,.int .i64 s,.slice A rs.length cr,.slice B fs.length cf]:=by rw [← hw1];exact heap_alloc_new w _
 have H1:=hid (show w.heap.size≤w1.heap.size by omega)
 have HBW:=hid (fun W (h : Below w1.heap.size w1 W)=>show Below w.heap.size w W from hb1.trans (h.mono H1.out))
 have HDB:=hid (fun W (h : Below w1.heap.size w1 W)=>show DB W w.heap.size i o n s A rs.length cr B fs.length cf from by
  have h1:=hq1.below h (by omega)
  exact ⟨h1.cell 0,h1.cell 1,h1.cell 2,h1.cell 3,h1.cell 4,h1.cell 5⟩)
 have HTB:=hid (fun W (h : Below w1.heap.size w1 W)=>show Fi.TabB W from hT.next (HBW.out W h))
 have HDM:=hid (fun W (h : Below w1.heap.size w1 W)=>show DM W ⟨i,o,n,s,A,cr,B,cf,rs,fs⟩ from hd.below (HBW.out W h))
 have HA:=hid (fun W (h : Below w1.heap.size w1 W)=>awake_any W (HTB.out W h))
 have HSM:=hid (Rg.rsmall_any i o n s A cr B cf rs fs w1 (HDM.out w1 (Below.refl _ _)).rules (HDM.out w1 (Below.refl _ _)).finals)
 have HW:=hid hw
 have HRI:=hid (fun W (h : Below w1.heap.size w1 W)=>De.rright_any i o n s A cr B cf rs fs W (HDM.out W h).rules (HDM.out W h).rl (HDM.out W h).finals (HDM.out W h).fl)
 rw [decide_eq_false hw] at HRI
 obtain ⟨p0,p1,p2,p3,p4,p5⟩:=HDB.out w1 (Below.refl _ _)
 clear hd hT hw hb1 hq1
 go_enter Tryz.func5,Tryz.ntmps5
 go_wp2_with (fail)
 refine HSM.out.mono ?_
 rintro e w2 ⟨b,rfl,hbs,hb2⟩
 have H2:=hid hb2
 clear hb2 p0 p1 p2 p3 p4 p5
 obtain ⟨p0,p1,p2,p3,p4,p5⟩:=HDB.out w2 H2.out
 cases b with
 | false=>
  clear hbs
  go_wp2_with (fail)
  refine (HA.out w2 H2.out).mono ?_
  rintro e wq ⟨rfl,hbq⟩
  have HQ:=hid (HBW.out wq (below_t H2.out hbq))
  clear hbq
  go_wp2_with (fail)
  go_ret
  exact ⟨rfl,HQ.out⟩
 | true=>
 clear hbs
 go_wp2_with (fail)
 refine (trim_bad i o n s A cr B cf rs fs w2 (HDM.out w2 H2.out) (HTB.out w2 H2.out) HW.out).mono ?_
 rintro e w3 ⟨rfl,hb3⟩
 obtain ⟨wc,hwc,hqc,hlc,hbc⟩:=new_cells w3 #[.int .i64 0,.int .i64 0,.int .i64 0,.int .i64 0,.slice none 0 0,.slice none 0 0] 26
 have H4:=hid (below_t (below_t H2.out hb3) hbc)
 have HWE:=hid hwc
 have HCB:=hid (fun W (h : Below wc.heap.size wc W)=>show DB W w3.heap.size 0 0 0 0 none 0 0 none 0 0 from by
  have h1:=hqc.below h hlc
  exact ⟨h1.cell 0,h1.cell 1,h1.cell 2,h1.cell 3,h1.cell 4,h1.cell 5⟩)
 clear hb3 hwc hqc hlc hbc p0 p1 p2 p3 p4 p5
 go_upto_region 4 with (fail)
 rw [HWE.out]
 obtain ⟨p0,p1,p2,p3,p4,p5⟩:=HDB.out wc H4.out
 go_wp2_with (fail)
 refine (HRI.out wc H4.out).mono ?_
 rintro e w5 ⟨rfl,hb5⟩
 have H5:=hid (below_t H4.out hb5)
 obtain ⟨q0,q1,q2,q3,q4,q5⟩:=HCB.out w5 hb5
 clear hb5 p0 p1 p2 p3 p4 p5
 go_wp2_with (fail)
 refine (rdesc_eq 0 0 0 0 none none 0 0 none none 0 0 [] [] w5 (RRu.nil_ _ _) (RRu.nil_ _ _) (Nat.zero_le _) (RFi.nil_ _ _) (RFi.nil_ _ _) (Nat.zero_le _) (fun q hq=>by cases hq) (fun q hq=>by cases hq)).mono ?_
 rintro e w6 ⟨rfl,hb6⟩
 have H6:=hid (below_t H5.out hb6)
 clear hb6 q0 q1 q2 q3 q4 q5
 go_wp2_with (fail)
 refine (HA.out w6 H6.out).mono ?_
 rintro e wq ⟨rfl,hbq⟩
 have HQ:=hid (HBW.out wq (below_t H6.out hbq))
 clear hbq
 go_wp2_with (fail)
 go_ret
 exact ⟨rfl,HQ.out⟩
set_option maxHeartbeats 16000000 in
theorem takes_ok (i o : Int) (N sn : Nat) (A : Option Addr) (cr : Nat) (B : Option Addr) (cf : Nat) (rs : List RuL) (fs : List FiL) (w : World) (hd : DM w ⟨i,o,(N : Int),(sn : Int),A,cr,B,cf,rs,fs⟩) (hT : Fi.TabB w) (hw : (whereD i o (N : Int) (sn : Int) rs fs).1 = 0) : Calls Tryz.prog 5 #[dsc i o (N : Int) (sn : Int) A rs.length cr B fs.length cf] w (RetB true w):=by
 obtain ⟨w1,hw1⟩ : ∃ w1,w.alloc (.cells #[.int .i64 i,.int .i64 o,.int .i64 (N : Int),.int .i64 (sn : Int),.slice A rs.length cr,.slice B fs.length cf] 26) = w1:=⟨_,rfl⟩
 have hs1 : w1.heap.size = w.heap.size + 1:=by rw [← hw1];simp
 have hb1 : Below w.heap.size w w1:=by rw [← hw1];exact (Below.refl _ _).alloc (Nat.le_refl _) _
 have hq1 : Blk w1 w.heap.size 26 #[.int .i64 i,.int .i64 o,.int .i64 (N : Int),.int .i64 (sn : Int),.slice A rs.length cr,.slice B fs.length cf]:=by rw [← hw1];exact heap_alloc_new w _
 have H1:=hid (show w.heap.size≤w1.heap.size by omega)
 have HBW:=hid (fun W (h : Below w1.heap.size w1 W)=>show Below w.heap.size w W from hb1.trans (h.mono H1.out))
 have HDB:=hid (fun W (h : Below w1.heap.size w1 W)=>show DB W w.heap.size i o (N : Int) (sn : Int) A rs.length cr B fs.length cf from by
  have h1:=hq1.below h (by omega)
  exact ⟨h1.cell 0,h1.cell 1,h1.cell 2,h1.cell 3,h1.cell 4,h1.cell 5⟩)
 have HTB:=hid (fun W (h : Below w1.heap.size w1 W)=>show Fi.TabB W from hT.next (HBW.out W h))
 have HDM:=hid (fun W (h : Below w1.heap.size w1 W)=>show DM W ⟨i,o,(N : Int),(sn : Int),A,cr,B,cf,rs,fs⟩ from hd.below (HBW.out W h))
 have HA:=hid (fun W (h : Below w1.heap.size w1 W)=>awake_any W (HTB.out W h))
 have HSM:=hid (Rg.rsmall_any i o N sn A cr B cf rs fs w1 (HDM.out w1 (Below.refl _ _)).rules (HDM.out w1 (Below.refl _ _)).finals)
 have HW:=hid hw
 have HR0 : RightD ⟨i,o,(N : Int),(sn : Int),A,cr,B,cf,rs,fs⟩:=DV.right.rightD (d:=⟨i,o,(N : Int),(sn : Int),A,cr,B,cf,rs,fs⟩) hw
 have HRI:=hid (fun W (h : Below w1.heap.size w1 W)=>De.rright_any i o N sn A cr B cf rs fs W (HDM.out W h).rules (HDM.out W h).rl (HDM.out W h).finals (HDM.out W h).fl)
 rw [decide_eq_true hw] at HRI
 have HRT0:=hid (fun W (h : Below w1.heap.size w1 W)=>rtrim_any i o N sn A cr B cf rs fs W (HDM.out W h) HR0)
 obtain ⟨p0,p1,p2,p3,p4,p5⟩:=HDB.out w1 (Below.refl _ _)
 clear hd hT hw hb1 hq1 HR0
 go_enter Tryz.func5,Tryz.ntmps5
 go_wp2_with (fail)
 refine HSM.out.mono ?_
 rintro e w2 ⟨b,rfl,hbs,hb2⟩
 have H2:=hid hb2
 clear hb2 p0 p1 p2 p3 p4 p5
 obtain ⟨p0,p1,p2,p3,p4,p5⟩:=HDB.out w2 H2.out
 cases b with
 | false=>
  clear hbs
  go_wp2_with (fail)
  refine (HA.out w2 H2.out).mono ?_
  rintro e wq ⟨rfl,hbq⟩
  have HQ:=hid (HBW.out wq (below_t H2.out hbq))
  clear hbq
  go_wp2_with (fail)
  go_ret
  exact ⟨rfl,HQ.out⟩
 | true=>
 obtain ⟨_,hf80,_⟩:=hbs rfl
 clear hbs
 have HTU:=hid ((trim_ok i o N sn A cr B cf rs fs w2 (HDM.out w2 H2.out) (HTB.out w2 H2.out) HW.out (by omega)).mono (R':=fun e w'=>Below w2.heap.size w2 w'∧∃ M s1 R F A1 c1 B1 d1,e = .returned (.tuple #[dsc i o M s1 A1 R.length c1 B1 F.length d1,.int .i64 0])∧DM w' ⟨i,o,M,s1,A1,c1,B1,d1,R,F⟩∧((∀ q∈R,∀ g∈q.gs,g.length≤1099511627776)∧∀ q∈F,∀ g∈q.gs,g.length≤1099511627776) ∧
   ∀ W,Below w1.heap.size w1 W→Calls Tryz.prog 21 #[dsc i o (N : Int) (sn : Int) A rs.length cr B fs.length cf] W (fun e w'=>∃ A' cr' B' cf',e = .returned (dsc i o M s1 A' R.length cr' B' F.length cf')∧RRu w' A' R.length R∧RFi w' B' F.length F∧Below W.heap.size W w')) fun e w' ho=>by
  obtain ⟨hb,⟨hg,he⟩ | ⟨hg,A1,c1,B1,d1,he,hdm⟩⟩:=ho
  ·refine ⟨hb,1,0,[],[],none,0,none,0,he,⟨RRu.nil_ _ _,Nat.zero_le _,RFi.nil_ _ _,Nat.zero_le _,(fun b off e=>by cases e),(fun b off e=>by cases e)⟩,⟨fun q hq=>(by cases hq),fun q hq=>(by cases hq)⟩,fun W h=>(HRT0.out W h).mono fun e w' ho=>?_⟩
   obtain ⟨hb,⟨_,he⟩ | ⟨h2,_⟩⟩:=ho
   ·exact ⟨none,0,none,0,he,RRu.nil_ _ _,RFi.nil_ _ _,hb⟩
   ·rw [hg] at h2
    cases h2
  ·have hkf:=kept_facts HW.out hg
   refine ⟨hb,_,_,_,_,A1,c1,B1,d1,he,hdm,right_short (DV.right.rightD (d:=⟨i,o,((keptL N sn rs fs).length : Nat),(numL (keptL N sn rs fs) sn : Nat),none,0,none,0,trR (keptL N sn rs fs) rs,trF (keptL N sn rs fs) fs⟩) (congrArg Prod.fst hkf.wh)),fun W h=>(HRT0.out W h).mono fun e w' ho=>?_⟩
   obtain ⟨hb,⟨h2,_⟩ | ⟨_,A',cr',B',cf',h3,h4,h5⟩⟩:=ho
   ·rw [hg] at h2
    cases h2
   ·exact ⟨A',cr',B',cf',h3,h4,h5,hb⟩)
 clear HRT0 hf80
 go_wp2_with (fail)
 refine HTU.out.mono ?_
 rintro e w3 ⟨hb3,M,s1,R,F,A1,c1,B1,d1,rfl,hdm,hsh,hrt⟩
 have H3:=hid (below_t H2.out hb3)
 have HSH:=hid hsh
 have HRT:=hid hrt
 clear hb3 hsh hrt HTU
 obtain ⟨wc,hwc,hqc,hlc,hbc⟩:=new_cells w3 #[.int .i64 i,.int .i64 o,.int .i64 M,.int .i64 s1,.slice A1 R.length c1,.slice B1 F.length d1] 26
 have H4:=hid (below_t H3.out hbc)
 have HWE:=hid hwc
 have HCB:=hid (fun W (h : Below wc.heap.size wc W)=>show Blk W w3.heap.size 26 #[.int .i64 i,.int .i64 o,.int .i64 M,.int .i64 s1,.slice A1 R.length c1,.slice B1 F.length d1] from hqc.below h hlc)
 have HCM:=hid (hdm.below hbc)
 clear hwc hqc hlc hbc hdm p0 p1 p2 p3 p4 p5
 go_upto_region 4 with (fail)
 rw [HWE.out]
 obtain ⟨p0,p1,p2,p3,p4,p5⟩:=HDB.out wc H4.out
 go_wp2_with (fail)
 refine (HRI.out wc H4.out).mono ?_
 rintro e w5 ⟨rfl,hb5⟩
 have H5:=hid (below_t H4.out hb5)
 have J5:=hid hb5
 clear hb5 p0 p1 p2 p3 p4 p5
 go_upto_region 6 with (fail)
 obtain ⟨we,hwe⟩ : ∃ we,w5.drew = we:=⟨_,rfl⟩
 have hB1 : Below w1.heap.size w1 we:=by rw [← hwe];exact H5.out.drew
 have hBC : Below wc.heap.size wc we:=by rw [← hwe];exact J5.out.drew
 refine wp_region_held_drew (S:=fun W=>Below w1.heap.size w1 W∧Below wc.heap.size wc W) (by kernel_rfl) (by rw [hwe];exact ⟨hB1,hBC⟩) (fun hHeld=>?_)
 rw [hwe] at hHeld ⊢
 refine wpAnyH_take (i:=0) (oi:=⟨some 27,.move (.tmp 4),29,"law.go:60",#[],none⟩) (v:=?_) rfl (by kernel_rfl) (by kernel_rfl) (by kernel_rfl) (fun _ _ _ h=>h) (Or.inl ⟨by rfl,?_⟩) (by assumption) ?_
 rotate_left
 ·intro w' hSw
  (try dsimp only at hSw)
  obtain ⟨p0,p1,p2,p3,p4,p5⟩:=HDB.out w' hSw.1
  have q0:=(HCB.out w' hSw.2).cell 0
  have q1:=(HCB.out w' hSw.2).cell 1
  have q2:=(HCB.out w' hSw.2).cell 2
  have q3:=(HCB.out w' hSw.2).cell 3
  have q4:=(HCB.out w' hSw.2).cell 4
  have q5:=(HCB.out w' hSw.2).cell 5
  simp only [List.getElem?_toArray,List.getElem?_cons_zero,List.getElem?_cons_succ] at q0 q1 q2 q3 q4 q5
  go_simp
  all_goals with_reducible rfl
 try simp only [Act.put,List.setIfInBounds_toArray,List.set_cons_zero,List.set_cons_succ]
 refine wpAnyH_take (i:=1) (oi:=⟨some 28,.binOp .eql 29 (.tmp 27) (.const (Go.Value.int IntKind.i64 0)) 29,4,"law.go:60",#[⟨0,.data⟩],none⟩) (v:=?_) rfl (by kernel_rfl) (by kernel_rfl) (by kernel_rfl) (fun _ _ _ h=>h) (Or.inl ⟨by rfl,?_⟩) (by assumption) ?_
 rotate_left
 ·intro w' hSw
  (try dsimp only at hSw)
  obtain ⟨p0,p1,p2,p3,p4,p5⟩:=HDB.out w' hSw.1
  have q0:=(HCB.out w' hSw.2).cell 0
  have q1:=(HCB.out w' hSw.2).cell 1
  have q2:=(HCB.out w' hSw.2).cell 2
  have q3:=(HCB.out w' hSw.2).cell 3
  have q4:=(HCB.out w' hSw.2).cell 4
  have q5:=(HCB.out w' hSw.2).cell 5
  simp only [List.getElem?_toArray,List.getElem?_cons_zero,List.getElem?_cons_succ] at q0 q1 q2 q3 q4 q5
  go_simp
  all_goals with_reducible rfl
 try simp only [Act.put,List.setIfInBounds_toArray,List.set_cons_zero,List.set_cons_succ]
 refine wpAnyH_take (i:=2) (oi:=⟨some 29,.move (.tmp 28),4,"law.go:60",#[⟨1,.data⟩],none⟩) (v:=?_) rfl (by kernel_rfl) (by kernel_rfl) (by kernel_rfl) (fun _ _ _ h=>h) (Or.inl ⟨by rfl,?_⟩) (by assumption) ?_
 rotate_left
 ·intro w' hSw
  (try dsimp only at hSw)
  obtain ⟨p0,p1,p2,p3,p4,p5⟩:=HDB.out w' hSw.1
  have q0:=(HCB.out w' hSw.2).cell 0
  have q1:=(HCB.out w' hSw.2).cell 1
  have q2:=(HCB.out w' hSw.2).cell 2
  have q3:=(HCB.out w' hSw.2).cell 3
  have q4:=(HCB.out w' hSw.2).cell 4
  have q5:=(HCB.out w' hSw.2).cell 5
  simp only [List.getElem?_toArray,List.getElem?_cons_zero,List.getElem?_cons_succ] at q0 q1 q2 q3 q4 q5
  go_simp
  all_goals with_reducible rfl
 try simp only [Act.put,List.setIfInBounds_toArray,List.set_cons_zero,List.set_cons_succ]
 refine wpAnyH_take (i:=3) (oi:=⟨some 30,.load 26 (.tmp 3),26,"law.go:60",#[⟨2,.guard⟩],some (2,true)⟩) (v:=?_) rfl (by kernel_rfl) (by kernel_rfl) (by kernel_rfl) (fun _ _ _ h=>h) (Or.inl ⟨by rfl,?_⟩) (by assumption) ?_
 rotate_left
 ·intro w' hSw
  (try dsimp only at hSw)
  obtain ⟨p0,p1,p2,p3,p4,p5⟩:=HDB.out w' hSw.1
  have q0:=(HCB.out w' hSw.2).cell 0
  have q1:=(HCB.out w' hSw.2).cell 1
  have q2:=(HCB.out w' hSw.2).cell 2
  have q3:=(HCB.out w' hSw.2).cell 3
  have q4:=(HCB.out w' hSw.2).cell 4
  have q5:=(HCB.out w' hSw.2).cell 5
  simp only [List.getElem?_toArray,List.getElem?_cons_zero,List.getElem?_cons_succ] at q0 q1 q2 q3 q4 q5
  go_simp
  all_goals with_reducible rfl
 try simp only [Act.put,List.setIfInBounds_toArray,List.set_cons_zero,List.set_cons_succ]
 refine wpAnyH_take (i:=4) (oi:=⟨some 31,.load 26 (.tmp 1),26,"law.go:60",#[⟨2,.guard⟩],some (2,true)⟩) (v:=?_) rfl (by kernel_rfl) (by kernel_rfl) (by kernel_rfl) (fun _ _ _ h=>h) (Or.inl ⟨by rfl,?_⟩) (by assumption) ?_
 rotate_left
 ·intro w' hSw
  (try dsimp only at hSw)
  obtain ⟨p0,p1,p2,p3,p4,p5⟩:=HDB.out w' hSw.1
  have q0:=(HCB.out w' hSw.2).cell 0
  have q1:=(HCB.out w' hSw.2).cell 1
  have q2:=(HCB.out w' hSw.2).cell 2
  have q3:=(HCB.out w' hSw.2).cell 3
  have q4:=(HCB.out w' hSw.2).cell 4
  have q5:=(HCB.out w' hSw.2).cell 5
  simp only [List.getElem?_toArray,List.getElem?_cons_zero,List.getElem?_cons_succ] at q0 q1 q2 q3 q4 q5
  go_simp
  all_goals with_reducible rfl
 try simp only [Act.put,List.setIfInBounds_toArray,List.set_cons_zero,List.set_cons_succ]
 refine wpAnyH_ready (rs:=[5]) (by kernel_rfl) (by simp) ?_
 refine (AllReadyH.cons (o:=⟨some 32,.call { callee:=.value (.func 21),args:=#[.tmp 31],argTypes:=#[26] },26,"law.go:60",#[⟨4,.data⟩,⟨2,.chain⟩,⟨2,.guard⟩],some (2,true)⟩) rfl (fun K hK=>?_) AllReadyH.nil)
 go_simp
 go_wp2_with (go_at_call 21;(with_reducible refine (HRT.out _ hB1).mono ?_);rintro er wr ⟨A',cr',B',cf',rfl,hrr,hff,hbr⟩)
 have HCM5:=hid ((HCM.out.below hBC).below hbr)
 have hB1:=below_t hB1 hbr
 have hBC:=below_t hBC hbr
 clear hbr
 refine hK.out _ _ ?_ (fun hHeld=>?_)
 ·exact ⟨hB1,hBC⟩
 clear hK K
 try simp only [Act.put,List.setIfInBounds_toArray,List.set_cons_zero,List.set_cons_succ]
 refine wpAnyH_ready (rs:=[6]) (by kernel_rfl) (by simp) ?_
 refine (AllReadyH.cons (o:=⟨some 33,.call { callee:=.value (.func 12),args:=#[.tmp 30,.tmp 32],argTypes:=#[26,26] },4,"law.go:60",#[⟨3,.data⟩,⟨5,.data⟩,⟨5,.chain⟩,⟨2,.guard⟩],some (2,true)⟩) rfl (fun K hK=>?_) AllReadyH.nil)
 have HSQ:=hid (rdesc_eq i o M s1 A1 A' c1 cr' B1 B' d1 cf' R F wr HCM5.out.rules hrr HCM5.out.rl HCM5.out.finals hff HCM5.out.fl HSH.out.1 HSH.out.2)
 go_simp
 go_wp2_with (go_at_call 12;(with_reducible refine HSQ.out.mono ?_);rintro es ws ⟨rfl,hbs⟩)
 have hB1:=below_t hB1 hbs
 have hBC:=below_t hBC hbs
 refine hK.out _ _ ?_ (fun hHeld=>?_)
 ·exact ⟨hB1,hBC⟩
 clear hK K
 try simp only [Act.put,List.setIfInBounds_toArray,List.set_cons_zero,List.set_cons_succ]
 refine wpAnyH_take (i:=7) (oi:=⟨some 34,.pick (.tmp 29) (.tmp 33) (.const (Go.Value.bool false)),4,"law.go:60",#[⟨2,.data⟩,⟨6,.data⟩],none⟩) (v:=?_) rfl (by kernel_rfl) (by kernel_rfl) (by kernel_rfl) (fun _ _ _ h=>h) (Or.inl ⟨by rfl,?_⟩) (by assumption) ?_
 rotate_left
 ·intro w' hSw
  (try dsimp only at hSw)
  obtain ⟨p0,p1,p2,p3,p4,p5⟩:=HDB.out w' hSw.1
  have q0:=(HCB.out w' hSw.2).cell 0
  have q1:=(HCB.out w' hSw.2).cell 1
  have q2:=(HCB.out w' hSw.2).cell 2
  have q3:=(HCB.out w' hSw.2).cell 3
  have q4:=(HCB.out w' hSw.2).cell 4
  have q5:=(HCB.out w' hSw.2).cell 5
  simp only [List.getElem?_toArray,List.getElem?_cons_zero,List.getElem?_cons_succ] at q0 q1 q2 q3 q4 q5
  go_simp
  all_goals with_reducible rfl
 try simp only [Act.put,List.setIfInBounds_toArray,List.set_cons_zero,List.set_cons_succ]
 refine wpAnyH_take (i:=8) (oi:=⟨some 35,.move (.tmp 34),4,"law.go:60",#[⟨7,.data⟩,⟨6,.chain⟩],none⟩) (v:=?_) rfl (by kernel_rfl) (by kernel_rfl) (by kernel_rfl) (fun _ _ _ h=>h) (Or.inl ⟨by rfl,?_⟩) (by assumption) ?_
 rotate_left
 ·intro w' hSw
  (try dsimp only at hSw)
  obtain ⟨p0,p1,p2,p3,p4,p5⟩:=HDB.out w' hSw.1
  have q0:=(HCB.out w' hSw.2).cell 0
  have q1:=(HCB.out w' hSw.2).cell 1
  have q2:=(HCB.out w' hSw.2).cell 2
  have q3:=(HCB.out w' hSw.2).cell 3
  have q4:=(HCB.out w' hSw.2).cell 4
  have q5:=(HCB.out w' hSw.2).cell 5
  simp only [List.getElem?_toArray,List.getElem?_cons_zero,List.getElem?_cons_succ] at q0 q1 q2 q3 q4 q5
  go_simp
  all_goals with_reducible rfl
 try simp only [Act.put,List.setIfInBounds_toArray,List.set_cons_zero,List.set_cons_succ]
 refine wpAnyH_ready (rs:=[9]) (by kernel_rfl) (by simp) ?_
 refine (AllReadyH.cons (o:=⟨some 36,.call { callee:=.value (.func 14),args:=#[],argTypes:=#[] },4,"law.go:60",#[⟨8,.chain⟩,⟨8,.guard⟩],some (8,true)⟩) rfl (fun K hK=>?_) AllReadyH.nil)
 go_simp
 go_wp2_with (go_at_call 14;(with_reducible refine (HA.out _ hB1).mono ?_);rintro ea wa ⟨rfl,hba⟩)
 have hB1:=below_t hB1 hba
 have hBC:=below_t hBC hba
 refine hK.out _ _ ?_ (fun hHeld=>?_)
 ·exact ⟨hB1,hBC⟩
 clear hK K
 try simp only [Act.put,List.setIfInBounds_toArray,List.set_cons_zero,List.set_cons_succ]
 refine wpAnyH_take (i:=10) (oi:=⟨some 37,.pick (.tmp 35) (.tmp 36) (.const (Go.Value.bool false)),4,"law.go:60",#[⟨8,.data⟩,⟨9,.data⟩],none⟩) (v:=?_) rfl (by kernel_rfl) (by kernel_rfl) (by kernel_rfl) (fun _ _ _ h=>h) (Or.inl ⟨by rfl,?_⟩) (by assumption) ?_
 rotate_left
 ·intro w' hSw
  (try dsimp only at hSw)
  obtain ⟨p0,p1,p2,p3,p4,p5⟩:=HDB.out w' hSw.1
  have q0:=(HCB.out w' hSw.2).cell 0
  have q1:=(HCB.out w' hSw.2).cell 1
  have q2:=(HCB.out w' hSw.2).cell 2
  have q3:=(HCB.out w' hSw.2).cell 3
  have q4:=(HCB.out w' hSw.2).cell 4
  have q5:=(HCB.out w' hSw.2).cell 5
  simp only [List.getElem?_toArray,List.getElem?_cons_zero,List.getElem?_cons_succ] at q0 q1 q2 q3 q4 q5
  go_simp
  all_goals with_reducible rfl
 try simp only [Act.put,List.setIfInBounds_toArray,List.set_cons_zero,List.set_cons_succ]
 refine wpAnyH_take (i:=11) (oi:=⟨some 2,.assign (.tmp 37),4,"law.go:60",#[⟨10,.data⟩,⟨9,.chain⟩,⟨0,.phase⟩,⟨1,.phase⟩,⟨2,.phase⟩,⟨3,.phase⟩,⟨4,.phase⟩,⟨5,.phase⟩,⟨6,.phase⟩,⟨7,.phase⟩,⟨8,.phase⟩,⟨9,.phase⟩,⟨10,.phase⟩],none⟩) (v:=?_) rfl (by kernel_rfl) (by kernel_rfl) (by kernel_rfl) (fun _ _ _ h=>h) (Or.inl ⟨by rfl,?_⟩) (by assumption) ?_
 rotate_left
 ·intro w' hSw
  (try dsimp only at hSw)
  obtain ⟨p0,p1,p2,p3,p4,p5⟩:=HDB.out w' hSw.1
  have q0:=(HCB.out w' hSw.2).cell 0
  have q1:=(HCB.out w' hSw.2).cell 1
  have q2:=(HCB.out w' hSw.2).cell 2
  have q3:=(HCB.out w' hSw.2).cell 3
  have q4:=(HCB.out w' hSw.2).cell 4
  have q5:=(HCB.out w' hSw.2).cell 5
  simp only [List.getElem?_toArray,List.getElem?_cons_zero,List.getElem?_cons_succ] at q0 q1 q2 q3 q4 q5
  go_simp
  all_goals with_reducible rfl
 try simp only [Act.put,List.setIfInBounds_toArray,List.set_cons_zero,List.set_cons_succ]
 obtain ⟨wl,rfl⟩ : ∃ wl : World,wl = wa:=⟨_,rfl⟩
 refine wpAnyH_done (by kernel_rfl) ?_ _
 have HQ:=hid (HBW.out _ hB1)
 go_wp2_with (fail)
 go_ret
 exact ⟨rfl,HQ.out⟩
theorem takes_law (i o n s : Int) (A : Option Addr) (cr : Nat) (B : Option Addr) (cf : Nat) (rs : List RuL) (fs : List FiL) (w : World) (hd : DM w ⟨i,o,n,s,A,cr,B,cf,rs,fs⟩) (hT : Fi.TabB w) : Calls Tryz.prog 5 #[dsc i o n s A rs.length cr B fs.length cf] w (RetB true w):=by
 by_cases hw : (whereD i o n s rs fs).1 = 0
 ·have hR : RightD ⟨i,o,n,s,A,cr,B,cf,rs,fs⟩:=DV.right.rightD (d:=⟨i,o,n,s,A,cr,B,cf,rs,fs⟩) hw
  have h1:=hR.n
  have h2:=hR.s
  dsimp only at h1 h2
  obtain ⟨N,rfl⟩ : ∃ N : Nat,n = (N : Int):=⟨n.toNat,by omega⟩
  obtain ⟨sn,rfl⟩ : ∃ sn : Nat,s = (sn : Int):=⟨s.toNat,by omega⟩
  exact takes_ok i o N sn A cr B cf rs fs w hd hT hw
 ·exact takes_bad i o n s A cr B cf rs fs w hd hT hw
end Go.Proofs.YtoofgpoeheponaaGreatDoor.Tr
