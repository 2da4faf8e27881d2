import Derived.Test.YtoofgpoeheponaaGreatDoorJ38
import Derived.Test.YtoofgpoeheponaaGreatDoorJ42
set_option maxRecDepth 100000
namespace Go.Proofs.YtoofgpoeheponaaGreatDoor.Rg
open Go Go.RowKit Go.Shelf Go.Maps Sp Pa Te Mi Sh Fi De
open Go.Lib (hid)
def RgW {α : Type} (P : α → Bool) (l : List α) (w : World) (v : Value) (wr : World) : Prop := ∃ k : Nat, k ≤ l.length ∧ v = .int .i64 k ∧ (∀ j (hj : j < l.length), j < k → P l[j] = true) ∧ Below w.heap.size w wr
set_option maxHeartbeats 16000000 in
theorem rwhere_bad (i o n s : Int) (A : Option Addr) (cr : Nat) (B : Option Addr) (cf : Nat) (rs : List RuL) (fs : List FiL) (w : World) (hrl : rs.length ≤ maxLen) (hfl : fs.length ≤ maxLen) (hbad : headB i o n s rs.length fs.length = false) :
  Calls Tryz.prog 27 #[dsc i o n s A rs.length cr B fs.length cf] w (WhOut (whereD i o n s rs fs) w) := by
 obtain ⟨w1, hw1⟩ : ∃ w1, w.alloc (.cells #[.int .i64 i, .int .i64 o, .int .i64 n, .int .i64 s, .slice A rs.length cr, .slice B fs.length cf] 26) = w1 := ⟨_, rfl⟩
 have hs1 : w1.heap.size = w.heap.size + 1 := by rw [← hw1]; simp
 have hb1 : Below w.heap.size w w1 := by rw [← hw1]; exact (Below.refl _ _).alloc (Nat.le_refl _) _
 have hd1 : DB w1 w.heap.size i o n s A rs.length cr B fs.length cf := by rw [← hw1]; exact DB.boxed
 have HB1 := hid hb1
 obtain ⟨p0, p1, p2, p3, p4, p5⟩ := hd1
 clear hb1
 obtain ⟨v, hv⟩ : ∃ v, whereD i o n s rs fs = v := ⟨_, rfl⟩
 rw [hv]
 have HV := hid hv
 clear hv
 unfold maxLen at hrl hfl
 go_enter Tryz.func27, Tryz.ntmps27
 go_upto_region 1 with (fail)
 go_cut [61] (fun v wx => wx = w1 ∧ v = .bool (!(headB i o n s rs.length fs.length)))
 ·by_cases a1 : i = 1 ∨ i = 2
  case neg =>
   have b3 : (i == 1) = false := by simp; omega
   have b4 : (i == 2) = false := by simp; omega
   have HHH := hid (show headB i o n s rs.length fs.length = false by unfold headB sortB; rw [decide_eq_false a1]; rfl)
   go_wp2_with (fail)
   go_meet
   exact ⟨rfl, by rw [HHH.out]; rfl⟩
  by_cases a2 : o = 1 ∨ o = 2
  case neg =>
   have b3 : (o == 1) = false := by simp; omega
   have b4 : (o == 2) = false := by simp; omega
   have HHH := hid (show headB i o n s rs.length fs.length = false by unfold headB sortB; rw [decide_eq_false a2]; simp)
   rcases a1 with rfl | rfl
   all_goals
    go_wp2_with (fail)
    go_meet
    exact ⟨rfl, by rw [HHH.out]; rfl⟩
  by_cases a3 : 1 ≤ n
  case neg =>
   have d_ : decide (n < 1) = true := decide_eq_true (by omega)
   have HHH := hid (show headB i o n s rs.length fs.length = false by unfold headB; rw [decide_eq_false a3]; simp)
   rcases a1 with rfl | rfl <;> rcases a2 with rfl | rfl
   all_goals
    go_wp2_with (fail)
    go_meet
    exact ⟨rfl, by rw [HHH.out]; rfl⟩
  have d3 : decide (n < 1) = false := decide_eq_false (by omega)
  by_cases a4 : n ≤ 1024
  case neg =>
   have d_ : decide (1024 < n) = true := decide_eq_true (by omega)
   have HHH := hid (show headB i o n s rs.length fs.length = false by unfold headB; rw [decide_eq_false a4]; simp)
   rcases a1 with rfl | rfl <;> rcases a2 with rfl | rfl
   all_goals
    go_wp2_with (fail)
    go_meet
    exact ⟨rfl, by rw [HHH.out]; rfl⟩
  have d4 : decide (1024 < n) = false := decide_eq_false (by omega)
  by_cases a5 : 0 ≤ s
  case neg =>
   have d_ : decide (s < 0) = true := decide_eq_true (by omega)
   have HHH := hid (show headB i o n s rs.length fs.length = false by unfold headB stB; rw [decide_eq_false (show ¬ (0 ≤ s ∧ s < n) from fun q => a5 q.1)]; simp)
   rcases a1 with rfl | rfl <;> rcases a2 with rfl | rfl
   all_goals
    go_wp2_with (fail)
    go_meet
    exact ⟨rfl, by rw [HHH.out]; rfl⟩
  have d5 : decide (s < 0) = false := decide_eq_false (by omega)
  by_cases a6 : s < n
  case neg =>
   have d_ : decide (n ≤ s) = true := decide_eq_true (by omega)
   have HHH := hid (show headB i o n s rs.length fs.length = false by unfold headB stB; rw [decide_eq_false (show ¬ (0 ≤ s ∧ s < n) from fun q => a6 q.2)]; simp)
   rcases a1 with rfl | rfl <;> rcases a2 with rfl | rfl
   all_goals
    go_wp2_with (fail)
    go_meet
    exact ⟨rfl, by rw [HHH.out]; rfl⟩
  have d6 : decide (n ≤ s) = false := decide_eq_false (by omega)
  by_cases a7 : rs.length ≤ 4096
  case neg =>
   have d_ : decide ((4096 : Int) < (rs.length : Int)) = true := decide_eq_true (by omega)
   have HHH := hid (show headB i o n s rs.length fs.length = false by unfold headB; rw [decide_eq_false a7]; simp)
   rcases a1 with rfl | rfl <;> rcases a2 with rfl | rfl
   all_goals
    go_wp2_with (fail)
    go_meet
    exact ⟨rfl, by rw [HHH.out]; rfl⟩
  have d7 : decide ((4096 : Int) < (rs.length : Int)) = false := decide_eq_false (by omega)
  by_cases a8 : fs.length ≤ 4096
  case neg =>
   have d_ : decide ((4096 : Int) < (fs.length : Int)) = true := decide_eq_true (by omega)
   have HHH := hid (show headB i o n s rs.length fs.length = false by unfold headB; rw [decide_eq_false a8]; simp)
   rcases a1 with rfl | rfl <;> rcases a2 with rfl | rfl
   all_goals
    go_wp2_with (fail)
    go_meet
    exact ⟨rfl, by rw [HHH.out]; rfl⟩
  have d8 : decide ((4096 : Int) < (fs.length : Int)) = false := decide_eq_false (by omega)
  exact absurd hbad (by
   unfold headB sortB stB
   rw [decide_eq_true a1, decide_eq_true a2, decide_eq_true a3, decide_eq_true a4, decide_eq_true (show 0 ≤ s ∧ s < n from ⟨a5, a6⟩), decide_eq_true a7, decide_eq_true a8]
   decide)
 obtain ⟨hwc, hu⟩ := hcut
 subst hwc hu
 rw [hbad, show (!false) = true from rfl]
 have hvv : v = (1, 0) := by rw [← HV.out]; unfold whereD whereV; rw [if_neg (by rw [hbad]; decide)]
 subst hvv
 clear hw1 hbad
 go_wp2_with (fail)
 go_ret2
 exact ⟨rfl, HB1.out⟩
open Go.Lib (hid)
set_option maxHeartbeats 16000000 in
theorem rwhere_any (i o n s : Int) (A : Option Addr) (cr : Nat) (B : Option Addr) (cf : Nat) (rs : List RuL) (fs : List FiL) (w : World) (hr : RRu w A rs.length rs) (hrl : rs.length ≤ maxLen) (hf : RFi w B fs.length fs) (hfl : fs.length ≤ maxLen) :
  Calls Tryz.prog 27 #[dsc i o n s A rs.length cr B fs.length cf] w (WhOut (whereD i o n s rs fs) w) := by
 obtain ⟨w1, hw1⟩ : ∃ w1, w.alloc (.cells #[.int .i64 i, .int .i64 o, .int .i64 n, .int .i64 s, .slice A rs.length cr, .slice B fs.length cf] 26) = w1 := ⟨_, rfl⟩
 have hs1 : w1.heap.size = w.heap.size + 1 := by rw [← hw1]; simp
 have hb1 : Below w.heap.size w w1 := by rw [← hw1]; exact (Below.refl _ _).alloc (Nat.le_refl _) _
 have hd1 : DB w1 w.heap.size i o n s A rs.length cr B fs.length cf := by rw [← hw1]; exact DB.boxed
 have HD1 := hid hd1
 have HB1 := hid hb1
 have HR := hid (hr.belowM hb1)
 have HF := hid (hf.belowM hb1)
 obtain ⟨p0, p1, p2, p3, p4, p5⟩ := hd1
 have HST := hid (show RgW (ruleB i n (fitF i o)) rs w1 (.int .i64 (0 : Nat)) w1 from ⟨0, Nat.zero_le _, rfl, fun j _ h => absurd h (by omega), Below.refl _ _⟩)
 clear hr hf hb1
 obtain ⟨v, hv⟩ : ∃ v, whereD i o n s rs fs = v := ⟨_, rfl⟩
 rw [hv]
 have HV := hid hv
 clear hv
 by_cases hh0 : headB i o n s rs.length fs.length = true
 case neg =>
  have q := rwhere_bad i o n s A cr B cf rs fs w hrl hfl (by simpa using hh0)
  rw [HV.out] at q
  exact q
 have HH0 := hid hh0
 clear hh0
 unfold maxLen at hrl hfl
 go_enter Tryz.func27, Tryz.ntmps27
 go_upto_region 1 with (fail)
 go_cut [61] (fun v wx => wx = w1 ∧ v = .bool (!(headB i o n s rs.length fs.length)))
 ·have hh2 := HH0.out
  unfold headB sortB stB at hh2
  simp only [Bool.and_eq_true, decide_eq_true_eq] at hh2
  obtain ⟨a1, a2, a3, a4, ⟨a5, a6⟩, a7, a8⟩ := hh2
  have d3 : decide (n < 1) = false := decide_eq_false (by omega)
  have d4 : decide (1024 < n) = false := decide_eq_false (by omega)
  have d5 : decide (s < 0) = false := decide_eq_false (by omega)
  have d6 : decide (n ≤ s) = false := decide_eq_false (by omega)
  have d7 : decide ((4096 : Int) < (rs.length : Int)) = false := decide_eq_false (by omega)
  have d8 : decide ((4096 : Int) < (fs.length : Int)) = false := decide_eq_false (by omega)
  rcases a1 with rfl | rfl <;> rcases a2 with rfl | rfl
  all_goals
   go_wp2_with (fail)
   go_meet
   exact ⟨rfl, by rw [HH0.out]; rfl⟩
 obtain ⟨hwc, hu⟩ := hcut
 subst hwc hu
 clear hw1
 have hhd := HH0.out
 rw [hhd, show (!true) = false from rfl]
 have HHD := hid hhd
 have hh2 := hhd
 unfold headB sortB stB at hh2
 simp only [Bool.and_eq_true, decide_eq_true_eq] at hh2
 obtain ⟨hii, hoo, hn1, hn2, ⟨hs0, hs2⟩, hr4, hf4⟩ := hh2
 have HII := hid hii
 have HVB := hid (fun (k : Nat) (hk : k < rs.length) (hok : ∀ j (hj : j < rs.length), j < k → ruleB i n (fitF i o) rs[j] = true) (hb : ruleB i n (fitF i o) rs[k] = false) => show v = (2, (k : Int)) by rw [← HV.out]; unfold whereD whereV; rw [if_pos HHD.out, bad_at hk hb hok])
 have HVF := hid (fun (hrs : ∀ j (hj : j < rs.length), ruleB i n (fitF i o) rs[j] = true) (k : Nat) (hk : k < fs.length) (hok : ∀ j (hj : j < fs.length), j < k → finB i n (fitF i o) fs[j] = true) (hb : finB i n (fitF i o) fs[k] = false) => show v = (3, (k : Int)) by rw [← HV.out]; unfold whereD whereV; rw [if_pos HHD.out, bad_none (k := rs.length) (by omega) (fun j hj _ => hrs j hj), bad_at hk hb hok])
 have HVC := hid (fun (hrs : ∀ j (hj : j < rs.length), ruleB i n (fitF i o) rs[j] = true) (hfs : ∀ j (hj : j < fs.length), finB i n (fitF i o) fs[j] = true) => show v = if cycE (epsE rs) n.toNat = true then (4, 0) else (0, 0) by rw [← HV.out]; unfold whereD whereV; rw [if_pos HHD.out, bad_none (k := rs.length) (by omega) (fun j hj _ => hrs j hj), bad_none (k := fs.length) (by omega) (fun j hj _ => hfs j hj)])
 clear hhd hii hoo
 go_wp2_with (fail)
 go_loopw [4] (fun v wr => RgW (ruleB i n (fitF i o)) rs wc v wr) (fun v _ => rs.length - (intOf v).toNat)
 case atStart => exact HST.out
 case round =>
  obtain ⟨k, hk, rfl, hok, hb⟩ := hrel
  have HB := hid hb
  have HOK := hid hok
  have hwr := hb.size
  obtain ⟨p0, p1, p2, p3, p4, p5⟩ := HD1.out.below (by omega) hb
  by_cases hlt : k < rs.length
  case pos =>
   obtain ⟨b, off, A', c', A2, c2, hA, hbB, d0, d1, d2, d3, d4, ⟨hg, hgc, hgl, hgm⟩, ht, _, _, _⟩ := (HR.out.belowM hb).at_ hlt
   obtain ⟨q, hq⟩ : ∃ q, rs[k] = q := ⟨_, rfl⟩
   have HVK := hid (fun h => HVB.out k hlt HOK.out h)
   have HNX := hid (fun (h : ruleB i n (fitF i o) q = true) W (hW : Below wc.heap.size wc W) => show RgW (ruleB i n (fitF i o)) rs wc (.int .i64 ((k : Int) + 1)) W from ⟨k + 1, hlt, rfl, next_ok hlt (by rw [hq]; exact h) HOK.out, hW⟩)
   rw [hq] at d0 d1 d2 d3 d4 hg hgc hgl hgm ht HVK
   obtain ⟨w5, hw5⟩ : ∃ w5, wr.alloc (.cells #[.int .i64 q.frm, .int .i64 q.to_, .slice A' q.gs.length c', .int .i64 q.eat, .slice A2 q.out.length c2] 50) = w5 := ⟨_, rfl⟩
   have hb5 : Below wr.heap.size wr w5 := by rw [← hw5]; exact (Below.refl _ _).alloc (Nat.le_refl _) _
   have hs5 : w5.heap.size = wr.heap.size + 1 := by rw [← hw5]; simp
   have hr5 : RB w5 wr.heap.size q.frm q.to_ A' q.gs.length c' q.eat A2 q.out.length c2 := by rw [← hw5]; exact RB.boxed
   have hb15 : Below wc.heap.size wc w5 := below_r hb hb5
   have HB5 := hid hb15
   have HR5 := hid hr5
   have HG5 := hid (hg.belowM hb5)
   have HT5 := hid (ht.belowM hb5)
   have HGM := hid hgm
   obtain ⟨q0, q1, q2, q3, q4⟩ := hr5
   obtain ⟨y0, y1, y2, y3, y4, y5⟩ := HD1.out.below (by omega) hb15
   have HRQ := hid (show ruleB i n (fitF i o) q = (stB n q.frm && (stB n q.to_ && (guardsB i q.gs && (eatB q.gs.length q.eat && termsB (fitF i o q.gs) q.out)))) from rfl)
   subst hA
   clear hb hok hg ht hgm hb5 hb15 hq
   have s1 : IntKind.i64.wrap ((k : Int) + 1) = (k : Int) + 1 := IntWalk.i64_in _ (by omega)
   have i1 : (0 : Int) ≤ (k : Int) := Int.natCast_nonneg _
   have i2 : (k : Int) < (rs.length : Int) := by omega
   obtain ⟨g, hgq⟩ : ∃ g, q.gs.length = g := ⟨_, rfl⟩
   obtain ⟨x, hxq⟩ : ∃ x, q.eat = x := ⟨_, rfl⟩
   have HGX := hid (And.intro hgq hxq)
   rw [hgq] at q2 d2 hgl hgc HRQ
   rw [hxq] at q3 d3 HRQ
   unfold maxLen at hgl
   have hrb2 : RB w5 wr.heap.size q.frm q.to_ A' g c' x A2 q.out.length c2 := ⟨q0, q1, q2, q3, q4⟩
   have HR5' := hid hrb2
   rw [hgq, hxq] at hw5
   clear hgq hxq hrb2 HR5
   go_upto_region 8 with (fail)
   go_cut [7] (fun vx wx => vx = .bool (eatB g x) ∧ wx = w5)
   ·rcases Nat.eq_zero_or_pos g with g0 | g0
    ·subst g0
     by_cases x0 : x = 0
     ·subst x0
      have HE := hid (show eatB 0 0 = true from rfl)
      go_wp2_with (fail)
      go_meet
      exact ⟨by rw [HE.out], rfl⟩
     ·have e1 : (x == 0) = false := by simpa using x0
      have HE := hid (show eatB 0 x = false from decide_eq_false fun z => x0 (by have := z.1; have := z.2; rw [if_pos rfl] at *; omega))
      by_cases x1 : 1 ≤ x
      ·have e2 : decide (1 ≤ x) = true := decide_eq_true x1
       have e3 : decide (x ≤ 0) = false := decide_eq_false (by omega)
       go_wp2_with (fail)
       go_meet
       exact ⟨by rw [HE.out], rfl⟩
      ·have e2 : decide (1 ≤ x) = false := decide_eq_false x1
       go_wp2_with (fail)
       go_meet
       exact ⟨by rw [HE.out], rfl⟩
    ·have e0 : ((g : Int) == 0) = false := by simp; omega
     have e0' : decide ((g : Int) = 0) = false := decide_eq_false (by omega)
     by_cases x1 : 1 ≤ x
     ·have e2 : decide (1 ≤ x) = true := decide_eq_true x1
      by_cases x2 : x ≤ g
      ·have e3 : decide (x ≤ (g : Int)) = true := decide_eq_true x2
       have HE := hid (show eatB g x = true from decide_eq_true ⟨by rw [if_neg (by omega)]; exact x1, x2⟩)
       go_wp2_with (fail)
       go_meet
       exact ⟨by rw [HE.out], rfl⟩
      ·have e3 : decide (x ≤ (g : Int)) = false := decide_eq_false x2
       have HE := hid (show eatB g x = false from decide_eq_false fun z => x2 z.2)
       go_wp2_with (fail)
       go_meet
       exact ⟨by rw [HE.out], rfl⟩
     ·have e2 : decide (1 ≤ x) = false := decide_eq_false x1
      have HE := hid (show eatB g x = false from decide_eq_false fun z => x1 (by have := z.1; rw [if_neg (by omega)] at this; exact this))
      go_wp2_with (fail)
      go_meet
      exact ⟨by rw [HE.out], rfl⟩
   obtain ⟨h7, hw7⟩ := hcut
   subst h7 hw7
   clear hw5
   rename World => w5
   have HGU := hid (rguards_any i A' c' q.gs w5 HG5.out (by rw [HGX.out.1]; unfold maxLen; exact hgl) HGM.out)
   rw [HGX.out.1] at HGU
   have HWR := hid (fun (hgv : guardsB i q.gs = true) W (hW : Below w5.heap.size w5 W) => rwrites_any i o n s (some ⟨b, off, none⟩) rs.length cr B fs.length cf A2 c2 q.out A' c' q.gs W (HT5.out.belowM hW) (HG5.out.belowM hW) (gs_ok hgv HII.out))
   rw [HGX.out.1] at HWR
   by_cases f0 : 0 ≤ q.frm
   case neg =>
    have e_ : decide (q.frm < 0) = true := decide_eq_true (by omega)
    obtain rfl := HVK.out (by rw [HRQ.out, stB_lo f0]; rfl)
    go_wp2_with (fail)
    go_ret2
    exact ⟨rfl, HB1.out.trans (HB5.out.mono (by omega))⟩
   have f0d : decide (q.frm < 0) = false := decide_eq_false (by omega)
   by_cases f1 : q.frm < n
   case neg =>
    have e_ : decide (n ≤ q.frm) = true := decide_eq_true (by omega)
    obtain rfl := HVK.out (by rw [HRQ.out, stB_hi f1]; rfl)
    go_wp2_with (fail)
    go_ret2
    exact ⟨rfl, HB1.out.trans (HB5.out.mono (by omega))⟩
   have f1d : decide (n ≤ q.frm) = false := decide_eq_false (by omega)
   by_cases f2 : 0 ≤ q.to_
   case neg =>
    have e_ : decide (q.to_ < 0) = true := decide_eq_true (by omega)
    obtain rfl := HVK.out (by rw [HRQ.out, stB_lo f2]; simp)
    go_wp2_with (fail)
    go_ret2
    exact ⟨rfl, HB1.out.trans (HB5.out.mono (by omega))⟩
   have f2d : decide (q.to_ < 0) = false := decide_eq_false (by omega)
   by_cases f3 : q.to_ < n
   case neg =>
    have e_ : decide (n ≤ q.to_) = true := decide_eq_true (by omega)
    obtain rfl := HVK.out (by rw [HRQ.out, stB_hi f3]; simp)
    go_wp2_with (fail)
    go_ret2
    exact ⟨rfl, HB1.out.trans (HB5.out.mono (by omega))⟩
   have f3d : decide (n ≤ q.to_) = false := decide_eq_false (by omega)
   obtain ⟨eb, heb⟩ : ∃ eb, eatB g x = eb := ⟨_, rfl⟩
   rw [heb] at HRQ
   rw [heb]
   clear heb
   cases eb
   ·obtain rfl := HVK.out (by rw [HRQ.out]; simp)
    go_wp2_with (fail)
    go_ret2
    exact ⟨rfl, HB1.out.trans (HB5.out.mono (by omega))⟩
   obtain ⟨gv, hgv⟩ : ∃ gv, guardsB i q.gs = gv := ⟨_, rfl⟩
   have HGV := hid hgv
   rw [hgv] at HGU HRQ
   clear hgv
   go_wp2_with (fail)
   refine HGU.out.mono ?_
   rintro e w6 ⟨rfl, hb6⟩
   have hz6 := hb6.size
   have HB6 := hid (below_r HB5.out hb6)
   obtain ⟨q0, q1, q2, q3, q4⟩ := HR5'.out.below (by omega) hb6
   obtain ⟨y0, y1, y2, y3, y4, y5⟩ := HD1.out.below (by omega) HB6.out
   cases gv
   ·obtain rfl := HVK.out (by rw [HRQ.out]; simp)
    go_wp2_with (fail)
    go_ret2
    exact ⟨rfl, HB1.out.trans (HB6.out.mono (by omega))⟩
   have HW6 := hid (HWR.out HGV.out w6 hb6)
   obtain ⟨tv, htv⟩ : ∃ tv, termsB (fitF i o q.gs) q.out = tv := ⟨_, rfl⟩
   rw [htv] at HW6 HRQ
   clear htv hb6
   go_wp2_with (fail)
   refine HW6.out.mono ?_
   rintro e w7 ⟨rfl, hb7⟩
   have HB7 := hid (below_r HB6.out hb7)
   clear hb7
   cases tv
   ·obtain rfl := HVK.out (by rw [HRQ.out]; simp)
    go_wp2_with (fail)
    go_ret2
    exact ⟨rfl, HB1.out.trans (HB7.out.mono (by omega))⟩
   have HNW := hid (HNX.out (by rw [HRQ.out, stB_t f0 f1, stB_t f2 f3]; rfl) w7 HB7.out)
   go_wp2_with (fail)
   go_roundw
   case rel => exact HNW.out
   case measure => simp [intOf]; omega
  have HAR := hid (show ∀ j (hj : j < rs.length), ruleB i n (fitF i o) rs[j] = true from fun j hj => hok j hj (by omega))
  have HBA := hid hb
  have HRA := hid (HR.out.belowM hb)
  rename World => wa
  have HST2 := hid (show RgW (finB i n (fitF i o)) fs wa (.int .i64 (0 : Nat)) wa from ⟨0, Nat.zero_le _, rfl, fun j _ h => absurd h (by omega), Below.refl _ _⟩)
  clear hok hb
  go_wp2_with (fail)
  go_loopw [8] (fun v wr => RgW (finB i n (fitF i o)) fs wa v wr) (fun v _ => fs.length - (intOf v).toNat)
  case atStart => exact HST2.out
  case round =>
   obtain ⟨m, hm, rfl, hok, hb⟩ := hrel
   have HB := hid hb
   have HOK2 := hid hok
   have hwr2 := hb.size
   have HBC := hid (below_r HBA.out hb)
   obtain ⟨p0, p1, p2, p3, p4, p5⟩ := HD1.out.below (by omega) HBC.out
   by_cases hlt2 : m < fs.length
   case pos =>
    obtain ⟨b, off, A', c', A2, c2, hA, hbB, d0, d1, d2, ⟨hg, hgc, hgl, hgm⟩, ht, _, _⟩ := (HF.out.belowM HBC.out).at_ hlt2
    obtain ⟨q, hq⟩ : ∃ q, fs[m] = q := ⟨_, rfl⟩
    have HVK := hid (fun h => HVF.out HAR.out m hlt2 HOK2.out h)
    have HNX := hid (fun (h : finB i n (fitF i o) q = true) W (hW : Below wa.heap.size wa W) => show RgW (finB i n (fitF i o)) fs wa (.int .i64 ((m : Int) + 1)) W from ⟨m + 1, hlt2, rfl, next_ok hlt2 (by rw [hq]; exact h) HOK2.out, hW⟩)
    rw [hq] at d0 d1 d2 hg hgc hgl hgm ht HVK
    obtain ⟨g, hgq⟩ : ∃ g, q.gs.length = g := ⟨_, rfl⟩
    have HGQ := hid hgq
    rw [hgq] at d1 hgc hgl
    obtain ⟨w5, hw5⟩ : ∃ w5, wr.alloc (.cells #[.int .i64 q.frm, .slice A' g c', .slice A2 q.out.length c2] 45) = w5 := ⟨_, rfl⟩
    have hb5 : Below wr.heap.size wr w5 := by rw [← hw5]; exact (Below.refl _ _).alloc (Nat.le_refl _) _
    have hs5 : w5.heap.size = wr.heap.size + 1 := by rw [← hw5]; simp
    have q0 : w5.cell? ⟨wr.heap.size, 0, none⟩ = some (.int .i64 q.frm) := by rw [← hw5]; simp
    have q1 : w5.cell? ⟨wr.heap.size, 1, none⟩ = some (.slice A' g c') := by rw [← hw5]; simp
    have q2 : w5.cell? ⟨wr.heap.size, 2, none⟩ = some (.slice A2 q.out.length c2) := by rw [← hw5]; simp
    have HQ5 := hid (And.intro q0 (And.intro q1 q2))
    have HB5 := hid (below_r hb hb5)
    have HC5 := hid (below_r HBC.out hb5)
    have HG5 := hid (hg.belowM hb5)
    have HT5 := hid (ht.belowM hb5)
    have HGM := hid hgm
    obtain ⟨y0, y1, y2, y3, y4, y5⟩ := HD1.out.below (by omega) HC5.out
    have HRQ := hid (show finB i n (fitF i o) q = (stB n q.frm && (guardsB i q.gs && termsB (fitF i o q.gs) q.out)) from rfl)
    unfold maxLen at hgl
    have HGU := hid (rguards_any i A' c' q.gs w5 HG5.out (by rw [HGQ.out]; unfold maxLen; exact hgl) HGM.out)
    rw [HGQ.out] at HGU
    have HWR := hid (fun (hgv : guardsB i q.gs = true) W (hW : Below w5.heap.size w5 W) => rwrites_any i o n s A rs.length cr B fs.length cf A2 c2 q.out A' c' q.gs W (HT5.out.belowM hW) (HG5.out.belowM hW) (gs_ok hgv HII.out))
    rw [HGQ.out] at HWR
    subst hA
    clear hb hok hg ht hgm hb5 hq hgq
    have s1 : IntKind.i64.wrap ((m : Int) + 1) = (m : Int) + 1 := IntWalk.i64_in _ (by omega)
    have i1 : (0 : Int) ≤ (m : Int) := Int.natCast_nonneg _
    have i2 : (m : Int) < (fs.length : Int) := by omega
    by_cases f0 : 0 ≤ q.frm
    case neg =>
     have e_ : decide (q.frm < 0) = true := decide_eq_true (by omega)
     obtain rfl := HVK.out (by rw [HRQ.out, stB_lo f0]; rfl)
     go_wp2_with (fail)
     go_ret2
     exact ⟨rfl, HB1.out.trans (HC5.out.mono (by omega))⟩
    have f0d : decide (q.frm < 0) = false := decide_eq_false (by omega)
    by_cases f1 : q.frm < n
    case neg =>
     have e_ : decide (n ≤ q.frm) = true := decide_eq_true (by omega)
     obtain rfl := HVK.out (by rw [HRQ.out, stB_hi f1]; rfl)
     go_wp2_with (fail)
     go_ret2
     exact ⟨rfl, HB1.out.trans (HC5.out.mono (by omega))⟩
    have f1d : decide (n ≤ q.frm) = false := decide_eq_false (by omega)
    obtain ⟨gv, hgv⟩ : ∃ gv, guardsB i q.gs = gv := ⟨_, rfl⟩
    have HGV := hid hgv
    rw [hgv] at HGU HRQ
    clear hgv
    go_wp2_with (fail)
    refine HGU.out.mono ?_
    rintro e w6 ⟨rfl, hb6⟩
    have hz6 := hb6.size
    have HB6 := hid (below_r HB5.out hb6)
    have HC6 := hid (below_r HC5.out hb6)
    have q0 := (hb6.cell (p := ⟨wr.heap.size, 0, none⟩) (by show wr.heap.size < _; omega)).trans HQ5.out.1
    have q1 := (hb6.cell (p := ⟨wr.heap.size, 1, none⟩) (by show wr.heap.size < _; omega)).trans HQ5.out.2.1
    have q2 := (hb6.cell (p := ⟨wr.heap.size, 2, none⟩) (by show wr.heap.size < _; omega)).trans HQ5.out.2.2
    obtain ⟨y0, y1, y2, y3, y4, y5⟩ := HD1.out.below (by omega) HC6.out
    cases gv
    ·obtain rfl := HVK.out (by rw [HRQ.out]; simp)
     go_wp2_with (fail)
     go_ret2
     exact ⟨rfl, HB1.out.trans (HC6.out.mono (by omega))⟩
    have HW6 := hid (HWR.out HGV.out w6 hb6)
    obtain ⟨tv, htv⟩ : ∃ tv, termsB (fitF i o q.gs) q.out = tv := ⟨_, rfl⟩
    rw [htv] at HW6 HRQ
    clear htv hb6
    go_wp2_with (fail)
    refine HW6.out.mono ?_
    rintro e w7 ⟨rfl, hb7⟩
    have HB7 := hid (below_r HB6.out hb7)
    have HC7 := hid (below_r HC6.out hb7)
    clear hb7
    cases tv
    ·obtain rfl := HVK.out (by rw [HRQ.out]; simp)
     go_wp2_with (fail)
     go_ret2
     exact ⟨rfl, HB1.out.trans (HC7.out.mono (by omega))⟩
    have HNW := hid (HNX.out (by rw [HRQ.out, stB_t f0 f1]; rfl) w7 HB7.out)
    go_wp2_with (fail)
    go_roundw
    case rel => exact HNW.out
    case measure => simp [intOf]; omega
   have HAF := hid (show ∀ j (hj : j < fs.length), finB i n (fitF i o) fs[j] = true from fun j hj => hok j hj (by omega))
   have hvc := HVC.out HAR.out HAF.out
   obtain ⟨N, hN⟩ := Int.eq_ofNat_of_zero_le (show 0 ≤ n by omega)
   subst hN
   have HCY := hid (rcycle_any N i o s A cr B fs.length cf rs wr (HRA.out.belowM hb) hr4 (by omega) (fun j hj => by
    have h2 := HAR.out j hj
    unfold ruleB at h2
    simp only [Bool.and_eq_true] at h2
    exact ⟨h2.1, h2.2.1⟩))
   rw [Int.toNat_natCast] at hvc
   obtain ⟨cy, hcy⟩ : ∃ cy, cycE (epsE rs) N = cy := ⟨_, rfl⟩
   rw [hcy] at HCY hvc
   have HBZ := hid (HB1.out.trans (HBC.out.mono (by omega)))
   clear hok hb hcy
   cases cy
   ·obtain rfl : v = (0, 0) := hvc
    go_wp2_with (fail)
    refine HCY.out.mono ?_
    rintro e w9 ⟨rfl, hb9⟩
    have HB9 := hid (below_r HBZ.out hb9)
    clear hb9
    go_wp2_with (fail)
    go_ret2
    exact ⟨rfl, HB9.out⟩
   ·obtain rfl : v = (4, 0) := hvc
    go_wp2_with (fail)
    refine HCY.out.mono ?_
    rintro e w9 ⟨rfl, hb9⟩
    have HB9 := hid (below_r HBZ.out hb9)
    clear hb9
    go_wp2_with (fail)
    go_ret2
    exact ⟨rfl, HB9.out⟩
end Go.Proofs.YtoofgpoeheponaaGreatDoor.Rg
namespace Go.Proofs.YtoofgpoeheponaaGreatDoor.De
open Go Go.RowKit Sp Pa Te Mi Rg
set_option maxHeartbeats 4000000 in
theorem rright_any (i o n s : Int) (A : Option Addr) (cr : Nat) (B : Option Addr) (cf : Nat) (rs : List RuL) (fs : List FiL) (w : World) (hr : RRu w A rs.length rs) (hrl : rs.length ≤ maxLen) (hf : RFi w B fs.length fs) (hfl : fs.length ≤ maxLen) :
  Calls Tryz.prog 11 #[dsc i o n s A rs.length cr B fs.length cf] w (RetB (decide ((whereD i o n s rs fs).1 = 0)) w) := by
 obtain ⟨w1, hw1⟩ : ∃ w1, w.alloc (.cells #[.int .i64 i, .int .i64 o, .int .i64 n, .int .i64 s, .slice A rs.length cr, .slice B fs.length cf] 26) = w1 := ⟨_, rfl⟩
 have hb1 : Below w.heap.size w w1 := by rw [← hw1]; exact (Below.refl _ _).alloc (Nat.le_refl _) _
 have hd1 : DB w1 w.heap.size i o n s A rs.length cr B fs.length cf := by rw [← hw1]; exact DB.boxed
 have HB1 := Lib.hid hb1
 have HW := Lib.hid (rwhere_any i o n s A cr B cf rs fs w1 (hr.belowM hb1) hrl (hf.belowM hb1) hfl)
 obtain ⟨p0, p1, p2, p3, p4, p5⟩ := hd1
 obtain ⟨⟨k, a⟩, hka⟩ : ∃ q, whereD i o n s rs fs = q := ⟨_, rfl⟩
 rw [hka] at HW
 rw [hka]
 clear hr hrl hf hfl hb1 hka
 go_enter Tryz.func11, Tryz.ntmps11
 go_wp2_with (fail)
 refine HW.out.mono ?_
 rintro e w2 ⟨rfl, hb2⟩
 have HB2 := Lib.hid (below_r HB1.out hb2)
 clear hb2
 by_cases hk : k = 0
 ·subst hk
  go_wp2_with (fail)
  go_ret
  exact ⟨rfl, HB2.out⟩
 ·have e1 : (k == 0) = false := by simpa using hk
  have e2 : decide (k = 0) = false := decide_eq_false hk
  clear hk
  go_wp2_with (fail)
  go_ret
  exact ⟨by rw [show decide ((k, a).1 = 0) = false from e2]; rfl, HB2.out⟩
end Go.Proofs.YtoofgpoeheponaaGreatDoor.De
namespace Go.Proofs.YtoofgpoeheponaaGreatDoor.De
open Go Go.RowKit Sp Pa Te Mi
open Go.Lib (hid)
def RJoinOut (a b : DV) (w : World) (e : Ending) (w' : World) : Prop := Below w.heap.size w w' ∧
 ∃ A cr B cf, e = .returned (dsc a.i a.o (1 + a.n + b.n) 0 A (joinR a b).length cr B (joinF a b).length cf) ∧ RRu w' A (joinR a b).length (joinR a b) ∧ RFi w' B (joinF a b).length (joinF a b)
def viaRs (a b : DV) : List RuL := [viaR (1 + a.s), viaR (1 + a.n + b.s)]
def RJr (a b : DV) (H : Nat) (w3 : World) (pre : List RuL) (K : Int) (src : List RuL) (iv : Value) (wr : World) : Prop := ∃ (k : Nat) (v : Value), k ≤ src.length ∧ iv = .int .i64 (k : Int) ∧ Below (H + 3) w3 wr ∧ RJ H (H + 4) (H + 3) a.i a.o (1 + a.n + b.n) 0 (pre ++ (src.take k).map (shR K)) [] v (.slice none 0 0) wr
def RJf (a b : DV) (H : Nat) (w3 : World) (pre : List FiL) (K : Int) (src : List FiL) (iv : Value) (wr : World) : Prop := ∃ (k : Nat) (v vf : Value), k ≤ src.length ∧ iv = .int .i64 (k : Int) ∧ Below (H + 3) w3 wr ∧ RJ H (H + 4) (H + 3) a.i a.o (1 + a.n + b.n) 0 (joinR a b) (pre ++ (src.take k).map (shF K)) v vf wr
set_option maxHeartbeats 16000000 in
theorem rjoin_any (a b : DV) (w : World) (ha : DM w a) (hb : DM w b) (Ra : RightD a) (Rb : RightD b) : Calls Tryz.prog 13 #[a.val, b.val] w (RJoinOut a b w) := by
 obtain ⟨w3, hw3⟩ : ∃ w3, ((w.alloc (.cells #[.int .i64 a.i, .int .i64 a.o, .int .i64 a.n, .int .i64 a.s, .slice a.A a.rs.length a.cr, .slice a.B a.fs.length a.cf] 26)).alloc (.cells #[.int .i64 b.i, .int .i64 b.o, .int .i64 b.n, .int .i64 b.s, .slice b.A b.rs.length b.cr, .slice b.B b.fs.length b.cf] 26)).alloc (.cells #[.int .i64 0, .int .i64 0, .int .i64 0, .int .i64 0, .slice none 0 0, .slice none 0 0] 26) = w3 := ⟨_, rfl⟩
 have hs3 : w3.heap.size = w.heap.size + 3 := by rw [← hw3]; simp
 have hb3 : Below w.heap.size w w3 := by rw [← hw3]; exact (((Below.refl _ _).alloc (Nat.le_refl _) _).alloc (by simp) _).alloc (by simp; omega) _
 have hqa : Blk w3 w.heap.size 26 #[.int .i64 a.i, .int .i64 a.o, .int .i64 a.n, .int .i64 a.s, .slice a.A a.rs.length a.cr, .slice a.B a.fs.length a.cf] := by
  rw [← hw3]
  exact ((show Blk _ _ _ _ from heap_alloc_new w _).alloc _).alloc _
 have hqb : Blk w3 (w.heap.size + 1) 26 #[.int .i64 b.i, .int .i64 b.o, .int .i64 b.n, .int .i64 b.s, .slice b.A b.rs.length b.cr, .slice b.B b.fs.length b.cf] := by
  rw [← hw3]
  have h := (show Blk _ _ _ _ from heap_alloc_new (w.alloc (.cells #[.int .i64 a.i, .int .i64 a.o, .int .i64 a.n, .int .i64 a.s, .slice a.A a.rs.length a.cr, .slice a.B a.fs.length a.cf] 26)) (.cells #[.int .i64 b.i, .int .i64 b.o, .int .i64 b.n, .int .i64 b.s, .slice b.A b.rs.length b.cr, .slice b.B b.fs.length b.cf] 26)).alloc (.cells #[.int .i64 0, .int .i64 0, .int .i64 0, .int .i64 0, .slice none 0 0, .slice none 0 0] 26)
  rw [World.size_alloc] at h
  exact h
 have hqz : Blk w3 (w.heap.size + 2) 26 #[.int .i64 0, .int .i64 0, .int .i64 0, .int .i64 0, .slice none 0 0, .slice none 0 0] := by
  rw [← hw3]
  have h := (show Blk _ _ _ _ from heap_alloc_new ((w.alloc (.cells #[.int .i64 a.i, .int .i64 a.o, .int .i64 a.n, .int .i64 a.s, .slice a.A a.rs.length a.cr, .slice a.B a.fs.length a.cf] 26)).alloc (.cells #[.int .i64 b.i, .int .i64 b.o, .int .i64 b.n, .int .i64 b.s, .slice b.A b.rs.length b.cr, .slice b.B b.fs.length b.cf] 26)) (.cells #[.int .i64 0, .int .i64 0, .int .i64 0, .int .i64 0, .slice none 0 0, .slice none 0 0] 26))
  simp only [World.size_alloc] at h
  exact h
 have HA := hid (ha.below hb3)
 have HBD := hid (hb.below hb3)
 have HA0 := hid ha
 have HB0 := hid hb
 have HB3 := hid hb3
 have HRa := hid Ra
 have HRb := hid Rb
 have hna := Ra.n
 have hnb := Rb.n
 have hsa := Ra.s
 have hsb := Rb.s
 have HBOX := hid (fun W (hW : Below (w.heap.size + 3) w3 W) => show Blk W w.heap.size 26 #[.int .i64 a.i, .int .i64 a.o, .int .i64 a.n, .int .i64 a.s, .slice a.A a.rs.length a.cr, .slice a.B a.fs.length a.cf] ∧ Blk W (w.heap.size + 1) 26 #[.int .i64 b.i, .int .i64 b.o, .int .i64 b.n, .int .i64 b.s, .slice b.A b.rs.length b.cr, .slice b.B b.fs.length b.cf] ∧ Blk W (w.heap.size + 2) 26 #[.int .i64 0, .int .i64 0, .int .i64 0, .int .i64 0, .slice none 0 0, .slice none 0 0] from ⟨hqa.below hW (by omega), hqb.below hW (by omega), hqz.below hW (by omega)⟩)
 obtain ⟨w4, hw4⟩ : ∃ w4, w3.alloc (.cells #[.int .i64 a.i, .int .i64 a.o, .int .i64 (1 + a.n + b.n), .int .i64 0, .slice none 0 0, .slice none 0 0] 26) = w4 := ⟨_, rfl⟩
 have hb34 : Below w3.heap.size w3 w4 := by rw [← hw4]; exact (Below.refl _ _).alloc (Nat.le_refl _) _
 have hs4 : w4.heap.size = w.heap.size + 4 := by rw [← hw4]; simp [hs3]
 have hd4 : DBox w4 (w.heap.size + 3) a.i a.o (1 + a.n + b.n) 0 (.slice none 0 0) (.slice none 0 0) := by
  rw [← hw4, ← hs3]; exact heap_alloc_new w3 _
 have HW4 := hid hw4
 obtain ⟨w5, hw5⟩ : ∃ w5, w4.alloc (.cells #[.int .i64 0, .int .i64 (1 + a.s), .slice none 0 0, .int .i64 0, .slice none 0 0, .int .i64 0, .int .i64 (1 + a.n + b.s), .slice none 0 0, .int .i64 0, .slice none 0 0] 50) = w5 := ⟨_, rfl⟩
 have hb45 : Below w4.heap.size w4 w5 := by rw [← hw5]; exact (Below.refl _ _).alloc (Nat.le_refl _) _
 have hs5 : w5.heap.size = w.heap.size + 5 := by rw [← hw5]; simp [hs4]
 have hd5 := hd4.keep (hb45.block _ (by omega))
 have hnew : Blk w5 (w.heap.size + 4) 50 #[.int .i64 0, .int .i64 (1 + a.s), .slice none 0 0, .int .i64 0, .slice none 0 0, .int .i64 0, .int .i64 (1 + a.n + b.s), .slice none 0 0, .int .i64 0, .slice none 0 0] := by rw [← hw5, ← hs4]; exact heap_alloc_new w4 _
 have hb35 : Below w3.heap.size w3 w5 := hb34.trans (hb45.mono (by omega))
 have HD5 := hid hd5
 have HB35 := hid hb35
 have HN5 := hid (fun (j : Nat) (u : Value) (e : [Value.int .i64 0, .int .i64 (1 + a.s), .slice none 0 0, .int .i64 0, .slice none 0 0, .int .i64 0, .int .i64 (1 + a.n + b.s), .slice none 0 0, .int .i64 0, .slice none 0 0][j]? = some u) => World.news_of_block (w := w5) hnew j u e)
 have HON5 := hid (show ∀ u ∈ [Value.int .i64 0, .int .i64 (1 + a.s), .slice none 0 0, .int .i64 0, .slice none 0 0, .int .i64 0, .int .i64 (1 + a.n + b.s), .slice none 0 0, .int .i64 0, .slice none 0 0], u.oneCell' = true from fun u hu => by
  simp only [List.mem_cons, List.not_mem_nil, or_false] at hu
  rcases hu with rfl | rfl | rfl | rfl | rfl | rfl | rfl | rfl | rfl | rfl <;> rfl)
 have a0 := hqa.cell 0
 have a1 := hqa.cell 1
 have a2 := hqa.cell 2
 have b2 := hqb.cell 2
 have a2' := (HBOX.out w4 (hb34.mono (by omega))).1.cell 2
 have a3' := (HBOX.out w4 (hb34.mono (by omega))).1.cell 3
 have b3' := (HBOX.out w4 (hb34.mono (by omega))).2.1.cell 3
 obtain ⟨_, _, _, _, q4, _⟩ := hd4.cells
 obtain ⟨_, _, _, _, r4, _⟩ := hd5.cells
 have r4f := hd5.frozen 4
 simp only [List.getElem?_toArray, List.getElem?_cons_zero, List.getElem?_cons_succ] at a0 a1 a2 b2 a2' a3' b3'
 have t1 : IntKind.i64.wrap (1 + a.n) = 1 + a.n := IntWalk.i64_in _ (by omega)
 have t2 : IntKind.i64.wrap (1 + a.n + b.n) = 1 + a.n + b.n := IntWalk.i64_in _ (by omega)
 have t3 : IntKind.i64.wrap (1 + a.s) = 1 + a.s := IntWalk.i64_in _ (by omega)
 have t4 : IntKind.i64.wrap (1 + a.n + b.s) = 1 + a.n + b.s := IntWalk.i64_in _ (by omega)
 obtain ⟨i0, hi0, hz0, hz1, hz2⟩ := info_parts infoRule
 obtain ⟨i1, hi1, hy0, hy1, hy2⟩ := info_parts infoFinal
 clear ha hb Ra Rb hb3 hqa hqb hqz hw4 hb34 hb45 hb35 hd4 hd5 hnew
 go_enter Tryz.func13, Tryz.ntmps13
 go_upto_region 2 with (fail)
 rw [HW4.out]
 go_wp2_with (at_builtin; go_must (refine wpList_append_own_at _ rfl _ _ 23 rfl (w.heap.size + 4) 50 i0 _ 5 72 Tryz.underlying23 hi0 hz0 hz1 hz2 rfl (by decide) (.slice none 0 0) 0 [] rfl (World.ownsRow_nil _ _ _ _) ⟨w.heap.size + 4, 0, none⟩ 2 2 [.int .i64 0, .int .i64 (1 + a.s), .slice none 0 0, .int .i64 0, .slice none 0 0, .int .i64 0, .int .i64 (1 + a.n + b.s), .slice none 0 0, .int .i64 0, .slice none 0 0] rfl rfl HN5.out HON5.out ?c1 ?c2 ?c3 ?_))
 case c1 => simp only [maxLen]; omega
 case c2 => omega
 case c3 => omega
 intro v6 w6 hown6 hg6 _ _
 obtain ⟨A6, c6, hv6⟩ := own_shape hown6
 subst hv6
 obtain ⟨w7, hw7⟩ : ∃ w7, w6.setCell ⟨w.heap.size + 3, 4, none⟩ (.slice A6 2 c6) = w7 := ⟨_, rfl⟩
 have hx6 : w6.heap[w.heap.size + 3]? = w5.heap[w.heap.size + 3]? := hg6.block _ (by omega) (fun e => by cases e)
 have hd6 := HD5.out.keep hx6
 have r4 := hd6.at4
 have r4f := hd6.frozen 4
 have hg6' : w5.grownBy w6 none := hg6
 have HL7 := hid (show RJ w.heap.size (w.heap.size + 4) (w.heap.size + 3) a.i a.o (1 + a.n + b.n) 0 [viaR (1 + a.s), viaR (1 + a.n + b.s)] [] (.slice A6 2 c6) (.slice none 0 0) w7 from by
  rw [← hw7]
  exact RJ.start HD5.out (by omega) (by omega) hg6' hown6)
 have hb57 : Below (w.heap.size + 3) w3 w7 := by
  rw [← hw7]
  exact ((HB35.out.mono (by omega)).grown hg6' (by omega) (fun q e => by cases e)).setCell (Nat.le_refl (w.heap.size + 3)) _
 have HB7 := hid hb57
 clear a0 a1 a2 b2 a2' a3' b3' q4 hx6 hd6 hown6 hg6 hg6' hb57 hw5
 go_upto_region 3 with (fail)
 have a4 := (HBOX.out w7 HB7.out).1.cell 4
 simp only [List.getElem?_toArray, List.getElem?_cons_zero, List.getElem?_cons_succ] at a4
 clear r4 r4f hw7
 have HST := hid (show RJr a b w.heap.size w3 (viaRs a b) 1 a.rs (.int .i64 (0 : Nat)) w7 from ⟨0, _, Nat.zero_le _, rfl, HB7.out, by simpa [viaRs] using HL7.out⟩)
 go_wp2_with (fail)
 go_loopw [6] (fun iv wr => RJr a b w.heap.size w3 (viaRs a b) 1 a.rs iv wr) (fun iv _ => a.rs.length - (intOf iv).toNat)
 case atStart => exact HST.out
 case round =>
  clear HST
  obtain ⟨k, v, hkl, rfl, hbl, hrj⟩ := hrel
  have hbw : Below w.heap.size w wr := HB3.out.trans (hbl.mono (by omega))
  have a4 := (HBOX.out wr hbl).1.cell 4
  simp only [List.getElem?_toArray, List.getElem?_cons_zero, List.getElem?_cons_succ] at a4
  rcases Nat.lt_or_ge k a.rs.length with hlt | hge
  ·have e1 : decide ((k : Int) < (a.rs.length : Int)) = true := decide_eq_true (by omega)
   obtain ⟨ba, offA, G, gc, T, tc, eA, hbA, c0, c1, c2, c3, c4, hG, hgc, hTT, htc⟩ := ru_here HA0.out.rules hbw hlt
   obtain ⟨f1, f2, f3, f4, _⟩ := HRa.out.rs _ (List.getElem_mem hlt)
   have hkm := HA0.out.rl
   have hrs := HRa.out.r
   rw [eA] at a4
   have s1 : IntKind.i64.wrap ((a.rs[k]'hlt).frm + 1) = (a.rs[k]'hlt).frm + 1 := IntWalk.i64_in _ (by omega)
   have s2 : IntKind.i64.wrap ((a.rs[k]'hlt).to_ + 1) = (a.rs[k]'hlt).to_ + 1 := IntWalk.i64_in _ (by omega)
   obtain ⟨L, hL⟩ : ∃ L, viaRs a b ++ (a.rs.take k).map (shR 1) = L := ⟨_, rfl⟩
   have HLL := hid (show L.length = k + 2 from by rw [← hL]; simp [viaRs]; omega)
   have hLn : L ++ [⟨((a.rs[k]'hlt).frm + 1), ((a.rs[k]'hlt).to_ + 1), (a.rs[k]'hlt).gs, (a.rs[k]'hlt).eat, (a.rs[k]'hlt).out⟩] = viaRs a b ++ (a.rs.take (k + 1)).map (shR 1) := by
    rw [← hL, List.take_succ_eq_append_getElem hlt, List.map_append, ← List.append_assoc]
    simp [shR]
   rw [hL] at hrj
   obtain ⟨wq, hwq⟩ : ∃ wq, wr.alloc (.cells #[.int .i64 (a.rs[k]'hlt).frm, .int .i64 (a.rs[k]'hlt).to_, .slice G (a.rs[k]'hlt).gs.length gc, .int .i64 (a.rs[k]'hlt).eat, .slice T (a.rs[k]'hlt).out.length tc] 50) = wq := ⟨_, rfl⟩
   have hsq : wq.heap.size = wr.heap.size + 1 := by rw [← hwq]; simp
   have hbq : Below wr.heap.size wr wq := by rw [← hwq]; exact (Below.refl _ _).alloc (Nat.le_refl _) _
   have hnq : Blk wq wr.heap.size 50 #[.int .i64 (a.rs[k]'hlt).frm, .int .i64 (a.rs[k]'hlt).to_, .slice G (a.rs[k]'hlt).gs.length gc, .int .i64 (a.rs[k]'hlt).eat, .slice T (a.rs[k]'hlt).out.length tc] := by rw [← hwq]; exact heap_alloc_new wr _
   obtain ⟨w8, hw8⟩ : ∃ w8, wq.setCell ⟨wr.heap.size, 0, none⟩ (.int .i64 ((a.rs[k]'hlt).frm + 1)) = w8 := ⟨_, rfl⟩
   have hn8 : Blk w8 wr.heap.size 50 #[.int .i64 ((a.rs[k]'hlt).frm + 1), .int .i64 (a.rs[k]'hlt).to_, .slice G (a.rs[k]'hlt).gs.length gc, .int .i64 (a.rs[k]'hlt).eat, .slice T (a.rs[k]'hlt).out.length tc] := by rw [← hw8]; exact hnq.set_ 0 _
   obtain ⟨w9, hw9⟩ : ∃ w9, w8.setCell ⟨wr.heap.size, 1, none⟩ (.int .i64 ((a.rs[k]'hlt).to_ + 1)) = w9 := ⟨_, rfl⟩
   have hn9 : Blk w9 wr.heap.size 50 #[.int .i64 ((a.rs[k]'hlt).frm + 1), .int .i64 ((a.rs[k]'hlt).to_ + 1), .slice G (a.rs[k]'hlt).gs.length gc, .int .i64 (a.rs[k]'hlt).eat, .slice T (a.rs[k]'hlt).out.length tc] := by rw [← hw9]; exact hn8.set_ 1 _
   have hb8 : Below wr.heap.size wr w8 := by rw [← hw8]; exact hbq.setCell (Nat.le_refl wr.heap.size) _
   have hb9 : Below wr.heap.size wr w9 := by rw [← hw9]; exact hb8.setCell (Nat.le_refl wr.heap.size) _
   have hs9 : w9.heap.size = wr.heap.size + 1 := by rw [← hw9, ← hw8]; simp [hsq]
   obtain ⟨wA, hwA⟩ : ∃ wA, w9.alloc (.cells #[.int .i64 ((a.rs[k]'hlt).frm + 1), .int .i64 ((a.rs[k]'hlt).to_ + 1), .slice G (a.rs[k]'hlt).gs.length gc, .int .i64 (a.rs[k]'hlt).eat, .slice T (a.rs[k]'hlt).out.length tc] 50) = wA := ⟨_, rfl⟩
   have hbA9 : Below w9.heap.size w9 wA := by rw [← hwA]; exact (Below.refl _ _).alloc (Nat.le_refl _) _
   have hsA : wA.heap.size = wr.heap.size + 2 := by rw [← hwA]; simp [hs9]
   have hbrA : Below wr.heap.size wr wA := hb9.trans (hbA9.mono (by omega))
   have hnA : Blk wA (wr.heap.size + 1) 50 #[.int .i64 ((a.rs[k]'hlt).frm + 1), .int .i64 ((a.rs[k]'hlt).to_ + 1), .slice G (a.rs[k]'hlt).gs.length gc, .int .i64 (a.rs[k]'hlt).eat, .slice T (a.rs[k]'hlt).out.length tc] := by rw [← hwA, ← hs9]; exact heap_alloc_new w9 _
   have hrA := hrj.keep hbrA
   obtain ⟨vs, hvs, _⟩ := hrA.rules
   obtain ⟨Av, cv, hv⟩ := own_shape hvs
   subst hv
   have x4 := (hrj.keep hb9).box.at4
   have z0 := hnq.cell 0
   have z0f := hnq.frozen 0
   have z1 := hn8.cell 1
   have z1f := hn8.frozen 1
   have y0 := hn9.cell 0
   have y1 := hn9.cell 1
   have y2 := hn9.cell 2
   have y3 := hn9.cell 3
   have y4 := hn9.cell 4
   simp only [List.getElem?_toArray, List.getElem?_cons_zero, List.getElem?_cons_succ] at z0 z1 y0 y1 y2 y3 y4
   have HWQ := hid hwq
   have HRJA := hid hrA
   have HVS := hid hvs
   have HGA := hid (hG.keep ⟨hbrA.size, fun q hq _ => hbrA.block q (by have := hbw.size; omega)⟩ (fun _ hq _ => hq))
   have HTA := hid (hTT.keep ⟨hbrA.size, fun q hq _ => hbrA.block q (by have := hbw.size; omega)⟩ (fun _ hq _ => hq))
   have HBA := hid (hbl.trans (hbrA.mono (by have := hbl.size; omega)))
   have HNA := hid (fun (j : Nat) (u : Value) (e : [Value.int .i64 ((a.rs[k]'hlt).frm + 1), .int .i64 ((a.rs[k]'hlt).to_ + 1), .slice G (a.rs[k]'hlt).gs.length gc, .int .i64 (a.rs[k]'hlt).eat, .slice T (a.rs[k]'hlt).out.length tc][j]? = some u) => World.news_of_block (w := wA) hnA j u e)
   have HOA := hid (show ∀ u ∈ [Value.int .i64 ((a.rs[k]'hlt).frm + 1), .int .i64 ((a.rs[k]'hlt).to_ + 1), .slice G (a.rs[k]'hlt).gs.length gc, .int .i64 (a.rs[k]'hlt).eat, .slice T (a.rs[k]'hlt).out.length tc], u.oneCell' = true from fun u hu => by
    simp only [List.mem_cons, List.not_mem_nil, or_false] at hu
    rcases hu with rfl | rfl | rfl | rfl | rfl <;> rfl)
   have hlow := hrj.box.lt
   clear hwq hrj hG hTT hbq hnq hn8 hn9 hb9 hb8 hbA9 hbrA hnA hrA hvs hbl hbw
   go_upto_region 7 with (fail)
   rw [HWQ.out]
   go_upto_region 9 with (fail)
   go_wp2_with (at_builtin; go_must (refine wpList_append_own_at _ rfl _ _ 23 rfl (w.heap.size + 4) 50 i0 _ 5 72 Tryz.underlying23 hi0 hz0 hz1 hz2 rfl (by decide) (.slice Av L.length cv) L.length vs rfl HVS.out ⟨wr.heap.size + 1, 0, none⟩ 1 1 [.int .i64 ((a.rs[k]'hlt).frm + 1), .int .i64 ((a.rs[k]'hlt).to_ + 1), .slice G (a.rs[k]'hlt).gs.length gc, .int .i64 (a.rs[k]'hlt).eat, .slice T (a.rs[k]'hlt).out.length tc] rfl rfl HNA.out HOA.out ?d1 ?d2 ?d3 ?_))
   case d1 => have := HLL.out; have := HRa.out.r; have := HRa.out.f; simp only [maxLen]; omega
   case d2 => have := HLL.out; have := HRa.out.r; have := HRa.out.f; omega
   case d3 => omega
   intro v' wB hownB hgB _ hat
   obtain ⟨A', c', hv'⟩ := own_shape hownB
   subst hv'
   obtain ⟨wC, hwC⟩ : ∃ wC, wB.setCell ⟨w.heap.size + 3, 4, none⟩ (.slice A' (L.length + 1) c') = wC := ⟨_, rfl⟩
   have hlowA := HRJA.out.box.lt
   have hvx : ∀ g, (Value.slice Av L.length cv).ownBlock = some g → w.heap.size + 4 ≤ g := fun g e => (World.ownsRow.lt HVS.out g e).1
   have hdB := HRJA.out.box.keep (hgB.block _ hlowA (fun e => by have := hvx _ e.symm; omega))
   have m4 := hdB.at4
   have m4f := hdB.frozen 4
   have HRC := hid (show RJ w.heap.size (w.heap.size + 4) (w.heap.size + 3) a.i a.o (1 + a.n + b.n) 0 (viaRs a b ++ (a.rs.take (k + 1)).map (shR 1)) [] (.slice A' (L.length + 1) c') (.slice none 0 0) wC from by
    rw [← hwC, ← hLn]
    exact HRJA.out.rule (r := ⟨((a.rs[k]'hlt).frm + 1), ((a.rs[k]'hlt).to_ + 1), (a.rs[k]'hlt).gs, (a.rs[k]'hlt).eat, (a.rs[k]'hlt).out⟩) (H := wr.heap.size + 2) HVS.out HGA.out hgc HTA.out htc hgB hownB hat (by omega))
   have HBC := hid (show Below (w.heap.size + 3) w3 wC from by
    rw [← hwC]
    exact (HBA.out.grown hgB (by omega) (fun q e => by have := hvx q e; omega)).setCell (Nat.le_refl (w.heap.size + 3)) _)
   clear hownB hgB hat hdB z0 z0f z1 z1f y0 y1 y2 y3 y4 x4 c0 c1 c2 c3 c4
   go_wp2_with (fail)
   go_roundw
   case rel => exact ⟨k + 1, _, by omega, by go_num, HBC.out, HRC.out⟩
   case measure => simp [intOf]; omega
  ·have hk : k = a.rs.length := by omega
   subst hk
   have e1 : decide ((a.rs.length : Int) < (a.rs.length : Int)) = false := decide_eq_false (by omega)
   rw [List.take_length] at hrj
   have HST := hid (show RJr a b w.heap.size w3 (viaRs a b ++ a.rs.map (shR 1)) (1 + a.n) b.rs (.int .i64 (0 : Nat)) wr from ⟨0, v, Nat.zero_le _, rfl, hbl, by simpa using hrj⟩)
   clear hrj hbw
   go_wp2_with (fail)
   go_loopw [8] (fun iv wr => RJr a b w.heap.size w3 ((viaRs a b ++ a.rs.map (shR 1))) (1 + a.n) b.rs iv wr) (fun iv _ => b.rs.length - (intOf iv).toNat)
   case atStart => exact HST.out
   case round =>
    clear HST
    obtain ⟨k, v, hkl, rfl, hbl, hrj⟩ := hrel
    have hbw : Below w.heap.size w wr := HB3.out.trans (hbl.mono (by omega))
    have a4 := (HBOX.out wr hbl).2.1.cell 4
    simp only [List.getElem?_toArray, List.getElem?_cons_zero, List.getElem?_cons_succ] at a4
    rcases Nat.lt_or_ge k b.rs.length with hlt | hge
    ·have e1 : decide ((k : Int) < (b.rs.length : Int)) = true := decide_eq_true (by omega)
     obtain ⟨ba, offA, G, gc, T, tc, eA, hbA, c0, c1, c2, c3, c4, hG, hgc, hTT, htc⟩ := ru_here HB0.out.rules hbw hlt
     obtain ⟨f1, f2, f3, f4, _⟩ := HRb.out.rs _ (List.getElem_mem hlt)
     have hkm := HB0.out.rl
     have hrs := HRb.out.r
     rw [eA] at a4
     have s1 : IntKind.i64.wrap ((b.rs[k]'hlt).frm + 1) = (b.rs[k]'hlt).frm + 1 := IntWalk.i64_in _ (by omega)
     have s2 : IntKind.i64.wrap ((b.rs[k]'hlt).to_ + 1) = (b.rs[k]'hlt).to_ + 1 := IntWalk.i64_in _ (by omega)
     have s3 : IntKind.i64.wrap ((b.rs[k]'hlt).frm + 1 + a.n) = (b.rs[k]'hlt).frm + 1 + a.n := IntWalk.i64_in _ (by omega)
     have s4 : IntKind.i64.wrap ((b.rs[k]'hlt).to_ + 1 + a.n) = (b.rs[k]'hlt).to_ + 1 + a.n := IntWalk.i64_in _ (by omega)
     obtain ⟨L, hL⟩ : ∃ L, (viaRs a b ++ a.rs.map (shR 1)) ++ (b.rs.take k).map (shR (1 + a.n)) = L := ⟨_, rfl⟩
     have HLL := hid (show L.length = k + (a.rs.length + 2) from by rw [← hL]; simp [viaRs]; omega)
     have hLn : L ++ [⟨((b.rs[k]'hlt).frm + 1 + a.n), ((b.rs[k]'hlt).to_ + 1 + a.n), (b.rs[k]'hlt).gs, (b.rs[k]'hlt).eat, (b.rs[k]'hlt).out⟩] = (viaRs a b ++ a.rs.map (shR 1)) ++ (b.rs.take (k + 1)).map (shR (1 + a.n)) := by
      rw [← hL, List.take_succ_eq_append_getElem hlt, List.map_append, ← List.append_assoc]
      simp [shR, Int.add_assoc]
     rw [hL] at hrj
     obtain ⟨wq, hwq⟩ : ∃ wq, wr.alloc (.cells #[.int .i64 (b.rs[k]'hlt).frm, .int .i64 (b.rs[k]'hlt).to_, .slice G (b.rs[k]'hlt).gs.length gc, .int .i64 (b.rs[k]'hlt).eat, .slice T (b.rs[k]'hlt).out.length tc] 50) = wq := ⟨_, rfl⟩
     have hsq : wq.heap.size = wr.heap.size + 1 := by rw [← hwq]; simp
     have hbq : Below wr.heap.size wr wq := by rw [← hwq]; exact (Below.refl _ _).alloc (Nat.le_refl _) _
     have hnq : Blk wq wr.heap.size 50 #[.int .i64 (b.rs[k]'hlt).frm, .int .i64 (b.rs[k]'hlt).to_, .slice G (b.rs[k]'hlt).gs.length gc, .int .i64 (b.rs[k]'hlt).eat, .slice T (b.rs[k]'hlt).out.length tc] := by rw [← hwq]; exact heap_alloc_new wr _
     obtain ⟨w8, hw8⟩ : ∃ w8, wq.setCell ⟨wr.heap.size, 0, none⟩ (.int .i64 ((b.rs[k]'hlt).frm + 1 + a.n)) = w8 := ⟨_, rfl⟩
     have hn8 : Blk w8 wr.heap.size 50 #[.int .i64 ((b.rs[k]'hlt).frm + 1 + a.n), .int .i64 (b.rs[k]'hlt).to_, .slice G (b.rs[k]'hlt).gs.length gc, .int .i64 (b.rs[k]'hlt).eat, .slice T (b.rs[k]'hlt).out.length tc] := by rw [← hw8]; exact hnq.set_ 0 _
     obtain ⟨w9, hw9⟩ : ∃ w9, w8.setCell ⟨wr.heap.size, 1, none⟩ (.int .i64 ((b.rs[k]'hlt).to_ + 1 + a.n)) = w9 := ⟨_, rfl⟩
     have hn9 : Blk w9 wr.heap.size 50 #[.int .i64 ((b.rs[k]'hlt).frm + 1 + a.n), .int .i64 ((b.rs[k]'hlt).to_ + 1 + a.n), .slice G (b.rs[k]'hlt).gs.length gc, .int .i64 (b.rs[k]'hlt).eat, .slice T (b.rs[k]'hlt).out.length tc] := by rw [← hw9]; exact hn8.set_ 1 _
     have hb8 : Below wr.heap.size wr w8 := by rw [← hw8]; exact hbq.setCell (Nat.le_refl wr.heap.size) _
     have hb9 : Below wr.heap.size wr w9 := by rw [← hw9]; exact hb8.setCell (Nat.le_refl wr.heap.size) _
     have hs9 : w9.heap.size = wr.heap.size + 1 := by rw [← hw9, ← hw8]; simp [hsq]
     obtain ⟨wA, hwA⟩ : ∃ wA, w9.alloc (.cells #[.int .i64 ((b.rs[k]'hlt).frm + 1 + a.n), .int .i64 ((b.rs[k]'hlt).to_ + 1 + a.n), .slice G (b.rs[k]'hlt).gs.length gc, .int .i64 (b.rs[k]'hlt).eat, .slice T (b.rs[k]'hlt).out.length tc] 50) = wA := ⟨_, rfl⟩
     have hbA9 : Below w9.heap.size w9 wA := by rw [← hwA]; exact (Below.refl _ _).alloc (Nat.le_refl _) _
     have hsA : wA.heap.size = wr.heap.size + 2 := by rw [← hwA]; simp [hs9]
     have hbrA : Below wr.heap.size wr wA := hb9.trans (hbA9.mono (by omega))
     have hnA : Blk wA (wr.heap.size + 1) 50 #[.int .i64 ((b.rs[k]'hlt).frm + 1 + a.n), .int .i64 ((b.rs[k]'hlt).to_ + 1 + a.n), .slice G (b.rs[k]'hlt).gs.length gc, .int .i64 (b.rs[k]'hlt).eat, .slice T (b.rs[k]'hlt).out.length tc] := by rw [← hwA, ← hs9]; exact heap_alloc_new w9 _
     have hrA := hrj.keep hbrA
     obtain ⟨vs, hvs, _⟩ := hrA.rules
     obtain ⟨Av, cv, hv⟩ := own_shape hvs
     subst hv
     have x4 := (hrj.keep hb9).box.at4
     have z0 := hnq.cell 0
     have z0f := hnq.frozen 0
     have z1 := hn8.cell 1
     have z1f := hn8.frozen 1
     have y0 := hn9.cell 0
     have y1 := hn9.cell 1
     have y2 := hn9.cell 2
     have y3 := hn9.cell 3
     have y4 := hn9.cell 4
     have m2q := (HBOX.out wq (hbl.trans (hbq.mono (by have := hbl.size; omega)))).1.cell 2
     have m2w := (HBOX.out w8 (hbl.trans (hb8.mono (by have := hbl.size; omega)))).1.cell 2
     simp only [List.getElem?_toArray, List.getElem?_cons_zero, List.getElem?_cons_succ] at z0 z1 y0 y1 y2 y3 y4 m2q m2w
     have HWQ := hid hwq
     have HRJA := hid hrA
     have HVS := hid hvs
     have HGA := hid (hG.keep ⟨hbrA.size, fun q hq _ => hbrA.block q (by have := hbw.size; omega)⟩ (fun _ hq _ => hq))
     have HTA := hid (hTT.keep ⟨hbrA.size, fun q hq _ => hbrA.block q (by have := hbw.size; omega)⟩ (fun _ hq _ => hq))
     have HBA := hid (hbl.trans (hbrA.mono (by have := hbl.size; omega)))
     have HNA := hid (fun (j : Nat) (u : Value) (e : [Value.int .i64 ((b.rs[k]'hlt).frm + 1 + a.n), .int .i64 ((b.rs[k]'hlt).to_ + 1 + a.n), .slice G (b.rs[k]'hlt).gs.length gc, .int .i64 (b.rs[k]'hlt).eat, .slice T (b.rs[k]'hlt).out.length tc][j]? = some u) => World.news_of_block (w := wA) hnA j u e)
     have HOA := hid (show ∀ u ∈ [Value.int .i64 ((b.rs[k]'hlt).frm + 1 + a.n), .int .i64 ((b.rs[k]'hlt).to_ + 1 + a.n), .slice G (b.rs[k]'hlt).gs.length gc, .int .i64 (b.rs[k]'hlt).eat, .slice T (b.rs[k]'hlt).out.length tc], u.oneCell' = true from fun u hu => by
      simp only [List.mem_cons, List.not_mem_nil, or_false] at hu
      rcases hu with rfl | rfl | rfl | rfl | rfl <;> rfl)
     have hlow := hrj.box.lt
     clear hwq hrj hG hTT hbq hnq hn8 hn9 hb9 hb8 hbA9 hbrA hnA hrA hvs hbl hbw
     go_upto_region 14 with (fail)
     rw [HWQ.out]
     go_upto_region 16 with (fail)
     go_wp2_with (at_builtin; go_must (refine wpList_append_own_at _ rfl _ _ 23 rfl (w.heap.size + 4) 50 i0 _ 5 72 Tryz.underlying23 hi0 hz0 hz1 hz2 rfl (by decide) (.slice Av L.length cv) L.length vs rfl HVS.out ⟨wr.heap.size + 1, 0, none⟩ 1 1 [.int .i64 ((b.rs[k]'hlt).frm + 1 + a.n), .int .i64 ((b.rs[k]'hlt).to_ + 1 + a.n), .slice G (b.rs[k]'hlt).gs.length gc, .int .i64 (b.rs[k]'hlt).eat, .slice T (b.rs[k]'hlt).out.length tc] rfl rfl HNA.out HOA.out ?d1 ?d2 ?d3 ?_))
     case d1 => have := HLL.out; have := HRa.out.r; have := HRa.out.f; simp only [maxLen]; omega
     case d2 => have := HLL.out; have := HRa.out.r; have := HRa.out.f; omega
     case d3 => omega
     intro v' wB hownB hgB _ hat
     obtain ⟨A', c', hv'⟩ := own_shape hownB
     subst hv'
     obtain ⟨wC, hwC⟩ : ∃ wC, wB.setCell ⟨w.heap.size + 3, 4, none⟩ (.slice A' (L.length + 1) c') = wC := ⟨_, rfl⟩
     have hlowA := HRJA.out.box.lt
     have hvx : ∀ g, (Value.slice Av L.length cv).ownBlock = some g → w.heap.size + 4 ≤ g := fun g e => (World.ownsRow.lt HVS.out g e).1
     have hdB := HRJA.out.box.keep (hgB.block _ hlowA (fun e => by have := hvx _ e.symm; omega))
     have m4 := hdB.at4
     have m4f := hdB.frozen 4
     have HRC := hid (show RJ w.heap.size (w.heap.size + 4) (w.heap.size + 3) a.i a.o (1 + a.n + b.n) 0 ((viaRs a b ++ a.rs.map (shR 1)) ++ (b.rs.take (k + 1)).map (shR (1 + a.n))) [] (.slice A' (L.length + 1) c') (.slice none 0 0) wC from by
      rw [← hwC, ← hLn]
      exact HRJA.out.rule (r := ⟨((b.rs[k]'hlt).frm + 1 + a.n), ((b.rs[k]'hlt).to_ + 1 + a.n), (b.rs[k]'hlt).gs, (b.rs[k]'hlt).eat, (b.rs[k]'hlt).out⟩) (H := wr.heap.size + 2) HVS.out HGA.out hgc HTA.out htc hgB hownB hat (by omega))
     have HBC := hid (show Below (w.heap.size + 3) w3 wC from by
      rw [← hwC]
      exact (HBA.out.grown hgB (by omega) (fun q e => by have := hvx q e; omega)).setCell (Nat.le_refl (w.heap.size + 3)) _)
     clear hownB hgB hat hdB z0 z0f z1 z1f y0 y1 y2 y3 y4 x4 c0 c1 c2 c3 c4 m2q m2w
     go_wp2_with (fail)
     go_roundw
     case rel => exact ⟨k + 1, _, by omega, by go_num, HBC.out, HRC.out⟩
     case measure => simp [intOf]; omega
    ·have hk : k = b.rs.length := by omega
     subst hk
     have e1 : decide ((b.rs.length : Int) < (b.rs.length : Int)) = false := decide_eq_false (by omega)
     rw [List.take_length] at hrj
     have HST := hid (show RJf a b w.heap.size w3 ([] : List FiL) 1 a.fs (.int .i64 (0 : Nat)) wr from ⟨0, v, _, Nat.zero_le _, rfl, hbl, by simpa [joinR, viaRs] using hrj⟩)
     clear hrj hbw
     go_wp2_with (fail)
     go_loopw [10] (fun iv wr => RJf a b w.heap.size w3 (([] : List FiL)) 1 a.fs iv wr) (fun iv _ => a.fs.length - (intOf iv).toNat)
     case atStart => exact HST.out
     case round =>
      clear HST
      obtain ⟨k, v, vf, hkl, rfl, hbl, hrj⟩ := hrel
      have hbw : Below w.heap.size w wr := HB3.out.trans (hbl.mono (by omega))
      have a4 := (HBOX.out wr hbl).1.cell 5
      simp only [List.getElem?_toArray, List.getElem?_cons_zero, List.getElem?_cons_succ] at a4
      rcases Nat.lt_or_ge k a.fs.length with hlt | hge
      ·have e1 : decide ((k : Int) < (a.fs.length : Int)) = true := decide_eq_true (by omega)
       obtain ⟨ba, offA, G, gc, T, tc, eA, hbA, c0, c1, c2, hG, hgc, hTT, htc⟩ := fi_here HA0.out.finals hbw hlt
       obtain ⟨f1, f2, _⟩ := HRa.out.fs _ (List.getElem_mem hlt)
       have hkm := HA0.out.fl
       have hrs := HRa.out.f
       rw [eA] at a4
       have s1 : IntKind.i64.wrap ((a.fs[k]'hlt).frm + 1) = (a.fs[k]'hlt).frm + 1 := IntWalk.i64_in _ (by omega)
       obtain ⟨L, hL⟩ : ∃ L, ([] : List FiL) ++ (a.fs.take k).map (shF 1) = L := ⟨_, rfl⟩
       have HLL := hid (show L.length = k + 0 from by rw [← hL]; simp; omega)
       have hLn : L ++ [⟨((a.fs[k]'hlt).frm + 1), (a.fs[k]'hlt).gs, (a.fs[k]'hlt).out⟩] = ([] : List FiL) ++ (a.fs.take (k + 1)).map (shF 1) := by
        rw [← hL, List.take_succ_eq_append_getElem hlt, List.map_append, ← List.append_assoc]
        simp [shF]
       rw [hL] at hrj
       obtain ⟨wq, hwq⟩ : ∃ wq, wr.alloc (.cells #[.int .i64 (a.fs[k]'hlt).frm, .slice G (a.fs[k]'hlt).gs.length gc, .slice T (a.fs[k]'hlt).out.length tc] 45) = wq := ⟨_, rfl⟩
       have hsq : wq.heap.size = wr.heap.size + 1 := by rw [← hwq]; simp
       have hbq : Below wr.heap.size wr wq := by rw [← hwq]; exact (Below.refl _ _).alloc (Nat.le_refl _) _
       have hnq : Blk wq wr.heap.size 45 #[.int .i64 (a.fs[k]'hlt).frm, .slice G (a.fs[k]'hlt).gs.length gc, .slice T (a.fs[k]'hlt).out.length tc] := by rw [← hwq]; exact heap_alloc_new wr _
       obtain ⟨w8, hw8⟩ : ∃ w8, wq.setCell ⟨wr.heap.size, 0, none⟩ (.int .i64 ((a.fs[k]'hlt).frm + 1)) = w8 := ⟨_, rfl⟩
       have hn8 : Blk w8 wr.heap.size 45 #[.int .i64 ((a.fs[k]'hlt).frm + 1), .slice G (a.fs[k]'hlt).gs.length gc, .slice T (a.fs[k]'hlt).out.length tc] := by rw [← hw8]; exact hnq.set_ 0 _
       have hn9 := hn8
       have hb9 : Below wr.heap.size wr w8 := by rw [← hw8]; exact hbq.setCell (Nat.le_refl wr.heap.size) _
       have hs9 : w8.heap.size = wr.heap.size + 1 := by rw [← hw8]; simp [hsq]
       obtain ⟨wA, hwA⟩ : ∃ wA, w8.alloc (.cells #[.int .i64 ((a.fs[k]'hlt).frm + 1), .slice G (a.fs[k]'hlt).gs.length gc, .slice T (a.fs[k]'hlt).out.length tc] 45) = wA := ⟨_, rfl⟩
       have hbA9 : Below w8.heap.size w8 wA := by rw [← hwA]; exact (Below.refl _ _).alloc (Nat.le_refl _) _
       have hsA : wA.heap.size = wr.heap.size + 2 := by rw [← hwA]; simp [hs9]
       have hbrA : Below wr.heap.size wr wA := hb9.trans (hbA9.mono (by omega))
       have hnA : Blk wA (wr.heap.size + 1) 45 #[.int .i64 ((a.fs[k]'hlt).frm + 1), .slice G (a.fs[k]'hlt).gs.length gc, .slice T (a.fs[k]'hlt).out.length tc] := by rw [← hwA, ← hs9]; exact heap_alloc_new w8 _
       have hrA := hrj.keep hbrA
       obtain ⟨vs, hvs, _⟩ := hrA.finals
       obtain ⟨Av, cv, hv⟩ := own_shape hvs
       subst hv
       have x4 := (hrj.keep hb9).box.at5
       have z0 := hnq.cell 0
       have z0f := hnq.frozen 0
       have y0 := hn9.cell 0
       have y1 := hn9.cell 1
       have y2 := hn9.cell 2
       simp only [List.getElem?_toArray, List.getElem?_cons_zero, List.getElem?_cons_succ] at z0 y0 y1 y2
       have HWQ := hid hwq
       have HRJA := hid hrA
       have HVS := hid hvs
       have HGA := hid (hG.keep ⟨hbrA.size, fun q hq _ => hbrA.block q (by have := hbw.size; omega)⟩ (fun _ hq _ => hq))
       have HTA := hid (hTT.keep ⟨hbrA.size, fun q hq _ => hbrA.block q (by have := hbw.size; omega)⟩ (fun _ hq _ => hq))
       have HBA := hid (hbl.trans (hbrA.mono (by have := hbl.size; omega)))
       have HNA := hid (fun (j : Nat) (u : Value) (e : [Value.int .i64 ((a.fs[k]'hlt).frm + 1), .slice G (a.fs[k]'hlt).gs.length gc, .slice T (a.fs[k]'hlt).out.length tc][j]? = some u) => World.news_of_block (w := wA) hnA j u e)
       have HOA := hid (show ∀ u ∈ [Value.int .i64 ((a.fs[k]'hlt).frm + 1), .slice G (a.fs[k]'hlt).gs.length gc, .slice T (a.fs[k]'hlt).out.length tc], u.oneCell' = true from fun u hu => by
        simp only [List.mem_cons, List.not_mem_nil, or_false] at hu
        rcases hu with rfl | rfl | rfl <;> rfl)
       have hlow := hrj.box.lt
       clear hwq hrj hG hTT hbq hnq hn8 hn9 hb9 hbA9 hbrA hnA hrA hvs hbl hbw
       go_upto_region 21 with (fail)
       rw [HWQ.out]
       go_upto_region 22 with (fail)
       go_wp2_with (at_builtin; go_must (refine wpList_append_own_at _ rfl _ _ 24 rfl (w.heap.size + 4) 45 i1 _ 3 56 Tryz.underlying24 hi1 hy0 hy1 hy2 rfl (by decide) (.slice Av L.length cv) L.length vs rfl HVS.out ⟨wr.heap.size + 1, 0, none⟩ 1 1 [.int .i64 ((a.fs[k]'hlt).frm + 1), .slice G (a.fs[k]'hlt).gs.length gc, .slice T (a.fs[k]'hlt).out.length tc] rfl rfl HNA.out HOA.out ?d1 ?d2 ?d3 ?_))
       case d1 => have := HLL.out; have := HRa.out.r; have := HRa.out.f; simp only [maxLen]; omega
       case d2 => have := HLL.out; have := HRa.out.r; have := HRa.out.f; omega
       case d3 => omega
       intro v' wB hownB hgB _ hat
       obtain ⟨A', c', hv'⟩ := own_shape hownB
       subst hv'
       obtain ⟨wC, hwC⟩ : ∃ wC, wB.setCell ⟨w.heap.size + 3, 5, none⟩ (.slice A' (L.length + 1) c') = wC := ⟨_, rfl⟩
       have hlowA := HRJA.out.box.lt
       have hvx : ∀ g, (Value.slice Av L.length cv).ownBlock = some g → w.heap.size + 4 ≤ g := fun g e => (World.ownsRow.lt HVS.out g e).1
       have hdB := HRJA.out.box.keep (hgB.block _ hlowA (fun e => by have := hvx _ e.symm; omega))
       have m4 := hdB.at5
       have m4f := hdB.frozen 5
       have HRC := hid (show RJ w.heap.size (w.heap.size + 4) (w.heap.size + 3) a.i a.o (1 + a.n + b.n) 0 (joinR a b) (([] : List FiL) ++ (a.fs.take (k + 1)).map (shF 1)) v (.slice A' (L.length + 1) c') wC from by
        rw [← hwC, ← hLn]
        exact HRJA.out.final (r := ⟨((a.fs[k]'hlt).frm + 1), (a.fs[k]'hlt).gs, (a.fs[k]'hlt).out⟩) (H := wr.heap.size + 2) HVS.out HGA.out hgc HTA.out htc hgB hownB hat (by omega))
       have HBC := hid (show Below (w.heap.size + 3) w3 wC from by
        rw [← hwC]
        exact (HBA.out.grown hgB (by omega) (fun q e => by have := hvx q e; omega)).setCell (Nat.le_refl (w.heap.size + 3)) _)
       clear hownB hgB hat hdB z0 z0f y0 y1 y2 x4 c0 c1 c2
       go_wp2_with (fail)
       go_roundw
       case rel => exact ⟨k + 1, v, _, by omega, by go_num, HBC.out, HRC.out⟩
       case measure => simp [intOf]; omega
      ·have hk : k = a.fs.length := by omega
       subst hk
       have e1 : decide ((a.fs.length : Int) < (a.fs.length : Int)) = false := decide_eq_false (by omega)
       rw [List.take_length] at hrj
       have HST := hid (show RJf a b w.heap.size w3 (a.fs.map (shF 1)) (1 + a.n) b.fs (.int .i64 (0 : Nat)) wr from ⟨0, v, vf, Nat.zero_le _, rfl, hbl, by simpa using hrj⟩)
       clear hrj hbw
       go_wp2_with (fail)
       go_loopw [12] (fun iv wr => RJf a b w.heap.size w3 ((a.fs.map (shF 1))) (1 + a.n) b.fs iv wr) (fun iv _ => b.fs.length - (intOf iv).toNat)
       case atStart => exact HST.out
       case round =>
        clear HST
        obtain ⟨k, v, vf, hkl, rfl, hbl, hrj⟩ := hrel
        have hbw : Below w.heap.size w wr := HB3.out.trans (hbl.mono (by omega))
        have a4 := (HBOX.out wr hbl).2.1.cell 5
        simp only [List.getElem?_toArray, List.getElem?_cons_zero, List.getElem?_cons_succ] at a4
        rcases Nat.lt_or_ge k b.fs.length with hlt | hge
        ·have e1 : decide ((k : Int) < (b.fs.length : Int)) = true := decide_eq_true (by omega)
         obtain ⟨ba, offA, G, gc, T, tc, eA, hbA, c0, c1, c2, hG, hgc, hTT, htc⟩ := fi_here HB0.out.finals hbw hlt
         obtain ⟨f1, f2, _⟩ := HRb.out.fs _ (List.getElem_mem hlt)
         have hkm := HB0.out.fl
         have hrs := HRb.out.f
         rw [eA] at a4
         have s1 : IntKind.i64.wrap ((b.fs[k]'hlt).frm + 1) = (b.fs[k]'hlt).frm + 1 := IntWalk.i64_in _ (by omega)
         have s3 : IntKind.i64.wrap ((b.fs[k]'hlt).frm + 1 + a.n) = (b.fs[k]'hlt).frm + 1 + a.n := IntWalk.i64_in _ (by omega)
         obtain ⟨L, hL⟩ : ∃ L, (a.fs.map (shF 1)) ++ (b.fs.take k).map (shF (1 + a.n)) = L := ⟨_, rfl⟩
         have HLL := hid (show L.length = k + a.fs.length from by rw [← hL]; simp; omega)
         have hLn : L ++ [⟨((b.fs[k]'hlt).frm + 1 + a.n), (b.fs[k]'hlt).gs, (b.fs[k]'hlt).out⟩] = (a.fs.map (shF 1)) ++ (b.fs.take (k + 1)).map (shF (1 + a.n)) := by
          rw [← hL, List.take_succ_eq_append_getElem hlt, List.map_append, ← List.append_assoc]
          simp [shF, Int.add_assoc]
         rw [hL] at hrj
         obtain ⟨wq, hwq⟩ : ∃ wq, wr.alloc (.cells #[.int .i64 (b.fs[k]'hlt).frm, .slice G (b.fs[k]'hlt).gs.length gc, .slice T (b.fs[k]'hlt).out.length tc] 45) = wq := ⟨_, rfl⟩
         have hsq : wq.heap.size = wr.heap.size + 1 := by rw [← hwq]; simp
         have hbq : Below wr.heap.size wr wq := by rw [← hwq]; exact (Below.refl _ _).alloc (Nat.le_refl _) _
         have hnq : Blk wq wr.heap.size 45 #[.int .i64 (b.fs[k]'hlt).frm, .slice G (b.fs[k]'hlt).gs.length gc, .slice T (b.fs[k]'hlt).out.length tc] := by rw [← hwq]; exact heap_alloc_new wr _
         obtain ⟨w8, hw8⟩ : ∃ w8, wq.setCell ⟨wr.heap.size, 0, none⟩ (.int .i64 ((b.fs[k]'hlt).frm + 1 + a.n)) = w8 := ⟨_, rfl⟩
         have hn8 : Blk w8 wr.heap.size 45 #[.int .i64 ((b.fs[k]'hlt).frm + 1 + a.n), .slice G (b.fs[k]'hlt).gs.length gc, .slice T (b.fs[k]'hlt).out.length tc] := by rw [← hw8]; exact hnq.set_ 0 _
         have hn9 := hn8
         have hb9 : Below wr.heap.size wr w8 := by rw [← hw8]; exact hbq.setCell (Nat.le_refl wr.heap.size) _
         have hs9 : w8.heap.size = wr.heap.size + 1 := by rw [← hw8]; simp [hsq]
         obtain ⟨wA, hwA⟩ : ∃ wA, w8.alloc (.cells #[.int .i64 ((b.fs[k]'hlt).frm + 1 + a.n), .slice G (b.fs[k]'hlt).gs.length gc, .slice T (b.fs[k]'hlt).out.length tc] 45) = wA := ⟨_, rfl⟩
         have hbA9 : Below w8.heap.size w8 wA := by rw [← hwA]; exact (Below.refl _ _).alloc (Nat.le_refl _) _
         have hsA : wA.heap.size = wr.heap.size + 2 := by rw [← hwA]; simp [hs9]
         have hbrA : Below wr.heap.size wr wA := hb9.trans (hbA9.mono (by omega))
         have hnA : Blk wA (wr.heap.size + 1) 45 #[.int .i64 ((b.fs[k]'hlt).frm + 1 + a.n), .slice G (b.fs[k]'hlt).gs.length gc, .slice T (b.fs[k]'hlt).out.length tc] := by rw [← hwA, ← hs9]; exact heap_alloc_new w8 _
         have hrA := hrj.keep hbrA
         obtain ⟨vs, hvs, _⟩ := hrA.finals
         obtain ⟨Av, cv, hv⟩ := own_shape hvs
         subst hv
         have x4 := (hrj.keep hb9).box.at5
         have z0 := hnq.cell 0
         have z0f := hnq.frozen 0
         have y0 := hn9.cell 0
         have y1 := hn9.cell 1
         have y2 := hn9.cell 2
         have m2q := (HBOX.out wq (hbl.trans (hbq.mono (by have := hbl.size; omega)))).1.cell 2
         simp only [List.getElem?_toArray, List.getElem?_cons_zero, List.getElem?_cons_succ] at z0 y0 y1 y2 m2q
         have HWQ := hid hwq
         have HRJA := hid hrA
         have HVS := hid hvs
         have HGA := hid (hG.keep ⟨hbrA.size, fun q hq _ => hbrA.block q (by have := hbw.size; omega)⟩ (fun _ hq _ => hq))
         have HTA := hid (hTT.keep ⟨hbrA.size, fun q hq _ => hbrA.block q (by have := hbw.size; omega)⟩ (fun _ hq _ => hq))
         have HBA := hid (hbl.trans (hbrA.mono (by have := hbl.size; omega)))
         have HNA := hid (fun (j : Nat) (u : Value) (e : [Value.int .i64 ((b.fs[k]'hlt).frm + 1 + a.n), .slice G (b.fs[k]'hlt).gs.length gc, .slice T (b.fs[k]'hlt).out.length tc][j]? = some u) => World.news_of_block (w := wA) hnA j u e)
         have HOA := hid (show ∀ u ∈ [Value.int .i64 ((b.fs[k]'hlt).frm + 1 + a.n), .slice G (b.fs[k]'hlt).gs.length gc, .slice T (b.fs[k]'hlt).out.length tc], u.oneCell' = true from fun u hu => by
          simp only [List.mem_cons, List.not_mem_nil, or_false] at hu
          rcases hu with rfl | rfl | rfl <;> rfl)
         have hlow := hrj.box.lt
         clear hwq hrj hG hTT hbq hnq hn8 hn9 hb9 hbA9 hbrA hnA hrA hvs hbl hbw
         go_upto_region 27 with (fail)
         rw [HWQ.out]
         go_upto_region 28 with (fail)
         go_wp2_with (at_builtin; go_must (refine wpList_append_own_at _ rfl _ _ 24 rfl (w.heap.size + 4) 45 i1 _ 3 56 Tryz.underlying24 hi1 hy0 hy1 hy2 rfl (by decide) (.slice Av L.length cv) L.length vs rfl HVS.out ⟨wr.heap.size + 1, 0, none⟩ 1 1 [.int .i64 ((b.fs[k]'hlt).frm + 1 + a.n), .slice G (b.fs[k]'hlt).gs.length gc, .slice T (b.fs[k]'hlt).out.length tc] rfl rfl HNA.out HOA.out ?d1 ?d2 ?d3 ?_))
         case d1 => have := HLL.out; have := HRa.out.r; have := HRa.out.f; simp only [maxLen]; omega
         case d2 => have := HLL.out; have := HRa.out.r; have := HRa.out.f; omega
         case d3 => omega
         intro v' wB hownB hgB _ hat
         obtain ⟨A', c', hv'⟩ := own_shape hownB
         subst hv'
         obtain ⟨wC, hwC⟩ : ∃ wC, wB.setCell ⟨w.heap.size + 3, 5, none⟩ (.slice A' (L.length + 1) c') = wC := ⟨_, rfl⟩
         have hlowA := HRJA.out.box.lt
         have hvx : ∀ g, (Value.slice Av L.length cv).ownBlock = some g → w.heap.size + 4 ≤ g := fun g e => (World.ownsRow.lt HVS.out g e).1
         have hdB := HRJA.out.box.keep (hgB.block _ hlowA (fun e => by have := hvx _ e.symm; omega))
         have m4 := hdB.at5
         have m4f := hdB.frozen 5
         have HRC := hid (show RJ w.heap.size (w.heap.size + 4) (w.heap.size + 3) a.i a.o (1 + a.n + b.n) 0 (joinR a b) ((a.fs.map (shF 1)) ++ (b.fs.take (k + 1)).map (shF (1 + a.n))) v (.slice A' (L.length + 1) c') wC from by
          rw [← hwC, ← hLn]
          exact HRJA.out.final (r := ⟨((b.fs[k]'hlt).frm + 1 + a.n), (b.fs[k]'hlt).gs, (b.fs[k]'hlt).out⟩) (H := wr.heap.size + 2) HVS.out HGA.out hgc HTA.out htc hgB hownB hat (by omega))
         have HBC := hid (show Below (w.heap.size + 3) w3 wC from by
          rw [← hwC]
          exact (HBA.out.grown hgB (by omega) (fun q e => by have := hvx q e; omega)).setCell (Nat.le_refl (w.heap.size + 3)) _)
         clear hownB hgB hat hdB z0 z0f y0 y1 y2 x4 c0 c1 c2 m2q
         go_wp2_with (fail)
         go_roundw
         case rel => exact ⟨k + 1, v, _, by omega, by go_num, HBC.out, HRC.out⟩
         case measure => simp [intOf]; omega
        ·have hk : k = b.fs.length := by omega
         subst hk
         have e1 : decide ((b.fs.length : Int) < (b.fs.length : Int)) = false := decide_eq_false (by omega)
         rw [List.take_length] at hrj
         have hbR := joinR_bnd HRa.out HRb.out
         have hbF := joinF_bnd HRa.out HRb.out
         have hlay : RJ w.heap.size (w.heap.size + 4) (w.heap.size + 3) a.i a.o (1 + a.n + b.n) 0 (joinR a b) (joinF a b) v vf wr := hrj
         have hzr := (HBOX.out wr hbl).2.2
         have HZ := hid hzr
         obtain ⟨AR, cR, hvR, hrR, hcR, hmR⟩ := RowRu.reads hlay.rules hbR
         obtain ⟨AF, cF, hvF, hrF, hcF, hmF⟩ := RowFi.reads hlay.finals hbF
         subst hvR hvF
         obtain ⟨x0, x1, x2, x3, x4, x5⟩ := hlay.box.cells
         have HBW := hid hbw
         have HLZ := hid hlay
         have HBR := hid hbR
         have HBF := hid hbF
         clear hrj hlay hbl hzr hrR hrF hbw hbR hbF
         unfold maxLen at hmR hmF
         have z0 := HZ.out.cell 0
         have y0 := HZ.out.frozen 0
         have z1 := HZ.out.cell 1
         have y1 := HZ.out.frozen 1
         have z2 := HZ.out.cell 2
         have y2 := HZ.out.frozen 2
         have z3 := HZ.out.cell 3
         have y3 := HZ.out.frozen 3
         have z4 := HZ.out.cell 4
         have y4 := HZ.out.frozen 4
         have z5 := HZ.out.cell 5
         have y5 := HZ.out.frozen 5
         simp only [List.getElem?_toArray, List.getElem?_cons_zero, List.getElem?_cons_succ] at z0 z1 z2 z3 z4 z5
         go_wp2_with (fail)
         obtain ⟨wE, hwE⟩ : ∃ wE, ((((((wr.setCell ⟨w.heap.size + 2, 0, none⟩ (.int .i64 a.i)).setCell ⟨w.heap.size + 2, 1, none⟩ (.int .i64 a.o)).setCell ⟨w.heap.size + 2, 2, none⟩ (.int .i64 (1 + a.n + b.n))).setCell ⟨w.heap.size + 2, 3, none⟩ (.int .i64 0)).setCell ⟨w.heap.size + 2, 4, none⟩ (.slice AR (joinR a b).length cR)).setCell ⟨w.heap.size + 2, 5, none⟩ (.slice AF (joinF a b).length cF)) = wE := ⟨_, rfl⟩
         have hqE : Blk wE (w.heap.size + 2) 26 #[.int .i64 a.i, .int .i64 a.o, .int .i64 (1 + a.n + b.n), .int .i64 0, .slice AR (joinR a b).length cR, .slice AF (joinF a b).length cF] := by
          rw [← hwE]
          exact (((((HZ.out.set_ 0 _).set_ 1 _).set_ 2 _).set_ 3 _).set_ 4 _).set_ 5 _
         have hbE : Below w.heap.size w wE := by
          rw [← hwE]
          exact (((((HBW.out.setCell (by simp) _).setCell (by simp) _).setCell (by simp) _).setCell (by simp) _).setCell (by simp) _).setCell (by simp) _
         have hother : ∀ g, g ≠ w.heap.size + 2 → wE.heap[g]? = wr.heap[g]? := fun g hg => by
          rw [← hwE]
          rw [heap_setCell_other _ ⟨w.heap.size + 2, 5, none⟩ g _ hg, heap_setCell_other _ ⟨w.heap.size + 2, 4, none⟩ g _ hg, heap_setCell_other _ ⟨w.heap.size + 2, 3, none⟩ g _ hg, heap_setCell_other _ ⟨w.heap.size + 2, 2, none⟩ g _ hg, heap_setCell_other _ ⟨w.heap.size + 2, 1, none⟩ g _ hg, heap_setCell_other _ ⟨w.heap.size + 2, 0, none⟩ g _ hg]
         have k0 := hqE.cell 0
         have k1 := hqE.cell 1
         have k2 := hqE.cell 2
         have k3 := hqE.cell 3
         have k4 := hqE.cell 4
         have k5 := hqE.cell 5
         simp only [List.getElem?_toArray, List.getElem?_cons_zero, List.getElem?_cons_succ] at k0 k1 k2 k3 k4 k5
         try rw [hwE]
         have hrr : RowRu _ wE (w.heap.size + 4) _ (joinR a b) := HLZ.out.rules.keep (by rw [← hwE]; simp) (fun g e => hother g (by
          obtain ⟨vs0, h0, _⟩ := HLZ.out.rules
          have := (World.ownsRow.lt h0 g e).1
          omega)) (fun g hg _ _ => hother g (by omega)) (fun _ hp _ => hp)
         have hff : RowFi _ wE (w.heap.size + 4) _ (joinF a b) := HLZ.out.finals.keep (by rw [← hwE]; simp) (fun g e => hother g (by
          obtain ⟨vs0, h0, _⟩ := HLZ.out.finals
          have := (World.ownsRow.lt h0 g e).1
          omega)) (fun g hg _ _ => hother g (by omega)) (fun _ hp _ => hp)
         obtain ⟨AR', cR', hvR', hrR', _, _⟩ := RowRu.reads hrr HBR.out
         obtain ⟨AF', cF', hvF', hrF', _, _⟩ := RowFi.reads hff HBF.out
         injection hvR' with e1 _ e2
         injection hvF' with e3 _ e4
         subst e1 e3
         exact bodyPost_ret (v := dsc a.i a.o (1 + a.n + b.n) 0 AR (joinR a b).length cR AF (joinF a b).length cF) (by simp [results, Tryz.results13, go_sem, k0, k1, k2, k3, k4, k5]) rfl ⟨hbE, AR, cR, AF, cF, rfl, hrR', hrF'⟩
end Go.Proofs.YtoofgpoeheponaaGreatDoor.De
