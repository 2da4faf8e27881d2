import Derived.Test.YtbhocpjogkobgaaGreatDoorS19
import Derived.Test.YtbhocpjogkobgaaGreatDoorS37
import Derived.Test.YtbhocpjogkobgaaGreatDoorS38
import Derived.Test.YtbhocpjogkobgaaGreatDoorS39
import Derived.Test.YtbhocpjogkobgaaGreatDoorS40
import Derived.Test.YtbhocpjogkobgaaGreatDoorS44
import Derived.StillTailTactics
import Derived.Deep.DeepCutAuto
import Derived.Deep.CutRange
import Derived.Laws.AppendOwnNone
import Derived.BigQuiet
set_option maxRecDepth 100000
namespace Go.Proofs.YtbhocpjogkobgaaGreatDoor.Rg
open Go Go.RowKit Go.Shelf Go.Maps Sp Pa Te Mi Sh Fi De
open Go.Lib (hid)
def RgW {α : Type} (P : α → Bool) (l : List α) (w : World) (v : Value) (wr : World) : Prop := ∃ k : Nat, k ≤ l.length ∧ v = .int .i64 k ∧ (∀ j (hj : j < l.length), j < k → P l[j] = true) ∧ Below w.heap.size w wr
set_option maxHeartbeats 16000000 in
theorem rwhere_bad (i o n s : Int) (A : Option Addr) (cr : Nat) (B : Option Addr) (cf : Nat) (rs : List RuL) (fs : List FiL) (w : World) (hrl : rs.length ≤ maxLen) (hfl : fs.length ≤ maxLen) (hbad : headB i o n s rs.length fs.length = false) :
  Calls Tryz.prog 13 #[dsc i o n s A rs.length cr B fs.length cf] w (WhOut (whereD i o n s rs fs) w) := by
 obtain ⟨w1, hw1⟩ : ∃ w1, w.alloc (.cells #[.int .i64 i, .int .i64 o, .int .i64 n, .int .i64 s, .slice A rs.length cr, .slice B fs.length cf] 26) = w1 := ⟨_, rfl⟩
 have hs1 : w1.heap.size = w.heap.size + 1 := by rw [← hw1]; simp
 have hb1 : Below w.heap.size w w1 := by rw [← hw1]; exact (Below.refl _ _).alloc (Nat.le_refl _) _
 have hd1 : DB w1 w.heap.size i o n s A rs.length cr B fs.length cf := by rw [← hw1]; exact DB.boxed
 have HB1 := hid hb1
 obtain ⟨p0, p1, p2, p3, p4, p5⟩ := hd1
 clear hb1
 obtain ⟨v, hv⟩ : ∃ v, whereD i o n s rs fs = v := ⟨_, rfl⟩
 rw [hv]
 have HV := hid hv
 clear hv
 unfold maxLen at hrl hfl
 go_enter Tryz.func13, Tryz.ntmps13
 go_upto_region 1 with (fail)
 go_cut [61] (fun v wx => wx = w1 ∧ v = .bool (!(headB i o n s rs.length fs.length)))
 ·by_cases a1 : i = 1 ∨ i = 2
  case neg =>
   have b3 : (i == 1) = false := by simp; omega
   have b4 : (i == 2) = false := by simp; omega
   have HHH := hid (show headB i o n s rs.length fs.length = false by unfold headB sortB; rw [decide_eq_false a1]; rfl)
   go_wp2_with (fail)
   go_meet
   exact ⟨rfl, by rw [HHH.out]; rfl⟩
  by_cases a2 : o = 1 ∨ o = 2
  case neg =>
   have b3 : (o == 1) = false := by simp; omega
   have b4 : (o == 2) = false := by simp; omega
   have HHH := hid (show headB i o n s rs.length fs.length = false by unfold headB sortB; rw [decide_eq_false a2]; simp)
   rcases a1 with rfl | rfl
   all_goals
    go_wp2_with (fail)
    go_meet
    exact ⟨rfl, by rw [HHH.out]; rfl⟩
  by_cases a3 : 1 ≤ n
  case neg =>
   have d_ : decide (n < 1) = true := decide_eq_true (by omega)
   have HHH := hid (show headB i o n s rs.length fs.length = false by unfold headB; rw [decide_eq_false a3]; simp)
   rcases a1 with rfl | rfl <;> rcases a2 with rfl | rfl
   all_goals
    go_wp2_with (fail)
    go_meet
    exact ⟨rfl, by rw [HHH.out]; rfl⟩
  have d3 : decide (n < 1) = false := decide_eq_false (by omega)
  by_cases a4 : n ≤ 1024
  case neg =>
   have d_ : decide (1024 < n) = true := decide_eq_true (by omega)
   have HHH := hid (show headB i o n s rs.length fs.length = false by unfold headB; rw [decide_eq_false a4]; simp)
   rcases a1 with rfl | rfl <;> rcases a2 with rfl | rfl
   all_goals
    go_wp2_with (fail)
    go_meet
    exact ⟨rfl, by rw [HHH.out]; rfl⟩
  have d4 : decide (1024 < n) = false := decide_eq_false (by omega)
  by_cases a5 : 0 ≤ s
  case neg =>
   have d_ : decide (s < 0) = true := decide_eq_true (by omega)
   have HHH := hid (show headB i o n s rs.length fs.length = false by unfold headB stB; rw [decide_eq_false (show ¬ (0 ≤ s ∧ s < n) from fun q => a5 q.1)]; simp)
   rcases a1 with rfl | rfl <;> rcases a2 with rfl | rfl
   all_goals
    go_wp2_with (fail)
    go_meet
    exact ⟨rfl, by rw [HHH.out]; rfl⟩
  have d5 : decide (s < 0) = false := decide_eq_false (by omega)
  by_cases a6 : s < n
  case neg =>
   have d_ : decide (n ≤ s) = true := decide_eq_true (by omega)
   have HHH := hid (show headB i o n s rs.length fs.length = false by unfold headB stB; rw [decide_eq_false (show ¬ (0 ≤ s ∧ s < n) from fun q => a6 q.2)]; simp)
   rcases a1 with rfl | rfl <;> rcases a2 with rfl | rfl
   all_goals
    go_wp2_with (fail)
    go_meet
    exact ⟨rfl, by rw [HHH.out]; rfl⟩
  have d6 : decide (n ≤ s) = false := decide_eq_false (by omega)
  by_cases a7 : rs.length ≤ 4096
  case neg =>
   have d_ : decide ((4096 : Int) < (rs.length : Int)) = true := decide_eq_true (by omega)
   have HHH := hid (show headB i o n s rs.length fs.length = false by unfold headB; rw [decide_eq_false a7]; simp)
   rcases a1 with rfl | rfl <;> rcases a2 with rfl | rfl
   all_goals
    go_wp2_with (fail)
    go_meet
    exact ⟨rfl, by rw [HHH.out]; rfl⟩
  have d7 : decide ((4096 : Int) < (rs.length : Int)) = false := decide_eq_false (by omega)
  by_cases a8 : fs.length ≤ 4096
  case neg =>
   have d_ : decide ((4096 : Int) < (fs.length : Int)) = true := decide_eq_true (by omega)
   have HHH := hid (show headB i o n s rs.length fs.length = false by unfold headB; rw [decide_eq_false a8]; simp)
   rcases a1 with rfl | rfl <;> rcases a2 with rfl | rfl
   all_goals
    go_wp2_with (fail)
    go_meet
    exact ⟨rfl, by rw [HHH.out]; rfl⟩
  have d8 : decide ((4096 : Int) < (fs.length : Int)) = false := decide_eq_false (by omega)
  exact absurd hbad (by
   unfold headB sortB stB
   rw [decide_eq_true a1, decide_eq_true a2, decide_eq_true a3, decide_eq_true a4, decide_eq_true (show 0 ≤ s ∧ s < n from ⟨a5, a6⟩), decide_eq_true a7, decide_eq_true a8]
   decide)
 obtain ⟨hwc, hu⟩ := hcut
 subst hwc hu
 rw [hbad, show (!false) = true from rfl]
 have hvv : v = (1, 0) := by rw [← HV.out]; unfold whereD whereV; rw [if_neg (by rw [hbad]; decide)]
 subst hvv
 clear hw1 hbad
 go_wp2_with (fail)
 go_ret2
 exact ⟨rfl, HB1.out⟩
end Go.Proofs.YtbhocpjogkobgaaGreatDoor.Rg
namespace Go.Proofs.YtbhocpjogkobgaaGreatDoor.Rg
open Go Go.RowKit Go.Shelf Go.Maps Sp Pa Te Mi Sh Fi De
open Go.Lib (hid)
set_option maxHeartbeats 16000000 in
theorem rwhere_any (i o n s : Int) (A : Option Addr) (cr : Nat) (B : Option Addr) (cf : Nat) (rs : List RuL) (fs : List FiL) (w : World) (hr : RRu w A rs.length rs) (hrl : rs.length ≤ maxLen) (hf : RFi w B fs.length fs) (hfl : fs.length ≤ maxLen) :
  Calls Tryz.prog 13 #[dsc i o n s A rs.length cr B fs.length cf] w (WhOut (whereD i o n s rs fs) w) := by
 obtain ⟨w1, hw1⟩ : ∃ w1, w.alloc (.cells #[.int .i64 i, .int .i64 o, .int .i64 n, .int .i64 s, .slice A rs.length cr, .slice B fs.length cf] 26) = w1 := ⟨_, rfl⟩
 have hs1 : w1.heap.size = w.heap.size + 1 := by rw [← hw1]; simp
 have hb1 : Below w.heap.size w w1 := by rw [← hw1]; exact (Below.refl _ _).alloc (Nat.le_refl _) _
 have hd1 : DB w1 w.heap.size i o n s A rs.length cr B fs.length cf := by rw [← hw1]; exact DB.boxed
 have HD1 := hid hd1
 have HB1 := hid hb1
 have HR := hid (hr.belowM hb1)
 have HF := hid (hf.belowM hb1)
 obtain ⟨p0, p1, p2, p3, p4, p5⟩ := hd1
 have HST := hid (show RgW (ruleB i n (fitF i o)) rs w1 (.int .i64 (0 : Nat)) w1 from ⟨0, Nat.zero_le _, rfl, fun j _ h => absurd h (by omega), Below.refl _ _⟩)
 clear hr hf hb1
 obtain ⟨v, hv⟩ : ∃ v, whereD i o n s rs fs = v := ⟨_, rfl⟩
 rw [hv]
 have HV := hid hv
 clear hv
 by_cases hh0 : headB i o n s rs.length fs.length = true
 case neg =>
  have q := rwhere_bad i o n s A cr B cf rs fs w hrl hfl (by simpa using hh0)
  rw [HV.out] at q
  exact q
 have HH0 := hid hh0
 clear hh0
 unfold maxLen at hrl hfl
 go_enter Tryz.func13, Tryz.ntmps13
 go_upto_region 1 with (fail)
 go_cut [61] (fun v wx => wx = w1 ∧ v = .bool (!(headB i o n s rs.length fs.length)))
 ·have hh2 := HH0.out
  unfold headB sortB stB at hh2
  simp only [Bool.and_eq_true, decide_eq_true_eq] at hh2
  obtain ⟨a1, a2, a3, a4, ⟨a5, a6⟩, a7, a8⟩ := hh2
  have d3 : decide (n < 1) = false := decide_eq_false (by omega)
  have d4 : decide (1024 < n) = false := decide_eq_false (by omega)
  have d5 : decide (s < 0) = false := decide_eq_false (by omega)
  have d6 : decide (n ≤ s) = false := decide_eq_false (by omega)
  have d7 : decide ((4096 : Int) < (rs.length : Int)) = false := decide_eq_false (by omega)
  have d8 : decide ((4096 : Int) < (fs.length : Int)) = false := decide_eq_false (by omega)
  rcases a1 with rfl | rfl <;> rcases a2 with rfl | rfl
  all_goals
   go_wp2_with (fail)
   go_meet
   exact ⟨rfl, by rw [HH0.out]; rfl⟩
 obtain ⟨hwc, hu⟩ := hcut
 subst hwc hu
 clear hw1
 have hhd := HH0.out
 rw [hhd, show (!true) = false from rfl]
 have HHD := hid hhd
 have hh2 := hhd
 unfold headB sortB stB at hh2
 simp only [Bool.and_eq_true, decide_eq_true_eq] at hh2
 obtain ⟨hii, hoo, hn1, hn2, ⟨hs0, hs2⟩, hr4, hf4⟩ := hh2
 have HII := hid hii
 have HVB := hid (fun (k : Nat) (hk : k < rs.length) (hok : ∀ j (hj : j < rs.length), j < k → ruleB i n (fitF i o) rs[j] = true) (hb : ruleB i n (fitF i o) rs[k] = false) => show v = (2, (k : Int)) by rw [← HV.out]; unfold whereD whereV; rw [if_pos HHD.out, bad_at hk hb hok])
 have HVF := hid (fun (hrs : ∀ j (hj : j < rs.length), ruleB i n (fitF i o) rs[j] = true) (k : Nat) (hk : k < fs.length) (hok : ∀ j (hj : j < fs.length), j < k → finB i n (fitF i o) fs[j] = true) (hb : finB i n (fitF i o) fs[k] = false) => show v = (3, (k : Int)) by rw [← HV.out]; unfold whereD whereV; rw [if_pos HHD.out, bad_none (k := rs.length) (by omega) (fun j hj _ => hrs j hj), bad_at hk hb hok])
 have HVC := hid (fun (hrs : ∀ j (hj : j < rs.length), ruleB i n (fitF i o) rs[j] = true) (hfs : ∀ j (hj : j < fs.length), finB i n (fitF i o) fs[j] = true) => show v = if cycE (epsE rs) n.toNat = true then (4, 0) else (0, 0) by rw [← HV.out]; unfold whereD whereV; rw [if_pos HHD.out, bad_none (k := rs.length) (by omega) (fun j hj _ => hrs j hj), bad_none (k := fs.length) (by omega) (fun j hj _ => hfs j hj)])
 clear hhd hii hoo
 go_wp2_with (fail)
 go_loopw [4] (fun v wr => RgW (ruleB i n (fitF i o)) rs wc v wr) (fun v _ => rs.length - (intOf v).toNat)
 case atStart => exact HST.out
 case round =>
  obtain ⟨k, hk, rfl, hok, hb⟩ := hrel
  have HB := hid hb
  have HOK := hid hok
  have hwr := hb.size
  obtain ⟨p0, p1, p2, p3, p4, p5⟩ := HD1.out.below (by omega) hb
  by_cases hlt : k < rs.length
  case pos =>
   obtain ⟨b, off, A', c', A2, c2, hA, hbB, d0, d1, d2, d3, d4, ⟨hg, hgc, hgl, hgm⟩, ht, _, _, _⟩ := (HR.out.belowM hb).at_ hlt
   obtain ⟨q, hq⟩ : ∃ q, rs[k] = q := ⟨_, rfl⟩
   have HVK := hid (fun h => HVB.out k hlt HOK.out h)
   have HNX := hid (fun (h : ruleB i n (fitF i o) q = true) W (hW : Below wc.heap.size wc W) => show RgW (ruleB i n (fitF i o)) rs wc (.int .i64 ((k : Int) + 1)) W from ⟨k + 1, hlt, rfl, next_ok hlt (by rw [hq]; exact h) HOK.out, hW⟩)
   rw [hq] at d0 d1 d2 d3 d4 hg hgc hgl hgm ht HVK
   obtain ⟨w5, hw5⟩ : ∃ w5, wr.alloc (.cells #[.int .i64 q.frm, .int .i64 q.to_, .slice A' q.gs.length c', .int .i64 q.eat, .slice A2 q.out.length c2] 41) = w5 := ⟨_, rfl⟩
   have hb5 : Below wr.heap.size wr w5 := by rw [← hw5]; exact (Below.refl _ _).alloc (Nat.le_refl _) _
   have hs5 : w5.heap.size = wr.heap.size + 1 := by rw [← hw5]; simp
   have hr5 : RB w5 wr.heap.size q.frm q.to_ A' q.gs.length c' q.eat A2 q.out.length c2 := by rw [← hw5]; exact RB.boxed
   have hb15 : Below wc.heap.size wc w5 := below_r hb hb5
   have HB5 := hid hb15
   have HR5 := hid hr5
   have HG5 := hid (hg.belowM hb5)
   have HT5 := hid (ht.belowM hb5)
   have HGM := hid hgm
   obtain ⟨q0, q1, q2, q3, q4⟩ := hr5
   obtain ⟨y0, y1, y2, y3, y4, y5⟩ := HD1.out.below (by omega) hb15
   have HRQ := hid (show ruleB i n (fitF i o) q = (stB n q.frm && (stB n q.to_ && (guardsB i q.gs && (eatB q.gs.length q.eat && termsB (fitF i o q.gs) q.out)))) from rfl)
   subst hA
   clear hb hok hg ht hgm hb5 hb15 hq
   have s1 : IntKind.i64.wrap ((k : Int) + 1) = (k : Int) + 1 := IntWalk.i64_in _ (by omega)
   have i1 : (0 : Int) ≤ (k : Int) := Int.natCast_nonneg _
   have i2 : (k : Int) < (rs.length : Int) := by omega
   obtain ⟨g, hgq⟩ : ∃ g, q.gs.length = g := ⟨_, rfl⟩
   obtain ⟨x, hxq⟩ : ∃ x, q.eat = x := ⟨_, rfl⟩
   have HGX := hid (And.intro hgq hxq)
   rw [hgq] at q2 d2 hgl hgc HRQ
   rw [hxq] at q3 d3 HRQ
   unfold maxLen at hgl
   have hrb2 : RB w5 wr.heap.size q.frm q.to_ A' g c' x A2 q.out.length c2 := ⟨q0, q1, q2, q3, q4⟩
   have HR5' := hid hrb2
   rw [hgq, hxq] at hw5
   clear hgq hxq hrb2 HR5
   go_upto_region 8 with (fail)
   go_cut [7] (fun vx wx => vx = .bool (eatB g x) ∧ wx = w5)
   ·rcases Nat.eq_zero_or_pos g with g0 | g0
    ·subst g0
     by_cases x0 : x = 0
     ·subst x0
      have HE := hid (show eatB 0 0 = true from rfl)
      go_wp2_with (fail)
      go_meet
      exact ⟨by rw [HE.out], rfl⟩
     ·have e1 : (x == 0) = false := by simpa using x0
      have HE := hid (show eatB 0 x = false from decide_eq_false fun z => x0 (by have := z.1; have := z.2; rw [if_pos rfl] at *; omega))
      by_cases x1 : 1 ≤ x
      ·have e2 : decide (1 ≤ x) = true := decide_eq_true x1
       have e3 : decide (x ≤ 0) = false := decide_eq_false (by omega)
       go_wp2_with (fail)
       go_meet
       exact ⟨by rw [HE.out], rfl⟩
      ·have e2 : decide (1 ≤ x) = false := decide_eq_false x1
       go_wp2_with (fail)
       go_meet
       exact ⟨by rw [HE.out], rfl⟩
    ·have e0 : ((g : Int) == 0) = false := by simp; omega
     have e0' : decide ((g : Int) = 0) = false := decide_eq_false (by omega)
     by_cases x1 : 1 ≤ x
     ·have e2 : decide (1 ≤ x) = true := decide_eq_true x1
      by_cases x2 : x ≤ g
      ·have e3 : decide (x ≤ (g : Int)) = true := decide_eq_true x2
       have HE := hid (show eatB g x = true from decide_eq_true ⟨by rw [if_neg (by omega)]; exact x1, x2⟩)
       go_wp2_with (fail)
       go_meet
       exact ⟨by rw [HE.out], rfl⟩
      ·have e3 : decide (x ≤ (g : Int)) = false := decide_eq_false x2
       have HE := hid (show eatB g x = false from decide_eq_false fun z => x2 z.2)
       go_wp2_with (fail)
       go_meet
       exact ⟨by rw [HE.out], rfl⟩
     ·have e2 : decide (1 ≤ x) = false := decide_eq_false x1
      have HE := hid (show eatB g x = false from decide_eq_false fun z => x1 (by have := z.1; rw [if_neg (by omega)] at this; exact this))
      go_wp2_with (fail)
      go_meet
      exact ⟨by rw [HE.out], rfl⟩
   obtain ⟨h7, hw7⟩ := hcut
   subst h7 hw7
   clear hw5
   rename World => w5
   have HGU := hid (rguards_any i A' c' q.gs w5 HG5.out (by rw [HGX.out.1]; unfold maxLen; exact hgl) HGM.out)
   rw [HGX.out.1] at HGU
   have HWR := hid (fun (hgv : guardsB i q.gs = true) W (hW : Below w5.heap.size w5 W) => rwrites_any i o n s (some ⟨b, off, none⟩) rs.length cr B fs.length cf A2 c2 q.out A' c' q.gs W (HT5.out.belowM hW) (HG5.out.belowM hW) (gs_ok hgv HII.out))
   rw [HGX.out.1] at HWR
   by_cases f0 : 0 ≤ q.frm
   case neg =>
    have e_ : decide (q.frm < 0) = true := decide_eq_true (by omega)
    obtain rfl := HVK.out (by rw [HRQ.out, stB_lo f0]; rfl)
    go_wp2_with (fail)
    go_ret2
    exact ⟨rfl, HB1.out.trans (HB5.out.mono (by omega))⟩
   have f0d : decide (q.frm < 0) = false := decide_eq_false (by omega)
   by_cases f1 : q.frm < n
   case neg =>
    have e_ : decide (n ≤ q.frm) = true := decide_eq_true (by omega)
    obtain rfl := HVK.out (by rw [HRQ.out, stB_hi f1]; rfl)
    go_wp2_with (fail)
    go_ret2
    exact ⟨rfl, HB1.out.trans (HB5.out.mono (by omega))⟩
   have f1d : decide (n ≤ q.frm) = false := decide_eq_false (by omega)
   by_cases f2 : 0 ≤ q.to_
   case neg =>
    have e_ : decide (q.to_ < 0) = true := decide_eq_true (by omega)
    obtain rfl := HVK.out (by rw [HRQ.out, stB_lo f2]; simp)
    go_wp2_with (fail)
    go_ret2
    exact ⟨rfl, HB1.out.trans (HB5.out.mono (by omega))⟩
   have f2d : decide (q.to_ < 0) = false := decide_eq_false (by omega)
   by_cases f3 : q.to_ < n
   case neg =>
    have e_ : decide (n ≤ q.to_) = true := decide_eq_true (by omega)
    obtain rfl := HVK.out (by rw [HRQ.out, stB_hi f3]; simp)
    go_wp2_with (fail)
    go_ret2
    exact ⟨rfl, HB1.out.trans (HB5.out.mono (by omega))⟩
   have f3d : decide (n ≤ q.to_) = false := decide_eq_false (by omega)
   obtain ⟨eb, heb⟩ : ∃ eb, eatB g x = eb := ⟨_, rfl⟩
   rw [heb] at HRQ
   rw [heb]
   clear heb
   cases eb
   ·obtain rfl := HVK.out (by rw [HRQ.out]; simp)
    go_wp2_with (fail)
    go_ret2
    exact ⟨rfl, HB1.out.trans (HB5.out.mono (by omega))⟩
   obtain ⟨gv, hgv⟩ : ∃ gv, guardsB i q.gs = gv := ⟨_, rfl⟩
   have HGV := hid hgv
   rw [hgv] at HGU HRQ
   clear hgv
   go_wp2_with (fail)
   refine HGU.out.mono ?_
   rintro e w6 ⟨rfl, hb6⟩
   have hz6 := hb6.size
   have HB6 := hid (below_r HB5.out hb6)
   obtain ⟨q0, q1, q2, q3, q4⟩ := HR5'.out.below (by omega) hb6
   obtain ⟨y0, y1, y2, y3, y4, y5⟩ := HD1.out.below (by omega) HB6.out
   cases gv
   ·obtain rfl := HVK.out (by rw [HRQ.out]; simp)
    go_wp2_with (fail)
    go_ret2
    exact ⟨rfl, HB1.out.trans (HB6.out.mono (by omega))⟩
   have HW6 := hid (HWR.out HGV.out w6 hb6)
   obtain ⟨tv, htv⟩ : ∃ tv, termsB (fitF i o q.gs) q.out = tv := ⟨_, rfl⟩
   rw [htv] at HW6 HRQ
   clear htv hb6
   go_wp2_with (fail)
   refine HW6.out.mono ?_
   rintro e w7 ⟨rfl, hb7⟩
   have HB7 := hid (below_r HB6.out hb7)
   clear hb7
   cases tv
   ·obtain rfl := HVK.out (by rw [HRQ.out]; simp)
    go_wp2_with (fail)
    go_ret2
    exact ⟨rfl, HB1.out.trans (HB7.out.mono (by omega))⟩
   have HNW := hid (HNX.out (by rw [HRQ.out, stB_t f0 f1, stB_t f2 f3]; rfl) w7 HB7.out)
   go_wp2_with (fail)
   go_roundw
   case rel => exact HNW.out
   case measure => simp [intOf]; omega
  have HAR := hid (show ∀ j (hj : j < rs.length), ruleB i n (fitF i o) rs[j] = true from fun j hj => hok j hj (by omega))
  have HBA := hid hb
  have HRA := hid (HR.out.belowM hb)
  rename World => wa
  have HST2 := hid (show RgW (finB i n (fitF i o)) fs wa (.int .i64 (0 : Nat)) wa from ⟨0, Nat.zero_le _, rfl, fun j _ h => absurd h (by omega), Below.refl _ _⟩)
  clear hok hb
  go_wp2_with (fail)
  go_loopw [8] (fun v wr => RgW (finB i n (fitF i o)) fs wa v wr) (fun v _ => fs.length - (intOf v).toNat)
  case atStart => exact HST2.out
  case round =>
   obtain ⟨m, hm, rfl, hok, hb⟩ := hrel
   have HB := hid hb
   have HOK2 := hid hok
   have hwr2 := hb.size
   have HBC := hid (below_r HBA.out hb)
   obtain ⟨p0, p1, p2, p3, p4, p5⟩ := HD1.out.below (by omega) HBC.out
   by_cases hlt2 : m < fs.length
   case pos =>
    obtain ⟨b, off, A', c', A2, c2, hA, hbB, d0, d1, d2, ⟨hg, hgc, hgl, hgm⟩, ht, _, _⟩ := (HF.out.belowM HBC.out).at_ hlt2
    obtain ⟨q, hq⟩ : ∃ q, fs[m] = q := ⟨_, rfl⟩
    have HVK := hid (fun h => HVF.out HAR.out m hlt2 HOK2.out h)
    have HNX := hid (fun (h : finB i n (fitF i o) q = true) W (hW : Below wa.heap.size wa W) => show RgW (finB i n (fitF i o)) fs wa (.int .i64 ((m : Int) + 1)) W from ⟨m + 1, hlt2, rfl, next_ok hlt2 (by rw [hq]; exact h) HOK2.out, hW⟩)
    rw [hq] at d0 d1 d2 hg hgc hgl hgm ht HVK
    obtain ⟨g, hgq⟩ : ∃ g, q.gs.length = g := ⟨_, rfl⟩
    have HGQ := hid hgq
    rw [hgq] at d1 hgc hgl
    obtain ⟨w5, hw5⟩ : ∃ w5, wr.alloc (.cells #[.int .i64 q.frm, .slice A' g c', .slice A2 q.out.length c2] 56) = w5 := ⟨_, rfl⟩
    have hb5 : Below wr.heap.size wr w5 := by rw [← hw5]; exact (Below.refl _ _).alloc (Nat.le_refl _) _
    have hs5 : w5.heap.size = wr.heap.size + 1 := by rw [← hw5]; simp
    have q0 : w5.cell? ⟨wr.heap.size, 0, none⟩ = some (.int .i64 q.frm) := by rw [← hw5]; simp
    have q1 : w5.cell? ⟨wr.heap.size, 1, none⟩ = some (.slice A' g c') := by rw [← hw5]; simp
    have q2 : w5.cell? ⟨wr.heap.size, 2, none⟩ = some (.slice A2 q.out.length c2) := by rw [← hw5]; simp
    have HQ5 := hid (And.intro q0 (And.intro q1 q2))
    have HB5 := hid (below_r hb hb5)
    have HC5 := hid (below_r HBC.out hb5)
    have HG5 := hid (hg.belowM hb5)
    have HT5 := hid (ht.belowM hb5)
    have HGM := hid hgm
    obtain ⟨y0, y1, y2, y3, y4, y5⟩ := HD1.out.below (by omega) HC5.out
    have HRQ := hid (show finB i n (fitF i o) q = (stB n q.frm && (guardsB i q.gs && termsB (fitF i o q.gs) q.out)) from rfl)
    unfold maxLen at hgl
    have HGU := hid (rguards_any i A' c' q.gs w5 HG5.out (by rw [HGQ.out]; unfold maxLen; exact hgl) HGM.out)
    rw [HGQ.out] at HGU
    have HWR := hid (fun (hgv : guardsB i q.gs = true) W (hW : Below w5.heap.size w5 W) => rwrites_any i o n s A rs.length cr B fs.length cf A2 c2 q.out A' c' q.gs W (HT5.out.belowM hW) (HG5.out.belowM hW) (gs_ok hgv HII.out))
    rw [HGQ.out] at HWR
    subst hA
    clear hb hok hg ht hgm hb5 hq hgq
    have s1 : IntKind.i64.wrap ((m : Int) + 1) = (m : Int) + 1 := IntWalk.i64_in _ (by omega)
    have i1 : (0 : Int) ≤ (m : Int) := Int.natCast_nonneg _
    have i2 : (m : Int) < (fs.length : Int) := by omega
    by_cases f0 : 0 ≤ q.frm
    case neg =>
     have e_ : decide (q.frm < 0) = true := decide_eq_true (by omega)
     obtain rfl := HVK.out (by rw [HRQ.out, stB_lo f0]; rfl)
     go_wp2_with (fail)
     go_ret2
     exact ⟨rfl, HB1.out.trans (HC5.out.mono (by omega))⟩
    have f0d : decide (q.frm < 0) = false := decide_eq_false (by omega)
    by_cases f1 : q.frm < n
    case neg =>
     have e_ : decide (n ≤ q.frm) = true := decide_eq_true (by omega)
     obtain rfl := HVK.out (by rw [HRQ.out, stB_hi f1]; rfl)
     go_wp2_with (fail)
     go_ret2
     exact ⟨rfl, HB1.out.trans (HC5.out.mono (by omega))⟩
    have f1d : decide (n ≤ q.frm) = false := decide_eq_false (by omega)
    obtain ⟨gv, hgv⟩ : ∃ gv, guardsB i q.gs = gv := ⟨_, rfl⟩
    have HGV := hid hgv
    rw [hgv] at HGU HRQ
    clear hgv
    go_wp2_with (fail)
    refine HGU.out.mono ?_
    rintro e w6 ⟨rfl, hb6⟩
    have hz6 := hb6.size
    have HB6 := hid (below_r HB5.out hb6)
    have HC6 := hid (below_r HC5.out hb6)
    have q0 := (hb6.cell (p := ⟨wr.heap.size, 0, none⟩) (by show wr.heap.size < _; omega)).trans HQ5.out.1
    have q1 := (hb6.cell (p := ⟨wr.heap.size, 1, none⟩) (by show wr.heap.size < _; omega)).trans HQ5.out.2.1
    have q2 := (hb6.cell (p := ⟨wr.heap.size, 2, none⟩) (by show wr.heap.size < _; omega)).trans HQ5.out.2.2
    obtain ⟨y0, y1, y2, y3, y4, y5⟩ := HD1.out.below (by omega) HC6.out
    cases gv
    ·obtain rfl := HVK.out (by rw [HRQ.out]; simp)
     go_wp2_with (fail)
     go_ret2
     exact ⟨rfl, HB1.out.trans (HC6.out.mono (by omega))⟩
    have HW6 := hid (HWR.out HGV.out w6 hb6)
    obtain ⟨tv, htv⟩ : ∃ tv, termsB (fitF i o q.gs) q.out = tv := ⟨_, rfl⟩
    rw [htv] at HW6 HRQ
    clear htv hb6
    go_wp2_with (fail)
    refine HW6.out.mono ?_
    rintro e w7 ⟨rfl, hb7⟩
    have HB7 := hid (below_r HB6.out hb7)
    have HC7 := hid (below_r HC6.out hb7)
    clear hb7
    cases tv
    ·obtain rfl := HVK.out (by rw [HRQ.out]; simp)
     go_wp2_with (fail)
     go_ret2
     exact ⟨rfl, HB1.out.trans (HC7.out.mono (by omega))⟩
    have HNW := hid (HNX.out (by rw [HRQ.out, stB_t f0 f1]; rfl) w7 HB7.out)
    go_wp2_with (fail)
    go_roundw
    case rel => exact HNW.out
    case measure => simp [intOf]; omega
   have HAF := hid (show ∀ j (hj : j < fs.length), finB i n (fitF i o) fs[j] = true from fun j hj => hok j hj (by omega))
   have hvc := HVC.out HAR.out HAF.out
   obtain ⟨N, hN⟩ := Int.eq_ofNat_of_zero_le (show 0 ≤ n by omega)
   subst hN
   have HCY := hid (rcycle_any N i o s A cr B fs.length cf rs wr (HRA.out.belowM hb) hr4 (by omega) (fun j hj => by
    have h2 := HAR.out j hj
    unfold ruleB at h2
    simp only [Bool.and_eq_true] at h2
    exact ⟨h2.1, h2.2.1⟩))
   rw [Int.toNat_natCast] at hvc
   obtain ⟨cy, hcy⟩ : ∃ cy, cycE (epsE rs) N = cy := ⟨_, rfl⟩
   rw [hcy] at HCY hvc
   have HBZ := hid (HB1.out.trans (HBC.out.mono (by omega)))
   clear hok hb hcy
   cases cy
   ·obtain rfl : v = (0, 0) := hvc
    go_wp2_with (fail)
    refine HCY.out.mono ?_
    rintro e w9 ⟨rfl, hb9⟩
    have HB9 := hid (below_r HBZ.out hb9)
    clear hb9
    go_wp2_with (fail)
    go_ret2
    exact ⟨rfl, HB9.out⟩
   ·obtain rfl : v = (4, 0) := hvc
    go_wp2_with (fail)
    refine HCY.out.mono ?_
    rintro e w9 ⟨rfl, hb9⟩
    have HB9 := hid (below_r HBZ.out hb9)
    clear hb9
    go_wp2_with (fail)
    go_ret2
    exact ⟨rfl, HB9.out⟩
end Go.Proofs.YtbhocpjogkobgaaGreatDoor.Rg
namespace Go.Proofs.YtbhocpjogkobgaaGreatDoor.De
open Go Go.RowKit Sp Pa Te Mi Rg
open Go.Lib (hid)
theorem u64_nonneg (n : Int) : 0 ≤ IntKind.u64.wrap n := by
 simp only [IntKind.wrap, IntKind.signed, IntKind.bits]
 simp
 omega
theorem u64_small (n : Nat) (h : n ≤ 80) : IntKind.u64.wrap (n : Int) = (n : Int) := by
 simp only [IntKind.wrap, IntKind.signed, IntKind.bits]
 simp
 omega
theorem place_num (a : Int) (L : Nat) (hL : 0 < L) (h80 : L ≤ 80) : ∃ (U : Int) (K : Nat), Hid (IntKind.u64.wrap a = U) ∧ K < L ∧ Hid (U.tmod (L : Int) = (K : Int)) := by
 have h0 := u64_nonneg a
 have h1 := Int.emod_nonneg (IntKind.u64.wrap a) (show (L : Int) ≠ 0 by omega)
 have h2 := Int.emod_lt_of_pos (IntKind.u64.wrap a) (show 0 < (L : Int) by omega)
 refine ⟨_, ((IntKind.u64.wrap a) % (L : Int)).toNat, hid rfl, by omega, hid ?_⟩
 rw [Int.tmod_eq_emod_of_nonneg h0]
 omega
theorem place_six (a : Int) : ∃ V, Hid (IntKind.u64.wrap a = V) ∧ (V.tmod 6 = 0 ∨ V.tmod 6 = 1 ∨ V.tmod 6 = 2 ∨ V.tmod 6 = 3 ∨ V.tmod 6 = 4 ∨ V.tmod 6 = 5) := by
 obtain ⟨U, K, h1, h2, h3⟩ := place_num a 6 (by omega) (by omega)
 refine ⟨U, h1, ?_⟩
 have e : U.tmod 6 = (K : Int) := h3.out
 rw [e]
 clear e h3 h1
 omega
theorem below_s {w W W' : World} (h1 : Below w.heap.size w W) (h2 : Below W.heap.size W W') : Below w.heap.size w W' := h1.trans (h2.mono h1.size)
set_option maxHeartbeats 16000000 in
theorem spoilt_law (i o n s : Int) (A : Option Addr) (cr : Nat) (B : Option Addr) (cf : Nat) (rs : List RuL) (fs : List FiL) (wh at_ x : Int) (w : World) (hr : RRu w A rs.length rs) (hl : rs.length ≤ maxLen) (hf : RFi w B fs.length fs) (hlf : fs.length ≤ maxLen)
  (hT : Fi.TabB w) (hx : IntR x) :
  Calls Tryz.prog 5 #[dsc i o n s A rs.length cr B fs.length cf, .int .i64 wh, .int .i64 at_, .int .i64 x] w (RetB true w) := by
 obtain ⟨w1, hw1⟩ : ∃ w1, w.alloc (.cells #[.int .i64 i, .int .i64 o, .int .i64 n, .int .i64 s, .slice A rs.length cr, .slice B fs.length cf] 26) = w1 := ⟨_, rfl⟩
 have hs1 : w1.heap.size = w.heap.size + 1 := by rw [← hw1]; simp
 have hb1 : Below w.heap.size w w1 := by rw [← hw1]; exact (Below.refl _ _).alloc (Nat.le_refl _) _
 have hd1 : DB w1 w.heap.size i o n s A rs.length cr B fs.length cf := by rw [← hw1]; exact DB.boxed
 have HD1 := hid hd1
 have HB1 := hid hb1
 have HR1 := hid (hr.belowM hb1)
 have HF1 := hid (hf.belowM hb1)
 have HA := hid (fun W (hb : Below w.heap.size w W) => awake_any W (hT.next hb))
 have HT := hid hT
 have HX := hid hx
 have HSM := hid (rsmall_any i o n s A cr B cf rs fs w1 (hr.belowM hb1) (hf.belowM hb1))
 obtain ⟨p0, p1, p2, p3, p4, p5⟩ := hd1
 have HL := hid (And.intro hl hlf)
 unfold maxLen at hl hlf
 clear hr hf hT hx hb1
 go_enter Tryz.func5, Tryz.ntmps5
 go_wp2_with (fail)
 refine HSM.out.mono ?_
 rintro e w2 ⟨b, rfl, hbs, hb2⟩
 have HB2 := hid (below_s HB1.out hb2)
 have HX2 := hid hb2
 obtain ⟨p0, p1, p2, p3, p4, p5⟩ := HD1.out.below (by omega) hb2
 cases b with
 | false =>
  clear hb2 hbs
  go_wp2_with (fail)
  refine (HA.out w2 HB2.out).mono ?_
  rintro e w3 ⟨rfl, hb3⟩
  have HB3 := hid (below_s HB2.out hb3)
  clear hb3
  go_wp2_with (fail)
  go_ret
  exact ⟨rfl, HB3.out⟩
 | true =>
 obtain ⟨hr80, hf80, ho200⟩ := hbs rfl
 clear hbs
 rcases Nat.eq_zero_or_pos rs.length with hz | hz
 ·have e0 : ((rs.length : Int) == 0) = true := by rw [hz]; rfl
  have e0' : decide ((rs.length : Int) = 0) = true := by rw [hz]; rfl
  clear hb2 hz
  go_wp2_with (fail)
  refine (HA.out w2 HB2.out).mono ?_
  rintro e w3 ⟨rfl, hb3⟩
  have HB3 := hid (below_s HB2.out hb3)
  clear hb3
  go_wp2_with (fail)
  go_ret
  exact ⟨rfl, HB3.out⟩
 have e0 : ((rs.length : Int) == 0) = false := beq_eq_false_iff_ne.mpr (by omega)
 have e0' : decide ((rs.length : Int) = 0) = false := decide_eq_false (by omega)
 obtain ⟨w3, hw3⟩ : ∃ w3, w2.alloc (.cells #[.int .i64 i, .int .i64 o, .int .i64 n, .int .i64 s, .slice A rs.length cr, .slice B fs.length cf] 26) = w3 := ⟨_, rfl⟩
 have hb3 : Below w2.heap.size w2 w3 := by rw [← hw3]; exact (Below.refl _ _).alloc (Nat.le_refl _) _
 have hs3 : w3.heap.size = w2.heap.size + 1 := by rw [← hw3]; simp
 obtain ⟨w4, hw4⟩ : ∃ w4, w3.alloc (.cells #[] 41) = w4 := ⟨_, rfl⟩
 have hb4 : Below w3.heap.size w3 w4 := by rw [← hw4]; exact (Below.refl _ _).alloc (Nat.le_refl _) _
 have hs4 : w4.heap.size = w2.heap.size + 1 + 1 := by rw [← hw4]; simp [hs3]
 have hown4 : w4.ownsRow (w2.heap.size + 1) 41 5 (.slice (some ⟨w2.heap.size + 1, 0, none⟩) 0 0) 0 [] := by
  have := World.ownsRow_lit (base := w3.heap.size) (e := 41) (size := 5) w3 #[] 0 (Nat.le_refl _) (by simp only [maxLen]; omega) (by simp)
  rw [hw4, hs3] at this
  exact this
 have hb24 : Below w2.heap.size w2 w4 := hb3.trans (hb4.mono (by omega))
 have hd4 : DB w4 w.heap.size i o n s A rs.length cr B fs.length cf := HD1.out.below (by omega) (below_s hb2 hb24)
 have hc3 : DB w3 w2.heap.size i o n s A rs.length cr B fs.length cf := by rw [← hw3]; exact DB.boxed
 have hc4 : DB w4 w2.heap.size i o n s A rs.length cr B fs.length cf := hc3.below (by omega) hb4
 have HC4 := hid hc4
 have HD4 := hid hd4
 obtain ⟨p0, p1, p2, p3, p4, p5⟩ := hd4
 obtain ⟨q0, q1, q2, q3, q4, q5⟩ := hc4
 obtain ⟨bA, offA, hA, hbA, hall, hcells⟩ := ru_cells (HR1.out.belowM hb2) hz
 have hnews : ∀ j u, (cellsAt w2 bA offA (rs.length * 5))[j]? = some u → w4.cell? ((⟨bA, offA, none⟩ : Addr).add j) = some u := fun j u h => by
  have h1 := cellsAt_news (fun j hj => ⟨_, (hall j hj).choose_spec.1⟩) j u h
  have h2 : ((⟨bA, offA, none⟩ : Addr).add j).block = bA := by unfold Addr.add; split <;> rfl
  rw [hb24.cell (by rw [h2]; exact hbA)]
  exact h1
 have hone : ∀ u ∈ cellsAt w2 bA offA (rs.length * 5), u.oneCell' = true := fun u hu => by
  obtain ⟨j, hj, rfl⟩ := List.getElem_of_mem hu
  have hj' : j < rs.length * 5 := by rw [cellsAt_len] at hj; exact hj
  obtain ⟨u', h1, h2⟩ := hall j hj'
  have h3 := cellsAt_get hj' h1
  rw [List.getElem?_eq_getElem hj] at h3
  injection h3 with h3
  rw [h3]; exact h2
 have HN := hid hnews
 have HON := hid hone
 have HCE := hid hcells
 have H24 := hid hb24
 have HO4 := hid hown4
 obtain ⟨i0, hi0, hz0, hz1, hz2⟩ := info_parts infoRule
 subst hA
 clear hnews hone hcells hb24 hown4 hall hc3 hb2 hb3 hb4
 go_upto_region 4 with (fail)
 go_wp2_with (at_builtin; go_must (refine wpList_append_own_at _ rfl _ _ 23 rfl (w2.heap.size + 1) 41 i0 _ 5 72 Tryz.underlying23 hi0 hz0 hz1 hz2 rfl (by decide) (.slice (some ⟨w2.heap.size + 1, 0, none⟩) 0 0) 0 [] rfl HO4.out ⟨bA, offA, none⟩ rs.length cr (cellsAt w2 bA offA (rs.length * 5)) rfl (cellsAt_len _ _ _ _) HN.out HON.out ?c3 ?c4 ?c5 ?_))
 case c3 => simp only [maxLen]; omega
 case c4 => omega
 case c5 => omega
 intro v5 w5 hown5 hg5 _ _
 obtain ⟨g5, c5, hv5, hbg5, hlg5⟩ := World.ownsRow.form hown5 hz
 subst hv5
 have hb45 : Below (w2.heap.size + 1) w4 w5 := (Below.refl _ w4).grown hg5 (by omega) (fun q hq => by simp [Value.ownBlock] at hq; omega)
 have hb25 : Below w2.heap.size w2 w5 := H24.out.trans (hb45.mono (by omega))
 have hd5 : DB w5 w.heap.size i o n s (some ⟨bA, offA, none⟩) rs.length cr B fs.length cf := HD4.out.below (by have := HX2.out.size; omega) hb45
 have hc5 : DB w5 w2.heap.size i o n s (some ⟨bA, offA, none⟩) rs.length cr B fs.length cf := HC4.out.below (by omega) hb45
 have hrow5 := row_copied (w := w2) (w' := w5) (base := w2.heap.size + 1) (L := rs) (by omega) hb25.size (fun g hg => hb25.block g hg) hown5 HCE.out
 have hfz : ∀ r, w5.frozen? ⟨w2.heap.size, r, none⟩ = false := fun r => by
  have h1 : w4.frozen? ⟨w2.heap.size, r, none⟩ = false := by
   have h3 : w4.heap[w2.heap.size]? = w3.heap[w2.heap.size]? := by rw [← hw4]; exact (Below.heap_alloc w3 _ _ (by omega))
   have h4 : w3.heap[w2.heap.size]? = some (.cells #[.int .i64 i, .int .i64 o, .int .i64 n, .int .i64 s, .slice (some ⟨bA, offA, none⟩) rs.length cr, .slice B fs.length cf] 26 (0, 0)) := by rw [← hw3]; exact heap_alloc_new w2 _
   unfold World.frozen?
   rw [h3, h4]
   rfl
  have h2 : w5.heap[w2.heap.size]? = w4.heap[w2.heap.size]? := hb45.block _ (by omega)
  unfold World.frozen? at h1 ⊢
  rw [h2]
  exact h1
 obtain ⟨w6, hw6⟩ : ∃ w6, w5.setCell ⟨w2.heap.size, 4, none⟩ (.slice (some ⟨g5, 0, none⟩) rs.length c5) = w6 := ⟨_, rfl⟩
 have hb26 : Below w2.heap.size w2 w6 := by rw [← hw6]; exact hb25.setCell (Nat.le_refl _) _
 have hrow6 : RowRu (fun b => b < w2.heap.size) w6 (w2.heap.size + 1) (.slice (some ⟨g5, 0, none⟩) rs.length c5) rs := by
  rw [← hw6]
  refine hrow5.keep (by simp) (fun g e => heap_other (fun q => ?_)) (fun b hb _ _ => heap_other (fun q => ?_)) (fun b hb _ => hb)
  ·have : g5 = g := by simpa [Value.ownBlock] using e
   simp only at q
   omega
  ·simp only at q; omega
 have hset : ∀ r, r ≠ 4 → w6.cell? ⟨w2.heap.size, r, none⟩ = w5.cell? ⟨w2.heap.size, r, none⟩ := fun r hr => by rw [← hw6]; exact World.cell?_setCell_other _ _ _ _ (fun q => hr (by injection q with _ q; exact q.symm))
 obtain ⟨y0, y1, y2, y3, y4, y5⟩ := hc5
 have hc6 : DB w6 w2.heap.size i o n s (some ⟨g5, 0, none⟩) rs.length c5 B fs.length cf := ⟨(hset 0 (by decide)).trans y0, (hset 1 (by decide)).trans y1, (hset 2 (by decide)).trans y2, (hset 3 (by decide)).trans y3, by rw [← hw6]; exact World.cell?_setCell_same _ _ _ y4, (hset 5 (by decide)).trans y5⟩
 have hd6 : DB w6 w.heap.size i o n s (some ⟨bA, offA, none⟩) rs.length cr B fs.length cf := by
  rw [← hw6]
  exact hd5.below (b := w2.heap.size) (by have := HX2.out.size; omega) ((Below.refl w2.heap.size w5).setCell (show w2.heap.size ≤ (⟨w2.heap.size, 4, none⟩ : Addr).block from Nat.le_refl _) _)
 obtain ⟨U, K, hU, hK, hUK⟩ := place_num at_ rs.length hz hr80
 have hFZ : ∀ r, w6.frozen? ⟨w2.heap.size, r, none⟩ = false := fun r => by
  have e1 := World.frozen?_setCell w5 ⟨w2.heap.size, 4, none⟩ ⟨w2.heap.size, r, none⟩ (.slice (some ⟨g5, 0, none⟩) rs.length c5)
  rw [hw6] at e1
  rw [e1]
  exact hfz r
 have hf4 := hfz 4
 have HW6 := hid hw6
 have HD6 := hid hd6
 have HC6 := hid hc6
 have HB6 := hid (below_s HB2.out hb26)
 have HX6 := hid hb26
 have HRR := hid hrow6
 have HF6 := hid (HF1.out.belowM (HX2.out.trans (hb26.mono HX2.out.size)))
 have h0 : IntKind.u64.wrap at_ = U := hU.out
 have h1 : IntKind.u64.wrap (rs.length : Int) = (rs.length : Int) := u64_small _ hr80
 have h2 : U.tmod (rs.length : Int) = (K : Int) := hUK.out
 have h3 : IntKind.i64.wrap (K : Int) = (K : Int) := IntWalk.i64_in _ (by omega)
 clear p0 p1 p2 p3 p4 p5 q0 q1 q2 q3 q5 y0 y1 y2 y3 y5
 obtain ⟨p0, p1, p2, p3, p4, p5⟩ := hd6
 obtain ⟨q0, q1, q2, q3, q4, q5⟩ := hc6
 clear hown5 hg5 hb45 hb25 hd5 hrow5 hfz hb26 hrow6 hset
 go_upto_region 5 with (fail)
 go_quiet (fail)
 obtain ⟨wd, hwd⟩ : ∃ wd, w6.drewN nq = wd := ⟨_, rfl⟩
 rw [hwd]
 have hsd : wd.heap.size = w6.heap.size := by rw [← hwd]; rfl
 have hbd : Below w6.heap.size w6 wd := by rw [← hwd]; exact below_drewN (Below.refl _ _) _
 have hrd : RowRu (fun b => b < w2.heap.size) wd (w2.heap.size + 1) (.slice (some ⟨g5, 0, none⟩) rs.length c5) rs := by rw [← hwd]; exact HRR.out
 have hcd : DB wd w2.heap.size i o n s (some ⟨g5, 0, none⟩) rs.length c5 B fs.length cf := by rw [← hwd]; exact HC6.out
 have hfzd : ∀ r, wd.frozen? ⟨w2.heap.size, r, none⟩ = false := by rw [← hwd]; exact hFZ
 have h2d : Below w2.heap.size w2 wd := HX6.out.trans (hbd.mono (by have := HX6.out.size; omega))
 have HF2 := hid (HF1.out.belowM HX2.out)
 have HBD := hid (ru_bounds (HR1.out))
 have HCD := hid hcd
 have HRD := hid hrd
 have H2D := hid h2d
 obtain ⟨hfg, hgl, c0, c1, c3, T, tc, c4, hT5, htc⟩ := rule_at hrd.any hK
 have hg5 : w2.heap.size < g5 := by omega
 obtain ⟨q0, q1, q2, q3, q4, q5⟩ := hcd
 have z0 := hfg (K * 5)
 have z1 := hfg (K * 5 + 1)
 have z3 := hfg (K * 5 + 3)
 have z4 := hfg (K * 5 + 4)
 have y2 := hfzd 2
 have y3 := hfzd 3
 have HT5 := hid hT5
 obtain ⟨V, hV, h6⟩ := place_six wh
 have h5 : IntKind.u64.wrap wh = V := hV.out
 clear h0 h1 h2 h3 hwd hfg hfzd hbd h2d hrd hT5 hFZ hw6 hf4 y4 hsd
 rcases h6 with h6 | h6 | h6 | h6 | h6 | h6
 rotate_left 5
 ·obtain ⟨wa, hwa⟩ : ∃ wa, wd.alloc (.cells #[] 45) = wa := ⟨_, rfl⟩
  have hba : Below wd.heap.size wd wa := by rw [← hwa]; exact (Below.refl _ _).alloc (Nat.le_refl _) _
  have hsa : wa.heap.size = wd.heap.size + 1 := by rw [← hwa]; simp
  have howa : wa.ownsRow wd.heap.size 45 6 (.slice (some ⟨wd.heap.size, 0, none⟩) 0 0) 0 [] := by
   have := World.ownsRow_lit (base := wd.heap.size) (e := 45) (size := 6) wd #[] 0 (Nat.le_refl _) (by simp only [maxLen]; omega) (by simp)
   rw [hwa] at this
   exact this
  obtain ⟨cells, hcl, hnews, hone, htms⟩ := tms_cells HT5.out
  have c4a : wa.cell? ⟨g5, K * 5 + 4, none⟩ = some (.slice T (rs[K]'hK).out.length tc) := (hba.cell (p := ⟨g5, K * 5 + 4, none⟩) hgl).trans c4
  have hca := hid hcl
  have hna := hid (fun (hp : 0 < (rs[K]'hK).out.length) => show ∃ b off, T = some ⟨b, off, none⟩ ∧ ∀ j u, cells[j]? = some u → wa.cell? ((⟨b, off, none⟩ : Addr).add j) = some u from by
   obtain ⟨b, off, e1, e2, e3⟩ := hnews hp
   refine ⟨b, off, e1, fun j u e => ?_⟩
   rw [hba.cell (by unfold Addr.add; split <;> exact e2)]
   exact e3 j u e)
  have hon := hid hone
  have htm := hid htms
  have how := hid howa
  have HBA := hid hba
  clear hcl hnews hone htms howa hba
  have ho2 : (rs[K]'hK).out.length ≤ 200 := ho200 _ (List.getElem_mem hK)
  go_upto_region 18 with (fail)
  go_wp2_with (at_builtin; go_must (refine wpList_append_tms rfl _ _ rfl wd.heap.size (.slice (some ⟨wd.heap.size, 0, none⟩) 0 0) rfl how.out T (rs[K]'hK).out.length tc cells rfl hca.out hna.out hon.out ho2 ?d2 ?_))
  case d2 => omega
  intro v9 wb hown9 hg9
  have hbb : Below wd.heap.size wd wb := HBA.out.trans (((Below.refl _ wa).grown hg9 (by omega) (fun q hq => by simp [Value.ownBlock] at hq; omega)).mono (Nat.le_refl _))
  obtain ⟨wc, hwc⟩ : ∃ wc, wb.alloc (.cells #[.int .i64 0, .int .i64 0, .int .i64 21, .int .i64 0, .int .i64 x, .slice none 0 0] 45) = wc := ⟨_, rfl⟩
  have hbc : Below wb.heap.size wb wc := by rw [← hwc]; exact (Below.refl _ _).alloc (Nat.le_refl _) _
  have hsc : wc.heap.size = wb.heap.size + 1 := by rw [← hwc]; simp
  have hsb := hbb.size
  have hbdc : Below wd.heap.size wd wc := hbb.trans (hbc.mono hsb)
  have hownc : wc.ownsRow wd.heap.size 45 6 v9 (rs[K]'hK).out.length cells := Fi.row_keep hown9 (fun g e => by
   have := (World.ownsRow.lt hown9 g e).2
   exact hbc.block g this)
  have hlit : Blk wc wb.heap.size 45 #[.int .i64 0, .int .i64 0, .int .i64 21, .int .i64 0, .int .i64 x, .slice none 0 0] := by rw [← hwc]; exact heap_alloc_new wb _
  have HLIT := hid (World.news_of_block (w := wc) (hlit))
  obtain ⟨i1, hi1, hy0, hy1, hy2⟩ := info_parts infoTerm
  have HLITA := hid (fun (j : Nat) (u : Value) (e : [Value.int .i64 0, .int .i64 0, .int .i64 21, .int .i64 0, .int .i64 x, .slice none 0 0][j]? = some u) => World.news_of_block (w := wc) hlit j u e)
  have HONE := hid (show ∀ u ∈ [Value.int .i64 0, .int .i64 0, .int .i64 21, .int .i64 0, .int .i64 x, .slice none 0 0], u.oneCell' = true from fun u hu => by
   simp only [List.mem_cons, List.not_mem_nil, or_false] at hu
   rcases hu with rfl | rfl | rfl | rfl | rfl | rfl <;> rfl)
  have how9 := hid hownc
  have HBC := hid hbdc
  clear hown9 hg9 hbb hbc hbdc hownc hlit
  go_wp2_with (at_builtin; go_must (refine wpList_append_own_at _ rfl _ _ 39 rfl wd.heap.size 45 i1 _ 6 64 Tryz.underlying39 hi1 hy0 hy1 hy2 rfl (by decide) v9 (rs[K]'hK).out.length cells rfl how9.out ⟨wb.heap.size, 0, none⟩ 1 1 [.int .i64 0, .int .i64 0, .int .i64 21, .int .i64 0, .int .i64 x, .slice none 0 0] rfl rfl HLITA.out HONE.out ?e2 ?e3 ?e4 ?_))
  case e2 => simp only [maxLen]; omega
  case e3 => omega
  case e4 => omega
  intro vt wt hownt hgt _ _
  obtain ⟨gt, ct, hvt, hbgt, hlgt⟩ := World.ownsRow.form hownt (by omega)
  subst hvt
  have hct := own_cap hownt
  have hbt : Below wd.heap.size wd wt := HBC.out.trans (((Below.refl wd.heap.size wc).grown hgt (by omega) (fun q hq => (World.ownsRow.lt how9.out q hq).1)).mono (Nat.le_refl _))
  have hst := hbt.size
  have htt := terms_more (q := fun b => b ≠ g5) hca.out htm.out hownt hbt (by omega) (fun b hb => hb.2)
  have hgq : ∀ q, (Value.slice (some ⟨g5, 0, none⟩) rs.length c5).ownBlock = some q → q < wd.heap.size := fun q e => by
   have : g5 = q := by simpa [Value.ownBlock] using e
   omega
  have hrt : RowRu (fun b => b < w2.heap.size) wt (w2.heap.size + 1) (.slice (some ⟨g5, 0, none⟩) rs.length c5) rs := HRD.out.keep hst (fun q e => hbt.block q (hgq q e)) (fun b _ _ hs => hbt.block b hs) (fun _ h _ => h)
  obtain ⟨hft, _, _, _, _, Tt, tct, ct4, _, _⟩ := rule_at hrt.any hK
  have zt4 := hft (K * 5 + 4)
  obtain ⟨w7, hw7⟩ : ∃ w7, wt.setCell ⟨g5, K * 5 + 4, none⟩ (.slice (some ⟨gt, 0, none⟩) ((rs[K]'hK).out.length + 1) ct) = w7 := ⟨_, rfl⟩
  have hb7 : Below w2.heap.size w2 w7 := by rw [← hw7]; exact (H2D.out.trans (hbt.mono H2D.out.size)).setCell (show w2.heap.size ≤ g5 by omega) _
  have hsp : SpdD i o B cf fs w2.heap.size w7 := by
   have := spd_terms (ts := (rs[K]'hK).out ++ [⟨0, 0, 21, 0, x, []⟩]) (m := (rs[K]'hK).out.length + 1) hrt.any hK HBD.out (HCD.out.below (by omega) hbt) hg5 (by simp) htt hct (by simp only [maxLen]; omega) (by rw [hw7]; exact HF2.out.belowM hb7)
   rw [hw7] at this
   exact this
  clear hft hownt hgt hbt htt hrt hct
  have HB7 := hid (below_s HB2.out hb7)
  obtain ⟨n', s', A', c', rs', hdb, hru, hlu, hfu⟩ := hsp
  have HDB := hid hdb
  have h27 : w2.heap.size < w7.heap.size := by
   rw [← hw7]
   simp only [World.size_setCell]
   omega
  have HW := hid (whereD_any i o n' s' A' c' B cf rs' fs w7 hru hlu hfu HL.out.2 (HT.out.next HB7.out))
  have HRU := hid hru
  have HFU := hid hfu
  have HLU := hid hlu
  clear hru hlu hfu hb7
  go_upto_region 19 with (fail)
  clear q0 q1 q2 q3 q4 q5 c0 c1 c3 c4 z0 z1 z3 z4 y2 y3 hw7
  obtain ⟨q0, q1, q2, q3, q4, q5⟩ := hdb
  have HRW := hid (fun W (hb : Below w7.heap.size w7 W) => rwhere_any i o n' s' A' c' B cf rs' fs W (HRU.out.belowM hb) HLU.out (HFU.out.belowM hb) HL.out.2)
  obtain ⟨⟨k1, k2⟩, hka⟩ : ∃ q, whereD i o n' s' rs' fs = q := ⟨_, rfl⟩
  rw [hka] at HW HRW
  clear hka
  go_wp2_with (fail)
  refine HW.out.mono ?_
  rintro e w8 ⟨rfl, hb8⟩
  have HB8 := hid (below_s HB7.out hb8)
  have HX8 := hid hb8
  obtain ⟨q0, q1, q2, q3, q4, q5⟩ := HDB.out.below h27 hb8
  clear hb8
  go_wp2_with (fail)
  refine (HRW.out w8 HX8.out).mono ?_
  rintro e w9 ⟨rfl, hb9⟩
  have HB9 := hid (below_s HB8.out hb9)
  clear hb9
  go_wp2_with (fail)
  refine (HA.out w9 HB9.out).mono ?_
  rintro e w10 ⟨rfl, hb10⟩
  have HB10 := hid (below_s HB9.out hb10)
  clear hb10
  go_wp2_with (fail)
  go_ret
  exact ⟨rfl, HB10.out⟩
 obtain ⟨w7, hw7⟩ : ∃ w7, wd.setCell ⟨g5, K * 5, none⟩ (.int .i64 x) = w7 := ⟨_, rfl⟩
 have hb7 : Below w2.heap.size w2 w7 := by rw [← hw7]; exact H2D.out.setCell (show w2.heap.size ≤ g5 by omega) _
 have hsp : SpdD i o B cf fs w2.heap.size w7 := by
  have := spd_int (r := 0) (x := x) HRD.out.any hK (.inl rfl) HBD.out HX.out HCD.out hg5 (by rw [Nat.add_zero, hw7]; exact HF2.out.belowM hb7)
  rw [Nat.add_zero, hw7] at this
  exact this
 rotate_left 1
 obtain ⟨w7, hw7⟩ : ∃ w7, wd.setCell ⟨g5, K * 5 + 1, none⟩ (.int .i64 x) = w7 := ⟨_, rfl⟩
 have hb7 : Below w2.heap.size w2 w7 := by rw [← hw7]; exact H2D.out.setCell (show w2.heap.size ≤ g5 by omega) _
 have hsp : SpdD i o B cf fs w2.heap.size w7 := by
  have := spd_int (r := 1) (x := x) HRD.out.any hK (.inr (.inl rfl)) HBD.out HX.out HCD.out hg5 (by rw [hw7]; exact HF2.out.belowM hb7)
  rw [hw7] at this
  exact this
 rotate_left 1
 obtain ⟨w7, hw7⟩ : ∃ w7, wd.setCell ⟨g5, K * 5 + 3, none⟩ (.int .i64 x) = w7 := ⟨_, rfl⟩
 have hb7 : Below w2.heap.size w2 w7 := by rw [← hw7]; exact H2D.out.setCell (show w2.heap.size ≤ g5 by omega) _
 have hsp : SpdD i o B cf fs w2.heap.size w7 := by
  have := spd_int (r := 3) (x := x) HRD.out.any hK (.inr (.inr rfl)) HBD.out HX.out HCD.out hg5 (by rw [hw7]; exact HF2.out.belowM hb7)
  rw [hw7] at this
  exact this
 rotate_left 1
 obtain ⟨w7, hw7⟩ : ∃ w7, wd.setCell ⟨w2.heap.size, 2, none⟩ (.int .i64 x) = w7 := ⟨_, rfl⟩
 have hb7 : Below w2.heap.size w2 w7 := by rw [← hw7]; exact H2D.out.setCell (Nat.le_refl w2.heap.size) _
 have hsp : SpdD i o B cf fs w2.heap.size w7 := by
  have := spd_box (r := 2) (x := x) HRD.out (.inl rfl) HBD.out HCD.out hg5 (by rw [hw7]; exact HF2.out.belowM hb7)
  rw [hw7] at this
  exact this
 rotate_left 1
 obtain ⟨w7, hw7⟩ : ∃ w7, wd.setCell ⟨w2.heap.size, 3, none⟩ (.int .i64 x) = w7 := ⟨_, rfl⟩
 have hb7 : Below w2.heap.size w2 w7 := by rw [← hw7]; exact H2D.out.setCell (Nat.le_refl w2.heap.size) _
 have hsp : SpdD i o B cf fs w2.heap.size w7 := by
  have := spd_box (r := 3) (x := x) HRD.out (.inr rfl) HBD.out HCD.out hg5 (by rw [hw7]; exact HF2.out.belowM hb7)
  rw [hw7] at this
  exact this
 rotate_left 1
 all_goals
  have HB7 := hid (below_s HB2.out hb7)
  obtain ⟨n', s', A', c', rs', hdb, hru, hlu, hfu⟩ := hsp
  have HDB := hid hdb
  have h27 : w2.heap.size < w7.heap.size := by
   rw [← hw7]
   simp only [World.size_setCell]
   omega
  have HW := hid (whereD_any i o n' s' A' c' B cf rs' fs w7 hru hlu hfu HL.out.2 (HT.out.next HB7.out))
  have HRU := hid hru
  have HFU := hid hfu
  have HLU := hid hlu
  clear hru hlu hfu hb7
  go_upto_region 19 with (fail)
  clear q0 q1 q2 q3 q4 q5 c0 c1 c3 c4 z0 z1 z3 z4 y2 y3 hw7
  obtain ⟨q0, q1, q2, q3, q4, q5⟩ := hdb
  have HRW := hid (fun W (hb : Below w7.heap.size w7 W) => rwhere_any i o n' s' A' c' B cf rs' fs W (HRU.out.belowM hb) HLU.out (HFU.out.belowM hb) HL.out.2)
  obtain ⟨⟨k1, k2⟩, hka⟩ : ∃ q, whereD i o n' s' rs' fs = q := ⟨_, rfl⟩
  rw [hka] at HW HRW
  clear hka
  go_wp2_with (fail)
  refine HW.out.mono ?_
  rintro e w8 ⟨rfl, hb8⟩
  have HB8 := hid (below_s HB7.out hb8)
  have HX8 := hid hb8
  obtain ⟨q0, q1, q2, q3, q4, q5⟩ := HDB.out.below h27 hb8
  clear hb8
  go_wp2_with (fail)
  refine (HRW.out w8 HX8.out).mono ?_
  rintro e w9 ⟨rfl, hb9⟩
  have HB9 := hid (below_s HB8.out hb9)
  clear hb9
  go_wp2_with (fail)
  refine (HA.out w9 HB9.out).mono ?_
  rintro e w10 ⟨rfl, hb10⟩
  have HB10 := hid (below_s HB9.out hb10)
  clear hb10
  go_wp2_with (fail)
  go_ret
  exact ⟨rfl, HB10.out⟩
end Go.Proofs.YtbhocpjogkobgaaGreatDoor.De
