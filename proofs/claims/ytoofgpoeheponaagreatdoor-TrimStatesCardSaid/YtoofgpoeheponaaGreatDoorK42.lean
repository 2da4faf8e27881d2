import Derived.Test.YtoofgpoeheponaaGreatDoorK15
namespace Go.Proofs.YtoofgpoeheponaaGreatDoor.Rg
set_option maxRecDepth 100000
open Go Go.RowKit Sp Pa Te Mi De
open Go.Lib (hid)
def SzN (n : Nat) (b0 : Int) (w : World) (v i : Value) (wr : World) : Prop := ∃ (k : Nat) (z : Int), k ≤ n ∧ i = .int .i64 k ∧ v = .int .i64 z ∧ 0 ≤ z ∧ z ≤ b0 + 4001 * k ∧ wr = w
def SizeOut (m : Nat) (w : World) (e : Ending) (w' : World) : Prop := ∃ z : Int, e = .returned (.int .i64 z) ∧ 0 ≤ z ∧ z ≤ 2000000 ∧ (200 < m → z = 4000) ∧ w' = w
set_option maxHeartbeats 4000000 in
theorem rsize_any (G T : Option Addr) (gc tc : Nat) (gs : List (List Span)) (ts : List TmL) (w : World) (hg : RGs w G gs.length gs) (ht : RTm w T ts.length ts) :
  Calls Tryz.prog 22 #[.slice G gs.length gc, .slice T ts.length tc] w (SizeOut ts.length w) := by
 have HG := hid hg
 have HT := hid ht
 clear hg ht
 by_cases k1 : gs.length ≤ 100
 case neg =>
  have d1 : decide ((100 : Int) < (gs.length : Int)) = true := decide_eq_true (by omega)
  go_enter Tryz.func22, Tryz.ntmps22
  go_wp2_with (fail)
  go_ret
  exact ⟨4000, rfl, by omega, by omega, fun _ => rfl, rfl⟩
 have d1 : decide ((100 : Int) < (gs.length : Int)) = false := decide_eq_false (by omega)
 by_cases k2 : ts.length ≤ 200
 case neg =>
  have d2 : decide ((200 : Int) < (ts.length : Int)) = true := decide_eq_true (by omega)
  go_enter Tryz.func22, Tryz.ntmps22
  go_wp2_with (fail)
  go_ret
  exact ⟨4000, rfl, by omega, by omega, fun _ => rfl, rfl⟩
 have d2 : decide ((200 : Int) < (ts.length : Int)) = false := decide_eq_false (by omega)
 go_enter Tryz.func22, Tryz.ntmps22
 go_wp2_with (fail)
 go_loopw [5, 6] (fun v i wr => SzN gs.length 1 w v i wr) (fun _ i _ => gs.length - (intOf i).toNat)
 case atStart => exact ⟨0, 1, Nat.zero_le _, rfl, rfl, by omega, by omega, rfl⟩
 case round =>
  obtain ⟨k, z, hk, rfl, rfl, hz0, hz1, rfl⟩ := hrel
  have s1 : IntKind.i64.wrap ((k : Int) + 1) = (k : Int) + 1 := IntWalk.i64_in _ (by omega)
  have i1 : (0 : Int) ≤ (k : Int) := Int.natCast_nonneg _
  by_cases hlt : k < gs.length
  ·obtain ⟨b, off, Aj, cj, hA, hbB, hcj, _, _, _⟩ := HG.out.at_ hlt
   obtain ⟨gl, hgl⟩ : ∃ gl, gs[k].length = gl := ⟨_, rfl⟩
   rw [hgl] at hcj
   have i2 : (k : Int) < (gs.length : Int) := by omega
   subst hA
   clear hgl
   go_wp2_with (fail)
   go_roundw
   case rel => exact ⟨k + 1, z + min (gl : Int) 4000, hlt, by go_num, by first | rfl | rw [IntWalk.wrap64_in _ (by omega)], by omega, by omega, rfl⟩
   case measure => simp [intOf]; omega
  ·rename World => w9
   go_wp2_with (fail)
   go_loopw [5, 7] (fun v i wr => SzN ts.length 400101 w9 v i wr) (fun _ i _ => ts.length - (intOf i).toNat)
   case atStart => exact ⟨0, z, Nat.zero_le _, rfl, rfl, hz0, by omega, rfl⟩
   case round =>
    obtain ⟨m, y, hm, rfl, rfl, hy0, hy1, rfl⟩ := hrel
    have s2 : IntKind.i64.wrap ((m : Int) + 1) = (m : Int) + 1 := IntWalk.i64_in _ (by omega)
    have j1 : (0 : Int) ≤ (m : Int) := Int.natCast_nonneg _
    by_cases hlt2 : m < ts.length
    ·obtain ⟨b, off, hA, hbB, _, _, _, _, _, A', c', d5, _, _, _⟩ := HT.out.at_ hlt2
     obtain ⟨gl, hgl⟩ : ∃ gl, ts[m].ps.length = gl := ⟨_, rfl⟩
     rw [hgl] at d5
     have j2 : (m : Int) < (ts.length : Int) := by omega
     subst hA
     clear hgl
     go_wp2_with (fail)
     go_roundw
     case rel => exact ⟨m + 1, y + 1 + min (gl : Int) 4000, hlt2, by go_num, by first | rfl | rw [IntWalk.wrap64_in (y + 1) (by omega), IntWalk.wrap64_in _ (by omega)], by omega, by omega, rfl⟩
     case measure => simp [intOf]; omega
    ·go_wp2_with (fail)
     go_ret
     exact ⟨_, rfl, hy0, by omega, fun q => by omega, rfl⟩
def SmR (n : Nat) (P : Nat → Int → Prop) (b0 : Int) (w : World) (v i : Value) (wr : World) : Prop := ∃ (k : Nat) (z : Int), k ≤ n ∧ i = .int .i64 k ∧ v = .int .i64 z ∧ 0 ≤ z ∧ z ≤ b0 + 2000000 * k ∧ P k z ∧ Below w.heap.size w wr
def LongP (rs : List RuL) (k : Nat) (z : Int) : Prop := ∀ j (hj : j < rs.length), j < k → 200 < rs[j].out.length → 4000 ≤ z
def SmallOut (rs : List RuL) (fs : List FiL) (w : World) (e : Ending) (w' : World) : Prop := ∃ b : Bool, e = .returned (.bool b) ∧ (b = true → rs.length ≤ 80 ∧ fs.length ≤ 80 ∧ ∀ q ∈ rs, q.out.length ≤ 200) ∧ Below w.heap.size w w'
set_option maxHeartbeats 8000000 in
theorem rsmall_any (i o n s : Int) (A : Option Addr) (cr : Nat) (B : Option Addr) (cf : Nat) (rs : List RuL) (fs : List FiL) (w : World) (hr : RRu w A rs.length rs) (hf : RFi w B fs.length fs) :
  Calls Tryz.prog 8 #[dsc i o n s A rs.length cr B fs.length cf] w (SmallOut rs fs w) := by
 obtain ⟨w1, hw1⟩ : ∃ w1, w.alloc (.cells #[.int .i64 i, .int .i64 o, .int .i64 n, .int .i64 s, .slice A rs.length cr, .slice B fs.length cf] 26) = w1 := ⟨_, rfl⟩
 have hs1 : w1.heap.size = w.heap.size + 1 := by rw [← hw1]; simp
 have hb1 : Below w.heap.size w w1 := by rw [← hw1]; exact (Below.refl _ _).alloc (Nat.le_refl _) _
 have hd1 : DB w1 w.heap.size i o n s A rs.length cr B fs.length cf := by rw [← hw1]; exact DB.boxed
 have HD1 := hid hd1
 have HB1 := hid hb1
 have HR := hid (hr.belowM hb1)
 have HF := hid (hf.belowM hb1)
 obtain ⟨p0, p1, p2, p3, p4, p5⟩ := hd1
 clear hr hf hb1
 by_cases k1 : rs.length ≤ 80
 case neg =>
  have d1 : decide ((80 : Int) < (rs.length : Int)) = true := decide_eq_true (by omega)
  go_enter Tryz.func8, Tryz.ntmps8
  go_wp2_with (fail)
  go_ret
  exact ⟨false, rfl, fun e => (by cases e), HB1.out⟩
 have d1 : decide ((80 : Int) < (rs.length : Int)) = false := decide_eq_false (by omega)
 by_cases k2 : fs.length ≤ 80
 case neg =>
  have d2 : decide ((80 : Int) < (fs.length : Int)) = true := decide_eq_true (by omega)
  go_enter Tryz.func8, Tryz.ntmps8
  go_wp2_with (fail)
  go_ret
  exact ⟨false, rfl, fun e => (by cases e), HB1.out⟩
 have d2 : decide ((80 : Int) < (fs.length : Int)) = false := decide_eq_false (by omega)
 have HK := hid (And.intro k1 k2)
 go_enter Tryz.func8, Tryz.ntmps8
 go_wp2_with (fail)
 go_loopw [3, 4] (fun v i wr => SmR rs.length (LongP rs) 0 w1 v i wr) (fun _ i _ => rs.length - (intOf i).toNat)
 case atStart => exact ⟨0, 0, Nat.zero_le _, rfl, rfl, by omega, by omega, fun j _ h => absurd h (by omega), Below.refl _ _⟩
 case round =>
  obtain ⟨k, z, hk, rfl, rfl, hz0, hz1, hlp, hb⟩ := hrel
  have HLP := hid hlp
  clear hlp
  have HB := hid hb
  have hwr := hb.size
  obtain ⟨p0, p1, p2, p3, p4, p5⟩ := HD1.out.below (by omega) hb
  have s1 : IntKind.i64.wrap ((k : Int) + 1) = (k : Int) + 1 := IntWalk.i64_in _ (by omega)
  have i1 : (0 : Int) ≤ (k : Int) := Int.natCast_nonneg _
  by_cases hlt : k < rs.length
  ·obtain ⟨b, off, A', c', A2, c2, hA, hbB, _, _, e2, _, e4, ⟨hg, _, _, _⟩, ht, _, _, _⟩ := (HR.out.belowM hb).at_ hlt
   obtain ⟨q, hq⟩ : ∃ q, rs[k] = q := ⟨_, rfl⟩
   rw [hq] at e2 e4 hg ht
   have HSZ := hid (fun W (hW : Below wr.heap.size wr W) => rsize_any A' A2 c' c2 q.gs q.out W (hg.belowM hW) (ht.belowM hW))
   have i2 : (k : Int) < (rs.length : Int) := by omega
   have hx : w.heap.size < wr.heap.size := by omega
   have HLQ := hid hq
   have HNX := hid (fun y (y0 : 0 ≤ y) (y1 : y ≤ 2000000) (y2 : 200 < q.out.length → y = 4000) (W : World) (hW : Below wr.heap.size wr W) => show SmR rs.length (LongP rs) 0 w1 (.int .i64 (IntKind.i64.wrap (z + y))) (.int .i64 ((k : Int) + 1)) W from ⟨k + 1, z + y, hlt, rfl, by rw [IntWalk.i64_in _ (by omega)], by omega, by omega, fun j hj hjk h200 => by
    by_cases e : j = k
    ·subst e; rw [HLQ.out] at h200; have := y2 h200; omega
    ·have := HLP.out j hj (by omega) h200; omega, HB.out.trans (hW.mono hwr)⟩)
   obtain ⟨rl, hrl⟩ : ∃ rl, rs.length = rl := ⟨_, rfl⟩
   subst hA
   clear hb hg ht hq hrl rl
   go_wp2_with (fail)
   go_region_held3 (fun w' => w'.cell? ⟨w.heap.size, 4, none⟩ = some (.slice (some ⟨b, off, none⟩) rs.length cr) ∧ w'.cell? ⟨b, off + k * 5 + 2, none⟩ = some (.slice A' q.gs.length c') ∧ w'.cell? ⟨b, off + k * 5 + 4, none⟩ = some (.slice A2 q.out.length c2))
    (first
     | go_keep
     | (subst hw6; go_keep)
     | (go_split_ands; refine ⟨?_, ?_, ?_⟩ <;> assumption))
    (first
     | (go_at_call 22; refine (HSZ.out _ (Below.refl _ wr).drew).mono ?_; rintro e w6 ⟨y, rfl, y0, y1, y2, hw6⟩; subst hw6))
   have HN := hid (HNX.out y y0 y1 y2 _ (Below.refl wr.heap.size wr).drew)
   go_wp2_with (fail)
   go_roundw
   case rel => exact HN.out
   case measure => simp [intOf]; omega
  ·have HBA := hid hb
   rename World => wa
   have HL1 := hid (show ∀ q ∈ rs, 200 < q.out.length → 4000 ≤ z from fun q hq h => by
    obtain ⟨j, hj, rfl⟩ := List.getElem_of_mem hq
    exact HLP.out j hj (by omega) h)
   have HST2 := hid (show SmR fs.length (fun _ y => z ≤ y) 160000000 wa (.int .i64 z) (.int .i64 (0 : Nat)) wa from ⟨0, z, Nat.zero_le _, rfl, rfl, hz0, by omega, Int.le_refl _, Below.refl _ _⟩)
   clear hb
   go_wp2_with (fail)
   go_loopw [3, 5] (fun v i wr => SmR fs.length (fun _ y => z ≤ y) 160000000 wa v i wr) (fun _ i _ => fs.length - (intOf i).toNat)
   case atStart => exact HST2.out
   case round =>
    obtain ⟨m, u0, hm, rfl, rfl, hu0, hu1, hzu, hb⟩ := hrel
    have HB2 := hid hb
    have hwr2 := hb.size
    have hbb : Below w1.heap.size w1 wr := HBA.out.trans (hb.mono hwr)
    obtain ⟨p0, p1, p2, p3, p4, p5⟩ := HD1.out.below (by omega) hbb
    have s1 : IntKind.i64.wrap ((m : Int) + 1) = (m : Int) + 1 := IntWalk.i64_in _ (by omega)
    have j1 : (0 : Int) ≤ (m : Int) := Int.natCast_nonneg _
    by_cases hlt2 : m < fs.length
    ·obtain ⟨b, off, A', c', A2, c2, hA, hbB, _, e2, e4, ⟨hg, _, _, _⟩, ht, _, _⟩ := (HF.out.belowM hbb).at_ hlt2
     obtain ⟨q, hq⟩ : ∃ q, fs[m] = q := ⟨_, rfl⟩
     rw [hq] at e2 e4 hg ht
     have HSZ := hid (fun W (hW : Below wr.heap.size wr W) => rsize_any A' A2 c' c2 q.gs q.out W (hg.belowM hW) (ht.belowM hW))
     have j2 : (m : Int) < (fs.length : Int) := by omega
     have HNX := hid (fun y (y0 : 0 ≤ y) (y1 : y ≤ 2000000) (W : World) (hW : Below wr.heap.size wr W) => show SmR fs.length (fun _ y => z ≤ y) 160000000 wa (.int .i64 (IntKind.i64.wrap (u0 + y))) (.int .i64 ((m : Int) + 1)) W from ⟨m + 1, u0 + y, hlt2, rfl, by rw [IntWalk.i64_in _ (by omega)], by omega, by omega, by omega, HB2.out.trans (hW.mono hwr2)⟩)
     subst hA
     clear hb hbb hg ht hq
     go_wp2_with (fail)
     go_region_held3 (fun w' => w'.cell? ⟨w.heap.size, 5, none⟩ = some (.slice (some ⟨b, off, none⟩) fs.length cf) ∧ w'.cell? ⟨b, off + m * 3 + 1, none⟩ = some (.slice A' q.gs.length c') ∧ w'.cell? ⟨b, off + m * 3 + 2, none⟩ = some (.slice A2 q.out.length c2))
      (first
       | go_keep
       | (go_split_ands; refine ⟨?_, ?_, ?_⟩ <;> assumption))
      (first
       | (go_at_call 22; refine (HSZ.out _ (Below.refl _ wr).drew).mono ?_; rintro e w6 ⟨y, rfl, y0, y1, _, hw6⟩; subst hw6))
     have HN := hid (HNX.out y y0 y1 _ (Below.refl wr.heap.size wr).drew)
     go_wp2_with (fail)
     go_roundw
     case rel => exact HN.out
     case measure => simp [intOf]; omega
    ·have HF1 := hid (HB1.out.trans (hbb.mono (by omega)))
     clear hb hbb
     go_wp2_with (fail)
     go_ret
     exact ⟨_, rfl, fun q => ⟨HK.out.1, HK.out.2, fun r hr => by
      rcases Nat.lt_or_ge 200 r.out.length with h | h
      ·have h4 := HL1.out r hr h
       have h5 := of_decide_eq_true q
       omega
      ·exact h⟩, HF1.out⟩
end Go.Proofs.YtoofgpoeheponaaGreatDoor.Rg
