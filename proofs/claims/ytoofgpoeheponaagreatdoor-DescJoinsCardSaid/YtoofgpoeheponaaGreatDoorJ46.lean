import Derived.Test.YtoofgpoeheponaaGreatDoorJ43
import Derived.Test.YtoofgpoeheponaaGreatDoorJ45
namespace Go.Proofs.YtoofgpoeheponaaGreatDoor.De
set_option maxRecDepth 100000
open Go Go.RowKit Sp Pa Te Mi Rg
open Go.Lib (hid)
theorem join_short {a b : DV} (ha : RightD a) (hb : RightD b) : (∀ q ∈ joinR a b, ∀ g ∈ q.gs, g.length ≤ 1099511627776) ∧ ∀ q ∈ joinF a b, ∀ g ∈ q.gs, g.length ≤ 1099511627776 := by
 refine ⟨fun q hq g hg => ?_, fun q hq g hg => ?_⟩
 ·unfold joinR at hq
  rcases List.mem_append.1 hq with h | h
  ·rcases List.mem_append.1 h with h | h
   ·have : q.gs = [] := by
     simp only [List.mem_cons, List.not_mem_nil, or_false] at h
     rcases h with rfl | rfl <;> rfl
    rw [this] at hg
    cases hg
   ·obtain ⟨r, hr, rfl⟩ := List.mem_map.1 h
    have := (ha.rs r hr).2.2.2.2.2.1 g hg
    omega
  ·obtain ⟨r, hr, rfl⟩ := List.mem_map.1 h
   have := (hb.rs r hr).2.2.2.2.2.1 g hg
   omega
 ·unfold joinF at hq
  rcases List.mem_append.1 hq with h | h
  ·obtain ⟨r, hr, rfl⟩ := List.mem_map.1 h
   have := (ha.fs r hr).2.2.2.1 g hg
   omega
  ·obtain ⟨r, hr, rfl⟩ := List.mem_map.1 h
   have := (hb.fs r hr).2.2.2.1 g hg
   omega
theorem below_s2 {w W W' : World} (h1 : Below w.heap.size w W) (h2 : Below W.heap.size W W') : Below w.heap.size w W' := h1.trans (h2.mono h1.size)
theorem below_j {n : Nat} {w W W' : World} (h1 : Below n w W) (h2 : Below W.heap.size W W') (hn : n ≤ W.heap.size) : Below n w W' := h1.trans (h2.mono hn)
set_option maxHeartbeats 16000000 in
theorem joins_law (a b : DV) (w : World) (ha : DM w a) (hb : DM w b) (hT : Fi.TabB w) : Calls Tryz.prog 3 #[a.val, b.val] w (RetB true w) := by
 obtain ⟨w2, hw2⟩ : ∃ w2, (w.alloc (.cells #[.int .i64 a.i, .int .i64 a.o, .int .i64 a.n, .int .i64 a.s, .slice a.A a.rs.length a.cr, .slice a.B a.fs.length a.cf] 26)).alloc (.cells #[.int .i64 b.i, .int .i64 b.o, .int .i64 b.n, .int .i64 b.s, .slice b.A b.rs.length b.cr, .slice b.B b.fs.length b.cf] 26) = w2 := ⟨_, rfl⟩
 have hs2 : w2.heap.size = w.heap.size + 2 := by rw [← hw2]; simp
 have hb2 : Below w.heap.size w w2 := by rw [← hw2]; exact ((Below.refl _ _).alloc (Nat.le_refl _) _).alloc (by simp) _
 have hqa : Blk w2 w.heap.size 26 #[.int .i64 a.i, .int .i64 a.o, .int .i64 a.n, .int .i64 a.s, .slice a.A a.rs.length a.cr, .slice a.B a.fs.length a.cf] := by
  rw [← hw2]
  exact (show Blk _ _ _ _ from heap_alloc_new w _).alloc _
 have hqb : Blk w2 (w.heap.size + 1) 26 #[.int .i64 b.i, .int .i64 b.o, .int .i64 b.n, .int .i64 b.s, .slice b.A b.rs.length b.cr, .slice b.B b.fs.length b.cf] := by
  rw [← hw2]
  have h := heap_alloc_new (w.alloc (.cells #[.int .i64 a.i, .int .i64 a.o, .int .i64 a.n, .int .i64 a.s, .slice a.A a.rs.length a.cr, .slice a.B a.fs.length a.cf] 26)) (.cells #[.int .i64 b.i, .int .i64 b.o, .int .i64 b.n, .int .i64 b.s, .slice b.A b.rs.length b.cr, .slice b.B b.fs.length b.cf] 26)
  rw [World.size_alloc] at h
  exact h
 have HBOX := hid (fun W (hW : Below w2.heap.size w2 W) => show DB W w.heap.size a.i a.o a.n a.s a.A a.rs.length a.cr a.B a.fs.length a.cf ∧ DB W (w.heap.size + 1) b.i b.o b.n b.s b.A b.rs.length b.cr b.B b.fs.length b.cf from by
  have h1 := hqa.below hW (by omega)
  have h2 := hqb.below hW (by omega)
  exact ⟨⟨h1.cell 0, h1.cell 1, h1.cell 2, h1.cell 3, h1.cell 4, h1.cell 5⟩, h2.cell 0, h2.cell 1, h2.cell 2, h2.cell 3, h2.cell 4, h2.cell 5⟩)
 have HB2 := hid hb2
 have H2 := hid (show w.heap.size ≤ w2.heap.size by omega)
 have HA := hid (fun W (h : Below w2.heap.size w2 W) => awake_any W (hT.next (below_j hb2 h H2.out)))
 have HSA := hid (rsmall_any a.i a.o a.n a.s a.A a.cr a.B a.cf a.rs a.fs w2 (ha.below hb2).rules (ha.below hb2).finals)
 have HSB := hid (fun W (h : Below w2.heap.size w2 W) => rsmall_any b.i b.o b.n b.s b.A b.cr b.B b.cf b.rs b.fs W (hb.below (below_j hb2 h H2.out)).rules (hb.below (below_j hb2 h H2.out)).finals)
 have HJ := hid (fun W (h : Below w2.heap.size w2 W) => join_any a b W (ha.below (below_j hb2 h H2.out)) (hb.below (below_j hb2 h H2.out)) (hT.next (below_j hb2 h H2.out)))
 have HRA := hid (fun W (h : Below w2.heap.size w2 W) => rright_any a.i a.o a.n a.s a.A a.cr a.B a.cf a.rs a.fs W (ha.below (below_j hb2 h H2.out)).rules ha.rl (ha.below (below_j hb2 h H2.out)).finals ha.fl)
 have HRB := hid (fun W (h : Below w2.heap.size w2 W) => rright_any b.i b.o b.n b.s b.A b.cr b.B b.cf b.rs b.fs W (hb.below (below_j hb2 h H2.out)).rules hb.rl (hb.below (below_j hb2 h H2.out)).finals hb.fl)
 have HRJ := hid (fun W (h : Below w2.heap.size w2 W) (ra : a.right) (rb : b.right) => rjoin_any a b W (ha.below (below_j hb2 h H2.out)) (hb.below (below_j hb2 h H2.out)) ra.rightD rb.rightD)
 have HEND := hid (fun W (h : Below w2.heap.size w2 W) => show RetB true w (.returned (.bool true)) W from ⟨rfl, below_j hb2 h H2.out⟩)
 clear ha hb hT hb2 hqa hqb
 obtain ⟨⟨p0, p1, p2, p3, p4, p5⟩, y0, y1, y2, y3, y4, y5⟩ := HBOX.out w2 (Below.refl _ _)
 go_enter Tryz.func3, Tryz.ntmps3
 go_wp2_with (fail)
 refine HSA.out.mono ?_
 rintro e w3 ⟨sa, rfl, hsa, hb3⟩
 have H3 := hid hb3
 clear hb3
 clear p0 p1 p2 p3 p4 p5 y0 y1 y2 y3 y4 y5
 obtain ⟨⟨p0, p1, p2, p3, p4, p5⟩, y0, y1, y2, y3, y4, y5⟩ := HBOX.out w3 H3.out
 cases sa with
 | false =>
  clear hsa
  go_wp2_with (fail)
  refine (HA.out w3 H3.out).mono ?_
  rintro e wz ⟨rfl, hbz⟩
  have HZ := hid (below_s2 H3.out hbz)
  clear hbz
  go_wp2_with (fail)
  go_ret
  exact HEND.out _ HZ.out
 | true =>
 obtain ⟨ra80, fa80, _⟩ := hsa rfl
 clear hsa
 go_wp2_with (fail)
 refine (HSB.out w3 H3.out).mono ?_
 rintro e w4 ⟨sb, rfl, hsb, hb4⟩
 have H4 := hid (below_s2 H3.out hb4)
 clear hb4
 clear p0 p1 p2 p3 p4 p5 y0 y1 y2 y3 y4 y5
 obtain ⟨⟨p0, p1, p2, p3, p4, p5⟩, y0, y1, y2, y3, y4, y5⟩ := HBOX.out w4 H4.out
 cases sb with
 | false =>
  clear hsb
  go_wp2_with (fail)
  refine (HA.out w4 H4.out).mono ?_
  rintro e wz ⟨rfl, hbz⟩
  have HZ := hid (below_s2 H4.out hbz)
  clear hbz
  go_wp2_with (fail)
  go_ret
  exact HEND.out _ HZ.out
 | true =>
 obtain ⟨rb80, fb80, _⟩ := hsb rfl
 clear hsb
 have HLR := hid (show (joinR a b).length ≤ 162 ∧ (joinF a b).length ≤ 160 from by
  unfold joinR joinF
  simp only [List.length_append, List.length_map, List.length_cons, List.length_nil]
  omega)
 clear ra80 fa80 rb80 fb80
 go_wp2_with (fail)
 refine (HJ.out w4 H4.out).mono ?_
 rintro e w5 ⟨hb5, j1, j2, j3⟩
 have H5 := hid (below_s2 H4.out hb5)
 clear hb5
 clear p0 p1 p2 p3 p4 p5 y0 y1 y2 y3 y4 y5
 by_cases hok : JoinOk a b
 case neg =>
  obtain rfl := j1 hok
  clear j1 j2 j3
  obtain ⟨wd, hwd⟩ : ∃ wd, w5.alloc (.cells #[.int .i64 0, .int .i64 0, .int .i64 0, .int .i64 0, .slice none 0 0, .slice none 0 0] 26) = wd := ⟨_, rfl⟩
  have hbd : Below w5.heap.size w5 wd := by rw [← hwd]; exact (Below.refl _ _).alloc (Nat.le_refl _) _
  have hqd : Blk wd w5.heap.size 26 #[.int .i64 0, .int .i64 0, .int .i64 0, .int .i64 0, .slice none 0 0, .slice none 0 0] := by rw [← hwd]; exact heap_alloc_new w5 _
  have HWD := hid hwd
  have H6 := hid (below_s2 H5.out hbd)
  have D6 := hid (Below.refl wd.heap.size wd)
  have HD := hid (fun W (hW : Below wd.heap.size wd W) => show DB W w5.heap.size 0 0 0 0 none 0 0 none 0 0 from by
   have h1 := hqd.below hW hqd.lt
   exact ⟨h1.cell 0, h1.cell 1, h1.cell 2, h1.cell 3, h1.cell 4, h1.cell 5⟩)
  clear hbd hqd
  obtain ⟨qa, hqa⟩ : ∃ q, decide ((whereD a.i a.o a.n a.s a.rs a.fs).1 = 0) = q := ⟨_, rfl⟩
  obtain ⟨qb, hqb⟩ : ∃ q, decide ((whereD b.i b.o b.n b.s b.rs b.fs).1 = 0) = q := ⟨_, rfl⟩
  rw [hqa] at HRA
  rw [hqb] at HRB
  have HQA := hid hqa
  have HQB := hid hqb
  clear hqa hqb
  clear hwd
  go_upto_region 4 with (fail)
  rw [HWD.out]
  obtain ⟨⟨p0, p1, p2, p3, p4, p5⟩, y0, y1, y2, y3, y4, y5⟩ := HBOX.out wd H6.out
  go_wp2_with (fail)
  refine (HRA.out wd H6.out).mono ?_
  rintro e w7 ⟨rfl, hb7⟩
  have H7 := hid (below_s2 H6.out hb7)
  have D7 := hid hb7
  clear hb7
  clear p0 p1 p2 p3 p4 p5 y0 y1 y2 y3 y4 y5
  obtain ⟨⟨p0, p1, p2, p3, p4, p5⟩, y0, y1, y2, y3, y4, y5⟩ := HBOX.out w7 H7.out
  cases qa with
  | false =>
   obtain ⟨q0, q1, q2, q3, q4, q5⟩ := HD.out w7 D7.out
   go_wp2_with (fail)
   refine (rdesc_eq 0 0 0 0 none none 0 0 none none 0 0 [] [] w7 (RRu.nil_ _ _) (RRu.nil_ _ _) (Nat.zero_le _) (RFi.nil_ _ _) (RFi.nil_ _ _) (Nat.zero_le _) (fun q hq => by cases hq) (fun q hq => by cases hq)).mono ?_
   rintro e wy ⟨rfl, hby⟩
   have HY := hid (below_s2 H7.out hby)
   clear hby q0 q1 q2 q3 q4 q5
   go_wp2_with (fail)
   refine (HA.out wy HY.out).mono ?_
   rintro e wz ⟨rfl, hbz⟩
   have HZ := hid (below_s2 HY.out hbz)
   clear hbz
   go_wp2_with (fail)
   go_ret
   exact HEND.out _ HZ.out
  | true =>
  go_wp2_with (fail)
  refine (HRB.out w7 H7.out).mono ?_
  rintro e w8 ⟨rfl, hb8⟩
  have H8 := hid (below_s2 H7.out hb8)
  have D8 := hid (below_s2 D7.out hb8)
  clear hb8
  clear p0 p1 p2 p3 p4 p5 y0 y1 y2 y3 y4 y5
  obtain ⟨⟨p0, p1, p2, p3, p4, p5⟩, y0, y1, y2, y3, y4, y5⟩ := HBOX.out w8 H8.out
  cases qb with
  | false =>
   obtain ⟨q0, q1, q2, q3, q4, q5⟩ := HD.out w8 D8.out
   go_wp2_with (fail)
   refine (rdesc_eq 0 0 0 0 none none 0 0 none none 0 0 [] [] w8 (RRu.nil_ _ _) (RRu.nil_ _ _) (Nat.zero_le _) (RFi.nil_ _ _) (RFi.nil_ _ _) (Nat.zero_le _) (fun q hq => by cases hq) (fun q hq => by cases hq)).mono ?_
   rintro e wy ⟨rfl, hby⟩
   have HY := hid (below_s2 H8.out hby)
   clear hby q0 q1 q2 q3 q4 q5
   go_wp2_with (fail)
   refine (HA.out wy HY.out).mono ?_
   rintro e wz ⟨rfl, hbz⟩
   have HZ := hid (below_s2 HY.out hbz)
   clear hbz
   go_wp2_with (fail)
   go_ret
   exact HEND.out _ HZ.out
  | true =>
  by_cases hi : a.i = b.i
  case neg =>
   have i1 : (a.i == b.i) = false := by simpa using hi
   have i2 : decide (a.i = b.i) = false := decide_eq_false hi
   have i3 : (a.i != b.i) = true := by simp [hi]
   clear hi hok
   obtain ⟨q0, q1, q2, q3, q4, q5⟩ := HD.out w8 D8.out
   go_wp2_with (fail)
   refine (rdesc_eq 0 0 0 0 none none 0 0 none none 0 0 [] [] w8 (RRu.nil_ _ _) (RRu.nil_ _ _) (Nat.zero_le _) (RFi.nil_ _ _) (RFi.nil_ _ _) (Nat.zero_le _) (fun q hq => by cases hq) (fun q hq => by cases hq)).mono ?_
   rintro e wy ⟨rfl, hby⟩
   have HY := hid (below_s2 H8.out hby)
   clear hby q0 q1 q2 q3 q4 q5
   go_wp2_with (fail)
   refine (HA.out wy HY.out).mono ?_
   rintro e wz ⟨rfl, hbz⟩
   have HZ := hid (below_s2 HY.out hbz)
   clear hbz
   go_wp2_with (fail)
   go_ret
   exact HEND.out _ HZ.out
  have ho : ¬ a.o = b.o := fun ho => hok ⟨of_decide_eq_true (p := (whereD a.i a.o a.n a.s a.rs a.fs).1 = 0) HQA.out, of_decide_eq_true (p := (whereD b.i b.o b.n b.s b.rs b.fs).1 = 0) HQB.out, hi, ho⟩
  have i1 : (a.i == b.i) = true := by simpa using hi
  have i2 : decide (a.i = b.i) = true := decide_eq_true hi
  have i3 : (a.i != b.i) = false := by simp [hi]
  have o1 : (a.o == b.o) = false := by simpa using ho
  have o2 : decide (a.o = b.o) = false := decide_eq_false ho
  have o3 : (a.o != b.o) = true := by simp [ho]
  clear hi ho hok
  obtain ⟨q0, q1, q2, q3, q4, q5⟩ := HD.out w8 D8.out
  go_wp2_with (fail)
  refine (rdesc_eq 0 0 0 0 none none 0 0 none none 0 0 [] [] w8 (RRu.nil_ _ _) (RRu.nil_ _ _) (Nat.zero_le _) (RFi.nil_ _ _) (RFi.nil_ _ _) (Nat.zero_le _) (fun q hq => by cases hq) (fun q hq => by cases hq)).mono ?_
  rintro e wy ⟨rfl, hby⟩
  have HY := hid (below_s2 H8.out hby)
  clear hby q0 q1 q2 q3 q4 q5
  go_wp2_with (fail)
  refine (HA.out wy HY.out).mono ?_
  rintro e wz ⟨rfl, hbz⟩
  have HZ := hid (below_s2 HY.out hbz)
  clear hbz
  go_wp2_with (fail)
  go_ret
  exact HEND.out _ HZ.out
 obtain ⟨hra, hrb, hi, ho⟩ := id hok
 have i1 : (a.i == b.i) = true := by simpa using hi
 have i2 : decide (a.i = b.i) = true := decide_eq_true hi
 have i3 : (a.i != b.i) = false := by simp [hi]
 have o1 : (a.o == b.o) = true := by simpa using ho
 have o2 : decide (a.o = b.o) = true := decide_eq_true ho
 have o3 : (a.o != b.o) = false := by simp [ho]
 have e1 : decide ((whereD a.i a.o a.n a.s a.rs a.fs).1 = 0) = true := decide_eq_true hra
 have e2 : decide ((whereD b.i b.o b.n b.s b.rs b.fs).1 = 0) = true := decide_eq_true hrb
 rw [e1] at HRA
 rw [e2] at HRB
 have na := hra.rightD.n
 have nb := hrb.rightD.n
 clear hi ho e1 e2
 by_cases hn : 1 + a.n + b.n ≤ 1024
 case neg =>
  obtain rfl := j2 hok fun h => hn h.1
  clear j1 j2 j3 hok hra hrb
  obtain ⟨wd, hwd⟩ : ∃ wd, w5.alloc (.cells #[.int .i64 0, .int .i64 0, .int .i64 0, .int .i64 0, .slice none 0 0, .slice none 0 0] 26) = wd := ⟨_, rfl⟩
  have hbd : Below w5.heap.size w5 wd := by rw [← hwd]; exact (Below.refl _ _).alloc (Nat.le_refl _) _
  have hqd : Blk wd w5.heap.size 26 #[.int .i64 0, .int .i64 0, .int .i64 0, .int .i64 0, .slice none 0 0, .slice none 0 0] := by rw [← hwd]; exact heap_alloc_new w5 _
  have HWD := hid hwd
  have H6 := hid (below_s2 H5.out hbd)
  have D6 := hid (Below.refl wd.heap.size wd)
  have HD := hid (fun W (hW : Below wd.heap.size wd W) => show DB W w5.heap.size 0 0 0 0 none 0 0 none 0 0 from by
   have h1 := hqd.below hW hqd.lt
   exact ⟨h1.cell 0, h1.cell 1, h1.cell 2, h1.cell 3, h1.cell 4, h1.cell 5⟩)
  clear hbd hqd
  clear hwd
  go_upto_region 4 with (fail)
  rw [HWD.out]
  obtain ⟨⟨p0, p1, p2, p3, p4, p5⟩, y0, y1, y2, y3, y4, y5⟩ := HBOX.out wd H6.out
  go_wp2_with (fail)
  refine (HRA.out wd H6.out).mono ?_
  rintro e w7 ⟨rfl, hb7⟩
  have H7 := hid (below_s2 H6.out hb7)
  have D7 := hid hb7
  clear hb7
  clear p0 p1 p2 p3 p4 p5 y0 y1 y2 y3 y4 y5
  obtain ⟨⟨p0, p1, p2, p3, p4, p5⟩, y0, y1, y2, y3, y4, y5⟩ := HBOX.out w7 H7.out
  go_wp2_with (fail)
  refine (HRB.out w7 H7.out).mono ?_
  rintro e w8 ⟨rfl, hb8⟩
  have H8 := hid (below_s2 H7.out hb8)
  have D8 := hid (below_s2 D7.out hb8)
  clear hb8
  clear p0 p1 p2 p3 p4 p5 y0 y1 y2 y3 y4 y5
  obtain ⟨⟨p0, p1, p2, p3, p4, p5⟩, y0, y1, y2, y3, y4, y5⟩ := HBOX.out w8 H8.out
  have a1 : IntKind.i64.wrap (a.n + b.n) = a.n + b.n := IntWalk.i64_in _ (by omega)
  have a2 : IntKind.i64.wrap (a.n + b.n + 1) = a.n + b.n + 1 := IntWalk.i64_in _ (by omega)
  have a3 : decide ((1024 : Int) < a.n + b.n + 1) = true := decide_eq_true (by omega)
  clear na nb hn
  obtain ⟨q0, q1, q2, q3, q4, q5⟩ := HD.out w8 D8.out
  go_wp2_with (fail)
  refine (rdesc_eq 0 0 0 0 none none 0 0 none none 0 0 [] [] w8 (RRu.nil_ _ _) (RRu.nil_ _ _) (Nat.zero_le _) (RFi.nil_ _ _) (RFi.nil_ _ _) (Nat.zero_le _) (fun q hq => by cases hq) (fun q hq => by cases hq)).mono ?_
  rintro e wy ⟨rfl, hby⟩
  have HY := hid (below_s2 H8.out hby)
  clear hby q0 q1 q2 q3 q4 q5
  go_wp2_with (fail)
  refine (HA.out wy HY.out).mono ?_
  rintro e wz ⟨rfl, hbz⟩
  have HZ := hid (below_s2 HY.out hbz)
  clear hbz
  go_wp2_with (fail)
  go_ret
  exact HEND.out _ HZ.out
 obtain ⟨A, cr, B, cf, rfl, hR, hF, _, _⟩ := j3 hok ⟨hn, by have := HLR.out; omega, by have := HLR.out; omega⟩
 clear j1 j2 j3 hok
 obtain ⟨wd, hwd⟩ : ∃ wd, w5.alloc (.cells #[.int .i64 a.i, .int .i64 a.o, .int .i64 (1 + a.n + b.n), .int .i64 0, .slice A (joinR a b).length cr, .slice B (joinF a b).length cf] 26) = wd := ⟨_, rfl⟩
 have hbd : Below w5.heap.size w5 wd := by rw [← hwd]; exact (Below.refl _ _).alloc (Nat.le_refl _) _
 have hqd : Blk wd w5.heap.size 26 #[.int .i64 a.i, .int .i64 a.o, .int .i64 (1 + a.n + b.n), .int .i64 0, .slice A (joinR a b).length cr, .slice B (joinF a b).length cf] := by rw [← hwd]; exact heap_alloc_new w5 _
 have HWD := hid hwd
 have H6 := hid (below_s2 H5.out hbd)
 have D6 := hid (Below.refl wd.heap.size wd)
 have HD := hid (fun W (hW : Below wd.heap.size wd W) => show DB W w5.heap.size a.i a.o (1 + a.n + b.n) 0 A (joinR a b).length cr B (joinF a b).length cf from by
  have h1 := hqd.below hW hqd.lt
  exact ⟨h1.cell 0, h1.cell 1, h1.cell 2, h1.cell 3, h1.cell 4, h1.cell 5⟩)
 have HR := hid (hR.belowM hbd)
 have HF := hid (hF.belowM hbd)
 have HRR := hid (And.intro hra hrb)
 have HLL := hid (show (joinR a b).length ≤ maxLen ∧ (joinF a b).length ≤ maxLen from by
  have := HLR.out
  unfold maxLen
  omega)
 have HSH := hid (show (∀ q ∈ joinR a b, ∀ g ∈ q.gs, g.length ≤ 1099511627776) ∧ ∀ q ∈ joinF a b, ∀ g ∈ q.gs, g.length ≤ 1099511627776 from join_short hra.rightD hrb.rightD)
 clear hbd hqd hR hF hra hrb
 clear hwd
 go_upto_region 4 with (fail)
 rw [HWD.out]
 obtain ⟨⟨p0, p1, p2, p3, p4, p5⟩, y0, y1, y2, y3, y4, y5⟩ := HBOX.out wd H6.out
 go_wp2_with (fail)
 refine (HRA.out wd H6.out).mono ?_
 rintro e w7 ⟨rfl, hb7⟩
 have H7 := hid (below_s2 H6.out hb7)
 have D7 := hid hb7
 clear hb7
 clear p0 p1 p2 p3 p4 p5 y0 y1 y2 y3 y4 y5
 obtain ⟨⟨p0, p1, p2, p3, p4, p5⟩, y0, y1, y2, y3, y4, y5⟩ := HBOX.out w7 H7.out
 go_wp2_with (fail)
 refine (HRB.out w7 H7.out).mono ?_
 rintro e w8 ⟨rfl, hb8⟩
 have H8 := hid (below_s2 H7.out hb8)
 have D8 := hid (below_s2 D7.out hb8)
 clear hb8
 clear p0 p1 p2 p3 p4 p5 y0 y1 y2 y3 y4 y5
 obtain ⟨⟨p0, p1, p2, p3, p4, p5⟩, y0, y1, y2, y3, y4, y5⟩ := HBOX.out w8 H8.out
 have a1 : IntKind.i64.wrap (a.n + b.n) = a.n + b.n := IntWalk.i64_in _ (by omega)
 have a2 : IntKind.i64.wrap (a.n + b.n + 1) = a.n + b.n + 1 := IntWalk.i64_in _ (by omega)
 have a3 : decide ((1024 : Int) < a.n + b.n + 1) = false := decide_eq_false (by omega)
 clear na nb hn
 go_upto_region 8 with (fail)
 clear p0 p1 p2 p3 p4 p5 y0 y1 y2 y3 y4 y5
 obtain ⟨we, hwe⟩ : ∃ we, w8.drew = we := ⟨_, rfl⟩
 have hB2 : Below w2.heap.size w2 we := by rw [← hwe]; exact H8.out.drew
 have hBD : Below wd.heap.size wd we := by rw [← hwe]; exact D8.out.drew
 refine wp_region_held_drew (S := fun W => Below w2.heap.size w2 W ∧ Below wd.heap.size wd W) (by kernel_rfl) (by rw [hwe]; exact ⟨hB2, hBD⟩) (fun hHeld => ?_)
 rw [hwe] at hHeld ⊢
 refine wpAnyH_take (i := 0) (oi := { dst := some 71, op := Op.move (Operand.tmp 6), type := 29, pos := "law.go:60", after := #[], guard := none }) (v := ?_) rfl (by kernel_rfl) (by kernel_rfl) (by kernel_rfl) (fun _ _ _ h => h) (Or.inl ⟨by rfl, ?_⟩) (by assumption) ?_
 rotate_left
 ·intro w' hSw
  (try dsimp only at hSw)
  obtain ⟨⟨p0, p1, p2, p3, p4, p5⟩, y0, y1, y2, y3, y4, y5⟩ := HBOX.out w' hSw.1
  obtain ⟨q0, q1, q2, q3, q4, q5⟩ := HD.out w' hSw.2
  go_simp
  all_goals with_reducible rfl
 try simp only [Act.put, List.setIfInBounds_toArray, List.set_cons_zero, List.set_cons_succ]
 refine wpAnyH_take (i := 1) (oi := { dst := some 72, op := Op.binOp BinOp.eql 29 (Operand.tmp 71) (Operand.const (Go.Value.int IntKind.i64 0)) 29, type := 4, pos := "law.go:60", after := #[{ on := 0, ground := Ground.data }], guard := none }) (v := ?_) rfl (by kernel_rfl) (by kernel_rfl) (by kernel_rfl) (fun _ _ _ h => h) (Or.inl ⟨by rfl, ?_⟩) (by assumption) ?_
 rotate_left
 ·intro w' hSw
  (try dsimp only at hSw)
  obtain ⟨⟨p0, p1, p2, p3, p4, p5⟩, y0, y1, y2, y3, y4, y5⟩ := HBOX.out w' hSw.1
  obtain ⟨q0, q1, q2, q3, q4, q5⟩ := HD.out w' hSw.2
  go_simp
  all_goals with_reducible rfl
 try simp only [Act.put, List.setIfInBounds_toArray, List.set_cons_zero, List.set_cons_succ]
 refine wpAnyH_take (i := 2) (oi := { dst := some 73, op := Op.move (Operand.tmp 72), type := 4, pos := "law.go:60", after := #[{ on := 1, ground := Ground.data }], guard := none }) (v := ?_) rfl (by kernel_rfl) (by kernel_rfl) (by kernel_rfl) (fun _ _ _ h => h) (Or.inl ⟨by rfl, ?_⟩) (by assumption) ?_
 rotate_left
 ·intro w' hSw
  (try dsimp only at hSw)
  obtain ⟨⟨p0, p1, p2, p3, p4, p5⟩, y0, y1, y2, y3, y4, y5⟩ := HBOX.out w' hSw.1
  obtain ⟨q0, q1, q2, q3, q4, q5⟩ := HD.out w' hSw.2
  go_simp
  all_goals with_reducible rfl
 try simp only [Act.put, List.setIfInBounds_toArray, List.set_cons_zero, List.set_cons_succ]
 refine wpAnyH_take (i := 3) (oi := { dst := some 74, op := Op.load 26 (Operand.tmp 5), type := 26, pos := "law.go:60", after := #[{ on := 2, ground := Ground.guard }], guard := some (2, true) }) (v := ?_) rfl (by kernel_rfl) (by kernel_rfl) (by kernel_rfl) (fun _ _ _ h => h) (Or.inl ⟨by rfl, ?_⟩) (by assumption) ?_
 rotate_left
 ·intro w' hSw
  (try dsimp only at hSw)
  obtain ⟨⟨p0, p1, p2, p3, p4, p5⟩, y0, y1, y2, y3, y4, y5⟩ := HBOX.out w' hSw.1
  obtain ⟨q0, q1, q2, q3, q4, q5⟩ := HD.out w' hSw.2
  go_simp
  all_goals with_reducible rfl
 try simp only [Act.put, List.setIfInBounds_toArray, List.set_cons_zero, List.set_cons_succ]
 refine wpAnyH_take (i := 4) (oi := { dst := some 75, op := Op.load 26 (Operand.tmp 2), type := 26, pos := "law.go:60", after := #[{ on := 2, ground := Ground.guard }], guard := some (2, true) }) (v := ?_) rfl (by kernel_rfl) (by kernel_rfl) (by kernel_rfl) (fun _ _ _ h => h) (Or.inl ⟨by rfl, ?_⟩) (by assumption) ?_
 rotate_left
 ·intro w' hSw
  (try dsimp only at hSw)
  obtain ⟨⟨p0, p1, p2, p3, p4, p5⟩, y0, y1, y2, y3, y4, y5⟩ := HBOX.out w' hSw.1
  obtain ⟨q0, q1, q2, q3, q4, q5⟩ := HD.out w' hSw.2
  go_simp
  all_goals with_reducible rfl
 try simp only [Act.put, List.setIfInBounds_toArray, List.set_cons_zero, List.set_cons_succ]
 refine wpAnyH_take (i := 5) (oi := { dst := some 76, op := Op.load 26 (Operand.tmp 3), type := 26, pos := "law.go:60", after := #[{ on := 2, ground := Ground.guard }], guard := some (2, true) }) (v := ?_) rfl (by kernel_rfl) (by kernel_rfl) (by kernel_rfl) (fun _ _ _ h => h) (Or.inl ⟨by rfl, ?_⟩) (by assumption) ?_
 rotate_left
 ·intro w' hSw
  (try dsimp only at hSw)
  obtain ⟨⟨p0, p1, p2, p3, p4, p5⟩, y0, y1, y2, y3, y4, y5⟩ := HBOX.out w' hSw.1
  obtain ⟨q0, q1, q2, q3, q4, q5⟩ := HD.out w' hSw.2
  go_simp
  all_goals with_reducible rfl
 try simp only [Act.put, List.setIfInBounds_toArray, List.set_cons_zero, List.set_cons_succ]
 refine wpAnyH_ready (rs := [6]) (by kernel_rfl) (by simp) ?_
 refine AllReadyH.cons (o := { dst := some 77, op := Op.call { callee := Callee.value (Operand.func 13), args := #[Operand.tmp 75, Operand.tmp 76], argTypes := #[26, 26] }, type := 26, pos := "law.go:60", after := #[{ on := 4, ground := Ground.data }, { on := 5, ground := Ground.data }, { on := 2, ground := Ground.chain }, { on := 2, ground := Ground.guard }], guard := some (2, true) }) rfl (fun K hK => ?_) AllReadyH.nil
 go_simp
 go_wp2_with (go_at_call 13; (with_reducible refine (HRJ.out _ hB2 HRR.out.1 HRR.out.2).mono ?_); rintro ej wj ⟨hbj, A2, cr2, B2, cf2, rfl, hR2, hF2⟩)
 have hszj := hB2.size
 have hR1 := (HR.out.belowM hBD).belowM hbj
 have hF1 := (HF.out.belowM hBD).belowM hbj
 have hB2 := below_s2 hB2 hbj
 have hBD := below_s2 hBD hbj
 refine hK.out _ _ ?_ (fun hHeld => ?_)
 ·exact ⟨hB2, hBD⟩
 clear hK K
 try simp only [Act.put, List.setIfInBounds_toArray, List.set_cons_zero, List.set_cons_succ]
 refine wpAnyH_ready (rs := [7]) (by kernel_rfl) (by simp) ?_
 refine AllReadyH.cons (o := { dst := some 78, op := Op.call { callee := Callee.value (Operand.func 12), args := #[Operand.tmp 74, Operand.tmp 77], argTypes := #[26, 26] }, type := 4, pos := "law.go:60", after := #[{ on := 3, ground := Ground.data }, { on := 6, ground := Ground.data }, { on := 6, ground := Ground.chain }, { on := 2, ground := Ground.guard }], guard := some (2, true) }) rfl (fun K hK => ?_) AllReadyH.nil
 go_simp
 go_wp2_with (go_at_call 12; (with_reducible refine (rdesc_eq a.i a.o (1 + a.n + b.n) 0 A A2 cr cr2 B B2 cf cf2 (joinR a b) (joinF a b) wj hR1 hR2 HLL.out.1 hF1 hF2 HLL.out.2 HSH.out.1 HSH.out.2).mono ?_); rintro es ws ⟨rfl, hbs⟩)
 have hB2 := below_s2 hB2 hbs
 have hBD := below_s2 hBD hbs
 refine hK.out _ _ ?_ (fun hHeld => ?_)
 ·exact ⟨hB2, hBD⟩
 clear hK K
 try simp only [Act.put, List.setIfInBounds_toArray, List.set_cons_zero, List.set_cons_succ]
 refine wpAnyH_take (i := 8) (oi := { dst := some 79, op := Op.pick (Operand.tmp 73) (Operand.tmp 78) (Operand.const (Go.Value.bool false)), type := 4, pos := "law.go:60", after := #[{ on := 2, ground := Ground.data }, { on := 7, ground := Ground.data }], guard := none }) (v := ?_) rfl (by kernel_rfl) (by kernel_rfl) (by kernel_rfl) (fun _ _ _ h => h) (Or.inl ⟨by rfl, ?_⟩) (by assumption) ?_
 rotate_left
 ·intro w' hSw
  (try dsimp only at hSw)
  obtain ⟨⟨p0, p1, p2, p3, p4, p5⟩, y0, y1, y2, y3, y4, y5⟩ := HBOX.out w' hSw.1
  obtain ⟨q0, q1, q2, q3, q4, q5⟩ := HD.out w' hSw.2
  go_simp
  all_goals with_reducible rfl
 try simp only [Act.put, List.setIfInBounds_toArray, List.set_cons_zero, List.set_cons_succ]
 refine wpAnyH_take (i := 9) (oi := { dst := some 80, op := Op.move (Operand.tmp 79), type := 4, pos := "law.go:60", after := #[{ on := 8, ground := Ground.data }, { on := 7, ground := Ground.chain }], guard := none }) (v := ?_) rfl (by kernel_rfl) (by kernel_rfl) (by kernel_rfl) (fun _ _ _ h => h) (Or.inl ⟨by rfl, ?_⟩) (by assumption) ?_
 rotate_left
 ·intro w' hSw
  (try dsimp only at hSw)
  obtain ⟨⟨p0, p1, p2, p3, p4, p5⟩, y0, y1, y2, y3, y4, y5⟩ := HBOX.out w' hSw.1
  obtain ⟨q0, q1, q2, q3, q4, q5⟩ := HD.out w' hSw.2
  go_simp
  all_goals with_reducible rfl
 try simp only [Act.put, List.setIfInBounds_toArray, List.set_cons_zero, List.set_cons_succ]
 refine wpAnyH_ready (rs := [10]) (by kernel_rfl) (by simp) ?_
 refine AllReadyH.cons (o := { dst := some 81, op := Op.call { callee := Callee.value (Operand.func 9), args := #[], argTypes := #[] }, type := 4, pos := "law.go:60", after := #[{ on := 9, ground := Ground.chain }, { on := 9, ground := Ground.guard }], guard := some (9, true) }) rfl (fun K hK => ?_) AllReadyH.nil
 go_simp
 go_wp2_with (go_at_call 9; (with_reducible refine (HA.out _ hB2).mono ?_); rintro ea wa ⟨rfl, hba⟩)
 have hB2 := below_s2 hB2 hba
 have hBD := below_s2 hBD hba
 refine hK.out _ _ ?_ (fun hHeld => ?_)
 ·exact ⟨hB2, hBD⟩
 clear hK K
 try simp only [Act.put, List.setIfInBounds_toArray, List.set_cons_zero, List.set_cons_succ]
 refine wpAnyH_take (i := 11) (oi := { dst := some 82, op := Op.pick (Operand.tmp 80) (Operand.tmp 81) (Operand.const (Go.Value.bool false)), type := 4, pos := "law.go:60", after := #[{ on := 9, ground := Ground.data }, { on := 10, ground := Ground.data }], guard := none }) (v := ?_) rfl (by kernel_rfl) (by kernel_rfl) (by kernel_rfl) (fun _ _ _ h => h) (Or.inl ⟨by rfl, ?_⟩) (by assumption) ?_
 rotate_left
 ·intro w' hSw
  (try dsimp only at hSw)
  obtain ⟨⟨p0, p1, p2, p3, p4, p5⟩, y0, y1, y2, y3, y4, y5⟩ := HBOX.out w' hSw.1
  obtain ⟨q0, q1, q2, q3, q4, q5⟩ := HD.out w' hSw.2
  go_simp
  all_goals with_reducible rfl
 try simp only [Act.put, List.setIfInBounds_toArray, List.set_cons_zero, List.set_cons_succ]
 refine wpAnyH_take (i := 12) (oi := { dst := some 4, op := Op.assign (Operand.tmp 82), type := 4, pos := "law.go:60", after := #[{ on := 11, ground := Ground.data }, { on := 10, ground := Ground.chain }, { on := 0, ground := Ground.phase }, { on := 1, ground := Ground.phase }, { on := 2, ground := Ground.phase }, { on := 3, ground := Ground.phase }, { on := 4, ground := Ground.phase }, { on := 5, ground := Ground.phase }, { on := 6, ground := Ground.phase }, { on := 7, ground := Ground.phase }, { on := 8, ground := Ground.phase }, { on := 9, ground := Ground.phase }, { on := 10, ground := Ground.phase }, { on := 11, ground := Ground.phase }], guard := none }) (v := ?_) rfl (by kernel_rfl) (by kernel_rfl) (by kernel_rfl) (fun _ _ _ h => h) (Or.inl ⟨by rfl, ?_⟩) (by assumption) ?_
 rotate_left
 ·intro w' hSw
  (try dsimp only at hSw)
  obtain ⟨⟨p0, p1, p2, p3, p4, p5⟩, y0, y1, y2, y3, y4, y5⟩ := HBOX.out w' hSw.1
  obtain ⟨q0, q1, q2, q3, q4, q5⟩ := HD.out w' hSw.2
  go_simp
  all_goals with_reducible rfl
 try simp only [Act.put, List.setIfInBounds_toArray, List.set_cons_zero, List.set_cons_succ]
 refine wpAnyH_done (by kernel_rfl) ?_ _
 go_wp2_with (fail)
 go_ret
 exact HEND.out _ hB2
end Go.Proofs.YtoofgpoeheponaaGreatDoor.De
