import Derived.Test.YtoofgpoeheponaaGreatDoorL19
namespace Go.Proofs.YtoofgpoeheponaaGreatDoor.Tr
set_option maxRecDepth 100000
open Go Go.RowKit Sp Pa Te Mi De
open Go.Lib (hid)
def TellsOut (l : List Nat) (w : World) (e : Ending) (w' : World) : Prop := ∃ v, e = .returned (.tuple #[v, .int .i64 0]) ∧ w'.ownsRow w.heap.size 3 1 v l.length (natV l) ∧ Below w.heap.size w w'
theorem owns_le {w : World} {b b2 : Nat} {e : TypeId} {k : Nat} {v : Value} {n : Nat} {xs : List Value} (h : w.ownsRow b e k v n xs) (hb : b2 ≤ b) : w.ownsRow b2 e k v n xs := by
 refine ⟨h.1, ?_⟩
 rcases h.2 with h0 | ⟨g, cap, cur, e1, h1, h2⟩
 ·exact .inl h0
 ·exact .inr ⟨g, cap, cur, e1, Nat.le_trans hb h1, h2⟩
set_option maxHeartbeats 2000000 in
theorem Comes_ok (N : Nat) (i o : Int) (sn : Nat) (A : Option Addr) (cr : Nat) (Bf : Option Addr) (cf : Nat) (rs : List RuL) (fs : List FiL) (w : World) (h : RRu w A rs.length rs) (hff : RFi w Bf fs.length fs) (hl : rs.length ≤ 4096) (hlf : fs.length ≤ 1024) (hN : 1 ≤ N ∧ N ≤ 1024) (hsn : sn < N) (hst : ∀ j (hj : j < rs.length), stB N rs[j].frm = true ∧ stB N rs[j].to_ = true) (hsf : ∀ j (hj : j < fs.length), stB N fs[j].frm = true)
  (hC : ∀ W, Below w.heap.size w W → Calls Tryz.prog 25 #[dsc i o (N : Int) (sn : Int) A rs.length cr Bf fs.length cf] W (RetI 0 W)) :
  Calls Tryz.prog 15 #[dsc i o (N : Int) (sn : Int) A rs.length cr Bf fs.length cf] w (TellsOut ((List.range N).filter (comesF rs sn)) w) := by
 obtain ⟨w1, hw1⟩ : ∃ w1, w.alloc (.cells #[.int .i64 i, .int .i64 o, .int .i64 (N : Int), .int .i64 (sn : Int), .slice A rs.length cr, .slice Bf fs.length cf] 26) = w1 := ⟨_, rfl⟩
 have hs1 : w1.heap.size = w.heap.size + 1 := by rw [← hw1]; simp
 have hb1 : Below w.heap.size w w1 := by rw [← hw1]; exact (Below.refl _ _).alloc (Nat.le_refl _) _
 have hd1 : DB w1 w.heap.size i o N sn A rs.length cr Bf fs.length cf := by rw [← hw1]; exact DB.boxed
 have HC := hid (hC w1 hb1)
 have HG := hid (fun (W : World) (hW : Below w.heap.size w W) => comes_any N i o sn A cr Bf cf rs fs W (h.belowM hW) (hff.belowM hW) hl hlf hN hsn hst hsf)
 have HB := hid hb1
 have HD := hid hd1
 have HN := hid hN.2
 obtain ⟨p0, p1, p2, p3, p4, p5⟩ := hd1
 clear hC hb1 h hff hN hst hsf hsn hl hlf
 go_enter Tryz.func15, Tryz.ntmps15
 go_wp2_with (fail)
 refine HC.out.mono ?_
 rintro e w2 ⟨rfl, hb2⟩
 have HB2 := hid (HB.out.trans (hb2.mono HB.out.size))
 obtain ⟨q0, q1, q2, q3, q4, q5⟩ := HD.out.below (by omega) hb2
 have hsz2 := hb2.size
 clear hb2 p0 p1 p2 p3 p4 p5
 go_wp2_with (fail)
 refine (HG.out w2 HB2.out).mono ?_
 rintro e w3 ⟨S, hS, rfl, ho, hb3⟩
 have HO := hid (show Marks w3 S N (comesF rs sn) from ho)
 have HB3 := hid (HB2.out.trans (hb3.mono HB2.out.size))
 have HS3 := hid hb3.size
 clear ho hb3
 go_wp2_with (fail)
 refine (rising_any (comesF rs sn) N S w3 HO.out HN.out).mono ?_
 rintro e w4 ⟨v, rfl, ho4, hb4⟩
 have HO4 := hid (owns_le (b2 := w.heap.size) ho4 HB3.out.size)
 have HB4 := hid (HB3.out.trans (hb4.mono HB3.out.size))
 clear ho4 hb4
 go_wp2_with (fail)
 go_ret2
 exact ⟨v, rfl, HO4.out, HB4.out⟩
set_option maxHeartbeats 2000000 in
theorem GoesOn_ok (N : Nat) (i o : Int) (sn : Nat) (A : Option Addr) (cr : Nat) (Bf : Option Addr) (cf : Nat) (rs : List RuL) (fs : List FiL) (w : World) (h : RRu w A rs.length rs) (hff : RFi w Bf fs.length fs) (hl : rs.length ≤ 4096) (hlf : fs.length ≤ 1024) (hN : 1 ≤ N ∧ N ≤ 1024) (hsn : sn < N) (hst : ∀ j (hj : j < rs.length), stB N rs[j].frm = true ∧ stB N rs[j].to_ = true) (hsf : ∀ j (hj : j < fs.length), stB N fs[j].frm = true)
  (hC : ∀ W, Below w.heap.size w W → Calls Tryz.prog 25 #[dsc i o (N : Int) (sn : Int) A rs.length cr Bf fs.length cf] W (RetI 0 W)) :
  Calls Tryz.prog 16 #[dsc i o (N : Int) (sn : Int) A rs.length cr Bf fs.length cf] w (TellsOut ((List.range N).filter (goesF rs fs)) w) := by
 obtain ⟨w1, hw1⟩ : ∃ w1, w.alloc (.cells #[.int .i64 i, .int .i64 o, .int .i64 (N : Int), .int .i64 (sn : Int), .slice A rs.length cr, .slice Bf fs.length cf] 26) = w1 := ⟨_, rfl⟩
 have hs1 : w1.heap.size = w.heap.size + 1 := by rw [← hw1]; simp
 have hb1 : Below w.heap.size w w1 := by rw [← hw1]; exact (Below.refl _ _).alloc (Nat.le_refl _) _
 have hd1 : DB w1 w.heap.size i o N sn A rs.length cr Bf fs.length cf := by rw [← hw1]; exact DB.boxed
 have HC := hid (hC w1 hb1)
 have HG := hid (fun (W : World) (hW : Below w.heap.size w W) => goes_any N i o sn A cr Bf cf rs fs W (h.belowM hW) (hff.belowM hW) hl hlf hN hsn hst hsf)
 have HB := hid hb1
 have HD := hid hd1
 have HN := hid hN.2
 obtain ⟨p0, p1, p2, p3, p4, p5⟩ := hd1
 clear hC hb1 h hff hN hst hsf hsn hl hlf
 go_enter Tryz.func16, Tryz.ntmps16
 go_wp2_with (fail)
 refine HC.out.mono ?_
 rintro e w2 ⟨rfl, hb2⟩
 have HB2 := hid (HB.out.trans (hb2.mono HB.out.size))
 obtain ⟨q0, q1, q2, q3, q4, q5⟩ := HD.out.below (by omega) hb2
 have hsz2 := hb2.size
 clear hb2 p0 p1 p2 p3 p4 p5
 go_wp2_with (fail)
 refine (HG.out w2 HB2.out).mono ?_
 rintro e w3 ⟨S, hS, rfl, ho, hb3⟩
 have HO := hid (show Marks w3 S N (goesF rs fs) from ho)
 have HB3 := hid (HB2.out.trans (hb3.mono HB2.out.size))
 have HS3 := hid hb3.size
 clear ho hb3
 go_wp2_with (fail)
 refine (rising_any (goesF rs fs) N S w3 HO.out HN.out).mono ?_
 rintro e w4 ⟨v, rfl, ho4, hb4⟩
 have HO4 := hid (owns_le (b2 := w.heap.size) ho4 HB3.out.size)
 have HB4 := hid (HB3.out.trans (hb4.mono HB3.out.size))
 clear ho4 hb4
 go_wp2_with (fail)
 go_ret2
 exact ⟨v, rfl, HO4.out, HB4.out⟩
end Go.Proofs.YtoofgpoeheponaaGreatDoor.Tr
