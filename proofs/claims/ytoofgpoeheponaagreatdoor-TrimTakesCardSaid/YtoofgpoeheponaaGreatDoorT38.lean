import Derived.Test.YtoofgpoeheponaaGreatDoorT0
import Derived.Test.YtoofgpoeheponaaGreatDoorT37
set_option maxRecDepth 100000
namespace Go.Proofs.YtoofgpoeheponaaGreatDoor.Tr
open Go Go.RowKit Sp Pa Te Mi De
open Go.Lib (hid)
theorem below_t {w W W' : World} (h1 : Below w.heap.size w W) (h2 : Below W.heap.size W W') : Below w.heap.size w W' := h1.trans (h2.mono h1.size)
def BadOut (w : World) (e : Ending) (w' : World) : Prop := e = .returned (.tuple #[dsc 0 0 0 0 none 0 0 none 0 0, .int .i64 2]) ∧ Below w.heap.size w w'
set_option maxHeartbeats 8000000 in
theorem trim_bad (i o n s : Int) (A : Option Addr) (cr : Nat) (B : Option Addr) (cf : Nat) (rs : List RuL) (fs : List FiL) (w : World) (hd : DM w ⟨i, o, n, s, A, cr, B, cf, rs, fs⟩) (hT : Fi.TabB w) (hw : (whereD i o n s rs fs).1 ≠ 0) :
    Calls Tryz.prog 20 #[dsc i o n s A rs.length cr B fs.length cf] w (BadOut w) := by
  obtain ⟨w2, hw2⟩ : ∃ w2, (w.alloc (.cells #[.int .i64 i, .int .i64 o, .int .i64 n, .int .i64 s, .slice A rs.length cr, .slice B fs.length cf] 26)).alloc (.cells #[.int .i64 0, .int .i64 0, .int .i64 0, .int .i64 0, .slice none 0 0, .slice none 0 0] 26) = w2 := ⟨_, rfl⟩
  have hs2 : w2.heap.size = w.heap.size + 2 := by rw [← hw2]; simp
  have hb2 : Below w.heap.size w w2 := by rw [← hw2]; exact ((Below.refl _ _).alloc (Nat.le_refl _) _).alloc (by simp) _
  have hqd : Blk w2 w.heap.size 26 #[.int .i64 i, .int .i64 o, .int .i64 n, .int .i64 s, .slice A rs.length cr, .slice B fs.length cf] := by
    rw [← hw2]
    exact (show Blk _ _ _ _ from heap_alloc_new w _).alloc _
  have hqz : Blk w2 (w.heap.size + 1) 26 #[.int .i64 0, .int .i64 0, .int .i64 0, .int .i64 0, .slice none 0 0, .slice none 0 0] := by
    rw [← hw2]
    have h := heap_alloc_new (w.alloc (.cells #[.int .i64 i, .int .i64 o, .int .i64 n, .int .i64 s, .slice A rs.length cr, .slice B fs.length cf] 26)) (.cells #[.int .i64 0, .int .i64 0, .int .i64 0, .int .i64 0, .slice none 0 0, .slice none 0 0] 26)
    rw [World.size_alloc] at h
    exact h
  have H2 := hid (show w.heap.size ≤ w2.heap.size by omega)
  have HBW := hid (fun W (h : Below w2.heap.size w2 W) => show Below w.heap.size w W from hb2.trans (h.mono H2.out))
  have HDB := hid (fun W (h : Below w2.heap.size w2 W) => show DB W w.heap.size i o n s A rs.length cr B fs.length cf from by
    have h1 := hqd.below h (by omega)
    exact ⟨h1.cell 0, h1.cell 1, h1.cell 2, h1.cell 3, h1.cell 4, h1.cell 5⟩)
  have HQD := hid (fun W (h : Below w2.heap.size w2 W) => show Blk W w.heap.size 26 #[.int .i64 i, .int .i64 o, .int .i64 n, .int .i64 s, .slice A rs.length cr, .slice B fs.length cf] from hqd.below h (by omega))
  have HZ := hid (fun W (h : Below w2.heap.size w2 W) => show Blk W (w.heap.size + 1) 26 #[.int .i64 0, .int .i64 0, .int .i64 0, .int .i64 0, .slice none 0 0, .slice none 0 0] from hqz.below h (by omega))
  have HC := hid (checkD_any i o n s A cr B cf rs fs w2 (hd.below hb2).rules hd.rl (hd.below hb2).finals hd.fl (hT.next hb2))
  rw [if_neg hw] at HC
  obtain ⟨p0, p1, p2, p3, p4, p5⟩ := HDB.out w2 (Below.refl _ _)
  clear hd hT hw hb2 hqd hqz
  go_enter Tryz.func20, Tryz.ntmps20
  go_wp2_with (fail)
  refine HC.out.mono ?_
  rintro e w3 ⟨rfl, hb3⟩
  have HZ3 := hid (HZ.out w3 hb3)
  have HB3 := hid (HBW.out w3 hb3)
  clear hb3 p0 p1 p2 p3 p4 p5
  have z0 := HZ3.out.cell 0
  have y0 := HZ3.out.frozen 0
  have z1 := HZ3.out.cell 1
  have y1 := HZ3.out.frozen 1
  have z2 := HZ3.out.cell 2
  have y2 := HZ3.out.frozen 2
  have z3 := HZ3.out.cell 3
  have y3 := HZ3.out.frozen 3
  have z4 := HZ3.out.cell 4
  have y4 := HZ3.out.frozen 4
  have z5 := HZ3.out.cell 5
  have y5 := HZ3.out.frozen 5
  simp only [sD, sE, sF] at z0 z1 z2 z3 z4 z5
  go_wp2_with (fail)
  obtain ⟨wE, hwE⟩ : ∃ wE, ((((((w3.setCell ⟨w.heap.size + 1, 0, none⟩ (.int .i64 0)).setCell ⟨w.heap.size + 1, 1, none⟩ (.int .i64 0)).setCell ⟨w.heap.size + 1, 2, none⟩ (.int .i64 0)).setCell ⟨w.heap.size + 1, 3, none⟩ (.int .i64 0)).setCell ⟨w.heap.size + 1, 4, none⟩ (.slice none 0 0)).setCell ⟨w.heap.size + 1, 5, none⟩ (.slice none 0 0)) = wE := ⟨_, rfl⟩
  have hqE : Blk wE (w.heap.size + 1) 26 #[.int .i64 0, .int .i64 0, .int .i64 0, .int .i64 0, .slice none 0 0, .slice none 0 0] := by
    rw [← hwE]
    exact ((((((HZ3.out.set_ 0 _).set_ 1 _).set_ 2 _).set_ 3 _).set_ 4 _).set_ 5 _)
  have hbE : Below w.heap.size w wE := by
    rw [← hwE]
    exact (((((HB3.out.setCell (by simp) _).setCell (by simp) _).setCell (by simp) _).setCell (by simp) _).setCell (by simp) _).setCell (by simp) _
  have hother : ∀ g, g ≠ w.heap.size + 1 → wE.heap[g]? = w3.heap[g]? := fun g hg => by
    rw [← hwE]
    rw [heap_setCell_other _ ⟨w.heap.size + 1, 5, none⟩ g _ hg, heap_setCell_other _ ⟨w.heap.size + 1, 4, none⟩ g _ hg, heap_setCell_other _ ⟨w.heap.size + 1, 3, none⟩ g _ hg, heap_setCell_other _ ⟨w.heap.size + 1, 2, none⟩ g _ hg, heap_setCell_other _ ⟨w.heap.size + 1, 1, none⟩ g _ hg, heap_setCell_other _ ⟨w.heap.size + 1, 0, none⟩ g _ hg]
  have k0 := hqE.cell 0
  have k1 := hqE.cell 1
  have k2 := hqE.cell 2
  have k3 := hqE.cell 3
  have k4 := hqE.cell 4
  have k5 := hqE.cell 5
  simp only [sD, sE, sF] at k0 k1 k2 k3 k4 k5
  try rw [hwE]
  have HPOST : BadOut w (.returned (.tuple #[dsc 0 0 0 0 none 0 0 none 0 0, .int .i64 2])) wE := ⟨rfl, hbE⟩
  exact bodyPost_ret (v := .tuple #[dsc 0 0 0 0 none 0 0 none 0 0, .int .i64 2]) (by simp [results, Tryz.results20, go_sem, k0, k1, k2, k3, k4, k5]) rfl HPOST
def TrimOut (i o : Int) (N sn : Nat) (rs : List RuL) (fs : List FiL) (w : World) (e : Ending) (w' : World) : Prop := Below w.heap.size w w' ∧
  ((goesF rs fs sn = false ∧ e = .returned (.tuple #[dsc i o 1 0 none 0 0 none 0 0, .int .i64 0])) ∨
   (goesF rs fs sn = true ∧ ∃ A' cr' B' cf', e = .returned (.tuple #[dsc i o ((keptL N sn rs fs).length : Int) (numL (keptL N sn rs fs) sn : Int) A' (trR (keptL N sn rs fs) rs).length cr' B' (trF (keptL N sn rs fs) fs).length cf', .int .i64 0]) ∧
     DM w' ⟨i, o, ((keptL N sn rs fs).length : Int), (numL (keptL N sn rs fs) sn : Int), A', cr', B', cf', trR (keptL N sn rs fs) rs, trF (keptL N sn rs fs) fs⟩))
set_option maxHeartbeats 16000000 in
theorem trim_ok (i o : Int) (N sn : Nat) (A : Option Addr) (cr : Nat) (B : Option Addr) (cf : Nat) (rs : List RuL) (fs : List FiL) (w : World) (hd : DM w ⟨i, o, (N : Int), (sn : Int), A, cr, B, cf, rs, fs⟩) (hT : Fi.TabB w) (hw : (whereD i o (N : Int) (sn : Int) rs fs).1 = 0) (hfl : fs.length ≤ 1024) :
    Calls Tryz.prog 20 #[dsc i o (N : Int) (sn : Int) A rs.length cr B fs.length cf] w (TrimOut i o N sn rs fs w) := by
  obtain ⟨w2, hw2⟩ : ∃ w2, (w.alloc (.cells #[.int .i64 i, .int .i64 o, .int .i64 (N : Int), .int .i64 (sn : Int), .slice A rs.length cr, .slice B fs.length cf] 26)).alloc (.cells #[.int .i64 0, .int .i64 0, .int .i64 0, .int .i64 0, .slice none 0 0, .slice none 0 0] 26) = w2 := ⟨_, rfl⟩
  have hs2 : w2.heap.size = w.heap.size + 2 := by rw [← hw2]; simp
  have hb2 : Below w.heap.size w w2 := by rw [← hw2]; exact ((Below.refl _ _).alloc (Nat.le_refl _) _).alloc (by simp) _
  have hqd : Blk w2 w.heap.size 26 #[.int .i64 i, .int .i64 o, .int .i64 (N : Int), .int .i64 (sn : Int), .slice A rs.length cr, .slice B fs.length cf] := by
    rw [← hw2]
    exact (show Blk _ _ _ _ from heap_alloc_new w _).alloc _
  have hqz : Blk w2 (w.heap.size + 1) 26 #[.int .i64 0, .int .i64 0, .int .i64 0, .int .i64 0, .slice none 0 0, .slice none 0 0] := by
    rw [← hw2]
    have h := heap_alloc_new (w.alloc (.cells #[.int .i64 i, .int .i64 o, .int .i64 (N : Int), .int .i64 (sn : Int), .slice A rs.length cr, .slice B fs.length cf] 26)) (.cells #[.int .i64 0, .int .i64 0, .int .i64 0, .int .i64 0, .slice none 0 0, .slice none 0 0] 26)
    rw [World.size_alloc] at h
    exact h
  have H2 := hid (show w.heap.size ≤ w2.heap.size by omega)
  have HBW := hid (fun W (h : Below w2.heap.size w2 W) => show Below w.heap.size w W from hb2.trans (h.mono H2.out))
  have HDB := hid (fun W (h : Below w2.heap.size w2 W) => show DB W w.heap.size i o (N : Int) (sn : Int) A rs.length cr B fs.length cf from by
    have h1 := hqd.below h (by omega)
    exact ⟨h1.cell 0, h1.cell 1, h1.cell 2, h1.cell 3, h1.cell 4, h1.cell 5⟩)
  have HQD := hid (fun W (h : Below w2.heap.size w2 W) => show Blk W w.heap.size 26 #[.int .i64 i, .int .i64 o, .int .i64 (N : Int), .int .i64 (sn : Int), .slice A rs.length cr, .slice B fs.length cf] from hqd.below h (by omega))
  have HZ := hid (fun W (h : Below w2.heap.size w2 W) => show Blk W (w.heap.size + 1) 26 #[.int .i64 0, .int .i64 0, .int .i64 0, .int .i64 0, .slice none 0 0, .slice none 0 0] from hqz.below h (by omega))
  have hR : RightD ⟨i, o, (N : Int), (sn : Int), A, cr, B, cf, rs, fs⟩ := DV.right.rightD (d := ⟨i, o, (N : Int), (sn : Int), A, cr, B, cf, rs, fs⟩) hw
  have hNN : 1 ≤ N ∧ N ≤ 1024 := by have h1 := hR.n; dsimp only at h1; omega
  have hsn : sn < N := by have h1 := hR.s.2; dsimp only at h1; omega
  have hst : ∀ j (hj : j < rs.length), stB N rs[j].frm = true ∧ stB N rs[j].to_ = true := fun j hj => by
    obtain ⟨h1, h2, h3, h4, _⟩ := hR.rs rs[j] (List.getElem_mem hj)
    exact ⟨stB_t h1 h2, stB_t h3 h4⟩
  have hsf : ∀ j (hj : j < fs.length), stB N fs[j].frm = true := fun j hj => by
    obtain ⟨h1, h2, _⟩ := hR.fs fs[j] (List.getElem_mem hj)
    exact stB_t h1 h2
  have HC := hid (checkD_any i o N sn A cr B cf rs fs w2 (hd.below hb2).rules hd.rl (hd.below hb2).finals hd.fl (hT.next hb2))
  rw [if_pos hw] at HC
  have HCM := hid (fun W (h : Below w2.heap.size w2 W) => comes_any N i o sn A cr B cf rs fs W (hd.below (HBW.out W h)).rules (hd.below (HBW.out W h)).finals hR.r hfl hNN hsn hst hsf)
  have HGO := hid (fun W (h : Below w2.heap.size w2 W) => goes_any N i o sn A cr B cf rs fs W (hd.below (HBW.out W h)).rules (hd.below (HBW.out W h)).finals hR.r hfl hNN hsn hst hsf)
  obtain ⟨l, hl⟩ : ∃ l, keptL N sn rs fs = l := ⟨_, rfl⟩
  have HL := hid hl
  have HKP := hid (fun W (h : Below w2.heap.size w2 W) S (hm : Marks W S N fun q => comesF rs sn q && goesF rs fs q) (hg : goesF rs fs sn = true) => show Calls Tryz.prog 34 #[dsc i o (N : Int) (sn : Int) A rs.length cr B fs.length cf, .slice (some ⟨S, 0, none⟩) N N] W (KeptD i o sn l rs fs W) from by
    rw [← hl]
    exact keep_any N i o sn A cr B cf rs fs (fun q => comesF rs sn q && goesF rs fs q) S W hm (hd.below (HBW.out W h)) hR (by
      rw [hg, Bool.and_true]
      exact reachB_iff.2 (.first (by simp))))
  clear hl
  obtain ⟨p0, p1, p2, p3, p4, p5⟩ := HDB.out w2 (Below.refl _ _)
  have HN1 := hid hNN.2
  clear hd hT hw hb2 hqd hqz hR hst hsf hfl hNN
  go_enter Tryz.func20, Tryz.ntmps20
  go_wp2_with (fail)
  refine HC.out.mono ?_
  rintro e w3 ⟨rfl, hb3⟩
  have H3 := hid hb3
  clear hb3 p0 p1 p2 p3 p4 p5
  obtain ⟨p0, p1, p2, p3, p4, p5⟩ := HDB.out w3 H3.out
  go_wp2_with (fail)
  refine (HGO.out w3 H3.out).mono ?_
  rintro e w4 ⟨S, hS, rfl, ho, hb4⟩
  have H4 := hid (below_t H3.out hb4)
  have HM4 := hid (show Marks w4 S N (goesF rs fs) from ho)
  have hgc := HM4.out.cell hsn
  have i1 : (0 : Int) ≤ (sn : Int) := Int.natCast_nonneg _
  have i2 : (sn : Int) < (N : Int) := by omega
  clear hb4 ho p0 p1 p2 p3 p4 p5
  obtain ⟨p0, p1, p2, p3, p4, p5⟩ := HDB.out w4 H4.out
  cases hg : goesF rs fs sn with
  | false =>
    rw [hg] at hgc
    have HG := hid hg
    clear hg
    go_wp2_with (fail)
    refine (empty_any i o w4).mono ?_
    rintro e w5 ⟨rfl, hb5⟩
    have HZ5 := hid (HZ.out w5 (below_t H4.out hb5))
    have HB5 := hid (HBW.out w5 (below_t H4.out hb5))
    clear hb5 hgc p0 p1 p2 p3 p4 p5
    have z0 := HZ5.out.cell 0
    have y0 := HZ5.out.frozen 0
    have z1 := HZ5.out.cell 1
    have y1 := HZ5.out.frozen 1
    have z2 := HZ5.out.cell 2
    have y2 := HZ5.out.frozen 2
    have z3 := HZ5.out.cell 3
    have y3 := HZ5.out.frozen 3
    have z4 := HZ5.out.cell 4
    have y4 := HZ5.out.frozen 4
    have z5 := HZ5.out.cell 5
    have y5 := HZ5.out.frozen 5
    simp only [sD, sE, sF] at z0 z1 z2 z3 z4 z5
    go_wp2_with (fail)
    obtain ⟨wE, hwE⟩ : ∃ wE, ((((((w5.setCell ⟨w.heap.size + 1, 0, none⟩ (.int .i64 i)).setCell ⟨w.heap.size + 1, 1, none⟩ (.int .i64 o)).setCell ⟨w.heap.size + 1, 2, none⟩ (.int .i64 1)).setCell ⟨w.heap.size + 1, 3, none⟩ (.int .i64 0)).setCell ⟨w.heap.size + 1, 4, none⟩ (.slice none 0 0)).setCell ⟨w.heap.size + 1, 5, none⟩ (.slice none 0 0)) = wE := ⟨_, rfl⟩
    have hqE : Blk wE (w.heap.size + 1) 26 #[.int .i64 i, .int .i64 o, .int .i64 1, .int .i64 0, .slice none 0 0, .slice none 0 0] := by
      rw [← hwE]
      exact ((((((HZ5.out.set_ 0 _).set_ 1 _).set_ 2 _).set_ 3 _).set_ 4 _).set_ 5 _)
    have hbE : Below w.heap.size w wE := by
      rw [← hwE]
      exact (((((HB5.out.setCell (by simp) _).setCell (by simp) _).setCell (by simp) _).setCell (by simp) _).setCell (by simp) _).setCell (by simp) _
    have hother : ∀ g, g ≠ w.heap.size + 1 → wE.heap[g]? = w5.heap[g]? := fun g hg => by
      rw [← hwE]
      rw [heap_setCell_other _ ⟨w.heap.size + 1, 5, none⟩ g _ hg, heap_setCell_other _ ⟨w.heap.size + 1, 4, none⟩ g _ hg, heap_setCell_other _ ⟨w.heap.size + 1, 3, none⟩ g _ hg, heap_setCell_other _ ⟨w.heap.size + 1, 2, none⟩ g _ hg, heap_setCell_other _ ⟨w.heap.size + 1, 1, none⟩ g _ hg, heap_setCell_other _ ⟨w.heap.size + 1, 0, none⟩ g _ hg]
    have k0 := hqE.cell 0
    have k1 := hqE.cell 1
    have k2 := hqE.cell 2
    have k3 := hqE.cell 3
    have k4 := hqE.cell 4
    have k5 := hqE.cell 5
    simp only [sD, sE, sF] at k0 k1 k2 k3 k4 k5
    try rw [hwE]
    have HPOST : TrimOut i o N sn rs fs w (.returned (.tuple #[dsc i o 1 0 none 0 0 none 0 0, .int .i64 0])) wE := ⟨hbE, .inl ⟨HG.out, rfl⟩⟩
    exact bodyPost_ret (v := .tuple #[dsc i o 1 0 none 0 0 none 0 0, .int .i64 0]) (by simp [results, Tryz.results20, go_sem, k0, k1, k2, k3, k4, k5]) rfl HPOST
  | true =>
    rw [hg] at hgc
    have HG := hid hg
    clear hg
    go_upto_region 7 with (fail)
    clear hgc p0 p1 p2 p3 p4 p5
    obtain ⟨we, hwe⟩ : ∃ we, w4.drew = we := ⟨_, rfl⟩
    have hB2 : Below w2.heap.size w2 we := by rw [← hwe]; exact H4.out.drew
    have hM : Marks we S N (goesF rs fs) := by rw [← hwe]; exact HM4.out.keep (Below.refl _ _).drew
    refine wp_region_held_drew (S := fun W => Blk W w.heap.size 26 #[.int .i64 i, .int .i64 o, .int .i64 (N : Int), .int .i64 (sn : Int), .slice A rs.length cr, .slice B fs.length cf]) (by kernel_rfl) (by rw [hwe]; exact HQD.out _ hB2) (fun hHeld => ?_)
    rw [hwe] at hHeld ⊢
    refine wpAnyH_take (i := 0) (oi := ⟨some 25, .load 26 (.tmp 1), 26, "trim.go:39", #[], none⟩) (v := ?_) rfl (by kernel_rfl) (by kernel_rfl) (by kernel_rfl) (fun _ _ _ h => h) (Or.inl ⟨by rfl, ?_⟩) (by assumption) ?_
    rotate_left
    · intro w' hSw
      (try dsimp only at hSw)
      have p0 := hSw.cell 0
      have p1 := hSw.cell 1
      have p2 := hSw.cell 2
      have p3 := hSw.cell 3
      have p4 := hSw.cell 4
      have p5 := hSw.cell 5
      simp only [sD, sE, sF] at p0 p1 p2 p3 p4 p5
      go_simp
      all_goals with_reducible rfl
    try simp only [Act.put, sA, sB, sC]
    refine wpAnyH_take (i := 1) (oi := ⟨some 26, .load 26 (.tmp 1), 26, "trim.go:39", #[], none⟩) (v := ?_) rfl (by kernel_rfl) (by kernel_rfl) (by kernel_rfl) (fun _ _ _ h => h) (Or.inl ⟨by rfl, ?_⟩) (by assumption) ?_
    rotate_left
    · intro w' hSw
      (try dsimp only at hSw)
      have p0 := hSw.cell 0
      have p1 := hSw.cell 1
      have p2 := hSw.cell 2
      have p3 := hSw.cell 3
      have p4 := hSw.cell 4
      have p5 := hSw.cell 5
      simp only [sD, sE, sF] at p0 p1 p2 p3 p4 p5
      go_simp
      all_goals with_reducible rfl
    try simp only [Act.put, sA, sB, sC]
    refine wpAnyH_take (i := 3) (oi := ⟨some 28, .move (.tmp 5), 38, "trim.go:39", #[], none⟩) (v := ?_) rfl (by kernel_rfl) (by kernel_rfl) (by kernel_rfl) (fun _ _ _ h => h) (Or.inl ⟨by rfl, ?_⟩) (by assumption) ?_
    rotate_left
    · intro w' hSw
      (try dsimp only at hSw)
      have p0 := hSw.cell 0
      have p1 := hSw.cell 1
      have p2 := hSw.cell 2
      have p3 := hSw.cell 3
      have p4 := hSw.cell 4
      have p5 := hSw.cell 5
      simp only [sD, sE, sF] at p0 p1 p2 p3 p4 p5
      go_simp
      all_goals with_reducible rfl
    try simp only [Act.put, sA, sB, sC]
    refine wpAnyH_ready (rs := [2]) (by kernel_rfl) (by simp) ?_
    refine AllReadyH.cons (o := ⟨some 27, .call { callee := .value (.func 32), args := #[.tmp 26], argTypes := #[26] }, 38, "trim.go:39", #[⟨1, .data⟩], none⟩) rfl (fun K hK => ?_) AllReadyH.nil
    go_simp
    go_wp2_with (go_at_call 32; (with_reducible refine (HCM.out _ hB2).mono ?_); rintro e5 w5 ⟨T, hTS, rfl, ho5, hb5⟩)
    have hM5 : Marks w5 T N (comesF rs sn) := ho5
    have hM := hM.keep hb5
    have hB2 := below_t hB2 hb5
    clear ho5
    refine hK.out _ _ ?_ (fun hHeld => ?_)
    · exact HQD.out _ hB2
    clear hK K
    try simp only [Act.put, sA, sB, sC]
    refine wpAnyH_ready (rs := [4]) (by kernel_rfl) (by simp) ?_
    refine AllReadyH.cons (o := ⟨some 29, .call { callee := .value (.func 35), args := #[.tmp 27, .tmp 28], argTypes := #[38, 38] }, 38, "trim.go:39", #[⟨2, .data⟩, ⟨3, .data⟩, ⟨2, .chain⟩], none⟩) rfl (fun K hK => ?_) AllReadyH.nil
    go_simp
    go_wp2_with (go_at_call 35; (with_reducible refine (both_any (comesF rs sn) (goesF rs fs) N T S w5 hM5 hM HN1.out).mono ?_); rintro e6 w6 ⟨rfl, hM6, hb6⟩)
    have hB2 := below_t hB2 hb6
    refine hK.out _ _ ?_ (fun hHeld => ?_)
    · exact HQD.out _ hB2
    clear hK K
    try simp only [Act.put, sA, sB, sC]
    refine wpAnyH_ready (rs := [5]) (by kernel_rfl) (by simp) ?_
    refine AllReadyH.cons (o := ⟨some 30, .call { callee := .value (.func 34), args := #[.tmp 25, .tmp 29], argTypes := #[26, 38] }, 26, "trim.go:39", #[⟨0, .data⟩, ⟨4, .data⟩, ⟨4, .chain⟩], none⟩) rfl (fun K hK => ?_) AllReadyH.nil
    go_simp
    go_wp2_with (go_at_call 34; (with_reducible refine (HKP.out _ hB2 _ hM6 HG.out).mono ?_); rintro e7 w7 ⟨hb7, A', cr', B', cf', rfl, hdm⟩)
    have hs6 := hB2.size
    have hB2 := below_t hB2 hb7
    obtain ⟨ns, hns⟩ : ∃ ns, numL l sn = ns := ⟨_, rfl⟩
    have HNS := hid hns
    rw [hns] at hdm ⊢
    clear hns
    refine hK.out _ _ ?_ (fun hHeld => ?_)
    · exact HQD.out _ hB2
    clear hK K
    try simp only [Act.put, sA, sB, sC]
    have HZ7 := hid (HZ.out w7 hB2)
    have HDMM := hid hdm
    have HB7 := hid hB2
    have HS6 := hid hs6
    clear hdm hM hM5 hM6 hb5 hb6 hb7 hB2 hs6 hwe hTS
    have z0 := HZ7.out.cell 0
    have y0 := HZ7.out.frozen 0
    have z1 := HZ7.out.cell 1
    have y1 := HZ7.out.frozen 1
    have z2 := HZ7.out.cell 2
    have y2 := HZ7.out.frozen 2
    have z3 := HZ7.out.cell 3
    have y3 := HZ7.out.frozen 3
    have z4 := HZ7.out.cell 4
    have y4 := HZ7.out.frozen 4
    have z5 := HZ7.out.cell 5
    have y5 := HZ7.out.frozen 5
    simp only [sD, sE, sF] at z0 z1 z2 z3 z4 z5
    refine wpAnyH_ready (rs := [6]) (by kernel_rfl) (by simp) ?_
    refine AllReadyH.cons (o := ⟨none, .store 26 (.tmp 2) (.tmp 30), 0, "trim.go:39", #[⟨5, .data⟩, ⟨5, .chain⟩, ⟨0, .phase⟩, ⟨1, .phase⟩, ⟨2, .phase⟩, ⟨3, .phase⟩, ⟨4, .phase⟩, ⟨5, .phase⟩], none⟩) rfl (fun K hK => ?_) AllReadyH.nil
    go_wp2_with (fail)
    obtain ⟨wE, hwE⟩ : ∃ wE, ((((((w7.setCell ⟨w.heap.size + 1, 0, none⟩ (.int .i64 i)).setCell ⟨w.heap.size + 1, 1, none⟩ (.int .i64 o)).setCell ⟨w.heap.size + 1, 2, none⟩ (.int .i64 (l.length : Int))).setCell ⟨w.heap.size + 1, 3, none⟩ (.int .i64 (ns : Int))).setCell ⟨w.heap.size + 1, 4, none⟩ (.slice A' (trR l rs).length cr')).setCell ⟨w.heap.size + 1, 5, none⟩ (.slice B' (trF l fs).length cf')) = wE := ⟨_, rfl⟩
    have hqE : Blk wE (w.heap.size + 1) 26 #[.int .i64 i, .int .i64 o, .int .i64 (l.length : Int), .int .i64 (ns : Int), .slice A' (trR l rs).length cr', .slice B' (trF l fs).length cf'] := by
      rw [← hwE]
      exact ((((((HZ7.out.set_ 0 _).set_ 1 _).set_ 2 _).set_ 3 _).set_ 4 _).set_ 5 _)
    have hbE : Below w.heap.size w wE := by
      rw [← hwE]
      exact (((((((HBW.out w7 HB7.out).setCell (by simp) _).setCell (by simp) _).setCell (by simp) _).setCell (by simp) _).setCell (by simp) _).setCell (by simp) _)
    have hother : ∀ g, g ≠ w.heap.size + 1 → wE.heap[g]? = w7.heap[g]? := fun g hg => by
      rw [← hwE]
      rw [heap_setCell_other _ ⟨w.heap.size + 1, 5, none⟩ g _ hg, heap_setCell_other _ ⟨w.heap.size + 1, 4, none⟩ g _ hg, heap_setCell_other _ ⟨w.heap.size + 1, 3, none⟩ g _ hg, heap_setCell_other _ ⟨w.heap.size + 1, 2, none⟩ g _ hg, heap_setCell_other _ ⟨w.heap.size + 1, 1, none⟩ g _ hg, heap_setCell_other _ ⟨w.heap.size + 1, 0, none⟩ g _ hg]
    have hsE : wE.heap.size = w7.heap.size := by rw [← hwE]; simp
    try rw [hwE]
    refine hK.out _ _ ?_ (fun hHeld => ?_)
    · exact Blk_keep (HQD.out _ HB7.out) (hother w.heap.size (by omega))
    clear hK K
    try simp only [Act.put, sA, sB, sC]
    refine wpAnyH_take (i := 7) (oi := ⟨some 3, .assign (.const (Go.Value.int IntKind.i64 0)), 29, "trim.go:39", #[⟨6, .chain⟩, ⟨0, .phase⟩, ⟨1, .phase⟩, ⟨2, .phase⟩, ⟨3, .phase⟩, ⟨4, .phase⟩, ⟨5, .phase⟩, ⟨6, .phase⟩], none⟩) (v := ?_) rfl (by kernel_rfl) (by kernel_rfl) (by kernel_rfl) (fun _ _ _ h => h) (Or.inl ⟨by rfl, ?_⟩) (by assumption) ?_
    rotate_left
    · intro w' hSw
      (try dsimp only at hSw)
      have p0 := hSw.cell 0
      have p1 := hSw.cell 1
      have p2 := hSw.cell 2
      have p3 := hSw.cell 3
      have p4 := hSw.cell 4
      have p5 := hSw.cell 5
      simp only [sD, sE, sF] at p0 p1 p2 p3 p4 p5
      go_simp
      all_goals with_reducible rfl
    try simp only [Act.put, sA, sB, sC]
    refine wpAnyH_done (by kernel_rfl) ?_ _
    have k0 := hqE.cell 0
    have k1 := hqE.cell 1
    have k2 := hqE.cell 2
    have k3 := hqE.cell 3
    have k4 := hqE.cell 4
    have k5 := hqE.cell 5
    simp only [sD, sE, sF] at k0 k1 k2 k3 k4 k5
    have hdE : DM wE ⟨i, o, (l.length : Int), (ns : Int), A', cr', B', cf', trR l rs, trF l fs⟩ := HDMM.out wE (by rw [hsE]; exact Nat.le_refl _) (fun g hg _ => hother g (by have := HS6.out; omega))
    have HPOST : TrimOut i o N sn rs fs w (.returned (.tuple #[dsc i o (l.length : Int) (ns : Int) A' (trR l rs).length cr' B' (trF l fs).length cf', .int .i64 0])) wE := ⟨hbE, .inr ⟨HG.out, by rw [HL.out, HNS.out]; exact ⟨A', cr', B', cf', rfl, hdE⟩⟩⟩
    clear hdE hother
    go_wp2_with (fail)
    exact bodyPost_ret (v := .tuple #[dsc i o (l.length : Int) (ns : Int) A' (trR l rs).length cr' B' (trF l fs).length cf', .int .i64 0]) (by simp [results, Tryz.results20, go_sem, k0, k1, k2, k3, k4, k5]) rfl HPOST
open Go.Lib (hid)
def exR9 : List RuL:=[⟨0,1,[[(97,97)]],1,[]⟩,⟨0,2,[[(98,98)]],1,[]⟩]
def exF9 : List FiL:=[⟨1,[],[]⟩]
theorem guard_one {x : Int} (h0 : 0≤x) (h1 : x≤255) : guardsB 1 [[(x,x)]] = true:=by
 unfold guardsB guardB
 have h2 : plainB [(x,x)] = true:=plainB_true ⟨List.pairwise_singleton _ _,fun p hp=>by obtain rfl:=List.mem_singleton.1 hp;unfold Ok;simp only;omega⟩
 have h3 : subB 1 [(x,x)] = true:=by
  unfold subB
  refine @decide_eq_true _ (Classical.propDecidable _) fun y h=>?_
  obtain ⟨hy,p,hp,k1,k2⟩:=h.1
  obtain rfl:=List.mem_singleton.1 hp
  simp only at k1 k2
  exact h.2 ⟨hy,(0,255),by simp [domL],by simp only;omega,by simp only;omega⟩
 simp only [List.all_cons,List.all_nil,h2,h3]
 simp
theorem one_rule {x t : Int} (h0 : 0≤x) (h1 : x≤255) (ht : 0≤t∧t < 3) : ruleB 1 3 (fitF 1 1) ⟨0,t,[[(x,x)]],1,[]⟩ = true:=by
 have e1 : stB 3 0 = true:=stB_t (by omega) (by omega)
 unfold ruleB eatB termsB
 dsimp only
 rw [e1,stB_t ht.1 ht.2,guard_one h0 h1]
 simp
theorem ex9_where : whereD 1 1 3 0 exR9 exF9 = (0,0):=
 where_zero (by unfold headB;rw [sort_one (.inl rfl)];decide) (fun r hr=>by
  rcases (show r = ⟨0,1,[[(97,97)]],1,[]⟩∨r = ⟨0,2,[[(98,98)]],1,[]⟩ by simpa [exR9] using hr) with rfl | rfl
  ·exact one_rule (by omega) (by omega) ⟨by omega,by omega⟩
  ·exact one_rule (by omega) (by omega) ⟨by omega,by omega⟩) (fun f hf=>by
  obtain rfl:=List.mem_singleton.1 hf
  exact empty_final ⟨by omega,by omega⟩) (by
  have he : epsE exR9 = []:=by decide
  rw [he]
  exact cyc_nil _)
theorem ex9_edges : exR9.map edg = [(0,1),(0,2)]:=by decide
theorem ex9_back : exR9.map edgB = [(1,0),(2,0)]:=by decide
theorem ex9_comes {q : Nat} (h : q < 3) : comesF exR9 0 q = true:=by
 unfold comesF
 rw [ex9_edges,reachB_iff]
 have h0 : Reach [(0,1),(0,2)] [0] 0:=.first (by simp)
 rcases (show q = 0∨q = 1∨q = 2 by omega) with rfl | rfl | rfl
 ·exact h0
 ·exact .step (e:=(0,1)) (by simp) h0
 ·exact .step (e:=(0,2)) (by simp) h0
theorem ex9_goes : goesF exR9 exF9 0 = true∧goesF exR9 exF9 1 = true∧goesF exR9 exF9 2 = false:=by
 unfold goesF
 rw [ex9_back]
 have h1 : Reach [(1,0),(2,0)] (exF9.map fun f=>f.frm.toNat) 1:=.first (by decide)
 refine ⟨reachB_iff.2 (.step (e:=(1,0)) (by simp) h1),reachB_iff.2 h1,?_⟩
 rw [Bool.eq_false_iff]
 intro h
 have key : ∀ q,Reach [(1,0),(2,0)] (exF9.map fun f=>f.frm.toNat) q→q = 0∨q = 1:=fun q hq=>by
  induction hq with
  | first hm=>exact .inr (by simpa [exF9] using hm)
  | step he _ _=>
   rcases (show _ = (1,0)∨_ = (2,0) by simpa using he) with rfl | rfl <;> exact .inl rfl
 rcases key 2 (reachB_iff.1 h) with q | q <;> omega
theorem ex9_range : List.range 3 = [0,1,2]:=by decide
theorem ex9_listC : (List.range 3).filter (comesF exR9 0) = [0,1,2]:=by
 rw [List.filter_eq_self.2 fun q hq=>ex9_comes (List.mem_range.1 hq),ex9_range]
theorem ex9_listG : (List.range 3).filter (goesF exR9 exF9) = [0,1]:=by
 obtain ⟨h0,h1,h2⟩:=ex9_goes
 rw [ex9_range]
 simp [h0,h1,h2]
theorem ex9_kept : keptL 3 0 exR9 exF9 = [0,1]:=by
 obtain ⟨h0,h1,h2⟩:=ex9_goes
 unfold keptL
 rw [ex9_range]
 simp [h0,h1,h2,ex9_comes]
theorem lit_RS1 {W : World} {b : Nat} {x : Int} (h : Blk W b 47 #[.int .i64 x,.int .i64 x]) : RS W W.heap.size (some ⟨b,0,none⟩) 1 [(x,x)]:=
 ⟨rfl,fun _=>⟨b,0,rfl,h.lt,fun j hj=>by
  obtain rfl : j = 0:=by simp at hj;omega
  exact ⟨h.cell 0,h.cell 1⟩⟩⟩
theorem lit_RG1 {W : World} {b g : Nat} {x : Int} (h : Blk W b 47 #[.int .i64 x,.int .i64 x]) (hg : Blk W g 48 #[.slice (some ⟨b,0,none⟩) 1 1]) : RGs W (some ⟨g,0,none⟩) 1 [[(x,x)]]:=
 ⟨rfl,fun _=>⟨g,0,rfl,hg.lt,fun j hj=>by
  obtain rfl : j = 0:=by simp at hj;omega
  exact ⟨some ⟨b,0,none⟩,1,hg.cell 0,lit_RS1 h,Nat.le_refl _,fun e=>by cases e⟩⟩⟩
theorem lit_exR9 {W : World} {b1 g1 b2 g2 r : Nat} (h1 : Blk W b1 47 #[.int .i64 97,.int .i64 97]) (k1 : Blk W g1 48 #[.slice (some ⟨b1,0,none⟩) 1 1]) (h2 : Blk W b2 47 #[.int .i64 98,.int .i64 98]) (k2 : Blk W g2 48 #[.slice (some ⟨b2,0,none⟩) 1 1])
  (hr : Blk W r 50 #[.int .i64 0,.int .i64 1,.slice (some ⟨g1,0,none⟩) 1 1,.int .i64 1,.slice none 0 0,.int .i64 0,.int .i64 2,.slice (some ⟨g2,0,none⟩) 1 1,.int .i64 1,.slice none 0 0]) : RRu W (some ⟨r,0,none⟩) 2 exR9:=
 ⟨rfl,fun _=>⟨r,0,rfl,hr.lt,fun j hj=>by
  have hm : (1 : Nat)≤maxLen:=by simp only [maxLen];decide
  rcases (show j = 0∨j = 1 by simp [exR9] at hj;omega) with rfl | rfl
  ·exact ⟨hr.cell 0,hr.cell 1,hr.cell 3,⟨some ⟨g1,0,none⟩,1,hr.cell 2,lit_RG1 h1 k1,Nat.le_refl _,hm,fun g hg=>by
    obtain rfl : g = [(97,97)]:=by simpa [exR9] using hg
    exact hm⟩,none,0,hr.cell 4,RTm.nil_ _ _,Nat.le_refl _,Nat.zero_le _,by show IntR 1;unfold IntR;omega⟩
  ·exact ⟨hr.cell 5,hr.cell 6,hr.cell 8,⟨some ⟨g2,0,none⟩,1,hr.cell 7,lit_RG1 h2 k2,Nat.le_refl _,hm,fun g hg=>by
    obtain rfl : g = [(98,98)]:=by simpa [exR9] using hg
    exact hm⟩,none,0,hr.cell 9,RTm.nil_ _ _,Nat.le_refl _,Nat.zero_le _,by show IntR 1;unfold IntR;omega⟩⟩⟩
theorem lit_exF9 {W : World} {bf : Nat} (hf : Blk W bf 45 #[.int .i64 1,.slice none 0 0,.slice none 0 0]) : RFi W (some ⟨bf,0,none⟩) 1 exF9:=
 ⟨rfl,fun _=>⟨bf,0,rfl,hf.lt,fun j hj=>by
  obtain rfl : j = 0:=by simp [exF9] at hj;omega
  exact ⟨hf.cell 0,⟨none,0,hf.cell 1,RGs.nil_ _ _,Nat.le_refl _,Nat.zero_le _,fun g hg=>by cases hg⟩,none,0,hf.cell 2,RTm.nil_ _ _,Nat.le_refl _,Nat.zero_le _⟩⟩⟩
theorem nilT_blk {W : World} {g m k n : Nat} {t : TypeId} {cs : Array Value} (h : Blk W g t cs) (hc : ∀ j,j < n→∀ l c,cs[j * m + k]? = some (.slice none l c)→c = 0) : NilT W (some ⟨g,0,none⟩) n m k:=fun b off e j hj l c hjc=>by
 injection e with e
 injection e with e1 e2
 subst e1 e2
 refine hc j hj l c ?_
 rw [← hjc,Nat.zero_add]
 exact (h.cell (j * m + k)).symm
set_option maxHeartbeats 8000000 in
theorem awake_any (w : World) (hT : Fi.TabB w) : Calls Tryz.prog 14 #[] w (RetB true w):=by
 obtain ⟨u1,hu1,qu1,lu1,bu1⟩:=new_cells w #[.int .i64 97,.int .i64 97] 47
 have su1 : u1.heap.size = w.heap.size + 1:=by rw [← hu1,World.size_alloc]
 obtain ⟨u2,hu2,qu2,lu2,bu2⟩:=new_cells u1 #[.slice (some ⟨w.heap.size,0,none⟩) 1 1] 48
 have su2 : u2.heap.size = w.heap.size + 1 + 1:=by rw [← hu2,World.size_alloc,su1]
 rw [su1] at qu2
 obtain ⟨u3,hu3,qu3,lu3,bu3⟩:=new_cells u2 #[.int .i64 98,.int .i64 98] 47
 have su3 : u3.heap.size = w.heap.size + 1 + 1 + 1:=by rw [← hu3,World.size_alloc,su2]
 rw [su2] at qu3
 obtain ⟨u4,hu4,qu4,lu4,bu4⟩:=new_cells u3 #[.slice (some ⟨w.heap.size + 1 + 1,0,none⟩) 1 1] 48
 have su4 : u4.heap.size = w.heap.size + 1 + 1 + 1 + 1:=by rw [← hu4,World.size_alloc,su3]
 rw [su3] at qu4
 obtain ⟨u5,hu5,qu5,lu5,bu5⟩:=new_cells u4 #[.int .i64 1,.slice none 0 0,.slice none 0 0] 45
 have su5 : u5.heap.size = w.heap.size + 1 + 1 + 1 + 1 + 1:=by rw [← hu5,World.size_alloc,su4]
 rw [su4] at qu5
 obtain ⟨u6,hu6,qu6,lu6,bu6⟩:=new_cells u5 #[.int .i64 0,.int .i64 1,.slice (some ⟨w.heap.size + 1,0,none⟩) 1 1,.int .i64 1,.slice none 0 0,.int .i64 0,.int .i64 2,.slice (some ⟨w.heap.size + 1 + 1 + 1,0,none⟩) 1 1,.int .i64 1,.slice none 0 0] 50
 have su6 : u6.heap.size = w.heap.size + 1 + 1 + 1 + 1 + 1 + 1:=by rw [← hu6,World.size_alloc,su5]
 rw [su5] at qu6
 obtain ⟨u7,hu7,qu7,lu7,bu7⟩:=new_cells u6 #[.int .i64 1,.int .i64 1,.int .i64 3,.int .i64 0,.slice (some ⟨w.heap.size + 1 + 1 + 1 + 1 + 1,0,none⟩) 2 2,.slice (some ⟨w.heap.size + 1 + 1 + 1 + 1,0,none⟩) 1 1] 26
 have su7 : u7.heap.size = w.heap.size + 1 + 1 + 1 + 1 + 1 + 1 + 1:=by rw [← hu7,World.size_alloc,su6]
 rw [su6] at qu7
 have qu1:=qu1.below bu2 (by omega)
 have qu1:=qu1.below bu3 (by omega)
 have qu1:=qu1.below bu4 (by omega)
 have qu1:=qu1.below bu5 (by omega)
 have qu1:=qu1.below bu6 (by omega)
 have qu1:=qu1.below bu7 (by omega)
 have qu2:=qu2.below bu3 (by omega)
 have qu2:=qu2.below bu4 (by omega)
 have qu2:=qu2.below bu5 (by omega)
 have qu2:=qu2.below bu6 (by omega)
 have qu2:=qu2.below bu7 (by omega)
 have qu3:=qu3.below bu4 (by omega)
 have qu3:=qu3.below bu5 (by omega)
 have qu3:=qu3.below bu6 (by omega)
 have qu3:=qu3.below bu7 (by omega)
 have qu4:=qu4.below bu5 (by omega)
 have qu4:=qu4.below bu6 (by omega)
 have qu4:=qu4.below bu7 (by omega)
 have qu5:=qu5.below bu6 (by omega)
 have qu5:=qu5.below bu7 (by omega)
 have qu6:=qu6.below bu7 (by omega)
 have B1:=bu1
 have B1:=B1.trans (bu2.mono (by omega))
 have B1:=B1.trans (bu3.mono (by omega))
 have B1:=B1.trans (bu4.mono (by omega))
 have B1:=B1.trans (bu5.mono (by omega))
 have B1:=B1.trans (bu6.mono (by omega))
 have B1:=B1.trans (bu7.mono (by omega))
 have HRW:=hid (lit_exR9 qu1 qu2 qu3 qu4 qu6)
 have HFW:=hid (lit_exF9 qu5)
 have HNR:=hid (nilT_blk (m:=5) (k:=4) (n:=2) qu6 (fun j hj l c e=>by
  rcases (show j = 0∨j = 1 by omega) with rfl | rfl
  ·simp at e;exact e.2.symm
  ·simp at e;exact e.2.symm))
 have HNF:=hid (nilT_blk (m:=3) (k:=2) (n:=1) qu5 (fun j hj l c e=>by
  obtain rfl : j = 0:=by omega
  simp at e;exact e.2.symm))
 have HQD:=hid (fun W (h : Below u7.heap.size u7 W)=>show DB W (w.heap.size + 1 + 1 + 1 + 1 + 1 + 1) 1 1 3 0 (some ⟨w.heap.size + 1 + 1 + 1 + 1 + 1,0,none⟩) 2 2 (some ⟨w.heap.size + 1 + 1 + 1 + 1,0,none⟩) 1 1 from by
  have h1:=qu7.below h (by omega)
  exact ⟨h1.cell 0,h1.cell 1,h1.cell 2,h1.cell 3,h1.cell 4,h1.cell 5⟩)
 have hsu:=su7
 have HB:=hid (fun W (h : Below u7.heap.size u7 W)=>show Below w.heap.size w W from B1.trans (h.mono (by omega)))
 have HTB:=hid (fun W (h : Below u7.heap.size u7 W)=>show Fi.TabB W from hT.next (B1.trans (h.mono (by omega))))
 have hmx : (2 : Nat)≤maxLen:=by simp only [maxLen];decide
 have hmx1 : (1 : Nat)≤maxLen:=by simp only [maxLen];decide
 have HDM:=hid (fun W (h : Below u7.heap.size u7 W)=>show DM W ⟨1,1,3,0,some ⟨w.heap.size + 1 + 1 + 1 + 1 + 1,0,none⟩,2,some ⟨w.heap.size + 1 + 1 + 1 + 1,0,none⟩,1,exR9,exF9⟩ from DM.below (w:=u7) ⟨HRW.out,hmx,HFW.out,hmx1,HNR.out,HNF.out⟩ h)
 have Hu1:=hid hu1
 have Hu2:=hid hu2
 have Hu3:=hid hu3
 have Hu4:=hid hu4
 have Hu5:=hid hu5
 have Hu6:=hid hu6
 have Hu7:=hid hu7
 clear hT hmx hmx1 B1 hu1 qu1 lu1 bu1 hu2 qu2 lu2 bu2 hu3 qu3 lu3 bu3 hu4 qu4 lu4 bu4 hu5 qu5 lu5 bu5 hu6 qu6 lu6 bu6 hu7 qu7 lu7 bu7
 clear su1 su2 su3 su4 su5 su6 su7
 have HST:=hid (show (∀ j (hj : j < exR9.length),stB (3 : Nat) exR9[j].frm = true∧stB (3 : Nat) exR9[j].to_ = true)∧∀ j (hj : j < exF9.length),stB (3 : Nat) exF9[j].frm = true from ⟨fun j hj=>by
  rcases (show j = 0∨j = 1 by simp [exR9] at hj;omega) with rfl | rfl <;> exact ⟨rfl,rfl⟩,fun j hj=>by
  obtain rfl : j = 0:=by simp [exF9] at hj;omega
  rfl⟩)
 have HCK:=hid (fun W (h : Below u7.heap.size u7 W)=>show Calls Tryz.prog 25 #[dsc 1 1 3 0 (some ⟨w.heap.size + 1 + 1 + 1 + 1 + 1,0,none⟩) 2 2 (some ⟨w.heap.size + 1 + 1 + 1 + 1,0,none⟩) 1 1] W (RetI 0 W) from by
  have h1:=checkD_any 1 1 3 0 (some ⟨w.heap.size + 1 + 1 + 1 + 1 + 1,0,none⟩) 2 (some ⟨w.heap.size + 1 + 1 + 1 + 1,0,none⟩) 1 exR9 exF9 W (HDM.out W h).rules (HDM.out W h).rl (HDM.out W h).finals (HDM.out W h).fl (HTB.out W h)
  rw [ex9_where] at h1
  exact h1)
 have HCO:=hid (fun W (h : Below u7.heap.size u7 W)=>Comes_ok 3 1 1 0 (some ⟨w.heap.size + 1 + 1 + 1 + 1 + 1,0,none⟩) 2 (some ⟨w.heap.size + 1 + 1 + 1 + 1,0,none⟩) 1 exR9 exF9 W (HDM.out W h).rules (HDM.out W h).finals (by decide) (by decide) ⟨by omega,by omega⟩ (by omega) HST.out.1 HST.out.2 (fun V hV=>HCK.out V (below_t h hV)))
 have HGO:=hid (fun W (h : Below u7.heap.size u7 W)=>GoesOn_ok 3 1 1 0 (some ⟨w.heap.size + 1 + 1 + 1 + 1 + 1,0,none⟩) 2 (some ⟨w.heap.size + 1 + 1 + 1 + 1,0,none⟩) 1 exR9 exF9 W (HDM.out W h).rules (HDM.out W h).finals (by decide) (by decide) ⟨by omega,by omega⟩ (by omega) HST.out.1 HST.out.2 (fun V hV=>HCK.out V (below_t h hV)))
 have HTR:=hid (fun W (h : Below u7.heap.size u7 W)=>trim_ok 1 1 3 0 (some ⟨w.heap.size + 1 + 1 + 1 + 1 + 1,0,none⟩) 2 (some ⟨w.heap.size + 1 + 1 + 1 + 1,0,none⟩) 1 exR9 exF9 W (HDM.out W h) (HTB.out W h) (by rw [show ((3 : Nat) : Int) = 3 from rfl,show ((0 : Nat) : Int) = 0 from rfl,ex9_where]) (by decide))
 rw [ex9_listC] at HCO
 rw [ex9_listG] at HGO
 go_enter Tryz.func14,Tryz.ntmps14
 go_upto_region 3 with (fail)
 rw [Hu1.out,Hu2.out,Hu3.out,Hu4.out,Hu5.out,Hu6.out,Hu7.out]
 obtain ⟨p0,p1,p2,p3,p4,p5⟩:=HQD.out u7 (Below.refl _ _)
 go_wp2_with (fail)
 refine (HCO.out u7 (Below.refl _ _)).mono ?_
 rintro e w1 ⟨v1,rfl,ho1,hb1⟩
 obtain ⟨A1,c1,hv1⟩:=own_shape ho1
 subst hv1
 have H1:=hid hb1
 clear hb1 ho1 p0 p1 p2 p3 p4 p5
 obtain ⟨p0,p1,p2,p3,p4,p5⟩:=HQD.out w1 H1.out
 go_wp2_with (fail)
 refine (HGO.out w1 H1.out).mono ?_
 rintro e w2 ⟨v2,rfl,ho2,hb2⟩
 obtain ⟨A2,c2,hv2⟩:=own_shape ho2
 subst hv2
 have H2:=hid (below_t H1.out hb2)
 clear hb2 ho2 p0 p1 p2 p3 p4 p5
 obtain ⟨p0,p1,p2,p3,p4,p5⟩:=HQD.out w2 H2.out
 go_wp2_with (fail)
 refine (HTR.out w2 H2.out).mono ?_
 rintro e w3 ⟨hb3,hto⟩
 have H3:=hid (below_t H2.out hb3)
 clear hb3 p0 p1 p2 p3 p4 p5
 rw [ex9_goes.1,ex9_kept] at hto
 rcases hto with ⟨h,_⟩ | ⟨_,A3,c3,B3,d3,rfl,_⟩
 ·cases h
 have hn : (([0,1] : List Nat).length : Int) = 2:=rfl
 have hm : ((trR [0,1] exR9).length : Int) = 1:=by decide
 have hm' : (trR [0,1] exR9).length = 1:=by decide
 rw [hm',hn]
 obtain ⟨w4,hw4,hq4,hl4,hb4⟩:=new_cells w3 #[.int .i64 1,.int .i64 1,.int .i64 2,.int .i64 (numL [0,1] 0 : Int),.slice A3 1 c3,.slice B3 (trF [0,1] exF9).length d3] 26
 have z2:=hq4.cell 2
 have z4:=hq4.cell 4
 simp only [List.getElem?_toArray,List.getElem?_cons_zero,List.getElem?_cons_succ] at z2 z4
 have HE:=hid (HB.out w4 (below_t H3.out hb4))
 clear hq4 hl4 hb4
 go_wp2_with (fail)
 go_ret
 exact ⟨rfl,HE.out⟩
theorem right_short {d : DV} (h : RightD d) : (∀ q∈d.rs,∀ g∈q.gs,g.length≤1099511627776)∧∀ q∈d.fs,∀ g∈q.gs,g.length≤1099511627776:=
 ⟨fun q hq g hg=>by have:=(h.rs q hq).2.2.2.2.2.1 g hg;omega,fun q hq g hg=>by have:=(h.fs q hq).2.2.2.1 g hg;omega⟩
structure KeptFacts (i o : Int) (N M s : Nat) (R : List RuL) (F : List FiL) : Prop where
 wh : whereD i o (M : Int) (s : Int) R F = (0,0)
 le : M≤N
 lt : s < M
 all : keptL M s R F = List.range M
 r : trR (List.range M) R = R
 f : trF (List.range M) F = F
 goes : goesF R F s = true
theorem kept_facts {i o : Int} {N s : Nat} {rs : List RuL} {fs : List FiL} (hw : (whereD i o (N : Int) (s : Int) rs fs).1 = 0) (hg : goesF rs fs s = true) : KeptFacts i o N (keptL N s rs fs).length (numL (keptL N s rs fs) s) (trR (keptL N s rs fs) rs) (trF (keptL N s rs fs) fs):=by
 have hR : RightD ⟨i,o,(N : Int),(s : Int),none,0,none,0,rs,fs⟩:=DV.right.rightD (d:=⟨i,o,(N : Int),(s : Int),none,0,none,0,rs,fs⟩) hw
 have hl : ∀ q∈keptL N s rs fs,q < N:=fun q hq=>(keptL_iff.1 hq).1
 have hsN : s < N:=by have:=hR.s.2;dsimp only at this;omega
 have hs : s∈keptL N s rs fs:=start_kept hsN hg
 have hrN : ∀ r∈rs,r.frm.toNat < N∧r.to_.toNat < N:=fun r hr=>by
  obtain ⟨h1,h2,h3,h4,_⟩:=hR.rs r hr
  dsimp only at h2 h4
  omega
 have hwh:=tr_right hw hl keptL_nodup hs
 have hR2 : RightD ⟨i,o,((keptL N s rs fs).length : Int),(numL (keptL N s rs fs) s : Int),none,0,none,0,trR (keptL N s rs fs) rs,trF (keptL N s rs fs) fs⟩:=DV.right.rightD (d:=⟨i,o,((keptL N s rs fs).length : Int),(numL (keptL N s rs fs) s : Int),none,0,none,0,trR (keptL N s rs fs) rs,trF (keptL N s rs fs) fs⟩) (show (whereD _ _ _ _ _ _).1 = 0 by rw [hwh])
 have hall:=kept_whole (s:=s) (fs:=fs) hrN
 refine ⟨hwh,nodup_len keptL_nodup hl,numL_lt hs,hall,trR_whole fun r hr=>?_,trF_whole fun f hf=>?_,?_⟩
 ·obtain ⟨h1,h2,h3,h4,_⟩:=hR2.rs r hr
  exact ⟨stB_t h1 h2,stB_t h3 h4⟩
 ·obtain ⟨h1,h2,_⟩:=hR2.fs f hf
  exact stB_t h1 h2
 ·have hm : numL (keptL N s rs fs) s∈keptL (keptL N s rs fs).length (numL (keptL N s rs fs) s) (trR (keptL N s rs fs) rs) (trF (keptL N s rs fs) fs):=by rw [hall];exact List.mem_range.2 (numL_lt hs)
  exact reachB_iff.2 (keptL_iff.1 hm).2.2
open Go.Lib (hid)
theorem numI_in {f g : Nat → Bool} {N q : Nat} (hq : q < N) (h : (f q && g q) = true) : numI f g q = (numL ((List.range N).filter fun x => f x && g x) q : Int) := by
  unfold numI
  rw [if_pos h, numL_filter (h := fun x => f x && g x) hq h]
theorem numI_out {f g : Nat → Bool} {q : Nat} (h : (f q && g q) = false) : numI f g q = -1 := by
  unfold numI
  rw [h]
  rfl
theorem kept_mem {N sn q : Nat} {rs : List RuL} {fs : List FiL} (hq : q < N) : q ∈ keptL N sn rs fs ↔ (comesF rs sn q && goesF rs fs q) = true := by
  unfold keptL
  rw [List.mem_filter, List.mem_range]
  exact ⟨fun h => h.2, fun h => ⟨hq, h⟩⟩
def RTrimOut (i o : Int) (N sn : Nat) (rs : List RuL) (fs : List FiL) (w : World) (e : Ending) (w' : World) : Prop := Below w.heap.size w w' ∧
  ((goesF rs fs sn = false ∧ e = .returned (dsc i o 1 0 none 0 0 none 0 0)) ∨
   (goesF rs fs sn = true ∧ ∃ A' cr' B' cf', e = .returned (dsc i o ((keptL N sn rs fs).length : Int) (numL (keptL N sn rs fs) sn : Int) A' (trR (keptL N sn rs fs) rs).length cr' B' (trF (keptL N sn rs fs) fs).length cf') ∧
     RRu w' A' (trR (keptL N sn rs fs) rs).length (trR (keptL N sn rs fs) rs) ∧ RFi w' B' (trF (keptL N sn rs fs) fs).length (trF (keptL N sn rs fs) fs)))
def CtRel (h : Nat → Bool) (N x : Nat) (i o s : Int) (wz : World) (iv : Value) (wr : World) : Prop :=
  ∃ k : Nat, k ≤ N ∧ iv = .int .i64 k ∧ DBox wr x i o (((List.range k).filter h).length : Int) s (.slice none 0 0) (.slice none 0 0) ∧ Below x wz wr
def TgRel (B0 x : Nat) (i o n s : Int) (l : List Nat) (rs : List RuL) (wz : World) (iv : Value) (wr : World) : Prop :=
  ∃ (k : Nat) (v : Value), k ≤ rs.length ∧ iv = .int .i64 k ∧ RJ B0 (x + 1) x i o n s (trR l (rs.take k)) [] v (.slice none 0 0) wr ∧ Below x wz wr
def TfRel (B0 x : Nat) (i o n s : Int) (l : List Nat) (rs : List RuL) (fs : List FiL) (wz : World) (v : Value) (iv : Value) (wr : World) : Prop :=
  ∃ (k : Nat) (vf : Value), k ≤ fs.length ∧ iv = .int .i64 k ∧ RJ B0 (x + 1) x i o n s (trR l rs) (trF l (fs.take k)) v vf wr ∧ Below x wz wr
set_option maxHeartbeats 32000000 in
theorem rtrim_any (i o : Int) (N sn : Nat) (A : Option Addr) (cr : Nat) (B : Option Addr) (cf : Nat) (rs : List RuL) (fs : List FiL) (w : World) (hd : DM w ⟨i, o, (N : Int), (sn : Int), A, cr, B, cf, rs, fs⟩) (hR : RightD ⟨i, o, (N : Int), (sn : Int), A, cr, B, cf, rs, fs⟩) :
    Calls Tryz.prog 21 #[dsc i o (N : Int) (sn : Int) A rs.length cr B fs.length cf] w (RTrimOut i o N sn rs fs w) := by
  obtain ⟨w2, hw2⟩ : ∃ w2, (w.alloc (.cells #[.int .i64 i, .int .i64 o, .int .i64 (N : Int), .int .i64 (sn : Int), .slice A rs.length cr, .slice B fs.length cf] 26)).alloc (.cells #[.int .i64 0, .int .i64 0, .int .i64 0, .int .i64 0, .slice none 0 0, .slice none 0 0] 26) = w2 := ⟨_, rfl⟩
  have hs2 : w2.heap.size = w.heap.size + 2 := by rw [← hw2]; simp
  have hb2 : Below w.heap.size w w2 := by rw [← hw2]; exact ((Below.refl _ _).alloc (Nat.le_refl _) _).alloc (by simp) _
  have hqd : Blk w2 w.heap.size 26 #[.int .i64 i, .int .i64 o, .int .i64 (N : Int), .int .i64 (sn : Int), .slice A rs.length cr, .slice B fs.length cf] := by
    rw [← hw2]
    exact (show Blk _ _ _ _ from heap_alloc_new w _).alloc _
  have hqz : Blk w2 (w.heap.size + 1) 26 #[.int .i64 0, .int .i64 0, .int .i64 0, .int .i64 0, .slice none 0 0, .slice none 0 0] := by
    rw [← hw2]
    have h := heap_alloc_new (w.alloc (.cells #[.int .i64 i, .int .i64 o, .int .i64 (N : Int), .int .i64 (sn : Int), .slice A rs.length cr, .slice B fs.length cf] 26)) (.cells #[.int .i64 0, .int .i64 0, .int .i64 0, .int .i64 0, .slice none 0 0, .slice none 0 0] 26)
    rw [World.size_alloc] at h
    exact h
  have H2 := hid (show w.heap.size ≤ w2.heap.size by omega)
  have HBW := hid (fun W (h : Below w2.heap.size w2 W) => show Below w.heap.size w W from hb2.trans (h.mono H2.out))
  have HQD := hid (fun W (h : Below w2.heap.size w2 W) => show Blk W w.heap.size 26 #[.int .i64 i, .int .i64 o, .int .i64 (N : Int), .int .i64 (sn : Int), .slice A rs.length cr, .slice B fs.length cf] from hqd.below h (by omega))
  have HDB := hid (fun W (h : Below w2.heap.size w2 W) => show DB W w.heap.size i o (N : Int) (sn : Int) A rs.length cr B fs.length cf from by
    have h1 := HQD.out W h
    exact ⟨h1.cell 0, h1.cell 1, h1.cell 2, h1.cell 3, h1.cell 4, h1.cell 5⟩)
  have HZ := hid (fun W (h : Below w2.heap.size w2 W) => show Blk W (w.heap.size + 1) 26 #[.int .i64 0, .int .i64 0, .int .i64 0, .int .i64 0, .slice none 0 0, .slice none 0 0] from hqz.below h (by omega))
  have HD := hid hd
  have hNN : 1 ≤ N ∧ N ≤ 1024 := by have h1 := hR.n; dsimp only at h1; omega
  have hsn : sn < N := by have h1 := hR.s.2; dsimp only at h1; omega
  have hst : ∀ j (hj : j < rs.length), stB N rs[j].frm = true ∧ stB N rs[j].to_ = true := fun j hj => by
    obtain ⟨h1, h2, h3, h4, _⟩ := hR.rs rs[j] (List.getElem_mem hj)
    exact ⟨stB_t h1 h2, stB_t h3 h4⟩
  have hsf : ∀ j (hj : j < fs.length), stB N fs[j].frm = true := fun j hj => by
    obtain ⟨h1, h2, _⟩ := hR.fs fs[j] (List.getElem_mem hj)
    exact stB_t h1 h2
  have HR := hid hR
  have HRC := hid (fun W (h : Below w2.heap.size w2 W) => rcomes_any N i o sn A cr B cf rs fs W (hd.below (HBW.out W h)).rules (hd.below (HBW.out W h)).finals hR.r hR.f hNN hsn hst hsf)
  have HRG := hid (fun W (h : Below w2.heap.size w2 W) => rgoes_any N i o sn A cr B cf rs fs W (hd.below (HBW.out W h)).rules (hd.below (HBW.out W h)).finals hR.r hR.f hNN hsn hst hsf)
  obtain ⟨hN1, hN2⟩ := hNN
  clear hd hR hst hsf hb2 hqd hqz
  go_enter Tryz.func21, Tryz.ntmps21
  go_upto_region 1 with (fail)
  try rw [hw2]
  go_cut [3, 4] (fun a b wx => ∃ S1 S2, a = .slice (some ⟨S1, 0, none⟩) N N ∧ b = .slice (some ⟨S2, 0, none⟩) N N ∧ Marks wx S1 N (comesF rs sn) ∧ Marks wx S2 N (goesF rs fs) ∧ Below w2.heap.size w2 wx)
  case first =>
    obtain ⟨we, hwe⟩ : ∃ we, w2.drew = we := ⟨_, rfl⟩
    have hB : Below w2.heap.size w2 we := by rw [← hwe]; exact (Below.refl _ _).drew
    refine wp_region_held_drew (S := fun W => Blk W w.heap.size 26 #[.int .i64 i, .int .i64 o, .int .i64 (N : Int), .int .i64 (sn : Int), .slice A rs.length cr, .slice B fs.length cf]) (by kernel_rfl) (by rw [hwe]; exact HQD.out _ hB) (fun hHeld => ?_)
    rw [hwe] at hHeld ⊢
    refine wpAnyH_take (i := 0) (oi := ⟨some 14, .load 26 (.tmp 1), 26, "ref.go:56", #[], none⟩) (v := ?_) rfl (by kernel_rfl) (by kernel_rfl) (by kernel_rfl) (fun _ _ _ h => h) (Or.inl ⟨by rfl, ?_⟩) (by assumption) ?_
    rotate_left
    · intro w' hSw
      (try dsimp only at hSw)
      have p0 := hSw.cell 0
      have p1 := hSw.cell 1
      have p2 := hSw.cell 2
      have p3 := hSw.cell 3
      have p4 := hSw.cell 4
      have p5 := hSw.cell 5
      simp only [sD, sE, sF] at p0 p1 p2 p3 p4 p5
      go_simp
      all_goals with_reducible rfl
    try simp only [Act.put, sA, sB, sC]
    refine wpAnyH_take (i := 2) (oi := ⟨some 16, .load 26 (.tmp 1), 26, "ref.go:56", #[], none⟩) (v := ?_) rfl (by kernel_rfl) (by kernel_rfl) (by kernel_rfl) (fun _ _ _ h => h) (Or.inl ⟨by rfl, ?_⟩) (by assumption) ?_
    rotate_left
    · intro w' hSw
      (try dsimp only at hSw)
      have p0 := hSw.cell 0
      have p1 := hSw.cell 1
      have p2 := hSw.cell 2
      have p3 := hSw.cell 3
      have p4 := hSw.cell 4
      have p5 := hSw.cell 5
      simp only [sD, sE, sF] at p0 p1 p2 p3 p4 p5
      go_simp
      all_goals with_reducible rfl
    try simp only [Act.put, sA, sB, sC]
    refine wpAnyH_ready (rs := [1]) (by kernel_rfl) (by simp) ?_
    refine (AllReadyH.cons (o := ⟨some 15, .call { callee := .value (.func 18), args := #[.tmp 14], argTypes := #[26] }, 38, "ref.go:56", #[⟨0, .data⟩], none⟩) rfl (fun K hK => ?_) AllReadyH.nil)
    go_simp
    go_wp2_with (go_at_call 18; (with_reducible refine (HRC.out _ hB).mono ?_); rintro e5 wa ⟨S1, hS1, rfl, ho1, hbwa⟩)
    have hm1 : Marks wa S1 N (comesF rs sn) := ho1
    have hB := below_t hB hbwa
    clear ho1
    refine hK.out _ _ ?_ (fun hHeld => ?_)
    · exact HQD.out _ hB
    clear hK K
    try simp only [Act.put, sA, sB, sC]
    refine wpAnyH_ready (rs := [3]) (by kernel_rfl) (by simp) ?_
    refine (AllReadyH.cons (o := ⟨some 17, .call { callee := .value (.func 19), args := #[.tmp 16], argTypes := #[26] }, 38, "ref.go:56", #[⟨2, .data⟩, ⟨1, .chain⟩], none⟩) rfl (fun K hK => ?_) AllReadyH.nil)
    go_simp
    go_wp2_with (go_at_call 19; (with_reducible refine (HRG.out _ hB).mono ?_); rintro e5 wb ⟨S2, hS2, rfl, ho2, hbwb⟩)
    have hm2 : Marks wb S2 N (goesF rs fs) := ho2
    have hm1 := hm1.keep hbwb
    have hB := below_t hB hbwb
    clear ho2
    refine hK.out _ _ ?_ (fun hHeld => ?_)
    · exact HQD.out _ hB
    clear hK K
    try simp only [Act.put, sA, sB, sC]
    refine wpAnyH_take (i := 4) (oi := ⟨some 3, .assign (.tmp 15), 38, "ref.go:56", #[⟨1, .data⟩, ⟨3, .chain⟩, ⟨0, .phase⟩, ⟨1, .phase⟩, ⟨2, .textOnly .lateStores⟩, ⟨3, .textOnly .lateStoresUnsure⟩], none⟩) (v := ?_) rfl (by kernel_rfl) (by kernel_rfl) (by kernel_rfl) (fun _ _ _ h => h) (Or.inl ⟨by rfl, ?_⟩) (by assumption) ?_
    rotate_left
    · intro w' hSw
      (try dsimp only at hSw)
      have p0 := hSw.cell 0
      have p1 := hSw.cell 1
      have p2 := hSw.cell 2
      have p3 := hSw.cell 3
      have p4 := hSw.cell 4
      have p5 := hSw.cell 5
      simp only [sD, sE, sF] at p0 p1 p2 p3 p4 p5
      go_simp
      all_goals with_reducible rfl
    try simp only [Act.put, sA, sB, sC]
    refine wpAnyH_take (i := 5) (oi := ⟨some 4, .assign (.tmp 17), 38, "ref.go:56", #[⟨3, .data⟩, ⟨4, .chain⟩, ⟨0, .phase⟩, ⟨1, .phase⟩, ⟨2, .phase⟩, ⟨3, .phase⟩, ⟨4, .phase⟩], none⟩) (v := ?_) rfl (by kernel_rfl) (by kernel_rfl) (by kernel_rfl) (fun _ _ _ h => h) (Or.inl ⟨by rfl, ?_⟩) (by assumption) ?_
    rotate_left
    · intro w' hSw
      (try dsimp only at hSw)
      have p0 := hSw.cell 0
      have p1 := hSw.cell 1
      have p2 := hSw.cell 2
      have p3 := hSw.cell 3
      have p4 := hSw.cell 4
      have p5 := hSw.cell 5
      simp only [sD, sE, sF] at p0 p1 p2 p3 p4 p5
      go_simp
      all_goals with_reducible rfl
    try simp only [Act.put, sA, sB, sC]
    obtain ⟨wl, rfl⟩ : ∃ wl : World, wl = wb := ⟨_, rfl⟩
    all_goals
      refine wpAnyH_done (by kernel_rfl) ?_ _
      go_wp2_with (fail)
      go_meet
      exact ⟨S1, S2, rfl, rfl, hm1, hm2, hB⟩
  case rest =>
  obtain ⟨w4, rfl⟩ : ∃ w4 : World, w4 = wc := ⟨_, rfl⟩
  obtain ⟨S1, S2, rfl, rfl, hm1, hm2, hB⟩ := hcut
  have H4 := hid hB
  have HM1 := hid hm1
  have HM2 := hid hm2
  have hgc := hm2.cell hsn
  have i1 : (0 : Int) ≤ (sn : Int) := Int.natCast_nonneg _
  have i2 : (sn : Int) < (N : Int) := by omega
  obtain ⟨p0, p1, p2, p3, p4, p5⟩ := HDB.out w4 hB
  clear hm1 hm2 hB
  cases hg : goesF rs fs sn with
  | false =>
    rw [hg] at hgc
    have HG := hid hg
    have HZ5 := hid (HZ.out w4 H4.out)
    have HB5 := hid (HBW.out w4 H4.out)
    clear hg
    have z0 := HZ5.out.cell 0
    have y0 := HZ5.out.frozen 0
    have z1 := HZ5.out.cell 1
    have y1 := HZ5.out.frozen 1
    have z2 := HZ5.out.cell 2
    have y2 := HZ5.out.frozen 2
    have z3 := HZ5.out.cell 3
    have y3 := HZ5.out.frozen 3
    have z4 := HZ5.out.cell 4
    have y4 := HZ5.out.frozen 4
    have z5 := HZ5.out.cell 5
    have y5 := HZ5.out.frozen 5
    simp only [sD, sE, sF] at z0 z1 z2 z3 z4 z5
    go_wp2_with (fail)
    obtain ⟨wE, hwE⟩ : ∃ wE, ((((((w4.setCell ⟨w.heap.size + 1, 0, none⟩ (.int .i64 i)).setCell ⟨w.heap.size + 1, 1, none⟩ (.int .i64 o)).setCell ⟨w.heap.size + 1, 2, none⟩ (.int .i64 1)).setCell ⟨w.heap.size + 1, 3, none⟩ (.int .i64 0)).setCell ⟨w.heap.size + 1, 4, none⟩ (.slice none 0 0)).setCell ⟨w.heap.size + 1, 5, none⟩ (.slice none 0 0)) = wE := ⟨_, rfl⟩
    have hqE : Blk wE (w.heap.size + 1) 26 #[.int .i64 i, .int .i64 o, .int .i64 1, .int .i64 0, .slice none 0 0, .slice none 0 0] := by
      rw [← hwE]
      exact ((((((HZ5.out.set_ 0 _).set_ 1 _).set_ 2 _).set_ 3 _).set_ 4 _).set_ 5 _)
    have hbE : Below w.heap.size w wE := by
      rw [← hwE]
      exact (((((HB5.out.setCell (by simp) _).setCell (by simp) _).setCell (by simp) _).setCell (by simp) _).setCell (by simp) _).setCell (by simp) _
    have hother : ∀ g, g ≠ w.heap.size + 1 → wE.heap[g]? = w4.heap[g]? := fun g hg => by
      rw [← hwE]
      rw [heap_setCell_other _ ⟨w.heap.size + 1, 5, none⟩ g _ hg, heap_setCell_other _ ⟨w.heap.size + 1, 4, none⟩ g _ hg, heap_setCell_other _ ⟨w.heap.size + 1, 3, none⟩ g _ hg, heap_setCell_other _ ⟨w.heap.size + 1, 2, none⟩ g _ hg, heap_setCell_other _ ⟨w.heap.size + 1, 1, none⟩ g _ hg, heap_setCell_other _ ⟨w.heap.size + 1, 0, none⟩ g _ hg]
    have k0 := hqE.cell 0
    have k1 := hqE.cell 1
    have k2 := hqE.cell 2
    have k3 := hqE.cell 3
    have k4 := hqE.cell 4
    have k5 := hqE.cell 5
    simp only [sD, sE, sF] at k0 k1 k2 k3 k4 k5
    try rw [hwE]
    have HPOST : RTrimOut i o N sn rs fs w (.returned (dsc i o 1 0 none 0 0 none 0 0)) wE := ⟨hbE, .inl ⟨HG.out, rfl⟩⟩
    exact bodyPost_ret (v := dsc i o 1 0 none 0 0 none 0 0) (by simp [results, Tryz.results21, go_sem, k0, k1, k2, k3, k4, k5]) rfl HPOST
  | true =>
  rw [hg] at hgc
  have HG := hid hg
  have HCS := hid (show comesF rs sn sn = true from reachB_iff.2 (.first (by simp)))
  obtain ⟨l, hl⟩ : ∃ l, keptL N sn rs fs = l := ⟨_, rfl⟩
  have HL := hid hl
  have HMEM := hid (fun q (hq : q < N) => show q ∈ l ↔ (comesF rs sn q && goesF rs fs q) = true from by rw [← hl]; exact kept_mem hq)
  have HIN := hid (fun q (hq : q < N) (h : (comesF rs sn q && goesF rs fs q) = true) => show numI (comesF rs sn) (goesF rs fs) q = (numL l q : Int) from by rw [← hl]; exact numI_in hq h)
  have HOUT := hid (fun q (h : (comesF rs sn q && goesF rs fs q) = false) => numI_out (f := comesF rs sn) (g := goesF rs fs) (q := q) h)
  obtain ⟨ns, hns⟩ : ∃ ns, numL l sn = ns := ⟨_, rfl⟩
  have HNS := hid hns
  have HNI := hid (show numI (comesF rs sn) (goesF rs fs) sn = (ns : Int) from by rw [HIN.out sn hsn (by rw [HCS.out, HG.out]; rfl), hns])
  clear hg hl hns
  go_upto_region 4 with (fail)
  clear hgc p0 p1 p2 p3 p4 p5
  go_cut [5] (fun v wx => ∃ x, v = .pointer (some ⟨x, 0, none⟩) ∧ w4.heap.size ≤ x ∧ x + 1 = wx.heap.size ∧ Below w4.heap.size w4 wx ∧ DBox wx x i o 0 (ns : Int) (.slice none 0 0) (.slice none 0 0))
  case first =>
    obtain ⟨we, hwe⟩ : ∃ we, w4.drew = we := ⟨_, rfl⟩
    have hB : Below w4.heap.size w4 we := by rw [← hwe]; exact (Below.refl _ _).drew
    have HB0 := hid hB
    have HBQ4 := hid (fun W (h : Below w4.heap.size w4 W) => HQD.out W (below_t H4.out h))
    refine wp_region_held_drew (S := fun W => Blk W w.heap.size 26 #[.int .i64 i, .int .i64 o, .int .i64 (N : Int), .int .i64 (sn : Int), .slice A rs.length cr, .slice B fs.length cf]) (by kernel_rfl) (by rw [hwe]; exact HBQ4.out _ hB) (fun hHeld => ?_)
    rw [hwe] at hHeld ⊢
    refine wpAnyH_take (i := 0) (oi := ⟨some 29, .fieldAddr 26 (.tmp 1) 0, 0, "ref.go:60", #[], none⟩) (v := ?_) rfl (by kernel_rfl) (by kernel_rfl) (by kernel_rfl) (fun _ _ _ h => h) (Or.inl ⟨by rfl, ?_⟩) (by assumption) ?_
    rotate_left
    · intro w' hSw
      (try dsimp only at hSw)
      have p0 := hSw.cell 0
      have p1 := hSw.cell 1
      have p2 := hSw.cell 2
      have p3 := hSw.cell 3
      have p4 := hSw.cell 4
      have p5 := hSw.cell 5
      simp only [sD, sE, sF] at p0 p1 p2 p3 p4 p5
      go_simp
      all_goals with_reducible rfl
    try simp only [Act.put, sA, sB, sC]
    refine wpAnyH_take (i := 1) (oi := ⟨some 30, .load 22 (.tmp 29), 22, "ref.go:60", #[⟨0, .data⟩], none⟩) (v := ?_) rfl (by kernel_rfl) (by kernel_rfl) (by kernel_rfl) (fun _ _ _ h => h) (Or.inl ⟨by rfl, ?_⟩) (by assumption) ?_
    rotate_left
    · intro w' hSw
      (try dsimp only at hSw)
      have p0 := hSw.cell 0
      have p1 := hSw.cell 1
      have p2 := hSw.cell 2
      have p3 := hSw.cell 3
      have p4 := hSw.cell 4
      have p5 := hSw.cell 5
      simp only [sD, sE, sF] at p0 p1 p2 p3 p4 p5
      go_simp
      all_goals with_reducible rfl
    try simp only [Act.put, sA, sB, sC]
    refine wpAnyH_take (i := 2) (oi := ⟨some 31, .fieldAddr 26 (.tmp 1) 1, 0, "ref.go:60", #[], none⟩) (v := ?_) rfl (by kernel_rfl) (by kernel_rfl) (by kernel_rfl) (fun _ _ _ h => h) (Or.inl ⟨by rfl, ?_⟩) (by assumption) ?_
    rotate_left
    · intro w' hSw
      (try dsimp only at hSw)
      have p0 := hSw.cell 0
      have p1 := hSw.cell 1
      have p2 := hSw.cell 2
      have p3 := hSw.cell 3
      have p4 := hSw.cell 4
      have p5 := hSw.cell 5
      simp only [sD, sE, sF] at p0 p1 p2 p3 p4 p5
      go_simp
      all_goals with_reducible rfl
    try simp only [Act.put, sA, sB, sC]
    refine wpAnyH_take (i := 3) (oi := ⟨some 32, .load 22 (.tmp 31), 22, "ref.go:60", #[⟨2, .data⟩], none⟩) (v := ?_) rfl (by kernel_rfl) (by kernel_rfl) (by kernel_rfl) (fun _ _ _ h => h) (Or.inl ⟨by rfl, ?_⟩) (by assumption) ?_
    rotate_left
    · intro w' hSw
      (try dsimp only at hSw)
      have p0 := hSw.cell 0
      have p1 := hSw.cell 1
      have p2 := hSw.cell 2
      have p3 := hSw.cell 3
      have p4 := hSw.cell 4
      have p5 := hSw.cell 5
      simp only [sD, sE, sF] at p0 p1 p2 p3 p4 p5
      go_simp
      all_goals with_reducible rfl
    try simp only [Act.put, sA, sB, sC]
    refine wpAnyH_take (i := 4) (oi := ⟨some 33, .move (.tmp 3), 38, "ref.go:60", #[], none⟩) (v := ?_) rfl (by kernel_rfl) (by kernel_rfl) (by kernel_rfl) (fun _ _ _ h => h) (Or.inl ⟨by rfl, ?_⟩) (by assumption) ?_
    rotate_left
    · intro w' hSw
      (try dsimp only at hSw)
      have p0 := hSw.cell 0
      have p1 := hSw.cell 1
      have p2 := hSw.cell 2
      have p3 := hSw.cell 3
      have p4 := hSw.cell 4
      have p5 := hSw.cell 5
      simp only [sD, sE, sF] at p0 p1 p2 p3 p4 p5
      go_simp
      all_goals with_reducible rfl
    try simp only [Act.put, sA, sB, sC]
    refine wpAnyH_take (i := 5) (oi := ⟨some 34, .move (.tmp 4), 38, "ref.go:60", #[], none⟩) (v := ?_) rfl (by kernel_rfl) (by kernel_rfl) (by kernel_rfl) (fun _ _ _ h => h) (Or.inl ⟨by rfl, ?_⟩) (by assumption) ?_
    rotate_left
    · intro w' hSw
      (try dsimp only at hSw)
      have p0 := hSw.cell 0
      have p1 := hSw.cell 1
      have p2 := hSw.cell 2
      have p3 := hSw.cell 3
      have p4 := hSw.cell 4
      have p5 := hSw.cell 5
      simp only [sD, sE, sF] at p0 p1 p2 p3 p4 p5
      go_simp
      all_goals with_reducible rfl
    try simp only [Act.put, sA, sB, sC]
    refine wpAnyH_take (i := 6) (oi := ⟨some 35, .fieldAddr 26 (.tmp 1) 3, 0, "ref.go:60", #[], none⟩) (v := ?_) rfl (by kernel_rfl) (by kernel_rfl) (by kernel_rfl) (fun _ _ _ h => h) (Or.inl ⟨by rfl, ?_⟩) (by assumption) ?_
    rotate_left
    · intro w' hSw
      (try dsimp only at hSw)
      have p0 := hSw.cell 0
      have p1 := hSw.cell 1
      have p2 := hSw.cell 2
      have p3 := hSw.cell 3
      have p4 := hSw.cell 4
      have p5 := hSw.cell 5
      simp only [sD, sE, sF] at p0 p1 p2 p3 p4 p5
      go_simp
      all_goals with_reducible rfl
    try simp only [Act.put, sA, sB, sC]
    refine wpAnyH_take (i := 7) (oi := ⟨some 36, .load 3 (.tmp 35), 3, "ref.go:60", #[⟨6, .data⟩], none⟩) (v := ?_) rfl (by kernel_rfl) (by kernel_rfl) (by kernel_rfl) (fun _ _ _ h => h) (Or.inl ⟨by rfl, ?_⟩) (by assumption) ?_
    rotate_left
    · intro w' hSw
      (try dsimp only at hSw)
      have p0 := hSw.cell 0
      have p1 := hSw.cell 1
      have p2 := hSw.cell 2
      have p3 := hSw.cell 3
      have p4 := hSw.cell 4
      have p5 := hSw.cell 5
      simp only [sD, sE, sF] at p0 p1 p2 p3 p4 p5
      go_simp
      all_goals with_reducible rfl
    try simp only [Act.put, sA, sB, sC]
    refine wpAnyH_ready (rs := [8, 10]) (by kernel_rfl) (by simp) ?_
    refine (AllReadyH.cons (o := ⟨some 37, .call { callee := .value (.func 36), args := #[.tmp 33, .tmp 34, .tmp 36], argTypes := #[38, 38, 3] }, 3, "ref.go:60", #[⟨4, .data⟩, ⟨5, .data⟩, ⟨7, .data⟩], none⟩) rfl (fun K hK => ?_) (AllReadyH.cons (o := ⟨some 5, .alloc 26, 0, "ref.go:60", #[], none⟩) rfl (fun K hK => ?_) AllReadyH.nil))
    focus
      go_simp
      go_wp2_with (go_at_call 36; (with_reducible refine (number_any (comesF rs sn) (goesF rs fs) N S1 S2 sn _ (HM1.out.keep hB) (HM2.out.keep hB) hN2 hsn).mono ?_); rintro e5 wn ⟨rfl, hwn⟩; have hwn := hwn.symm; subst hwn)
      rw [HNI.out]
      refine hK.out _ _ ?_ (fun hHeld => ?_)
      · exact HBQ4.out _ hB
      clear hK K
      try simp only [Act.put, sA, sB, sC]
      refine wpAnyH_take (i := 9) (oi := ⟨some 38, .build 26 #[(0, .tmp 30), (1, .tmp 32), (3, .tmp 37)], 26, "ref.go:60", #[⟨1, .data⟩, ⟨3, .data⟩, ⟨8, .data⟩], none⟩) (v := ?_) rfl (by kernel_rfl) (by kernel_rfl) (by kernel_rfl) (fun _ _ _ h => h) (Or.inl ⟨by rfl, ?_⟩) (by assumption) ?_
      rotate_left
      · intro w' hSw
        (try dsimp only at hSw)
        have p0 := hSw.cell 0
        have p1 := hSw.cell 1
        have p2 := hSw.cell 2
        have p3 := hSw.cell 3
        have p4 := hSw.cell 4
        have p5 := hSw.cell 5
        simp only [sD, sE, sF] at p0 p1 p2 p3 p4 p5
        go_simp
        all_goals with_reducible rfl
      try simp only [Act.put, sA, sB, sC]
      refine wpAnyH_ready (rs := [10]) (by kernel_rfl) (by simp) ?_
      refine (AllReadyH.cons (o := ⟨some 5, .alloc 26, 0, "ref.go:60", #[], none⟩) rfl (fun K hK => ?_) AllReadyH.nil)
      obtain ⟨ws, hws, hqs, hls, hbS⟩ := new_cells we #[.int .i64 0, .int .i64 0, .int .i64 0, .int .i64 0, .slice none 0 0, .slice none 0 0] 26
      have hx4 := hB.size
      go_simp
      try rw [hws]
      have hB := below_t hB hbS
      refine hK.out _ _ ?_ (fun hHeld => ?_)
      · exact HBQ4.out _ hB
      clear hK K
      try simp only [Act.put, sA, sB, sC]
      refine wpAnyH_ready (rs := [11]) (by kernel_rfl) (by simp) ?_
      refine (AllReadyH.cons (o := ⟨none, .store 26 (.tmp 5) (.tmp 38), 0, "ref.go:60", #[⟨10, .data⟩, ⟨9, .data⟩, ⟨8, .chain⟩, ⟨0, .phase⟩, ⟨1, .phase⟩, ⟨2, .phase⟩, ⟨3, .phase⟩, ⟨4, .phase⟩, ⟨5, .phase⟩, ⟨6, .phase⟩, ⟨7, .phase⟩, ⟨8, .phase⟩, ⟨9, .phase⟩, ⟨10, .phase⟩], none⟩) rfl (fun K hK => ?_) AllReadyH.nil)
      subst hws
      go_simp
      obtain ⟨wz, hwz⟩ : ∃ wz, we.alloc (.cells #[.int .i64 i, .int .i64 o, .int .i64 0, .int .i64 (ns : Int), .slice none 0 0, .slice none 0 0] 26) = wz := ⟨_, rfl⟩
      have hbZ : Below we.heap.size we wz := by rw [← hwz]; exact (Below.refl _ _).alloc (Nat.le_refl _) _
      have hBz := below_t HB0.out hbZ
      have hDZ : DBox wz we.heap.size i o 0 (ns : Int) (.slice none 0 0) (.slice none 0 0) := by rw [← hwz]; exact heap_alloc_new we _
      have hsZ : we.heap.size + 1 = wz.heap.size := by rw [← hwz]; simp
      try rw [hwz]
      refine hK.out _ _ ?_ (fun hHeld => ?_)
      · exact HBQ4.out _ hBz
      clear hK K
      try simp only [Act.put, sA, sB, sC]
      obtain ⟨wl, rfl⟩ : ∃ wl : World, wl = wz := ⟨_, rfl⟩
    rotate_left 1
    focus
      obtain ⟨ws, hws, hqs, hls, hbS⟩ := new_cells we #[.int .i64 0, .int .i64 0, .int .i64 0, .int .i64 0, .slice none 0 0, .slice none 0 0] 26
      have hx4 := hB.size
      go_simp
      try rw [hws]
      have hB := below_t hB hbS
      refine hK.out _ _ ?_ (fun hHeld => ?_)
      · exact HBQ4.out _ hB
      clear hK K
      try simp only [Act.put, sA, sB, sC]
      refine wpAnyH_ready (rs := [8]) (by kernel_rfl) (by simp) ?_
      refine (AllReadyH.cons (o := ⟨some 37, .call { callee := .value (.func 36), args := #[.tmp 33, .tmp 34, .tmp 36], argTypes := #[38, 38, 3] }, 3, "ref.go:60", #[⟨4, .data⟩, ⟨5, .data⟩, ⟨7, .data⟩], none⟩) rfl (fun K hK => ?_) AllReadyH.nil)
      go_simp
      go_wp2_with (go_at_call 36; (with_reducible refine (number_any (comesF rs sn) (goesF rs fs) N S1 S2 sn _ (HM1.out.keep hB) (HM2.out.keep hB) hN2 hsn).mono ?_); rintro e5 wn ⟨rfl, hwn⟩; have hwn := hwn.symm; subst hwn)
      rw [HNI.out]
      refine hK.out _ _ ?_ (fun hHeld => ?_)
      · exact HBQ4.out _ hB
      clear hK K
      try simp only [Act.put, sA, sB, sC]
      refine wpAnyH_take (i := 9) (oi := ⟨some 38, .build 26 #[(0, .tmp 30), (1, .tmp 32), (3, .tmp 37)], 26, "ref.go:60", #[⟨1, .data⟩, ⟨3, .data⟩, ⟨8, .data⟩], none⟩) (v := ?_) rfl (by kernel_rfl) (by kernel_rfl) (by kernel_rfl) (fun _ _ _ h => h) (Or.inl ⟨by rfl, ?_⟩) (by assumption) ?_
      rotate_left
      · intro w' hSw
        (try dsimp only at hSw)
        have p0 := hSw.cell 0
        have p1 := hSw.cell 1
        have p2 := hSw.cell 2
        have p3 := hSw.cell 3
        have p4 := hSw.cell 4
        have p5 := hSw.cell 5
        simp only [sD, sE, sF] at p0 p1 p2 p3 p4 p5
        go_simp
        all_goals with_reducible rfl
      try simp only [Act.put, sA, sB, sC]
      refine wpAnyH_ready (rs := [11]) (by kernel_rfl) (by simp) ?_
      refine (AllReadyH.cons (o := ⟨none, .store 26 (.tmp 5) (.tmp 38), 0, "ref.go:60", #[⟨10, .data⟩, ⟨9, .data⟩, ⟨8, .chain⟩, ⟨0, .phase⟩, ⟨1, .phase⟩, ⟨2, .phase⟩, ⟨3, .phase⟩, ⟨4, .phase⟩, ⟨5, .phase⟩, ⟨6, .phase⟩, ⟨7, .phase⟩, ⟨8, .phase⟩, ⟨9, .phase⟩, ⟨10, .phase⟩], none⟩) rfl (fun K hK => ?_) AllReadyH.nil)
      subst hws
      go_simp
      obtain ⟨wz, hwz⟩ : ∃ wz, we.alloc (.cells #[.int .i64 i, .int .i64 o, .int .i64 0, .int .i64 (ns : Int), .slice none 0 0, .slice none 0 0] 26) = wz := ⟨_, rfl⟩
      have hbZ : Below we.heap.size we wz := by rw [← hwz]; exact (Below.refl _ _).alloc (Nat.le_refl _) _
      have hBz := below_t HB0.out hbZ
      have hDZ : DBox wz we.heap.size i o 0 (ns : Int) (.slice none 0 0) (.slice none 0 0) := by rw [← hwz]; exact heap_alloc_new we _
      have hsZ : we.heap.size + 1 = wz.heap.size := by rw [← hwz]; simp
      try rw [hwz]
      refine hK.out _ _ ?_ (fun hHeld => ?_)
      · exact HBQ4.out _ hBz
      clear hK K
      try simp only [Act.put, sA, sB, sC]
      obtain ⟨wl, rfl⟩ : ∃ wl : World, wl = wz := ⟨_, rfl⟩
    all_goals
      refine wpAnyH_done (by kernel_rfl) ?_ _
      go_wp2_with (fail)
      go_meet
      exact ⟨we.heap.size, rfl, hx4, hsZ, hBz, hDZ⟩
  case rest =>
  obtain ⟨wz, rfl⟩ : ∃ wz : World, wz = wc := ⟨_, rfl⟩
  obtain ⟨x, rfl, hx4, hsZ, hBz, hDZ⟩ := hcut
  have h24 := H4.out.size
  have HBX := hid hDZ
  have HX2 := hid (show w2.heap.size ≤ x ∧ w.heap.size ≤ x by omega)
  have HXL := hid (show w.heap.size + 1 < x by omega)
  have HWZ := hid (fun W (hW : Below x wz W) => show Below w2.heap.size w2 W from (below_t H4.out hBz).trans (hW.mono (by omega)))
  have HMZ := hid (fun W (hW : Below x wz W) => show Marks W S1 N (comesF rs sn) ∧ Marks W S2 N (goesF rs fs) from ⟨HM1.out.keep (hBz.trans (hW.mono hx4)), HM2.out.keep (hBz.trans (hW.mono hx4))⟩)
  clear hBz hDZ hsZ
  go_wp2_with (fail)
  go_loopw [6] (fun iv wr => CtRel (fun q => comesF rs sn q && goesF rs fs q) N x i o (ns : Int) wz iv wr) (fun iv _ => N - (intOf iv).toNat)
  case atStart => exact ⟨0, Nat.zero_le _, rfl, HBX.out, Below.refl _ _⟩
  case round =>
    obtain ⟨k, hk, rfl, hbox, hbl⟩ := hrel
    obtain ⟨p0, p1, p2, p3, p4, p5⟩ := HDB.out wr (HWZ.out wr hbl)
    by_cases hlt : k < N
    · obtain ⟨hm1, hm2⟩ := HMZ.out wr hbl
      have m1 := hm1.cell hlt
      have m2 := hm2.cell hlt
      obtain ⟨n, hn⟩ : ∃ n, ((List.range k).filter fun q => comesF rs sn q && goesF rs fs q).length = n := ⟨_, rfl⟩
      have hnk := filter_len (fun q => comesF rs sn q && goesF rs fs q) k
      rw [hn] at hbox hnk
      obtain ⟨x0, x1, x2, x3, x4, x5⟩ := hbox.cells
      have xf := hbox.frozen 2
      have hkb : k < 1024 := by omega
      have HSK := hid (fun (h : (comesF rs sn k && goesF rs fs k) = false) => show CtRel (fun q => comesF rs sn q && goesF rs fs q) N x i o (ns : Int) wz (.int .i64 ((k + 1 : Nat) : Int)) wr from ⟨k + 1, hlt, rfl, by rw [rangeF_skip (P := fun q => comesF rs sn q && goesF rs fs q) h, hn]; exact hbox, hbl⟩)
      obtain ⟨wn, hwn⟩ : ∃ wn, wr.setCell ⟨x, 2, none⟩ (.int .i64 ((n : Int) + 1)) = wn := ⟨_, rfl⟩
      have HSE := hid (fun (h : (comesF rs sn k && goesF rs fs k) = true) => show CtRel (fun q => comesF rs sn q && goesF rs fs q) N x i o (ns : Int) wz (.int .i64 ((k + 1 : Nat) : Int)) wn from ⟨k + 1, hlt, rfl, by
        rw [rangeF_more (P := fun q => comesF rs sn q && goesF rs fs q) h, List.length_append, hn, ← hwn]
        exact hbox.set2 _, by rw [← hwn]; exact hbl.setCell (Nat.le_refl x) _⟩)
      clear hbox hbl hm1 hm2 hn
      cases ha : comesF rs sn k with
      | false =>
        rw [ha] at m1
        have HGO := hid (HSK.out (by rw [ha]; rfl))
        clear HSK HSE
        go_wp2_with (fail)
        go_roundw
        case rel => exact HGO.out
        case measure => simp [intOf]; omega
      | true =>
      rw [ha] at m1
      cases hb : goesF rs fs k with
      | false =>
        rw [hb] at m2
        have HGO := hid (HSK.out (by rw [hb, Bool.and_false]))
        clear HSK HSE
        go_wp2_with (fail)
        go_roundw
        case rel => exact HGO.out
        case measure => simp [intOf]; omega
      | true =>
        rw [hb] at m2
        have HGO := hid (HSE.out (by rw [ha, hb]; rfl))
        have s1 : IntKind.i64.wrap ((n : Int) + 1) = (n : Int) + 1 := IntWalk.i64_in _ (by omega)
        clear HSK HSE
        go_wp2_with (fail)
        go_roundw
        case rel => exact HGO.out
        case measure => simp [intOf]; omega
    · obtain rfl : N = k := by omega
      obtain ⟨wA, hwA⟩ : ∃ wA : World, wA = wr := ⟨_, rfl⟩
      subst hwA
      have hlen : ((List.range N).filter fun q => comesF rs sn q && goesF rs fs q).length = l.length := by rw [← HL.out]; rfl
      rw [hlen] at hbox
      have HST1 := hid (show TgRel w.heap.size x i o (l.length : Int) (ns : Int) l rs wz (.int .i64 (0 : Nat)) wA from ⟨0, .slice none 0 0, Nat.zero_le _, rfl, ⟨hbox, RowRu.nil_ _ _ _, RowFi.nil_ _ _ _, fun g e => by simp [Value.ownBlock] at e, Nat.lt_succ_self _, HX2.out.2⟩, hbl⟩)
      clear hbox hbl hlen
      go_wp2_with (fail)
      clear p0 p1 p2 p3 p4 p5
      go_loopw [7] (fun iv wr => TgRel w.heap.size x i o (l.length : Int) (ns : Int) l rs wz iv wr) (fun iv _ => rs.length - (intOf iv).toNat)
      case atStart => exact HST1.out
      case round =>
        obtain ⟨k, v, hk, rfl, hrj, hbl⟩ := hrel
        obtain ⟨p0, p1, p2, p3, p4, p5⟩ := HDB.out wr (HWZ.out wr hbl)
        by_cases hlt : k < rs.length
        · have hbw := HBW.out wr (HWZ.out wr hbl)
          obtain ⟨b, off, G, gc, TT, tc, hA, hbB, d0, d1, d2, d3, d4, hGG, hgc, hTT, htc⟩ := ru_here HD.out.rules hbw hlt
          obtain ⟨f0, f1, f2, f3, _⟩ := HR.out.rs _ (List.getElem_mem hlt)
          try dsimp only at f1 f3
          obtain ⟨r, hrk⟩ : ∃ r, rs[k] = r := ⟨_, rfl⟩
          have HRK := hid hrk
          rw [hrk] at d0 d1 d2 d3 d4 hGG hgc hTT htc f0 f1 f2 f3
          obtain ⟨p, hp⟩ : ∃ p : Nat, r.frm = (p : Int) := ⟨r.frm.toNat, by omega⟩
          obtain ⟨q, hq⟩ : ∃ q : Nat, r.to_ = (q : Int) := ⟨r.to_.toNat, by omega⟩
          have hpN : p < N := by omega
          have hqN : q < N := by omega
          have HFP := hid (show r.frm.toNat = p ∧ r.to_.toNat = q by omega)
          rw [hp] at d0
          rw [hq] at d1
          have HK := hid hlt
          have hrl := HR.out.r
          try dsimp only at hrl
          have hkb : k < 4096 := by omega
          obtain ⟨nL, hnL⟩ : ∃ nL, (trR l (rs.take k)).length = nL := ⟨_, rfl⟩
          have hnLb : nL ≤ 4096 := by
            rw [← hnL]
            unfold trR
            rw [List.length_map]
            refine Nat.le_trans (List.length_filter_le _ _) ?_
            rw [List.length_take]
            omega
          have HRJ := hid hrj
          have HBL := hid hbl
          have HGG := hid hGG
          have HTT := hid hTT
          have HNL := hid hnL
          obtain ⟨wq, hwq, hqq, hlq, hbq⟩ := new_cells wr #[.int .i64 (p : Int), .int .i64 (q : Int), .slice G r.gs.length gc, .int .i64 r.eat, .slice TT r.out.length tc] 50
          have HWQ := hid hwq
          have HQQ := hid hqq
          have HBQ := hid hbq
          have HZQ := hid (hbl.trans (hbq.mono (Nat.le_of_lt hrj.box.lt)))
          subst hA
          clear hwq hqq hbq hlq hrj hbl hbw hrk hGG hTT hnL f0 f1 f2 f3 hrl
          go_upto_region 14 with (fail)
          rw [HWQ.out]
          clear p0 p1 p2 p3 p4 p5 d0 d1 d2 d3 d4
          go_cut [9, 10] (fun a b wx => a = .int .i64 (numI (comesF rs sn) (goesF rs fs) p) ∧ b = .int .i64 (numI (comesF rs sn) (goesF rs fs) q) ∧ wx = wq.drew)
          case first =>
            obtain ⟨we, hwe⟩ : ∃ we, wq.drew = we := ⟨_, rfl⟩
            have hqe : Blk we wr.heap.size 50 #[.int .i64 (p : Int), .int .i64 (q : Int), .slice G r.gs.length gc, .int .i64 r.eat, .slice TT r.out.length tc] := by rw [← hwe]; exact HQQ.out.drew
            have HME := hid (HMZ.out we (by rw [← hwe]; exact HZQ.out.drew))
            refine wp_region_held_drew (S := fun W => W = we) (by kernel_rfl) (by rw [hwe]) (fun hHeld => ?_)
            rw [hwe] at hHeld ⊢
            refine wpAnyH_take (i := 0) (oi := ⟨some 71, .move (.tmp 3), 38, "ref.go:68", #[], none⟩) (v := ?_) rfl (by kernel_rfl) (by kernel_rfl) (by kernel_rfl) (fun _ _ _ h => h) (Or.inl ⟨by rfl, ?_⟩) (by assumption) ?_
            rotate_left
            · intro w' hSw
              (try dsimp only at hSw)
              subst hSw
              have p0 := hqe.cell 0
              have p1 := hqe.cell 1
              simp only [sD, sE, sF] at p0 p1
              go_simp
              all_goals with_reducible rfl
            try simp only [Act.put, sA, sB, sC]
            refine wpAnyH_take (i := 1) (oi := ⟨some 72, .move (.tmp 4), 38, "ref.go:68", #[], none⟩) (v := ?_) rfl (by kernel_rfl) (by kernel_rfl) (by kernel_rfl) (fun _ _ _ h => h) (Or.inl ⟨by rfl, ?_⟩) (by assumption) ?_
            rotate_left
            · intro w' hSw
              (try dsimp only at hSw)
              subst hSw
              have p0 := hqe.cell 0
              have p1 := hqe.cell 1
              simp only [sD, sE, sF] at p0 p1
              go_simp
              all_goals with_reducible rfl
            try simp only [Act.put, sA, sB, sC]
            refine wpAnyH_take (i := 2) (oi := ⟨some 73, .fieldAddr 50 (.tmp 8) 0, 0, "ref.go:68", #[], none⟩) (v := ?_) rfl (by kernel_rfl) (by kernel_rfl) (by kernel_rfl) (fun _ _ _ h => h) (Or.inl ⟨by rfl, ?_⟩) (by assumption) ?_
            rotate_left
            · intro w' hSw
              (try dsimp only at hSw)
              subst hSw
              have p0 := hqe.cell 0
              have p1 := hqe.cell 1
              simp only [sD, sE, sF] at p0 p1
              go_simp
              all_goals with_reducible rfl
            try simp only [Act.put, sA, sB, sC]
            refine wpAnyH_take (i := 3) (oi := ⟨some 74, .load 3 (.tmp 73), 3, "ref.go:68", #[⟨2, .data⟩], none⟩) (v := ?_) rfl (by kernel_rfl) (by kernel_rfl) (by kernel_rfl) (fun _ _ _ h => h) (Or.inl ⟨by rfl, ?_⟩) (by assumption) ?_
            rotate_left
            · intro w' hSw
              (try dsimp only at hSw)
              subst hSw
              have p0 := hqe.cell 0
              have p1 := hqe.cell 1
              simp only [sD, sE, sF] at p0 p1
              go_simp
              all_goals with_reducible rfl
            try simp only [Act.put, sA, sB, sC]
            refine wpAnyH_take (i := 5) (oi := ⟨some 76, .move (.tmp 3), 38, "ref.go:68", #[], none⟩) (v := ?_) rfl (by kernel_rfl) (by kernel_rfl) (by kernel_rfl) (fun _ _ _ h => h) (Or.inl ⟨by rfl, ?_⟩) (by assumption) ?_
            rotate_left
            · intro w' hSw
              (try dsimp only at hSw)
              subst hSw
              have p0 := hqe.cell 0
              have p1 := hqe.cell 1
              simp only [sD, sE, sF] at p0 p1
              go_simp
              all_goals with_reducible rfl
            try simp only [Act.put, sA, sB, sC]
            refine wpAnyH_take (i := 6) (oi := ⟨some 77, .move (.tmp 4), 38, "ref.go:68", #[], none⟩) (v := ?_) rfl (by kernel_rfl) (by kernel_rfl) (by kernel_rfl) (fun _ _ _ h => h) (Or.inl ⟨by rfl, ?_⟩) (by assumption) ?_
            rotate_left
            · intro w' hSw
              (try dsimp only at hSw)
              subst hSw
              have p0 := hqe.cell 0
              have p1 := hqe.cell 1
              simp only [sD, sE, sF] at p0 p1
              go_simp
              all_goals with_reducible rfl
            try simp only [Act.put, sA, sB, sC]
            refine wpAnyH_take (i := 7) (oi := ⟨some 78, .fieldAddr 50 (.tmp 8) 1, 0, "ref.go:68", #[], none⟩) (v := ?_) rfl (by kernel_rfl) (by kernel_rfl) (by kernel_rfl) (fun _ _ _ h => h) (Or.inl ⟨by rfl, ?_⟩) (by assumption) ?_
            rotate_left
            · intro w' hSw
              (try dsimp only at hSw)
              subst hSw
              have p0 := hqe.cell 0
              have p1 := hqe.cell 1
              simp only [sD, sE, sF] at p0 p1
              go_simp
              all_goals with_reducible rfl
            try simp only [Act.put, sA, sB, sC]
            refine wpAnyH_take (i := 8) (oi := ⟨some 79, .load 3 (.tmp 78), 3, "ref.go:68", #[⟨7, .data⟩], none⟩) (v := ?_) rfl (by kernel_rfl) (by kernel_rfl) (by kernel_rfl) (fun _ _ _ h => h) (Or.inl ⟨by rfl, ?_⟩) (by assumption) ?_
            rotate_left
            · intro w' hSw
              (try dsimp only at hSw)
              subst hSw
              have p0 := hqe.cell 0
              have p1 := hqe.cell 1
              simp only [sD, sE, sF] at p0 p1
              go_simp
              all_goals with_reducible rfl
            try simp only [Act.put, sA, sB, sC]
            refine wpAnyH_ready (rs := [4]) (by kernel_rfl) (by simp) ?_
            refine (AllReadyH.cons (o := ⟨some 75, .call { callee := .value (.func 36), args := #[.tmp 71, .tmp 72, .tmp 74], argTypes := #[38, 38, 3] }, 3, "ref.go:68", #[⟨0, .data⟩, ⟨1, .data⟩, ⟨3, .data⟩], none⟩) rfl (fun K hK => ?_) AllReadyH.nil)
            go_simp
            go_wp2_with (go_at_call 36; (with_reducible refine (number_any (comesF rs sn) (goesF rs fs) N S1 S2 p _ HME.out.1 HME.out.2 hN2 hpN).mono ?_); rintro e5 wn ⟨rfl, hwn⟩; have hwn := hwn.symm; subst hwn)
            refine hK.out _ _ ?_ (fun hHeld => ?_)
            · rfl
            clear hK K
            try simp only [Act.put, sA, sB, sC]
            refine wpAnyH_ready (rs := [9]) (by kernel_rfl) (by simp) ?_
            refine (AllReadyH.cons (o := ⟨some 80, .call { callee := .value (.func 36), args := #[.tmp 76, .tmp 77, .tmp 79], argTypes := #[38, 38, 3] }, 3, "ref.go:68", #[⟨5, .data⟩, ⟨6, .data⟩, ⟨8, .data⟩, ⟨4, .chain⟩], none⟩) rfl (fun K hK => ?_) AllReadyH.nil)
            go_simp
            go_wp2_with (go_at_call 36; (with_reducible refine (number_any (comesF rs sn) (goesF rs fs) N S1 S2 q _ HME.out.1 HME.out.2 hN2 hqN).mono ?_); rintro e5 wn ⟨rfl, hwn⟩; have hwn := hwn.symm; subst hwn)
            refine hK.out _ _ ?_ (fun hHeld => ?_)
            · rfl
            clear hK K
            try simp only [Act.put, sA, sB, sC]
            refine wpAnyH_take (i := 10) (oi := ⟨some 9, .assign (.tmp 75), 3, "ref.go:68", #[⟨4, .data⟩, ⟨9, .chain⟩, ⟨0, .phase⟩, ⟨1, .phase⟩, ⟨2, .phase⟩, ⟨3, .phase⟩, ⟨4, .phase⟩, ⟨5, .textOnly .lateStores⟩, ⟨6, .textOnly .lateStores⟩, ⟨7, .textOnly .lateStores⟩, ⟨8, .textOnly .lateStores⟩, ⟨9, .textOnly .lateStoresUnsure⟩], none⟩) (v := ?_) rfl (by kernel_rfl) (by kernel_rfl) (by kernel_rfl) (fun _ _ _ h => h) (Or.inl ⟨by rfl, ?_⟩) (by assumption) ?_
            rotate_left
            · intro w' hSw
              (try dsimp only at hSw)
              subst hSw
              have p0 := hqe.cell 0
              have p1 := hqe.cell 1
              simp only [sD, sE, sF] at p0 p1
              go_simp
              all_goals with_reducible rfl
            try simp only [Act.put, sA, sB, sC]
            refine wpAnyH_take (i := 11) (oi := ⟨some 10, .assign (.tmp 80), 3, "ref.go:68", #[⟨9, .data⟩, ⟨10, .chain⟩, ⟨0, .phase⟩, ⟨1, .phase⟩, ⟨2, .phase⟩, ⟨3, .phase⟩, ⟨4, .phase⟩, ⟨5, .phase⟩, ⟨6, .phase⟩, ⟨7, .phase⟩, ⟨8, .phase⟩, ⟨9, .phase⟩, ⟨10, .phase⟩], none⟩) (v := ?_) rfl (by kernel_rfl) (by kernel_rfl) (by kernel_rfl) (fun _ _ _ h => h) (Or.inl ⟨by rfl, ?_⟩) (by assumption) ?_
            rotate_left
            · intro w' hSw
              (try dsimp only at hSw)
              subst hSw
              have p0 := hqe.cell 0
              have p1 := hqe.cell 1
              simp only [sD, sE, sF] at p0 p1
              go_simp
              all_goals with_reducible rfl
            try simp only [Act.put, sA, sB, sC]
            obtain ⟨wl, rfl⟩ : ∃ wl : World, wl = we := ⟨_, rfl⟩
            all_goals
              refine wpAnyH_done (by kernel_rfl) ?_ _
              go_wp2_with (fail)
              go_meet
              exact ⟨rfl, rfl, by rw [hwe]⟩
          case rest =>
          obtain ⟨wx, rfl⟩ : ∃ wx : World, wx = wc := ⟨_, rfl⟩
          obtain ⟨rfl, rfl, hwx⟩ := hcut
          have HQX := hid (show Blk wx wr.heap.size 50 #[.int .i64 (p : Int), .int .i64 (q : Int), .slice G r.gs.length gc, .int .i64 r.eat, .slice TT r.out.length tc] by rw [hwx]; exact HQQ.out.drew)
          have HBX2 := hid (show Below wr.heap.size wr wx by rw [hwx]; exact HBQ.out.drew)
          have HGONE := hid (fun (h : (decide (p ∈ l) && decide (q ∈ l)) = false) => show TgRel w.heap.size x i o (l.length : Int) (ns : Int) l rs wz (.int .i64 ((k + 1 : Nat) : Int)) wx from ⟨k + 1, v, HK.out, rfl, by
            rw [trR_skip HK.out (by rw [HRK.out, HFP.out.1, HFP.out.2]; exact h)]
            exact HRJ.out.keep HBX2.out, HBL.out.trans (HBX2.out.mono (Nat.le_of_lt HRJ.out.box.lt))⟩)
          clear hwx
          cases hcp : (comesF rs sn p && goesF rs fs p) with
          | false =>
            rw [HOUT.out p hcp]
            have HGO := hid (HGONE.out (by
              rw [Bool.and_eq_false_iff]
              exact .inl (decide_eq_false fun hm => by rw [(HMEM.out p hpN).1 hm] at hcp; cases hcp)))
            clear HGONE hcp
            go_wp2_with (fail)
            go_roundw
            case rel => exact HGO.out
            case measure => simp [intOf]; omega
          | true =>
          obtain ⟨np, hnp⟩ : ∃ np, numL l p = np := ⟨_, rfl⟩
          rw [HIN.out p hpN hcp, hnp]
          have o1 : decide ((0 : Int) ≤ (np : Int)) = true := decide_eq_true (by omega)
          cases hcq : (comesF rs sn q && goesF rs fs q) with
          | false =>
            rw [HOUT.out q hcq]
            have HGO := hid (HGONE.out (by
              rw [Bool.and_eq_false_iff]
              exact .inr (decide_eq_false fun hm => by rw [(HMEM.out q hqN).1 hm] at hcq; cases hcq)))
            clear HGONE hcp hcq hnp
            go_wp2_with (fail)
            go_roundw
            case rel => exact HGO.out
            case measure => simp [intOf]; omega
          | true =>
          obtain ⟨nq, hnq⟩ : ∃ nq, numL l q = nq := ⟨_, rfl⟩
          rw [HIN.out q hqN hcq, hnq]
          have o2 : decide ((0 : Int) ≤ (nq : Int)) = true := decide_eq_true (by omega)
          have HMP := hid (show r.frm.toNat ∈ l ∧ r.to_.toNat ∈ l by rw [HFP.out.1, HFP.out.2]; exact ⟨(HMEM.out p hpN).2 hcp, (HMEM.out q hqN).2 hcq⟩)
          have HNP := hid (show numL l r.frm.toNat = np ∧ numL l r.to_.toNat = nq by rw [HFP.out.1, HFP.out.2]; exact ⟨hnp, hnq⟩)
          clear HGONE hcp hcq hnp hnq
          have hrj := HRJ.out
          have hbl := HBL.out
          have hbx := HBX2.out
          have hqx := HQX.out
          have hnL := HNL.out
          have hGG := HGG.out
          have hTT := HTT.out
          obtain ⟨wA, hwA, hqA, hlA, hbA⟩ := new_cells wx #[.int .i64 (np : Int), .int .i64 (nq : Int), .slice G r.gs.length gc, .int .i64 r.eat, .slice TT r.out.length tc] 50
          have hbrA := hbx.trans (hbA.mono hbx.size)
          have hrA := hrj.keep hbrA
          obtain ⟨vs, hvs, _⟩ := hrA.rules
          rw [hnL] at hvs
          have HVS := hid hvs
          have HRJA := hid hrA
          have HNEWS := hid (fun (j : Nat) (u : Value) (e : ([.int .i64 (np : Int), .int .i64 (nq : Int), .slice G r.gs.length gc, .int .i64 r.eat, .slice TT r.out.length tc] : List Value)[j]? = some u) => World.news_of_block (w := wA) hqA j u e)
          have HONE := hid (show ∀ u ∈ ([.int .i64 (np : Int), .int .i64 (nq : Int), .slice G r.gs.length gc, .int .i64 r.eat, .slice TT r.out.length tc] : List Value), u.oneCell' = true from fun u hu => by
            simp only [List.mem_cons, List.not_mem_nil, or_false] at hu
            rcases hu with rfl | rfl | rfl | rfl | rfl <;> rfl)
          have HGA := hid (hGG.keep ⟨hbrA.size, fun b hb _ => hbrA.block b (by have := HX2.out; have := hrj.box.lt; omega)⟩ (fun _ hb _ => hb))
          have HTA := hid (hTT.keep ⟨hbrA.size, fun b hb _ => hbrA.block b (by have := HX2.out; have := hrj.box.lt; omega)⟩ (fun _ hb _ => hb))
          have HBA := hid (hbl.trans (hbrA.mono (Nat.le_of_lt hrj.box.lt)))
          have HXS := hid (show x + 1 ≤ wA.heap.size by have := hrj.box.lt; have := hbrA.size; omega)
          obtain ⟨i9, hi9, hy0, hy1, hy2⟩ := info_parts infoRule
          have xv := (hrj.keep hbx).box.at4
          have l2 := hqx.cell 2
          have l3 := hqx.cell 3
          have l4 := hqx.cell 4
          simp only [sD, sE, sF] at l2 l3 l4
          clear hqx hbx hrj hbl hqA hlA hbA hbrA hrA hvs hGG hTT
          go_wp2_with (at_builtin; go_must (refine wpList_append_own_at _ rfl _ _ 23 rfl (x + 1) 50 i9 _ 5 72 Tryz.underlying23 hi9 hy0 hy1 hy2 rfl (by decide) v nL vs rfl HVS.out ⟨wx.heap.size, 0, none⟩ 1 1 [.int .i64 (np : Int), .int .i64 (nq : Int), .slice G r.gs.length gc, .int .i64 r.eat, .slice TT r.out.length tc] rfl rfl HNEWS.out HONE.out ?c3 ?c4 HXS.out ?_))
          case c3 => simp only [maxLen]; omega
          case c4 => omega
          intro v9 w9 hown9 hg9 _ hat9
          have hx9 : some x ≠ v.ownBlock := fun e => by have := (World.ownsRow.lt HVS.out x e.symm).1; omega
          have hdb := HRJA.out.box.keep (hg9.block x (by have := HXS.out; omega) hx9)
          obtain ⟨g9, c9, hv9, _, _⟩ := World.ownsRow.form hown9 (by omega)
          subst hv9
          have k1 := hdb.at4
          have k2 := hdb.frozen 4
          obtain ⟨wn, hwn⟩ : ∃ wn, w9.setCell ⟨x, 4, none⟩ (.slice (some ⟨g9, 0, none⟩) (nL + 1) c9) = wn := ⟨_, rfl⟩
          have hnext := HRJA.out.rule (r := kR l r) (H := wA.heap.size) (G := G) (T := TT) (gc := gc) (tc := tc) (by rw [hnL]; exact HVS.out) HGA.out hgc HTA.out htc hg9 (by rw [hnL]; unfold kR; rw [HNP.out.1, HNP.out.2]; exact hown9) hat9 (Nat.le_refl _)
          rw [hwn] at hnext
          have hbn : Below x wz wn := by
            rw [← hwn]
            exact (HBA.out.grown hg9 (by have := HXS.out; omega) (fun q e => by have := (World.ownsRow.lt HVS.out q e).1; omega)).setCell (Nat.le_refl x) _
          have HNEXT := hid (show TgRel w.heap.size x i o (l.length : Int) (ns : Int) l rs wz (.int .i64 ((k + 1 : Nat) : Int)) wn from ⟨k + 1, _, HK.out, rfl, by rw [trR_more HK.out (by rw [HRK.out]; exact HMP.out.1) (by rw [HRK.out]; exact HMP.out.2), HRK.out]; exact hnext, hbn⟩)
          clear hnext hdb hown9 hg9 hat9 hbn
          go_wp2_with (fail)
          go_roundw
          case rel => exact HNEXT.out
          case measure => simp [intOf]; omega
        · obtain rfl : k = rs.length := by omega
          rw [List.take_length] at hrj
          obtain ⟨wA, hwA⟩ : ∃ wA : World, wA = wr := ⟨_, rfl⟩
          subst hwA
          have HST2 := hid (show TfRel w.heap.size x i o (l.length : Int) (ns : Int) l rs fs wz v (.int .i64 (0 : Nat)) wA from ⟨0, .slice none 0 0, Nat.zero_le _, rfl, by rw [List.take_zero]; exact hrj, hbl⟩)
          clear hrj hbl
          go_wp2_with (fail)
          clear p0 p1 p2 p3 p4 p5
          go_loopw [11] (fun iv wr => TfRel w.heap.size x i o (l.length : Int) (ns : Int) l rs fs wz v iv wr) (fun iv _ => fs.length - (intOf iv).toNat)
          case atStart => exact HST2.out
          case round =>
            obtain ⟨k, vf, hk, rfl, hrj, hbl⟩ := hrel
            obtain ⟨p0, p1, p2, p3, p4, p5⟩ := HDB.out wr (HWZ.out wr hbl)
            by_cases hlt : k < fs.length
            · have hbw := HBW.out wr (HWZ.out wr hbl)
              obtain ⟨b, off, G, gc, TT, tc, hA, hbB, d0, d1, d2, hGG, hgc, hTT, htc⟩ := fi_here HD.out.finals hbw hlt
              obtain ⟨f0, f1, _⟩ := HR.out.fs _ (List.getElem_mem hlt)
              try dsimp only at f1
              obtain ⟨r, hrk⟩ : ∃ r, fs[k] = r := ⟨_, rfl⟩
              have HRK := hid hrk
              rw [hrk] at d0 d1 d2 hGG hgc hTT htc f0 f1
              obtain ⟨p, hp⟩ : ∃ p : Nat, r.frm = (p : Int) := ⟨r.frm.toNat, by omega⟩
              have hpN : p < N := by omega
              have HFP := hid (show r.frm.toNat = p by omega)
              rw [hp] at d0
              have HK := hid hlt
              have hrl := HR.out.f
              try dsimp only at hrl
              have hkb : k < 4096 := by omega
              obtain ⟨nL, hnL⟩ : ∃ nL, (trF l (fs.take k)).length = nL := ⟨_, rfl⟩
              have hnLb : nL ≤ 4096 := by
                rw [← hnL]
                unfold trF
                rw [List.length_map]
                refine Nat.le_trans (List.length_filter_le _ _) ?_
                rw [List.length_take]
                omega
              obtain ⟨wx, hwx, hqx, hlx, hbx⟩ := new_cells wr #[.int .i64 (p : Int), .slice G r.gs.length gc, .slice TT r.out.length tc] 45
              have HWX := hid hwx
              have HRJ := hid hrj
              have HBL := hid hbl
              have HGG := hid hGG
              have HTT := hid hTT
              have HNL := hid hnL
              have HQX := hid hqx
              have HBX2 := hid hbx
              have HME := hid (HMZ.out wx (hbl.trans (hbx.mono (Nat.le_of_lt hrj.box.lt))))
              subst hA
              clear hwx hqx hlx hbx hrj hbl hbw hrk hGG hTT hnL f0 f1 hrl
              go_upto_region 21 with (fail)
              rw [HWX.out]
              have l0 := HQX.out.cell 0
              simp only [sD, sE] at l0
              clear p0 p1 p2 p3 p4 p5 d0 d1 d2
              go_wp2_with (fail)
              refine (number_any (comesF rs sn) (goesF rs fs) N S1 S2 p wx HME.out.1 HME.out.2 hN2 hpN).mono ?_
              rintro e5 wn ⟨rfl, hwn⟩
              subst hwn
              cases hcp : (comesF rs sn p && goesF rs fs p) with
              | false =>
                rw [HOUT.out p hcp]
                have HGO := hid (show TfRel w.heap.size x i o (l.length : Int) (ns : Int) l rs fs wz v (.int .i64 ((k + 1 : Nat) : Int)) wn from ⟨k + 1, vf, HK.out, rfl, by
                  rw [trF_skip HK.out (by rw [HRK.out, HFP.out]; exact decide_eq_false fun hm => by rw [(HMEM.out p hpN).1 hm] at hcp; cases hcp)]
                  exact HRJ.out.keep HBX2.out, HBL.out.trans (HBX2.out.mono (Nat.le_of_lt HRJ.out.box.lt))⟩)
                clear hcp
                go_wp2_with (fail)
                go_roundw
                case rel => exact HGO.out
                case measure => simp [intOf]; omega
              | true =>
              obtain ⟨np, hnp⟩ : ∃ np, numL l p = np := ⟨_, rfl⟩
              rw [HIN.out p hpN hcp, hnp]
              have o1 : decide ((0 : Int) ≤ (np : Int)) = true := decide_eq_true (by omega)
              have HMP := hid (show r.frm.toNat ∈ l by rw [HFP.out]; exact (HMEM.out p hpN).2 hcp)
              have HNP := hid (show numL l r.frm.toNat = np by rw [HFP.out]; exact hnp)
              clear hcp hnp l0
              obtain ⟨wx, rfl⟩ : ∃ wx : World, wx = wn := ⟨_, rfl⟩
              have hrj := HRJ.out
              have hbl := HBL.out
              have hbx := HBX2.out
              have hqx := HQX.out
              have hnL := HNL.out
              have hGG := HGG.out
              have hTT := HTT.out
              obtain ⟨wA, hwA, hqA, hlA, hbA⟩ := new_cells wx #[.int .i64 (np : Int), .slice G r.gs.length gc, .slice TT r.out.length tc] 45
              have hbrA := hbx.trans (hbA.mono hbx.size)
              have hrA := hrj.keep hbrA
              obtain ⟨vs, hvs, _⟩ := hrA.finals
              rw [hnL] at hvs
              have HVS := hid hvs
              have HRJA := hid hrA
              have HNEWS := hid (fun (j : Nat) (u : Value) (e : ([.int .i64 (np : Int), .slice G r.gs.length gc, .slice TT r.out.length tc] : List Value)[j]? = some u) => World.news_of_block (w := wA) hqA j u e)
              have HONE := hid (show ∀ u ∈ ([.int .i64 (np : Int), .slice G r.gs.length gc, .slice TT r.out.length tc] : List Value), u.oneCell' = true from fun u hu => by
                simp only [List.mem_cons, List.not_mem_nil, or_false] at hu
                rcases hu with rfl | rfl | rfl <;> rfl)
              have HGA := hid (hGG.keep ⟨hbrA.size, fun b hb _ => hbrA.block b (by have := HX2.out; have := hrj.box.lt; omega)⟩ (fun _ hb _ => hb))
              have HTA := hid (hTT.keep ⟨hbrA.size, fun b hb _ => hbrA.block b (by have := HX2.out; have := hrj.box.lt; omega)⟩ (fun _ hb _ => hb))
              have HBA := hid (hbl.trans (hbrA.mono (Nat.le_of_lt hrj.box.lt)))
              have HXS := hid (show x + 1 ≤ wA.heap.size by have := hrj.box.lt; have := hbrA.size; omega)
              obtain ⟨i9, hi9, hy0, hy1, hy2⟩ := info_parts infoFinal
              have xv := (hrj.keep hbx).box.at5
              have l1 := hqx.cell 1
              have l2 := hqx.cell 2
              simp only [sD, sE, sF] at l1 l2
              clear hqx hbx hrj hbl hqA hlA hbA hbrA hrA hvs hGG hTT
              go_wp2_with (at_builtin; go_must (refine wpList_append_own_at _ rfl _ _ 24 rfl (x + 1) 45 i9 _ 3 56 Tryz.underlying24 hi9 hy0 hy1 hy2 rfl (by decide) vf nL vs rfl HVS.out ⟨wx.heap.size, 0, none⟩ 1 1 [.int .i64 (np : Int), .slice G r.gs.length gc, .slice TT r.out.length tc] rfl rfl HNEWS.out HONE.out ?c3 ?c4 HXS.out ?_))
              case c3 => simp only [maxLen]; omega
              case c4 => omega
              intro v9 w9 hown9 hg9 _ hat9
              have hx9 : some x ≠ vf.ownBlock := fun e => by have := (World.ownsRow.lt HVS.out x e.symm).1; omega
              have hdb := HRJA.out.box.keep (hg9.block x (by have := HXS.out; omega) hx9)
              obtain ⟨g9, c9, hv9, _, _⟩ := World.ownsRow.form hown9 (by omega)
              subst hv9
              have k1 := hdb.at5
              have k2 := hdb.frozen 5
              obtain ⟨wn, hwn⟩ : ∃ wn, w9.setCell ⟨x, 5, none⟩ (.slice (some ⟨g9, 0, none⟩) (nL + 1) c9) = wn := ⟨_, rfl⟩
              have hnext := HRJA.out.final (r := kF l r) (H := wA.heap.size) (G := G) (T := TT) (gc := gc) (tc := tc) (by rw [hnL]; exact HVS.out) HGA.out hgc HTA.out htc hg9 (by rw [hnL]; unfold kF; rw [HNP.out]; exact hown9) hat9 (Nat.le_refl _)
              rw [hwn] at hnext
              have hbn : Below x wz wn := by
                rw [← hwn]
                exact (HBA.out.grown hg9 (by have := HXS.out; omega) (fun q e => by have := (World.ownsRow.lt HVS.out q e).1; omega)).setCell (Nat.le_refl x) _
              have HNEXT := hid (show TfRel w.heap.size x i o (l.length : Int) (ns : Int) l rs fs wz v (.int .i64 ((k + 1 : Nat) : Int)) wn from ⟨k + 1, _, HK.out, rfl, by rw [trF_more HK.out (by rw [HRK.out]; exact HMP.out), HRK.out]; exact hnext, hbn⟩)
              clear hnext hdb hown9 hg9 hat9 hbn
              go_wp2_with (fail)
              go_roundw
              case rel => exact HNEXT.out
              case measure => simp [intOf]; omega
            · obtain rfl : k = fs.length := by omega
              rw [List.take_length] at hrj
              have hbR : ∀ r ∈ trR l rs, r.gs.length ≤ maxLen ∧ (∀ g ∈ r.gs, g.length ≤ maxLen) ∧ r.out.length ≤ maxLen ∧ IntR r.eat := fun r hr => by
                obtain ⟨q, hq, e1, e2, e3⟩ := trR_mem hr
                obtain ⟨_, _, _, _, q5, q6, q7, _, q9, q10⟩ := HR.out.rs q hq
                rw [e1, e2, e3]
                unfold maxLen IntR
                exact ⟨by omega, fun g hg => by have := q6 g hg; omega, by omega, by omega, by omega⟩
              have hbF : ∀ r ∈ trF l fs, r.gs.length ≤ maxLen ∧ (∀ g ∈ r.gs, g.length ≤ maxLen) ∧ r.out.length ≤ maxLen := fun r hr => by
                obtain ⟨q, hq, e1, e2⟩ := trF_mem hr
                obtain ⟨_, _, q5, q6, q7, _⟩ := HR.out.fs q hq
                rw [e1, e2]
                unfold maxLen
                exact ⟨by omega, fun g hg => by have := q6 g hg; omega, by omega⟩
              obtain ⟨AR, cR, hvR, hrR, hcR, hmR⟩ := RowRu.reads hrj.rules hbR
              obtain ⟨AF, cF, hvF, hrF, hcF, hmF⟩ := RowFi.reads hrj.finals hbF
              subst hvR hvF
              obtain ⟨x0, x1, x2, x3, x4, x5⟩ := hrj.box.cells
              have HRJ := hid hrj
              have HBR2 := hid (And.intro hbR hbF)
              have HZR := hid (HZ.out wr (HWZ.out wr hbl))
              have HBR := hid (HBW.out wr (HWZ.out wr hbl))
              clear hrj hbR hbF hrR hcR hrF hcF hbl
              unfold maxLen at hmR hmF
              have z0 := HZR.out.cell 0
              have y0 := HZR.out.frozen 0
              have z1 := HZR.out.cell 1
              have y1 := HZR.out.frozen 1
              have z2 := HZR.out.cell 2
              have y2 := HZR.out.frozen 2
              have z3 := HZR.out.cell 3
              have y3 := HZR.out.frozen 3
              have z4 := HZR.out.cell 4
              have y4 := HZR.out.frozen 4
              have z5 := HZR.out.cell 5
              have y5 := HZR.out.frozen 5
              simp only [sD, sE, sF] at z0 z1 z2 z3 z4 z5
              go_wp2_with (fail)
              obtain ⟨wE, hwE⟩ : ∃ wE, ((((((wr.setCell ⟨w.heap.size + 1, 0, none⟩ (.int .i64 i)).setCell ⟨w.heap.size + 1, 1, none⟩ (.int .i64 o)).setCell ⟨w.heap.size + 1, 2, none⟩ (.int .i64 (l.length : Int))).setCell ⟨w.heap.size + 1, 3, none⟩ (.int .i64 (ns : Int))).setCell ⟨w.heap.size + 1, 4, none⟩ (.slice AR (trR l rs).length cR)).setCell ⟨w.heap.size + 1, 5, none⟩ (.slice AF (trF l fs).length cF)) = wE := ⟨_, rfl⟩
              have hqE : Blk wE (w.heap.size + 1) 26 #[.int .i64 i, .int .i64 o, .int .i64 (l.length : Int), .int .i64 (ns : Int), .slice AR (trR l rs).length cR, .slice AF (trF l fs).length cF] := by
                rw [← hwE]
                exact ((((((HZR.out.set_ 0 _).set_ 1 _).set_ 2 _).set_ 3 _).set_ 4 _).set_ 5 _)
              have hbE : Below w.heap.size w wE := by
                rw [← hwE]
                exact (((((HBR.out.setCell (by simp) _).setCell (by simp) _).setCell (by simp) _).setCell (by simp) _).setCell (by simp) _).setCell (by simp) _
              have hother : ∀ g, g ≠ w.heap.size + 1 → wE.heap[g]? = wr.heap[g]? := fun g hg => by
                rw [← hwE]
                rw [heap_setCell_other _ ⟨w.heap.size + 1, 5, none⟩ g _ hg, heap_setCell_other _ ⟨w.heap.size + 1, 4, none⟩ g _ hg, heap_setCell_other _ ⟨w.heap.size + 1, 3, none⟩ g _ hg, heap_setCell_other _ ⟨w.heap.size + 1, 2, none⟩ g _ hg, heap_setCell_other _ ⟨w.heap.size + 1, 1, none⟩ g _ hg, heap_setCell_other _ ⟨w.heap.size + 1, 0, none⟩ g _ hg]
              have k0 := hqE.cell 0
              have k1 := hqE.cell 1
              have k2 := hqE.cell 2
              have k3 := hqE.cell 3
              have k4 := hqE.cell 4
              have k5 := hqE.cell 5
              simp only [sD, sE, sF] at k0 k1 k2 k3 k4 k5
              try rw [hwE]
              have hrr : RowRu _ wE (x + 1) _ (trR l rs) := HRJ.out.rules.keep (by rw [← hwE]; simp) (fun g e => hother g (by
                obtain ⟨vs0, h0, _⟩ := HRJ.out.rules
                have := (World.ownsRow.lt h0 g e).1
                have := HXL.out
                omega)) (fun g hg _ _ => hother g (by omega)) (fun _ hp _ => hp)
              have hff : RowFi _ wE (x + 1) _ (trF l fs) := HRJ.out.finals.keep (by rw [← hwE]; simp) (fun g e => hother g (by
                obtain ⟨vs0, h0, _⟩ := HRJ.out.finals
                have := (World.ownsRow.lt h0 g e).1
                have := HXL.out
                omega)) (fun g hg _ _ => hother g (by omega)) (fun _ hp _ => hp)
              obtain ⟨AR', cR', hvR', hrR', _, _⟩ := RowRu.reads hrr HBR2.out.1
              obtain ⟨AF', cF', hvF', hrF', _, _⟩ := RowFi.reads hff HBR2.out.2
              injection hvR' with e1 _ e2
              injection hvF' with e3 _ e4
              subst e1 e3
              have HPOST : RTrimOut i o N sn rs fs w (.returned (dsc i o (l.length : Int) (ns : Int) AR (trR l rs).length cR AF (trF l fs).length cF)) wE := ⟨hbE, .inr ⟨HG.out, by rw [HL.out, HNS.out]; exact ⟨AR, cR, AF, cF, rfl, hrR', hrF'⟩⟩⟩
              exact bodyPost_ret (v := dsc i o (l.length : Int) (ns : Int) AR (trR l rs).length cR AF (trF l fs).length cF) (by simp [results, Tryz.results21, go_sem, k0, k1, k2, k3, k4, k5]) rfl HPOST
end Go.Proofs.YtoofgpoeheponaaGreatDoor.Tr
