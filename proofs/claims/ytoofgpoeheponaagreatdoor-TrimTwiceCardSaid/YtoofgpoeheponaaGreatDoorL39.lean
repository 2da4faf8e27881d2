import Derived.Test.YtoofgpoeheponaaGreatDoorL37
import Derived.Test.YtoofgpoeheponaaGreatDoorL38
set_option maxRecDepth 100000
namespace Go.Proofs.YtoofgpoeheponaaGreatDoor.Tr
open Go Go.RowKit Sp Pa Te Mi De
open Go.Lib (hid)
theorem below_t {w W W' : World} (h1 : Below w.heap.size w W) (h2 : Below W.heap.size W W') : Below w.heap.size w W' := h1.trans (h2.mono h1.size)
def BadOut (w : World) (e : Ending) (w' : World) : Prop := e = .returned (.tuple #[dsc 0 0 0 0 none 0 0 none 0 0, .int .i64 2]) ∧ Below w.heap.size w w'
set_option maxHeartbeats 8000000 in
theorem trim_bad (i o n s : Int) (A : Option Addr) (cr : Nat) (B : Option Addr) (cf : Nat) (rs : List RuL) (fs : List FiL) (w : World) (hd : DM w ⟨i, o, n, s, A, cr, B, cf, rs, fs⟩) (hT : Fi.TabB w) (hw : (whereD i o n s rs fs).1 ≠ 0) :
    Calls Tryz.prog 20 #[dsc i o n s A rs.length cr B fs.length cf] w (BadOut w) := by
  obtain ⟨w2, hw2⟩ : ∃ w2, (w.alloc (.cells #[.int .i64 i, .int .i64 o, .int .i64 n, .int .i64 s, .slice A rs.length cr, .slice B fs.length cf] 26)).alloc (.cells #[.int .i64 0, .int .i64 0, .int .i64 0, .int .i64 0, .slice none 0 0, .slice none 0 0] 26) = w2 := ⟨_, rfl⟩
  have hs2 : w2.heap.size = w.heap.size + 2 := by rw [← hw2]; simp
  have hb2 : Below w.heap.size w w2 := by rw [← hw2]; exact ((Below.refl _ _).alloc (Nat.le_refl _) _).alloc (by simp) _
  have hqd : Blk w2 w.heap.size 26 #[.int .i64 i, .int .i64 o, .int .i64 n, .int .i64 s, .slice A rs.length cr, .slice B fs.length cf] := by
    rw [← hw2]
    exact (show Blk _ _ _ _ from heap_alloc_new w _).alloc _
  have hqz : Blk w2 (w.heap.size + 1) 26 #[.int .i64 0, .int .i64 0, .int .i64 0, .int .i64 0, .slice none 0 0, .slice none 0 0] := by
    rw [← hw2]
    have h := heap_alloc_new (w.alloc (.cells #[.int .i64 i, .int .i64 o, .int .i64 n, .int .i64 s, .slice A rs.length cr, .slice B fs.length cf] 26)) (.cells #[.int .i64 0, .int .i64 0, .int .i64 0, .int .i64 0, .slice none 0 0, .slice none 0 0] 26)
    rw [World.size_alloc] at h
    exact h
  have H2 := hid (show w.heap.size ≤ w2.heap.size by omega)
  have HBW := hid (fun W (h : Below w2.heap.size w2 W) => show Below w.heap.size w W from hb2.trans (h.mono H2.out))
  have HDB := hid (fun W (h : Below w2.heap.size w2 W) => show DB W w.heap.size i o n s A rs.length cr B fs.length cf from by
    have h1 := hqd.below h (by omega)
    exact ⟨h1.cell 0, h1.cell 1, h1.cell 2, h1.cell 3, h1.cell 4, h1.cell 5⟩)
  have HQD := hid (fun W (h : Below w2.heap.size w2 W) => show Blk W w.heap.size 26 #[.int .i64 i, .int .i64 o, .int .i64 n, .int .i64 s, .slice A rs.length cr, .slice B fs.length cf] from hqd.below h (by omega))
  have HZ := hid (fun W (h : Below w2.heap.size w2 W) => show Blk W (w.heap.size + 1) 26 #[.int .i64 0, .int .i64 0, .int .i64 0, .int .i64 0, .slice none 0 0, .slice none 0 0] from hqz.below h (by omega))
  have HC := hid (checkD_any i o n s A cr B cf rs fs w2 (hd.below hb2).rules hd.rl (hd.below hb2).finals hd.fl (hT.next hb2))
  rw [if_neg hw] at HC
  obtain ⟨p0, p1, p2, p3, p4, p5⟩ := HDB.out w2 (Below.refl _ _)
  clear hd hT hw hb2 hqd hqz
  go_enter Tryz.func20, Tryz.ntmps20
  go_wp2_with (fail)
  refine HC.out.mono ?_
  rintro e w3 ⟨rfl, hb3⟩
  have HZ3 := hid (HZ.out w3 hb3)
  have HB3 := hid (HBW.out w3 hb3)
  clear hb3 p0 p1 p2 p3 p4 p5
  have z0 := HZ3.out.cell 0
  have y0 := HZ3.out.frozen 0
  have z1 := HZ3.out.cell 1
  have y1 := HZ3.out.frozen 1
  have z2 := HZ3.out.cell 2
  have y2 := HZ3.out.frozen 2
  have z3 := HZ3.out.cell 3
  have y3 := HZ3.out.frozen 3
  have z4 := HZ3.out.cell 4
  have y4 := HZ3.out.frozen 4
  have z5 := HZ3.out.cell 5
  have y5 := HZ3.out.frozen 5
  simp only [List.getElem?_toArray, List.getElem?_cons_zero, List.getElem?_cons_succ] at z0 z1 z2 z3 z4 z5
  go_wp2_with (fail)
  obtain ⟨wE, hwE⟩ : ∃ wE, ((((((w3.setCell ⟨w.heap.size + 1, 0, none⟩ (.int .i64 0)).setCell ⟨w.heap.size + 1, 1, none⟩ (.int .i64 0)).setCell ⟨w.heap.size + 1, 2, none⟩ (.int .i64 0)).setCell ⟨w.heap.size + 1, 3, none⟩ (.int .i64 0)).setCell ⟨w.heap.size + 1, 4, none⟩ (.slice none 0 0)).setCell ⟨w.heap.size + 1, 5, none⟩ (.slice none 0 0)) = wE := ⟨_, rfl⟩
  have hqE : Blk wE (w.heap.size + 1) 26 #[.int .i64 0, .int .i64 0, .int .i64 0, .int .i64 0, .slice none 0 0, .slice none 0 0] := by
    rw [← hwE]
    exact ((((((HZ3.out.set_ 0 _).set_ 1 _).set_ 2 _).set_ 3 _).set_ 4 _).set_ 5 _)
  have hbE : Below w.heap.size w wE := by
    rw [← hwE]
    exact (((((HB3.out.setCell (by simp) _).setCell (by simp) _).setCell (by simp) _).setCell (by simp) _).setCell (by simp) _).setCell (by simp) _
  have hother : ∀ g, g ≠ w.heap.size + 1 → wE.heap[g]? = w3.heap[g]? := fun g hg => by
    rw [← hwE]
    rw [heap_setCell_other _ ⟨w.heap.size + 1, 5, none⟩ g _ hg, heap_setCell_other _ ⟨w.heap.size + 1, 4, none⟩ g _ hg, heap_setCell_other _ ⟨w.heap.size + 1, 3, none⟩ g _ hg, heap_setCell_other _ ⟨w.heap.size + 1, 2, none⟩ g _ hg, heap_setCell_other _ ⟨w.heap.size + 1, 1, none⟩ g _ hg, heap_setCell_other _ ⟨w.heap.size + 1, 0, none⟩ g _ hg]
  have k0 := hqE.cell 0
  have k1 := hqE.cell 1
  have k2 := hqE.cell 2
  have k3 := hqE.cell 3
  have k4 := hqE.cell 4
  have k5 := hqE.cell 5
  simp only [List.getElem?_toArray, List.getElem?_cons_zero, List.getElem?_cons_succ] at k0 k1 k2 k3 k4 k5
  try rw [hwE]
  have HPOST : BadOut w (.returned (.tuple #[dsc 0 0 0 0 none 0 0 none 0 0, .int .i64 2])) wE := ⟨rfl, hbE⟩
  exact bodyPost_ret (v := .tuple #[dsc 0 0 0 0 none 0 0 none 0 0, .int .i64 2]) (by simp [results, Tryz.results20, go_sem, k0, k1, k2, k3, k4, k5]) rfl HPOST
def TrimOut (i o : Int) (N sn : Nat) (rs : List RuL) (fs : List FiL) (w : World) (e : Ending) (w' : World) : Prop := Below w.heap.size w w' ∧
  ((goesF rs fs sn = false ∧ e = .returned (.tuple #[dsc i o 1 0 none 0 0 none 0 0, .int .i64 0])) ∨
   (goesF rs fs sn = true ∧ ∃ A' cr' B' cf', e = .returned (.tuple #[dsc i o ((keptL N sn rs fs).length : Int) (numL (keptL N sn rs fs) sn : Int) A' (trR (keptL N sn rs fs) rs).length cr' B' (trF (keptL N sn rs fs) fs).length cf', .int .i64 0]) ∧
     DM w' ⟨i, o, ((keptL N sn rs fs).length : Int), (numL (keptL N sn rs fs) sn : Int), A', cr', B', cf', trR (keptL N sn rs fs) rs, trF (keptL N sn rs fs) fs⟩))
set_option maxHeartbeats 16000000 in
theorem trim_ok (i o : Int) (N sn : Nat) (A : Option Addr) (cr : Nat) (B : Option Addr) (cf : Nat) (rs : List RuL) (fs : List FiL) (w : World) (hd : DM w ⟨i, o, (N : Int), (sn : Int), A, cr, B, cf, rs, fs⟩) (hT : Fi.TabB w) (hw : (whereD i o (N : Int) (sn : Int) rs fs).1 = 0) (hfl : fs.length ≤ 1024) :
    Calls Tryz.prog 20 #[dsc i o (N : Int) (sn : Int) A rs.length cr B fs.length cf] w (TrimOut i o N sn rs fs w) := by
  obtain ⟨w2, hw2⟩ : ∃ w2, (w.alloc (.cells #[.int .i64 i, .int .i64 o, .int .i64 (N : Int), .int .i64 (sn : Int), .slice A rs.length cr, .slice B fs.length cf] 26)).alloc (.cells #[.int .i64 0, .int .i64 0, .int .i64 0, .int .i64 0, .slice none 0 0, .slice none 0 0] 26) = w2 := ⟨_, rfl⟩
  have hs2 : w2.heap.size = w.heap.size + 2 := by rw [← hw2]; simp
  have hb2 : Below w.heap.size w w2 := by rw [← hw2]; exact ((Below.refl _ _).alloc (Nat.le_refl _) _).alloc (by simp) _
  have hqd : Blk w2 w.heap.size 26 #[.int .i64 i, .int .i64 o, .int .i64 (N : Int), .int .i64 (sn : Int), .slice A rs.length cr, .slice B fs.length cf] := by
    rw [← hw2]
    exact (show Blk _ _ _ _ from heap_alloc_new w _).alloc _
  have hqz : Blk w2 (w.heap.size + 1) 26 #[.int .i64 0, .int .i64 0, .int .i64 0, .int .i64 0, .slice none 0 0, .slice none 0 0] := by
    rw [← hw2]
    have h := heap_alloc_new (w.alloc (.cells #[.int .i64 i, .int .i64 o, .int .i64 (N : Int), .int .i64 (sn : Int), .slice A rs.length cr, .slice B fs.length cf] 26)) (.cells #[.int .i64 0, .int .i64 0, .int .i64 0, .int .i64 0, .slice none 0 0, .slice none 0 0] 26)
    rw [World.size_alloc] at h
    exact h
  have H2 := hid (show w.heap.size ≤ w2.heap.size by omega)
  have HBW := hid (fun W (h : Below w2.heap.size w2 W) => show Below w.heap.size w W from hb2.trans (h.mono H2.out))
  have HDB := hid (fun W (h : Below w2.heap.size w2 W) => show DB W w.heap.size i o (N : Int) (sn : Int) A rs.length cr B fs.length cf from by
    have h1 := hqd.below h (by omega)
    exact ⟨h1.cell 0, h1.cell 1, h1.cell 2, h1.cell 3, h1.cell 4, h1.cell 5⟩)
  have HQD := hid (fun W (h : Below w2.heap.size w2 W) => show Blk W w.heap.size 26 #[.int .i64 i, .int .i64 o, .int .i64 (N : Int), .int .i64 (sn : Int), .slice A rs.length cr, .slice B fs.length cf] from hqd.below h (by omega))
  have HZ := hid (fun W (h : Below w2.heap.size w2 W) => show Blk W (w.heap.size + 1) 26 #[.int .i64 0, .int .i64 0, .int .i64 0, .int .i64 0, .slice none 0 0, .slice none 0 0] from hqz.below h (by omega))
  have hR : RightD ⟨i, o, (N : Int), (sn : Int), A, cr, B, cf, rs, fs⟩ := DV.right.rightD (d := ⟨i, o, (N : Int), (sn : Int), A, cr, B, cf, rs, fs⟩) hw
  have hNN : 1 ≤ N ∧ N ≤ 1024 := by have h1 := hR.n; dsimp only at h1; omega
  have hsn : sn < N := by have h1 := hR.s.2; dsimp only at h1; omega
  have hst : ∀ j (hj : j < rs.length), stB N rs[j].frm = true ∧ stB N rs[j].to_ = true := fun j hj => by
    obtain ⟨h1, h2, h3, h4, _⟩ := hR.rs rs[j] (List.getElem_mem hj)
    exact ⟨stB_t h1 h2, stB_t h3 h4⟩
  have hsf : ∀ j (hj : j < fs.length), stB N fs[j].frm = true := fun j hj => by
    obtain ⟨h1, h2, _⟩ := hR.fs fs[j] (List.getElem_mem hj)
    exact stB_t h1 h2
  have HC := hid (checkD_any i o N sn A cr B cf rs fs w2 (hd.below hb2).rules hd.rl (hd.below hb2).finals hd.fl (hT.next hb2))
  rw [if_pos hw] at HC
  have HCM := hid (fun W (h : Below w2.heap.size w2 W) => comes_any N i o sn A cr B cf rs fs W (hd.below (HBW.out W h)).rules (hd.below (HBW.out W h)).finals hR.r hfl hNN hsn hst hsf)
  have HGO := hid (fun W (h : Below w2.heap.size w2 W) => goes_any N i o sn A cr B cf rs fs W (hd.below (HBW.out W h)).rules (hd.below (HBW.out W h)).finals hR.r hfl hNN hsn hst hsf)
  obtain ⟨l, hl⟩ : ∃ l, keptL N sn rs fs = l := ⟨_, rfl⟩
  have HL := hid hl
  have HKP := hid (fun W (h : Below w2.heap.size w2 W) S (hm : Marks W S N fun q => comesF rs sn q && goesF rs fs q) (hg : goesF rs fs sn = true) => show Calls Tryz.prog 34 #[dsc i o (N : Int) (sn : Int) A rs.length cr B fs.length cf, .slice (some ⟨S, 0, none⟩) N N] W (KeptD i o sn l rs fs W) from by
    rw [← hl]
    exact keep_any N i o sn A cr B cf rs fs (fun q => comesF rs sn q && goesF rs fs q) S W hm (hd.below (HBW.out W h)) hR (by
      rw [hg, Bool.and_true]
      exact reachB_iff.2 (.first (by simp))))
  clear hl
  obtain ⟨p0, p1, p2, p3, p4, p5⟩ := HDB.out w2 (Below.refl _ _)
  have HN1 := hid hNN.2
  clear hd hT hw hb2 hqd hqz hR hst hsf hfl hNN
  go_enter Tryz.func20, Tryz.ntmps20
  go_wp2_with (fail)
  refine HC.out.mono ?_
  rintro e w3 ⟨rfl, hb3⟩
  have H3 := hid hb3
  clear hb3 p0 p1 p2 p3 p4 p5
  obtain ⟨p0, p1, p2, p3, p4, p5⟩ := HDB.out w3 H3.out
  go_wp2_with (fail)
  refine (HGO.out w3 H3.out).mono ?_
  rintro e w4 ⟨S, hS, rfl, ho, hb4⟩
  have H4 := hid (below_t H3.out hb4)
  have HM4 := hid (show Marks w4 S N (goesF rs fs) from ho)
  have hgc := HM4.out.cell hsn
  have i1 : (0 : Int) ≤ (sn : Int) := Int.natCast_nonneg _
  have i2 : (sn : Int) < (N : Int) := by omega
  clear hb4 ho p0 p1 p2 p3 p4 p5
  obtain ⟨p0, p1, p2, p3, p4, p5⟩ := HDB.out w4 H4.out
  cases hg : goesF rs fs sn with
  | false =>
    rw [hg] at hgc
    have HG := hid hg
    clear hg
    go_wp2_with (fail)
    refine (empty_any i o w4).mono ?_
    rintro e w5 ⟨rfl, hb5⟩
    have HZ5 := hid (HZ.out w5 (below_t H4.out hb5))
    have HB5 := hid (HBW.out w5 (below_t H4.out hb5))
    clear hb5 hgc p0 p1 p2 p3 p4 p5
    have z0 := HZ5.out.cell 0
    have y0 := HZ5.out.frozen 0
    have z1 := HZ5.out.cell 1
    have y1 := HZ5.out.frozen 1
    have z2 := HZ5.out.cell 2
    have y2 := HZ5.out.frozen 2
    have z3 := HZ5.out.cell 3
    have y3 := HZ5.out.frozen 3
    have z4 := HZ5.out.cell 4
    have y4 := HZ5.out.frozen 4
    have z5 := HZ5.out.cell 5
    have y5 := HZ5.out.frozen 5
    simp only [List.getElem?_toArray, List.getElem?_cons_zero, List.getElem?_cons_succ] at z0 z1 z2 z3 z4 z5
    go_wp2_with (fail)
    obtain ⟨wE, hwE⟩ : ∃ wE, ((((((w5.setCell ⟨w.heap.size + 1, 0, none⟩ (.int .i64 i)).setCell ⟨w.heap.size + 1, 1, none⟩ (.int .i64 o)).setCell ⟨w.heap.size + 1, 2, none⟩ (.int .i64 1)).setCell ⟨w.heap.size + 1, 3, none⟩ (.int .i64 0)).setCell ⟨w.heap.size + 1, 4, none⟩ (.slice none 0 0)).setCell ⟨w.heap.size + 1, 5, none⟩ (.slice none 0 0)) = wE := ⟨_, rfl⟩
    have hqE : Blk wE (w.heap.size + 1) 26 #[.int .i64 i, .int .i64 o, .int .i64 1, .int .i64 0, .slice none 0 0, .slice none 0 0] := by
      rw [← hwE]
      exact ((((((HZ5.out.set_ 0 _).set_ 1 _).set_ 2 _).set_ 3 _).set_ 4 _).set_ 5 _)
    have hbE : Below w.heap.size w wE := by
      rw [← hwE]
      exact (((((HB5.out.setCell (by simp) _).setCell (by simp) _).setCell (by simp) _).setCell (by simp) _).setCell (by simp) _).setCell (by simp) _
    have hother : ∀ g, g ≠ w.heap.size + 1 → wE.heap[g]? = w5.heap[g]? := fun g hg => by
      rw [← hwE]
      rw [heap_setCell_other _ ⟨w.heap.size + 1, 5, none⟩ g _ hg, heap_setCell_other _ ⟨w.heap.size + 1, 4, none⟩ g _ hg, heap_setCell_other _ ⟨w.heap.size + 1, 3, none⟩ g _ hg, heap_setCell_other _ ⟨w.heap.size + 1, 2, none⟩ g _ hg, heap_setCell_other _ ⟨w.heap.size + 1, 1, none⟩ g _ hg, heap_setCell_other _ ⟨w.heap.size + 1, 0, none⟩ g _ hg]
    have k0 := hqE.cell 0
    have k1 := hqE.cell 1
    have k2 := hqE.cell 2
    have k3 := hqE.cell 3
    have k4 := hqE.cell 4
    have k5 := hqE.cell 5
    simp only [List.getElem?_toArray, List.getElem?_cons_zero, List.getElem?_cons_succ] at k0 k1 k2 k3 k4 k5
    try rw [hwE]
    have HPOST : TrimOut i o N sn rs fs w (.returned (.tuple #[dsc i o 1 0 none 0 0 none 0 0, .int .i64 0])) wE := ⟨hbE, .inl ⟨HG.out, rfl⟩⟩
    exact bodyPost_ret (v := .tuple #[dsc i o 1 0 none 0 0 none 0 0, .int .i64 0]) (by simp [results, Tryz.results20, go_sem, k0, k1, k2, k3, k4, k5]) rfl HPOST
  | true =>
    rw [hg] at hgc
    have HG := hid hg
    clear hg
    go_upto_region 7 with (fail)
    clear hgc p0 p1 p2 p3 p4 p5
    obtain ⟨we, hwe⟩ : ∃ we, w4.drew = we := ⟨_, rfl⟩
    have hB2 : Below w2.heap.size w2 we := by rw [← hwe]; exact H4.out.drew
    have hM : Marks we S N (goesF rs fs) := by rw [← hwe]; exact HM4.out.keep (Below.refl _ _).drew
    refine wp_region_held_drew (S := fun W => Blk W w.heap.size 26 #[.int .i64 i, .int .i64 o, .int .i64 (N : Int), .int .i64 (sn : Int), .slice A rs.length cr, .slice B fs.length cf]) (by kernel_rfl) (by rw [hwe]; exact HQD.out _ hB2) (fun hHeld => ?_)
    rw [hwe] at hHeld ⊢
    refine wpAnyH_take (i := 0) (oi := { dst := some 25, op := Op.load 26 (Operand.tmp 1), type := 26, pos := "trim.go:39", after := #[], guard := none }) (v := ?_) rfl (by kernel_rfl) (by kernel_rfl) (by kernel_rfl) (fun _ _ _ h => h) (Or.inl ⟨by rfl, ?_⟩) (by assumption) ?_
    rotate_left
    · intro w' hSw
      (try dsimp only at hSw)
      have p0 := hSw.cell 0
      have p1 := hSw.cell 1
      have p2 := hSw.cell 2
      have p3 := hSw.cell 3
      have p4 := hSw.cell 4
      have p5 := hSw.cell 5
      simp only [List.getElem?_toArray, List.getElem?_cons_zero, List.getElem?_cons_succ] at p0 p1 p2 p3 p4 p5
      go_simp
      all_goals with_reducible rfl
    try simp only [Act.put, List.setIfInBounds_toArray, List.set_cons_zero, List.set_cons_succ]
    refine wpAnyH_take (i := 1) (oi := { dst := some 26, op := Op.load 26 (Operand.tmp 1), type := 26, pos := "trim.go:39", after := #[], guard := none }) (v := ?_) rfl (by kernel_rfl) (by kernel_rfl) (by kernel_rfl) (fun _ _ _ h => h) (Or.inl ⟨by rfl, ?_⟩) (by assumption) ?_
    rotate_left
    · intro w' hSw
      (try dsimp only at hSw)
      have p0 := hSw.cell 0
      have p1 := hSw.cell 1
      have p2 := hSw.cell 2
      have p3 := hSw.cell 3
      have p4 := hSw.cell 4
      have p5 := hSw.cell 5
      simp only [List.getElem?_toArray, List.getElem?_cons_zero, List.getElem?_cons_succ] at p0 p1 p2 p3 p4 p5
      go_simp
      all_goals with_reducible rfl
    try simp only [Act.put, List.setIfInBounds_toArray, List.set_cons_zero, List.set_cons_succ]
    refine wpAnyH_take (i := 3) (oi := { dst := some 28, op := Op.move (Operand.tmp 5), type := 38, pos := "trim.go:39", after := #[], guard := none }) (v := ?_) rfl (by kernel_rfl) (by kernel_rfl) (by kernel_rfl) (fun _ _ _ h => h) (Or.inl ⟨by rfl, ?_⟩) (by assumption) ?_
    rotate_left
    · intro w' hSw
      (try dsimp only at hSw)
      have p0 := hSw.cell 0
      have p1 := hSw.cell 1
      have p2 := hSw.cell 2
      have p3 := hSw.cell 3
      have p4 := hSw.cell 4
      have p5 := hSw.cell 5
      simp only [List.getElem?_toArray, List.getElem?_cons_zero, List.getElem?_cons_succ] at p0 p1 p2 p3 p4 p5
      go_simp
      all_goals with_reducible rfl
    try simp only [Act.put, List.setIfInBounds_toArray, List.set_cons_zero, List.set_cons_succ]
    refine wpAnyH_ready (rs := [2]) (by kernel_rfl) (by simp) ?_
    refine AllReadyH.cons (o := { dst := some 27, op := Op.call { callee := Callee.value (Operand.func 32), args := #[Operand.tmp 26], argTypes := #[26] }, type := 38, pos := "trim.go:39", after := #[{ on := 1, ground := Ground.data }], guard := none }) rfl (fun K hK => ?_) AllReadyH.nil
    go_simp
    go_wp2_with (go_at_call 32; (with_reducible refine (HCM.out _ hB2).mono ?_); rintro e5 w5 ⟨T, hTS, rfl, ho5, hb5⟩)
    have hM5 : Marks w5 T N (comesF rs sn) := ho5
    have hM := hM.keep hb5
    have hB2 := below_t hB2 hb5
    clear ho5
    refine hK.out _ _ ?_ (fun hHeld => ?_)
    · exact HQD.out _ hB2
    clear hK K
    try simp only [Act.put, List.setIfInBounds_toArray, List.set_cons_zero, List.set_cons_succ]
    refine wpAnyH_ready (rs := [4]) (by kernel_rfl) (by simp) ?_
    refine AllReadyH.cons (o := { dst := some 29, op := Op.call { callee := Callee.value (Operand.func 35), args := #[Operand.tmp 27, Operand.tmp 28], argTypes := #[38, 38] }, type := 38, pos := "trim.go:39", after := #[{ on := 2, ground := Ground.data }, { on := 3, ground := Ground.data }, { on := 2, ground := Ground.chain }], guard := none }) rfl (fun K hK => ?_) AllReadyH.nil
    go_simp
    go_wp2_with (go_at_call 35; (with_reducible refine (both_any (comesF rs sn) (goesF rs fs) N T S w5 hM5 hM HN1.out).mono ?_); rintro e6 w6 ⟨rfl, hM6, hb6⟩)
    have hB2 := below_t hB2 hb6
    refine hK.out _ _ ?_ (fun hHeld => ?_)
    · exact HQD.out _ hB2
    clear hK K
    try simp only [Act.put, List.setIfInBounds_toArray, List.set_cons_zero, List.set_cons_succ]
    refine wpAnyH_ready (rs := [5]) (by kernel_rfl) (by simp) ?_
    refine AllReadyH.cons (o := { dst := some 30, op := Op.call { callee := Callee.value (Operand.func 34), args := #[Operand.tmp 25, Operand.tmp 29], argTypes := #[26, 38] }, type := 26, pos := "trim.go:39", after := #[{ on := 0, ground := Ground.data }, { on := 4, ground := Ground.data }, { on := 4, ground := Ground.chain }], guard := none }) rfl (fun K hK => ?_) AllReadyH.nil
    go_simp
    go_wp2_with (go_at_call 34; (with_reducible refine (HKP.out _ hB2 _ hM6 HG.out).mono ?_); rintro e7 w7 ⟨hb7, A', cr', B', cf', rfl, hdm⟩)
    have hs6 := hB2.size
    have hB2 := below_t hB2 hb7
    obtain ⟨ns, hns⟩ : ∃ ns, numL l sn = ns := ⟨_, rfl⟩
    have HNS := hid hns
    rw [hns] at hdm ⊢
    clear hns
    refine hK.out _ _ ?_ (fun hHeld => ?_)
    · exact HQD.out _ hB2
    clear hK K
    try simp only [Act.put, List.setIfInBounds_toArray, List.set_cons_zero, List.set_cons_succ]
    have HZ7 := hid (HZ.out w7 hB2)
    have HDMM := hid hdm
    have HB7 := hid hB2
    have HS6 := hid hs6
    clear hdm hM hM5 hM6 hb5 hb6 hb7 hB2 hs6 hwe hTS
    have z0 := HZ7.out.cell 0
    have y0 := HZ7.out.frozen 0
    have z1 := HZ7.out.cell 1
    have y1 := HZ7.out.frozen 1
    have z2 := HZ7.out.cell 2
    have y2 := HZ7.out.frozen 2
    have z3 := HZ7.out.cell 3
    have y3 := HZ7.out.frozen 3
    have z4 := HZ7.out.cell 4
    have y4 := HZ7.out.frozen 4
    have z5 := HZ7.out.cell 5
    have y5 := HZ7.out.frozen 5
    simp only [List.getElem?_toArray, List.getElem?_cons_zero, List.getElem?_cons_succ] at z0 z1 z2 z3 z4 z5
    refine wpAnyH_ready (rs := [6]) (by kernel_rfl) (by simp) ?_
    refine AllReadyH.cons (o := { dst := none, op := Op.store 26 (Operand.tmp 2) (Operand.tmp 30), type := 0, pos := "trim.go:39", after := #[{ on := 5, ground := Ground.data }, { on := 5, ground := Ground.chain }, { on := 0, ground := Ground.phase }, { on := 1, ground := Ground.phase }, { on := 2, ground := Ground.phase }, { on := 3, ground := Ground.phase }, { on := 4, ground := Ground.phase }, { on := 5, ground := Ground.phase }], guard := none }) rfl (fun K hK => ?_) AllReadyH.nil
    go_wp2_with (fail)
    obtain ⟨wE, hwE⟩ : ∃ wE, ((((((w7.setCell ⟨w.heap.size + 1, 0, none⟩ (.int .i64 i)).setCell ⟨w.heap.size + 1, 1, none⟩ (.int .i64 o)).setCell ⟨w.heap.size + 1, 2, none⟩ (.int .i64 (l.length : Int))).setCell ⟨w.heap.size + 1, 3, none⟩ (.int .i64 (ns : Int))).setCell ⟨w.heap.size + 1, 4, none⟩ (.slice A' (trR l rs).length cr')).setCell ⟨w.heap.size + 1, 5, none⟩ (.slice B' (trF l fs).length cf')) = wE := ⟨_, rfl⟩
    have hqE : Blk wE (w.heap.size + 1) 26 #[.int .i64 i, .int .i64 o, .int .i64 (l.length : Int), .int .i64 (ns : Int), .slice A' (trR l rs).length cr', .slice B' (trF l fs).length cf'] := by
      rw [← hwE]
      exact ((((((HZ7.out.set_ 0 _).set_ 1 _).set_ 2 _).set_ 3 _).set_ 4 _).set_ 5 _)
    have hbE : Below w.heap.size w wE := by
      rw [← hwE]
      exact (((((((HBW.out w7 HB7.out).setCell (by simp) _).setCell (by simp) _).setCell (by simp) _).setCell (by simp) _).setCell (by simp) _).setCell (by simp) _)
    have hother : ∀ g, g ≠ w.heap.size + 1 → wE.heap[g]? = w7.heap[g]? := fun g hg => by
      rw [← hwE]
      rw [heap_setCell_other _ ⟨w.heap.size + 1, 5, none⟩ g _ hg, heap_setCell_other _ ⟨w.heap.size + 1, 4, none⟩ g _ hg, heap_setCell_other _ ⟨w.heap.size + 1, 3, none⟩ g _ hg, heap_setCell_other _ ⟨w.heap.size + 1, 2, none⟩ g _ hg, heap_setCell_other _ ⟨w.heap.size + 1, 1, none⟩ g _ hg, heap_setCell_other _ ⟨w.heap.size + 1, 0, none⟩ g _ hg]
    have hsE : wE.heap.size = w7.heap.size := by rw [← hwE]; simp
    try rw [hwE]
    refine hK.out _ _ ?_ (fun hHeld => ?_)
    · exact Blk_keep (HQD.out _ HB7.out) (hother w.heap.size (by omega))
    clear hK K
    try simp only [Act.put, List.setIfInBounds_toArray, List.set_cons_zero, List.set_cons_succ]
    refine wpAnyH_take (i := 7) (oi := { dst := some 3, op := Op.assign (Operand.const (Go.Value.int IntKind.i64 0)), type := 29, pos := "trim.go:39", after := #[{ on := 6, ground := Ground.chain }, { on := 0, ground := Ground.phase }, { on := 1, ground := Ground.phase }, { on := 2, ground := Ground.phase }, { on := 3, ground := Ground.phase }, { on := 4, ground := Ground.phase }, { on := 5, ground := Ground.phase }, { on := 6, ground := Ground.phase }], guard := none }) (v := ?_) rfl (by kernel_rfl) (by kernel_rfl) (by kernel_rfl) (fun _ _ _ h => h) (Or.inl ⟨by rfl, ?_⟩) (by assumption) ?_
    rotate_left
    · intro w' hSw
      (try dsimp only at hSw)
      have p0 := hSw.cell 0
      have p1 := hSw.cell 1
      have p2 := hSw.cell 2
      have p3 := hSw.cell 3
      have p4 := hSw.cell 4
      have p5 := hSw.cell 5
      simp only [List.getElem?_toArray, List.getElem?_cons_zero, List.getElem?_cons_succ] at p0 p1 p2 p3 p4 p5
      go_simp
      all_goals with_reducible rfl
    try simp only [Act.put, List.setIfInBounds_toArray, List.set_cons_zero, List.set_cons_succ]
    refine wpAnyH_done (by kernel_rfl) ?_ _
    have k0 := hqE.cell 0
    have k1 := hqE.cell 1
    have k2 := hqE.cell 2
    have k3 := hqE.cell 3
    have k4 := hqE.cell 4
    have k5 := hqE.cell 5
    simp only [List.getElem?_toArray, List.getElem?_cons_zero, List.getElem?_cons_succ] at k0 k1 k2 k3 k4 k5
    have hdE : DM wE ⟨i, o, (l.length : Int), (ns : Int), A', cr', B', cf', trR l rs, trF l fs⟩ := HDMM.out wE (by rw [hsE]; exact Nat.le_refl _) (fun g hg _ => hother g (by have := HS6.out; omega))
    have HPOST : TrimOut i o N sn rs fs w (.returned (.tuple #[dsc i o (l.length : Int) (ns : Int) A' (trR l rs).length cr' B' (trF l fs).length cf', .int .i64 0])) wE := ⟨hbE, .inr ⟨HG.out, by rw [HL.out, HNS.out]; exact ⟨A', cr', B', cf', rfl, hdE⟩⟩⟩
    clear hdE hother
    go_wp2_with (fail)
    exact bodyPost_ret (v := .tuple #[dsc i o (l.length : Int) (ns : Int) A' (trR l rs).length cr' B' (trF l fs).length cf', .int .i64 0]) (by simp [results, Tryz.results20, go_sem, k0, k1, k2, k3, k4, k5]) rfl HPOST
open Go.Lib (hid)
def exR9 : List RuL := [⟨0, 1, [[(97, 97)]], 1, []⟩, ⟨0, 2, [[(98, 98)]], 1, []⟩]
def exF9 : List FiL := [⟨1, [], []⟩]
theorem guard_one {x : Int} (h0 : 0 ≤ x) (h1 : x ≤ 255) : guardsB 1 [[(x, x)]] = true := by
 unfold guardsB guardB
 have h2 : plainB [(x, x)] = true := plainB_true ⟨List.pairwise_singleton _ _, fun p hp => by obtain rfl := List.mem_singleton.1 hp; unfold Ok; simp only; omega⟩
 have h3 : subB 1 [(x, x)] = true := by
  unfold subB
  refine @decide_eq_true _ (Classical.propDecidable _) fun y h => ?_
  obtain ⟨hy, p, hp, k1, k2⟩ := h.1
  obtain rfl := List.mem_singleton.1 hp
  simp only at k1 k2
  exact h.2 ⟨hy, (0, 255), by simp [domL], by simp only; omega, by simp only; omega⟩
 simp only [List.all_cons, List.all_nil, h2, h3]
 simp
theorem one_rule {x t : Int} (h0 : 0 ≤ x) (h1 : x ≤ 255) (ht : 0 ≤ t ∧ t < 3) : ruleB 1 3 (fitF 1 1) ⟨0, t, [[(x, x)]], 1, []⟩ = true := by
 have e1 : stB 3 0 = true := stB_t (by omega) (by omega)
 unfold ruleB eatB termsB
 dsimp only
 rw [e1, stB_t ht.1 ht.2, guard_one h0 h1]
 simp
theorem ex9_where : whereD 1 1 3 0 exR9 exF9 = (0, 0) :=
 where_zero (by unfold headB; rw [sort_one (.inl rfl)]; decide) (fun r hr => by
  rcases (show r = ⟨0, 1, [[(97, 97)]], 1, []⟩ ∨ r = ⟨0, 2, [[(98, 98)]], 1, []⟩ by simpa [exR9] using hr) with rfl | rfl
  ·exact one_rule (by omega) (by omega) ⟨by omega, by omega⟩
  ·exact one_rule (by omega) (by omega) ⟨by omega, by omega⟩) (fun f hf => by
  obtain rfl := List.mem_singleton.1 hf
  exact empty_final ⟨by omega, by omega⟩) (by
  have he : epsE exR9 = [] := by decide
  rw [he]
  exact cyc_nil _)
theorem ex9_edges : exR9.map edg = [(0, 1), (0, 2)] := by decide
theorem ex9_back : exR9.map edgB = [(1, 0), (2, 0)] := by decide
theorem ex9_comes {q : Nat} (h : q < 3) : comesF exR9 0 q = true := by
 unfold comesF
 rw [ex9_edges, reachB_iff]
 have h0 : Reach [(0, 1), (0, 2)] [0] 0 := .first (by simp)
 rcases (show q = 0 ∨ q = 1 ∨ q = 2 by omega) with rfl | rfl | rfl
 ·exact h0
 ·exact .step (e := (0, 1)) (by simp) h0
 ·exact .step (e := (0, 2)) (by simp) h0
theorem ex9_goes : goesF exR9 exF9 0 = true ∧ goesF exR9 exF9 1 = true ∧ goesF exR9 exF9 2 = false := by
 unfold goesF
 rw [ex9_back]
 have h1 : Reach [(1, 0), (2, 0)] (exF9.map fun f => f.frm.toNat) 1 := .first (by decide)
 refine ⟨reachB_iff.2 (.step (e := (1, 0)) (by simp) h1), reachB_iff.2 h1, ?_⟩
 rw [Bool.eq_false_iff]
 intro h
 have key : ∀ q, Reach [(1, 0), (2, 0)] (exF9.map fun f => f.frm.toNat) q → q = 0 ∨ q = 1 := fun q hq => by
  induction hq with
  | first hm => exact .inr (by simpa [exF9] using hm)
  | step he _ _ =>
   rcases (show _ = (1, 0) ∨ _ = (2, 0) by simpa using he) with rfl | rfl <;> exact .inl rfl
 rcases key 2 (reachB_iff.1 h) with q | q <;> omega
theorem ex9_range : List.range 3 = [0, 1, 2] := by decide
theorem ex9_listC : (List.range 3).filter (comesF exR9 0) = [0, 1, 2] := by
 rw [List.filter_eq_self.2 fun q hq => ex9_comes (List.mem_range.1 hq), ex9_range]
theorem ex9_listG : (List.range 3).filter (goesF exR9 exF9) = [0, 1] := by
 obtain ⟨h0, h1, h2⟩ := ex9_goes
 rw [ex9_range]
 simp [h0, h1, h2]
theorem ex9_kept : keptL 3 0 exR9 exF9 = [0, 1] := by
 obtain ⟨h0, h1, h2⟩ := ex9_goes
 unfold keptL
 rw [ex9_range]
 simp [h0, h1, h2, ex9_comes]
theorem lit_RS1 {W : World} {b : Nat} {x : Int} (h : Blk W b 47 #[.int .i64 x, .int .i64 x]) : RS W W.heap.size (some ⟨b, 0, none⟩) 1 [(x, x)] :=
 ⟨rfl, fun _ => ⟨b, 0, rfl, h.lt, fun j hj => by
  obtain rfl : j = 0 := by simp at hj; omega
  exact ⟨h.cell 0, h.cell 1⟩⟩⟩
theorem lit_RG1 {W : World} {b g : Nat} {x : Int} (h : Blk W b 47 #[.int .i64 x, .int .i64 x]) (hg : Blk W g 48 #[.slice (some ⟨b, 0, none⟩) 1 1]) : RGs W (some ⟨g, 0, none⟩) 1 [[(x, x)]] :=
 ⟨rfl, fun _ => ⟨g, 0, rfl, hg.lt, fun j hj => by
  obtain rfl : j = 0 := by simp at hj; omega
  exact ⟨some ⟨b, 0, none⟩, 1, hg.cell 0, lit_RS1 h, Nat.le_refl _, fun e => by cases e⟩⟩⟩
theorem lit_exR9 {W : World} {b1 g1 b2 g2 r : Nat} (h1 : Blk W b1 47 #[.int .i64 97, .int .i64 97]) (k1 : Blk W g1 48 #[.slice (some ⟨b1, 0, none⟩) 1 1]) (h2 : Blk W b2 47 #[.int .i64 98, .int .i64 98]) (k2 : Blk W g2 48 #[.slice (some ⟨b2, 0, none⟩) 1 1])
  (hr : Blk W r 50 #[.int .i64 0, .int .i64 1, .slice (some ⟨g1, 0, none⟩) 1 1, .int .i64 1, .slice none 0 0, .int .i64 0, .int .i64 2, .slice (some ⟨g2, 0, none⟩) 1 1, .int .i64 1, .slice none 0 0]) : RRu W (some ⟨r, 0, none⟩) 2 exR9 :=
 ⟨rfl, fun _ => ⟨r, 0, rfl, hr.lt, fun j hj => by
  have hm : (1 : Nat) ≤ maxLen := by simp only [maxLen]; decide
  rcases (show j = 0 ∨ j = 1 by simp [exR9] at hj; omega) with rfl | rfl
  ·exact ⟨hr.cell 0, hr.cell 1, hr.cell 3, ⟨some ⟨g1, 0, none⟩, 1, hr.cell 2, lit_RG1 h1 k1, Nat.le_refl _, hm, fun g hg => by
    obtain rfl : g = [(97, 97)] := by simpa [exR9] using hg
    exact hm⟩, none, 0, hr.cell 4, RTm.nil_ _ _, Nat.le_refl _, Nat.zero_le _, by show IntR 1; unfold IntR; omega⟩
  ·exact ⟨hr.cell 5, hr.cell 6, hr.cell 8, ⟨some ⟨g2, 0, none⟩, 1, hr.cell 7, lit_RG1 h2 k2, Nat.le_refl _, hm, fun g hg => by
    obtain rfl : g = [(98, 98)] := by simpa [exR9] using hg
    exact hm⟩, none, 0, hr.cell 9, RTm.nil_ _ _, Nat.le_refl _, Nat.zero_le _, by show IntR 1; unfold IntR; omega⟩⟩⟩
theorem lit_exF9 {W : World} {bf : Nat} (hf : Blk W bf 45 #[.int .i64 1, .slice none 0 0, .slice none 0 0]) : RFi W (some ⟨bf, 0, none⟩) 1 exF9 :=
 ⟨rfl, fun _ => ⟨bf, 0, rfl, hf.lt, fun j hj => by
  obtain rfl : j = 0 := by simp [exF9] at hj; omega
  exact ⟨hf.cell 0, ⟨none, 0, hf.cell 1, RGs.nil_ _ _, Nat.le_refl _, Nat.zero_le _, fun g hg => by cases hg⟩, none, 0, hf.cell 2, RTm.nil_ _ _, Nat.le_refl _, Nat.zero_le _⟩⟩⟩
theorem nilT_blk {W : World} {g m k n : Nat} {t : TypeId} {cs : Array Value} (h : Blk W g t cs) (hc : ∀ j, j < n → ∀ l c, cs[j * m + k]? = some (.slice none l c) → c = 0) : NilT W (some ⟨g, 0, none⟩) n m k := fun b off e j hj l c hjc => by
 injection e with e
 injection e with e1 e2
 subst e1 e2
 refine hc j hj l c ?_
 rw [← hjc, Nat.zero_add]
 exact (h.cell (j * m + k)).symm
set_option maxHeartbeats 8000000 in
theorem awake_any (w : World) (hT : Fi.TabB w) : Calls Tryz.prog 14 #[] w (RetB true w) := by
 obtain ⟨u1, hu1, qu1, lu1, bu1⟩ := new_cells w #[.int .i64 97, .int .i64 97] 47
 have su1 : u1.heap.size = w.heap.size + 1 := by rw [← hu1, World.size_alloc]
 obtain ⟨u2, hu2, qu2, lu2, bu2⟩ := new_cells u1 #[.slice (some ⟨w.heap.size, 0, none⟩) 1 1] 48
 have su2 : u2.heap.size = w.heap.size + 1 + 1 := by rw [← hu2, World.size_alloc, su1]
 rw [su1] at qu2
 obtain ⟨u3, hu3, qu3, lu3, bu3⟩ := new_cells u2 #[.int .i64 98, .int .i64 98] 47
 have su3 : u3.heap.size = w.heap.size + 1 + 1 + 1 := by rw [← hu3, World.size_alloc, su2]
 rw [su2] at qu3
 obtain ⟨u4, hu4, qu4, lu4, bu4⟩ := new_cells u3 #[.slice (some ⟨w.heap.size + 1 + 1, 0, none⟩) 1 1] 48
 have su4 : u4.heap.size = w.heap.size + 1 + 1 + 1 + 1 := by rw [← hu4, World.size_alloc, su3]
 rw [su3] at qu4
 obtain ⟨u5, hu5, qu5, lu5, bu5⟩ := new_cells u4 #[.int .i64 1, .slice none 0 0, .slice none 0 0] 45
 have su5 : u5.heap.size = w.heap.size + 1 + 1 + 1 + 1 + 1 := by rw [← hu5, World.size_alloc, su4]
 rw [su4] at qu5
 obtain ⟨u6, hu6, qu6, lu6, bu6⟩ := new_cells u5 #[.int .i64 0, .int .i64 1, .slice (some ⟨w.heap.size + 1, 0, none⟩) 1 1, .int .i64 1, .slice none 0 0, .int .i64 0, .int .i64 2, .slice (some ⟨w.heap.size + 1 + 1 + 1, 0, none⟩) 1 1, .int .i64 1, .slice none 0 0] 50
 have su6 : u6.heap.size = w.heap.size + 1 + 1 + 1 + 1 + 1 + 1 := by rw [← hu6, World.size_alloc, su5]
 rw [su5] at qu6
 obtain ⟨u7, hu7, qu7, lu7, bu7⟩ := new_cells u6 #[.int .i64 1, .int .i64 1, .int .i64 3, .int .i64 0, .slice (some ⟨w.heap.size + 1 + 1 + 1 + 1 + 1, 0, none⟩) 2 2, .slice (some ⟨w.heap.size + 1 + 1 + 1 + 1, 0, none⟩) 1 1] 26
 have su7 : u7.heap.size = w.heap.size + 1 + 1 + 1 + 1 + 1 + 1 + 1 := by rw [← hu7, World.size_alloc, su6]
 rw [su6] at qu7
 have qu1 := qu1.below bu2 (by omega)
 have qu1 := qu1.below bu3 (by omega)
 have qu1 := qu1.below bu4 (by omega)
 have qu1 := qu1.below bu5 (by omega)
 have qu1 := qu1.below bu6 (by omega)
 have qu1 := qu1.below bu7 (by omega)
 have qu2 := qu2.below bu3 (by omega)
 have qu2 := qu2.below bu4 (by omega)
 have qu2 := qu2.below bu5 (by omega)
 have qu2 := qu2.below bu6 (by omega)
 have qu2 := qu2.below bu7 (by omega)
 have qu3 := qu3.below bu4 (by omega)
 have qu3 := qu3.below bu5 (by omega)
 have qu3 := qu3.below bu6 (by omega)
 have qu3 := qu3.below bu7 (by omega)
 have qu4 := qu4.below bu5 (by omega)
 have qu4 := qu4.below bu6 (by omega)
 have qu4 := qu4.below bu7 (by omega)
 have qu5 := qu5.below bu6 (by omega)
 have qu5 := qu5.below bu7 (by omega)
 have qu6 := qu6.below bu7 (by omega)
 have B1 := bu1
 have B1 := B1.trans (bu2.mono (by omega))
 have B1 := B1.trans (bu3.mono (by omega))
 have B1 := B1.trans (bu4.mono (by omega))
 have B1 := B1.trans (bu5.mono (by omega))
 have B1 := B1.trans (bu6.mono (by omega))
 have B1 := B1.trans (bu7.mono (by omega))
 have HRW := hid (lit_exR9 qu1 qu2 qu3 qu4 qu6)
 have HFW := hid (lit_exF9 qu5)
 have HNR := hid (nilT_blk (m := 5) (k := 4) (n := 2) qu6 (fun j hj l c e => by
  rcases (show j = 0 ∨ j = 1 by omega) with rfl | rfl
  ·simp at e; exact e.2.symm
  ·simp at e; exact e.2.symm))
 have HNF := hid (nilT_blk (m := 3) (k := 2) (n := 1) qu5 (fun j hj l c e => by
  obtain rfl : j = 0 := by omega
  simp at e; exact e.2.symm))
 have HQD := hid (fun W (h : Below u7.heap.size u7 W) => show DB W (w.heap.size + 1 + 1 + 1 + 1 + 1 + 1) 1 1 3 0 (some ⟨w.heap.size + 1 + 1 + 1 + 1 + 1, 0, none⟩) 2 2 (some ⟨w.heap.size + 1 + 1 + 1 + 1, 0, none⟩) 1 1 from by
  have h1 := qu7.below h (by omega)
  exact ⟨h1.cell 0, h1.cell 1, h1.cell 2, h1.cell 3, h1.cell 4, h1.cell 5⟩)
 have hsu := su7
 have HB := hid (fun W (h : Below u7.heap.size u7 W) => show Below w.heap.size w W from B1.trans (h.mono (by omega)))
 have HTB := hid (fun W (h : Below u7.heap.size u7 W) => show Fi.TabB W from hT.next (B1.trans (h.mono (by omega))))
 have hmx : (2 : Nat) ≤ maxLen := by simp only [maxLen]; decide
 have hmx1 : (1 : Nat) ≤ maxLen := by simp only [maxLen]; decide
 have HDM := hid (fun W (h : Below u7.heap.size u7 W) => show DM W ⟨1, 1, 3, 0, some ⟨w.heap.size + 1 + 1 + 1 + 1 + 1, 0, none⟩, 2, some ⟨w.heap.size + 1 + 1 + 1 + 1, 0, none⟩, 1, exR9, exF9⟩ from DM.below (w := u7) ⟨HRW.out, hmx, HFW.out, hmx1, HNR.out, HNF.out⟩ h)
 have Hu1 := hid hu1
 have Hu2 := hid hu2
 have Hu3 := hid hu3
 have Hu4 := hid hu4
 have Hu5 := hid hu5
 have Hu6 := hid hu6
 have Hu7 := hid hu7
 clear hT hmx hmx1 B1 hu1 qu1 lu1 bu1 hu2 qu2 lu2 bu2 hu3 qu3 lu3 bu3 hu4 qu4 lu4 bu4 hu5 qu5 lu5 bu5 hu6 qu6 lu6 bu6 hu7 qu7 lu7 bu7
 clear su1 su2 su3 su4 su5 su6 su7
 have HST := hid (show (∀ j (hj : j < exR9.length), stB (3 : Nat) exR9[j].frm = true ∧ stB (3 : Nat) exR9[j].to_ = true) ∧ ∀ j (hj : j < exF9.length), stB (3 : Nat) exF9[j].frm = true from ⟨fun j hj => by
  rcases (show j = 0 ∨ j = 1 by simp [exR9] at hj; omega) with rfl | rfl <;> exact ⟨rfl, rfl⟩, fun j hj => by
  obtain rfl : j = 0 := by simp [exF9] at hj; omega
  rfl⟩)
 have HCK := hid (fun W (h : Below u7.heap.size u7 W) => show Calls Tryz.prog 25 #[dsc 1 1 3 0 (some ⟨w.heap.size + 1 + 1 + 1 + 1 + 1, 0, none⟩) 2 2 (some ⟨w.heap.size + 1 + 1 + 1 + 1, 0, none⟩) 1 1] W (RetI 0 W) from by
  have h1 := checkD_any 1 1 3 0 (some ⟨w.heap.size + 1 + 1 + 1 + 1 + 1, 0, none⟩) 2 (some ⟨w.heap.size + 1 + 1 + 1 + 1, 0, none⟩) 1 exR9 exF9 W (HDM.out W h).rules (HDM.out W h).rl (HDM.out W h).finals (HDM.out W h).fl (HTB.out W h)
  rw [ex9_where] at h1
  exact h1)
 have HCO := hid (fun W (h : Below u7.heap.size u7 W) => Comes_ok 3 1 1 0 (some ⟨w.heap.size + 1 + 1 + 1 + 1 + 1, 0, none⟩) 2 (some ⟨w.heap.size + 1 + 1 + 1 + 1, 0, none⟩) 1 exR9 exF9 W (HDM.out W h).rules (HDM.out W h).finals (by decide) (by decide) ⟨by omega, by omega⟩ (by omega) HST.out.1 HST.out.2 (fun V hV => HCK.out V (below_t h hV)))
 have HGO := hid (fun W (h : Below u7.heap.size u7 W) => GoesOn_ok 3 1 1 0 (some ⟨w.heap.size + 1 + 1 + 1 + 1 + 1, 0, none⟩) 2 (some ⟨w.heap.size + 1 + 1 + 1 + 1, 0, none⟩) 1 exR9 exF9 W (HDM.out W h).rules (HDM.out W h).finals (by decide) (by decide) ⟨by omega, by omega⟩ (by omega) HST.out.1 HST.out.2 (fun V hV => HCK.out V (below_t h hV)))
 have HTR := hid (fun W (h : Below u7.heap.size u7 W) => trim_ok 1 1 3 0 (some ⟨w.heap.size + 1 + 1 + 1 + 1 + 1, 0, none⟩) 2 (some ⟨w.heap.size + 1 + 1 + 1 + 1, 0, none⟩) 1 exR9 exF9 W (HDM.out W h) (HTB.out W h) (by rw [show ((3 : Nat) : Int) = 3 from rfl, show ((0 : Nat) : Int) = 0 from rfl, ex9_where]) (by decide))
 rw [ex9_listC] at HCO
 rw [ex9_listG] at HGO
 go_enter Tryz.func14, Tryz.ntmps14
 go_upto_region 3 with (fail)
 rw [Hu1.out, Hu2.out, Hu3.out, Hu4.out, Hu5.out, Hu6.out, Hu7.out]
 obtain ⟨p0, p1, p2, p3, p4, p5⟩ := HQD.out u7 (Below.refl _ _)
 go_wp2_with (fail)
 refine (HCO.out u7 (Below.refl _ _)).mono ?_
 rintro e w1 ⟨v1, rfl, ho1, hb1⟩
 obtain ⟨A1, c1, hv1⟩ := own_shape ho1
 subst hv1
 have H1 := hid hb1
 clear hb1 ho1 p0 p1 p2 p3 p4 p5
 obtain ⟨p0, p1, p2, p3, p4, p5⟩ := HQD.out w1 H1.out
 go_wp2_with (fail)
 refine (HGO.out w1 H1.out).mono ?_
 rintro e w2 ⟨v2, rfl, ho2, hb2⟩
 obtain ⟨A2, c2, hv2⟩ := own_shape ho2
 subst hv2
 have H2 := hid (below_t H1.out hb2)
 clear hb2 ho2 p0 p1 p2 p3 p4 p5
 obtain ⟨p0, p1, p2, p3, p4, p5⟩ := HQD.out w2 H2.out
 go_wp2_with (fail)
 refine (HTR.out w2 H2.out).mono ?_
 rintro e w3 ⟨hb3, hto⟩
 have H3 := hid (below_t H2.out hb3)
 clear hb3 p0 p1 p2 p3 p4 p5
 rw [ex9_goes.1, ex9_kept] at hto
 rcases hto with ⟨h, _⟩ | ⟨_, A3, c3, B3, d3, rfl, _⟩
 ·cases h
 have hn : (([0, 1] : List Nat).length : Int) = 2 := rfl
 have hm : ((trR [0, 1] exR9).length : Int) = 1 := by decide
 have hm' : (trR [0, 1] exR9).length = 1 := by decide
 rw [hm', hn]
 obtain ⟨w4, hw4, hq4, hl4, hb4⟩ := new_cells w3 #[.int .i64 1, .int .i64 1, .int .i64 2, .int .i64 (numL [0, 1] 0 : Int), .slice A3 1 c3, .slice B3 (trF [0, 1] exF9).length d3] 26
 have z2 := hq4.cell 2
 have z4 := hq4.cell 4
 simp only [List.getElem?_toArray, List.getElem?_cons_zero, List.getElem?_cons_succ] at z2 z4
 have HE := hid (HB.out w4 (below_t H3.out hb4))
 clear hq4 hl4 hb4
 go_wp2_with (fail)
 go_ret
 exact ⟨rfl, HE.out⟩
open Go.Lib (hid)
theorem right_st {i o : Int} {N s : Nat} {A : Option Addr} {cr : Nat} {B : Option Addr} {cf : Nat} {rs : List RuL} {fs : List FiL} (h : RightD ⟨i, o, (N : Int), (s : Int), A, cr, B, cf, rs, fs⟩) : (∀ j (hj : j < rs.length), stB N rs[j].frm = true ∧ stB N rs[j].to_ = true) ∧ ∀ j (hj : j < fs.length), stB N fs[j].frm = true :=
 ⟨fun j hj => by
  obtain ⟨h1, h2, h3, h4, _⟩ := h.rs rs[j] (List.getElem_mem hj)
  exact ⟨stB_t h1 h2, stB_t h3 h4⟩, fun j hj => by
  obtain ⟨h1, h2, _⟩ := h.fs fs[j] (List.getElem_mem hj)
  exact stB_t h1 h2⟩
theorem right_short {d : DV} (h : RightD d) : (∀ q ∈ d.rs, ∀ g ∈ q.gs, g.length ≤ 1099511627776) ∧ ∀ q ∈ d.fs, ∀ g ∈ q.gs, g.length ≤ 1099511627776 :=
 ⟨fun q hq g hg => by have := (h.rs q hq).2.2.2.2.2.1 g hg; omega, fun q hq g hg => by have := (h.fs q hq).2.2.2.1 g hg; omega⟩
theorem kept_all {M s : Nat} {rs : List RuL} {fs : List FiL} (h : keptL M s rs fs = List.range M) : (List.range M).filter (comesF rs s) = List.range M ∧ (List.range M).filter (goesF rs fs) = List.range M := by
 have key : ∀ q ∈ List.range M, comesF rs s q = true ∧ goesF rs fs q = true := fun q hq => by
  rw [← h] at hq
  unfold keptL at hq
  have := (List.mem_filter.1 hq).2
  rwa [Bool.and_eq_true] at this
 exact ⟨List.filter_eq_self.2 fun q hq => (key q hq).1, List.filter_eq_self.2 fun q hq => (key q hq).2⟩
theorem goes_none : goesF [] [] 0 = false := by
 unfold goesF
 rw [Bool.eq_false_iff]
 intro h
 have key : ∀ q, Reach [] [] q → False := fun q hr => by
  induction hr with
  | first hm => cases hm
  | step he _ _ => cases he
 exact key 0 (reachB_iff.1 h)
theorem comes_none : (List.range 1).filter (comesF [] 0) = [0] := by
 have : comesF [] 0 0 = true := reachB_iff.2 (.first (by simp))
 rw [show List.range 1 = [0] from rfl]
 simp [this]
theorem goes_nil : (List.range 1).filter (goesF [] []) = [] := by
 rw [show List.range 1 = [0] from rfl]
 simp [goes_none]
structure KeptFacts (i o : Int) (N M s : Nat) (R : List RuL) (F : List FiL) : Prop where
 wh : whereD i o (M : Int) (s : Int) R F = (0, 0)
 le : M ≤ N
 lt : s < M
 all : keptL M s R F = List.range M
 r : trR (List.range M) R = R
 f : trF (List.range M) F = F
 goes : goesF R F s = true
theorem kept_facts {i o : Int} {N s : Nat} {rs : List RuL} {fs : List FiL} (hw : (whereD i o (N : Int) (s : Int) rs fs).1 = 0) (hg : goesF rs fs s = true) : KeptFacts i o N (keptL N s rs fs).length (numL (keptL N s rs fs) s) (trR (keptL N s rs fs) rs) (trF (keptL N s rs fs) fs) := by
 have hR : RightD ⟨i, o, (N : Int), (s : Int), none, 0, none, 0, rs, fs⟩ := DV.right.rightD (d := ⟨i, o, (N : Int), (s : Int), none, 0, none, 0, rs, fs⟩) hw
 have hl : ∀ q ∈ keptL N s rs fs, q < N := fun q hq => (keptL_iff.1 hq).1
 have hsN : s < N := by have := hR.s.2; dsimp only at this; omega
 have hs : s ∈ keptL N s rs fs := start_kept hsN hg
 have hrN : ∀ r ∈ rs, r.frm.toNat < N ∧ r.to_.toNat < N := fun r hr => by
  obtain ⟨h1, h2, h3, h4, _⟩ := hR.rs r hr
  dsimp only at h2 h4
  omega
 have hwh := tr_right hw hl keptL_nodup hs
 have hR2 : RightD ⟨i, o, ((keptL N s rs fs).length : Int), (numL (keptL N s rs fs) s : Int), none, 0, none, 0, trR (keptL N s rs fs) rs, trF (keptL N s rs fs) fs⟩ := DV.right.rightD (d := ⟨i, o, ((keptL N s rs fs).length : Int), (numL (keptL N s rs fs) s : Int), none, 0, none, 0, trR (keptL N s rs fs) rs, trF (keptL N s rs fs) fs⟩) (show (whereD _ _ _ _ _ _).1 = 0 by rw [hwh])
 have hall := kept_whole (s := s) (fs := fs) hrN
 refine ⟨hwh, nodup_len keptL_nodup hl, numL_lt hs, hall, trR_whole fun r hr => ?_, trF_whole fun f hf => ?_, ?_⟩
 ·obtain ⟨h1, h2, h3, h4, _⟩ := hR2.rs r hr
  exact ⟨stB_t h1 h2, stB_t h3 h4⟩
 ·obtain ⟨h1, h2, _⟩ := hR2.fs f hf
  exact stB_t h1 h2
 ·have hm : numL (keptL N s rs fs) s ∈ keptL (keptL N s rs fs).length (numL (keptL N s rs fs) s) (trR (keptL N s rs fs) rs) (trF (keptL N s rs fs) fs) := by rw [hall]; exact List.mem_range.2 (numL_lt hs)
  exact reachB_iff.2 (keptL_iff.1 hm).2.2
set_option maxHeartbeats 8000000 in
theorem twice_bad (i o n s : Int) (A : Option Addr) (cr : Nat) (B : Option Addr) (cf : Nat) (rs : List RuL) (fs : List FiL) (w : World) (hd : DM w ⟨i, o, n, s, A, cr, B, cf, rs, fs⟩) (hT : Fi.TabB w) (hw : (whereD i o n s rs fs).1 ≠ 0) : Calls Tryz.prog 6 #[dsc i o n s A rs.length cr B fs.length cf] w (RetB true w) := by
 obtain ⟨w1, hw1⟩ : ∃ w1, w.alloc (.cells #[.int .i64 i, .int .i64 o, .int .i64 n, .int .i64 s, .slice A rs.length cr, .slice B fs.length cf] 26) = w1 := ⟨_, rfl⟩
 have hs1 : w1.heap.size = w.heap.size + 1 := by rw [← hw1]; simp
 have hb1 : Below w.heap.size w w1 := by rw [← hw1]; exact (Below.refl _ _).alloc (Nat.le_refl _) _
 have hq1 : Blk w1 w.heap.size 26 #[.int .i64 i, .int .i64 o, .int .i64 n, .int .i64 s, .slice A rs.length cr, .slice B fs.length cf] := by rw [← hw1]; exact heap_alloc_new w _
 have H1 := hid (show w.heap.size ≤ w1.heap.size by omega)
 have HBW := hid (fun W (h : Below w1.heap.size w1 W) => show Below w.heap.size w W from hb1.trans (h.mono H1.out))
 have HDB := hid (fun W (h : Below w1.heap.size w1 W) => show DB W w.heap.size i o n s A rs.length cr B fs.length cf from by
  have h1 := hq1.below h (by omega)
  exact ⟨h1.cell 0, h1.cell 1, h1.cell 2, h1.cell 3, h1.cell 4, h1.cell 5⟩)
 have HTB := hid (fun W (h : Below w1.heap.size w1 W) => show Fi.TabB W from hT.next (HBW.out W h))
 have HDM := hid (fun W (h : Below w1.heap.size w1 W) => show DM W ⟨i, o, n, s, A, cr, B, cf, rs, fs⟩ from hd.below (HBW.out W h))
 have HA := hid (fun W (h : Below w1.heap.size w1 W) => awake_any W (HTB.out W h))
 have HSM := hid (Rg.rsmall_any i o n s A cr B cf rs fs w1 (HDM.out w1 (Below.refl _ _)).rules (HDM.out w1 (Below.refl _ _)).finals)
 have HW := hid hw
 obtain ⟨p0, p1, p2, p3, p4, p5⟩ := HDB.out w1 (Below.refl _ _)
 clear hd hT hw hb1 hq1
 go_enter Tryz.func6, Tryz.ntmps6
 go_wp2_with (fail)
 refine HSM.out.mono ?_
 rintro e w2 ⟨b, rfl, hbs, hb2⟩
 have H2 := hid hb2
 clear hb2 p0 p1 p2 p3 p4 p5
 obtain ⟨p0, p1, p2, p3, p4, p5⟩ := HDB.out w2 H2.out
 cases b with
 | false =>
  clear hbs
  go_wp2_with (fail)
  refine (HA.out w2 H2.out).mono ?_
  rintro e wq ⟨rfl, hbq⟩
  have HQ := hid (HBW.out wq (below_t H2.out hbq))
  clear hbq
  go_wp2_with (fail)
  go_ret
  exact ⟨rfl, HQ.out⟩
 | true =>
 clear hbs
 go_wp2_with (fail)
 refine (trim_bad i o n s A cr B cf rs fs w2 (HDM.out w2 H2.out) (HTB.out w2 H2.out) HW.out).mono ?_
 rintro e w3 ⟨rfl, hb3⟩
 obtain ⟨wc, hwc, hqc, hlc, hbc⟩ := new_cells w3 #[.int .i64 0, .int .i64 0, .int .i64 0, .int .i64 0, .slice none 0 0, .slice none 0 0] 26
 have H3 := hid (below_t (below_t H2.out hb3) hbc)
 have HWE := hid hwc
 clear hb3 hwc hqc hlc hbc p0 p1 p2 p3 p4 p5
 go_upto_region 4 with (fail)
 rw [HWE.out]
 go_wp2_with (fail)
 refine (HA.out wc H3.out).mono ?_
 rintro e wq ⟨rfl, hbq⟩
 have HQ := hid (HBW.out wq (below_t H3.out hbq))
 clear hbq
 go_wp2_with (fail)
 go_ret
 exact ⟨rfl, HQ.out⟩
set_option maxHeartbeats 16000000 in
theorem twice_ok (i o : Int) (N sn : Nat) (A : Option Addr) (cr : Nat) (B : Option Addr) (cf : Nat) (rs : List RuL) (fs : List FiL) (w : World) (hd : DM w ⟨i, o, (N : Int), (sn : Int), A, cr, B, cf, rs, fs⟩) (hT : Fi.TabB w) (hw : (whereD i o (N : Int) (sn : Int) rs fs).1 = 0) : Calls Tryz.prog 6 #[dsc i o (N : Int) (sn : Int) A rs.length cr B fs.length cf] w (RetB true w) := by
 obtain ⟨w1, hw1⟩ : ∃ w1, w.alloc (.cells #[.int .i64 i, .int .i64 o, .int .i64 (N : Int), .int .i64 (sn : Int), .slice A rs.length cr, .slice B fs.length cf] 26) = w1 := ⟨_, rfl⟩
 have hs1 : w1.heap.size = w.heap.size + 1 := by rw [← hw1]; simp
 have hb1 : Below w.heap.size w w1 := by rw [← hw1]; exact (Below.refl _ _).alloc (Nat.le_refl _) _
 have hq1 : Blk w1 w.heap.size 26 #[.int .i64 i, .int .i64 o, .int .i64 (N : Int), .int .i64 (sn : Int), .slice A rs.length cr, .slice B fs.length cf] := by rw [← hw1]; exact heap_alloc_new w _
 have H1 := hid (show w.heap.size ≤ w1.heap.size by omega)
 have HBW := hid (fun W (h : Below w1.heap.size w1 W) => show Below w.heap.size w W from hb1.trans (h.mono H1.out))
 have HDB := hid (fun W (h : Below w1.heap.size w1 W) => show DB W w.heap.size i o (N : Int) (sn : Int) A rs.length cr B fs.length cf from by
  have h1 := hq1.below h (by omega)
  exact ⟨h1.cell 0, h1.cell 1, h1.cell 2, h1.cell 3, h1.cell 4, h1.cell 5⟩)
 have HTB := hid (fun W (h : Below w1.heap.size w1 W) => show Fi.TabB W from hT.next (HBW.out W h))
 have HDM := hid (fun W (h : Below w1.heap.size w1 W) => show DM W ⟨i, o, (N : Int), (sn : Int), A, cr, B, cf, rs, fs⟩ from hd.below (HBW.out W h))
 have HA := hid (fun W (h : Below w1.heap.size w1 W) => awake_any W (HTB.out W h))
 have HSM := hid (Rg.rsmall_any i o N sn A cr B cf rs fs w1 (HDM.out w1 (Below.refl _ _)).rules (HDM.out w1 (Below.refl _ _)).finals)
 have HW := hid hw
 have HR0 : RightD ⟨i, o, (N : Int), (sn : Int), A, cr, B, cf, rs, fs⟩ := DV.right.rightD (d := ⟨i, o, (N : Int), (sn : Int), A, cr, B, cf, rs, fs⟩) hw
 have HNN := hid (show 1 ≤ N from by have h1 := HR0.n; dsimp only at h1; omega)
 have HSO := hid (show (i = 1 ∨ i = 2) ∧ (o = 1 ∨ o = 2) from ⟨HR0.i, HR0.o⟩)
 obtain ⟨p0, p1, p2, p3, p4, p5⟩ := HDB.out w1 (Below.refl _ _)
 clear hd hT hw hb1 hq1 HR0
 go_enter Tryz.func6, Tryz.ntmps6
 go_wp2_with (fail)
 refine HSM.out.mono ?_
 rintro e w2 ⟨b, rfl, hbs, hb2⟩
 have H2 := hid hb2
 clear hb2 p0 p1 p2 p3 p4 p5
 obtain ⟨p0, p1, p2, p3, p4, p5⟩ := HDB.out w2 H2.out
 cases b with
 | false =>
  clear hbs
  go_wp2_with (fail)
  refine (HA.out w2 H2.out).mono ?_
  rintro e wq ⟨rfl, hbq⟩
  have HQ := hid (HBW.out wq (below_t H2.out hbq))
  clear hbq
  go_wp2_with (fail)
  go_ret
  exact ⟨rfl, HQ.out⟩
 | true =>
 obtain ⟨_, hf80, _⟩ := hbs rfl
 clear hbs
 have HF80 := hid hf80
 go_wp2_with (fail)
 refine (trim_ok i o N sn A cr B cf rs fs w2 (HDM.out w2 H2.out) (HTB.out w2 H2.out) HW.out (by omega)).mono ?_
 rintro e w3 ⟨hb3, hto⟩
 have H3 := hid (below_t H2.out hb3)
 clear hb3 hf80
 rcases hto with ⟨_, rfl⟩ | ⟨hg, A1, c1, B1, d1, rfl, hdm⟩
 ·have HWC := hid (show whereD i o ((1 : Nat) : Int) ((0 : Nat) : Int) [] [] = (0, 0) from empty_where HSO.out.1 HSO.out.2)
  have HFL := hid (show ([] : List FiL).length ≤ 1024 from by decide)
  have HLT := hid (show 0 < 1 from by decide)
  have HLC := hid comes_none
  have HLG := hid goes_nil
  obtain ⟨wc, hwc, hqc, hlc, hbc⟩ := new_cells w3 #[.int .i64 i, .int .i64 o, .int .i64 1, .int .i64 0, .slice none 0 0, .slice none 0 0] 26
  have H4 := hid (below_t H3.out hbc)
  have HCB := hid (fun W (h : Below wc.heap.size wc W) => show DB W w3.heap.size i o 1 0 none 0 0 none 0 0 from by
   have h1 := hqc.below h hlc
   exact ⟨h1.cell 0, h1.cell 1, h1.cell 2, h1.cell 3, h1.cell 4, h1.cell 5⟩)
  have HCM := hid (fun W (h : Below wc.heap.size wc W) => show DM W ⟨i, o, ((1 : Nat) : Int), ((0 : Nat) : Int), none, 0, none, 0, [], []⟩ from ⟨RRu.nil_ _ _, Nat.zero_le _, RFi.nil_ _ _, Nat.zero_le _, (fun b off e => by cases e), (fun b off e => by cases e)⟩)
  have HCR : RightD ⟨i, o, ((1 : Nat) : Int), ((0 : Nat) : Int), none, 0, none, 0, [], []⟩ := DV.right.rightD (d := ⟨i, o, ((1 : Nat) : Int), ((0 : Nat) : Int), none, 0, none, 0, [], []⟩) (show (whereD _ _ _ _ _ _).1 = 0 by rw [HWC.out])
  have HSS := hid (right_st HCR)
  have HSH := hid (right_short HCR)
  have HCN := hid (show 1 ≤ 1 ∧ 1 ≤ 1024 from by have h1 := HCR.n; dsimp only at h1; omega)
  have HCRR := hid HCR.r
  have HCK := hid (fun W (h : Below wc.heap.size wc W) => show Calls Tryz.prog 25 #[dsc i o 1 0 none 0 0 none 0 0] W (RetI 0 W) from by
   have h1 := checkD_any i o 1 0 none 0 none 0 [] [] W (HCM.out W h).rules (HCM.out W h).rl (HCM.out W h).finals (HCM.out W h).fl (HTB.out W (H4.out.trans (h.mono H4.out.size)))
   rw [show whereD i o 1 0 [] [] = (0, 0) from HWC.out] at h1
   exact h1)
  have HCO := hid (fun W (h : Below wc.heap.size wc W) => Comes_ok 1 i o 0 none 0 none 0 [] [] W (HCM.out W h).rules (HCM.out W h).finals HCRR.out HFL.out HCN.out HLT.out HSS.out.1 HSS.out.2 (fun V hV => HCK.out V (below_t h hV)))
  have HGO := hid (fun W (h : Below wc.heap.size wc W) => GoesOn_ok 1 i o 0 none 0 none 0 [] [] W (HCM.out W h).rules (HCM.out W h).finals HCRR.out HFL.out HCN.out HLT.out HSS.out.1 HSS.out.2 (fun V hV => HCK.out V (below_t h hV)))
  rw [HLC.out] at HCO
  rw [HLG.out] at HGO
  have HTR := hid (trim_ok i o 1 0 none 0 none 0 [] [] wc (HCM.out wc (Below.refl _ _)) (HTB.out wc H4.out) (by rw [HWC.out]) HFL.out)
  have HWE := hid hwc
  clear hwc hqc hlc hbc HCR  p0 p1 p2 p3 p4 p5
  go_upto_region 4 with (fail)
  rw [HWE.out]
  obtain ⟨p0, p1, p2, p3, p4, p5⟩ := HDB.out wc H4.out
  obtain ⟨q0, q1, q2, q3, q4, q5⟩ := HCB.out wc (Below.refl _ _)
  go_wp2_with (fail)
  refine HTR.out.mono ?_
  rintro e w5 ⟨hb5, hto⟩
  rw [goes_none] at hto
  rcases hto with ⟨_, rfl⟩ | ⟨h, _⟩
  rotate_left
  ·cases h
  obtain ⟨wb, hwb, hqb, hlb, hbb⟩ := new_cells w5 #[.int .i64 i, .int .i64 o, .int .i64 1, .int .i64 0, .slice none 0 0, .slice none 0 0] 26
  have G5 := hid (below_t hb5 hbb)
  have HBB := hid (fun W (h : Below wb.heap.size wb W) => show DB W w5.heap.size i o 1 0 none 0 0 none 0 0 from by
   have h1 := hqb.below h hlb
   exact ⟨h1.cell 0, h1.cell 1, h1.cell 2, h1.cell 3, h1.cell 4, h1.cell 5⟩)
  have HWB := hid hwb
  clear hwb hqb hlb hbb hb5  p0 p1 p2 p3 p4 p5 q0 q1 q2 q3 q4 q5
  go_upto_region 7 with (fail)
  rw [HWB.out]
  obtain ⟨q0, q1, q2, q3, q4, q5⟩ := HCB.out wb G5.out
  go_wp2_with (fail)
  refine (HCO.out wb G5.out).mono ?_
  rintro e w6 ⟨v1, rfl, ho1, hb6⟩
  obtain ⟨L1, k1, hv1⟩ := own_shape ho1
  subst hv1
  have J6 := hid hb6
  have G6 := hid (below_t G5.out hb6)
  clear ho1 hb6 q0 q1 q2 q3 q4 q5
  obtain ⟨q0, q1, q2, q3, q4, q5⟩ := HCB.out w6 G6.out
  go_wp2_with (fail)
  refine (HGO.out w6 G6.out).mono ?_
  rintro e w7 ⟨v2, rfl, ho2, hb7⟩
  obtain ⟨L2, k2, hv2⟩ := own_shape ho2
  subst hv2
  have J7 := hid (below_t J6.out hb7)
  have G7 := hid (below_t G6.out hb7)
  have H7 := hid (H4.out.trans (G7.out.mono H4.out.size))
  clear ho2 hb7 q0 q1 q2 q3 q4 q5
  obtain ⟨q0, q1, q2, q3, q4, q5⟩ := HCB.out w7 G7.out
  obtain ⟨p0, p1, p2, p3, p4, p5⟩ := HDB.out w7 H7.out
  obtain ⟨y0, y1, y2, y3, y4, y5⟩ := HBB.out w7 J7.out
  have HSM2 := hid (rdesc_eq i o 1 0 none none 0 0 none none 0 0 [] [] w7 (RRu.nil_ _ _) (RRu.nil_ _ _) (Nat.zero_le _) (RFi.nil_ _ _) (RFi.nil_ _ _) (Nat.zero_le _) (fun q hq => by cases hq) (fun q hq => by cases hq))
  have hle : decide ((1 : Int) ≤ (N : Int)) = true := decide_eq_true (by have := HNN.out; omega)
  go_wp2_with (fail)
  refine HSM2.out.mono ?_
  rintro e w8 ⟨rfl, hb8⟩
  have H8 := hid (below_t H7.out hb8)
  have G8 := hid (below_t G7.out hb8)
  clear hb8 p0 p1 p2 p3 p4 p5 q0 q1 q2 q3 q4 q5 y0 y1 y2 y3 y4 y5
  obtain ⟨q0, q1, q2, q3, q4, q5⟩ := HCB.out w8 G8.out
  obtain ⟨p0, p1, p2, p3, p4, p5⟩ := HDB.out w8 H8.out
  go_wp2_with (fail)
  refine (HA.out w8 H8.out).mono ?_
  rintro e wq ⟨rfl, hbq⟩
  have HQ := hid (HBW.out wq (below_t H8.out hbq))
  clear hbq
  go_wp2_with (fail)
  go_ret
  exact ⟨rfl, HQ.out⟩
 ·have hkf := kept_facts HW.out hg
  have hfl : (trF (keptL N sn rs fs) fs).length ≤ 1024 := by
   have h1 := HF80.out
   unfold trF
   rw [List.length_map]
   exact Nat.le_trans (List.length_filter_le _ _) (by omega)
  obtain ⟨M, hM⟩ : ∃ M, (keptL N sn rs fs).length = M := ⟨_, rfl⟩
  obtain ⟨s1, hs1'⟩ : ∃ s1, numL (keptL N sn rs fs) sn = s1 := ⟨_, rfl⟩
  obtain ⟨R, hRR⟩ : ∃ R, trR (keptL N sn rs fs) rs = R := ⟨_, rfl⟩
  obtain ⟨F, hFF⟩ : ∃ F, trF (keptL N sn rs fs) fs = F := ⟨_, rfl⟩
  rw [hM, hs1', hRR, hFF] at hkf hdm ⊢
  rw [hFF] at hfl
  have HKF := hid hkf
  have HWC := hid hkf.wh
  have HFL := hid hfl
  have HLT := hid hkf.lt
  have HLC := hid (kept_all hkf.all).1
  have HLG := hid (kept_all hkf.all).2
  clear hkf hfl hg hM hs1' hRR hFF
  obtain ⟨wc, hwc, hqc, hlc, hbc⟩ := new_cells w3 #[.int .i64 i, .int .i64 o, .int .i64 (M : Int), .int .i64 (s1 : Int), .slice A1 R.length c1, .slice B1 F.length d1] 26
  have H4 := hid (below_t H3.out hbc)
  have HCB := hid (fun W (h : Below wc.heap.size wc W) => show DB W w3.heap.size i o (M : Int) (s1 : Int) A1 R.length c1 B1 F.length d1 from by
   have h1 := hqc.below h hlc
   exact ⟨h1.cell 0, h1.cell 1, h1.cell 2, h1.cell 3, h1.cell 4, h1.cell 5⟩)
  have HCM := hid (fun W (h : Below wc.heap.size wc W) => show DM W ⟨i, o, ((M : Nat) : Int), ((s1 : Nat) : Int), A1, c1, B1, d1, R, F⟩ from (hdm.below hbc).below h)
  have HCR : RightD ⟨i, o, ((M : Nat) : Int), ((s1 : Nat) : Int), A1, c1, B1, d1, R, F⟩ := DV.right.rightD (d := ⟨i, o, ((M : Nat) : Int), ((s1 : Nat) : Int), A1, c1, B1, d1, R, F⟩) (show (whereD _ _ _ _ _ _).1 = 0 by rw [HWC.out])
  have HSS := hid (right_st HCR)
  have HSH := hid (right_short HCR)
  have HCN := hid (show 1 ≤ M ∧ M ≤ 1024 from by have h1 := HCR.n; dsimp only at h1; omega)
  have HCRR := hid HCR.r
  have HCK := hid (fun W (h : Below wc.heap.size wc W) => show Calls Tryz.prog 25 #[dsc i o (M : Int) (s1 : Int) A1 R.length c1 B1 F.length d1] W (RetI 0 W) from by
   have h1 := checkD_any i o (M : Int) (s1 : Int) A1 c1 B1 d1 R F W (HCM.out W h).rules (HCM.out W h).rl (HCM.out W h).finals (HCM.out W h).fl (HTB.out W (H4.out.trans (h.mono H4.out.size)))
   rw [show whereD i o (M : Int) (s1 : Int) R F = (0, 0) from HWC.out] at h1
   exact h1)
  have HCO := hid (fun W (h : Below wc.heap.size wc W) => Comes_ok M i o s1 A1 c1 B1 d1 R F W (HCM.out W h).rules (HCM.out W h).finals HCRR.out HFL.out HCN.out HLT.out HSS.out.1 HSS.out.2 (fun V hV => HCK.out V (below_t h hV)))
  have HGO := hid (fun W (h : Below wc.heap.size wc W) => GoesOn_ok M i o s1 A1 c1 B1 d1 R F W (HCM.out W h).rules (HCM.out W h).finals HCRR.out HFL.out HCN.out HLT.out HSS.out.1 HSS.out.2 (fun V hV => HCK.out V (below_t h hV)))
  rw [HLC.out] at HCO
  rw [HLG.out] at HGO
  have HTR := hid (trim_ok i o M s1 A1 c1 B1 d1 R F wc (HCM.out wc (Below.refl _ _)) (HTB.out wc H4.out) (by rw [HWC.out]) HFL.out)
  have HWE := hid hwc
  clear hwc hqc hlc hbc HCR hdm p0 p1 p2 p3 p4 p5
  go_upto_region 4 with (fail)
  rw [HWE.out]
  obtain ⟨p0, p1, p2, p3, p4, p5⟩ := HDB.out wc H4.out
  obtain ⟨q0, q1, q2, q3, q4, q5⟩ := HCB.out wc (Below.refl _ _)
  go_wp2_with (fail)
  refine HTR.out.mono ?_
  rintro e w5 ⟨hb5, hto⟩
  rw [HKF.out.goes, HKF.out.all, HKF.out.r, HKF.out.f, List.length_range, num_range HKF.out.lt] at hto
  rcases hto with ⟨h, _⟩ | ⟨_, A2, c5, B2, d5, rfl, hdm2⟩
  ·cases h
  obtain ⟨wb, hwb, hqb, hlb, hbb⟩ := new_cells w5 #[.int .i64 i, .int .i64 o, .int .i64 (M : Int), .int .i64 (s1 : Int), .slice A2 R.length c5, .slice B2 F.length d5] 26
  have G5 := hid (below_t hb5 hbb)
  have HBB := hid (fun W (h : Below wb.heap.size wb W) => show DB W w5.heap.size i o (M : Int) (s1 : Int) A2 R.length c5 B2 F.length d5 from by
   have h1 := hqb.below h hlb
   exact ⟨h1.cell 0, h1.cell 1, h1.cell 2, h1.cell 3, h1.cell 4, h1.cell 5⟩)
  have HBM := hid (hdm2.below hbb)
  have HWB := hid hwb
  clear hwb hqb hlb hbb hb5 hdm2 p0 p1 p2 p3 p4 p5 q0 q1 q2 q3 q4 q5
  go_upto_region 7 with (fail)
  rw [HWB.out]
  obtain ⟨q0, q1, q2, q3, q4, q5⟩ := HCB.out wb G5.out
  go_wp2_with (fail)
  refine (HCO.out wb G5.out).mono ?_
  rintro e w6 ⟨v1, rfl, ho1, hb6⟩
  obtain ⟨L1, k1, hv1⟩ := own_shape ho1
  subst hv1
  have J6 := hid hb6
  have G6 := hid (below_t G5.out hb6)
  clear ho1 hb6 q0 q1 q2 q3 q4 q5
  obtain ⟨q0, q1, q2, q3, q4, q5⟩ := HCB.out w6 G6.out
  go_wp2_with (fail)
  refine (HGO.out w6 G6.out).mono ?_
  rintro e w7 ⟨v2, rfl, ho2, hb7⟩
  obtain ⟨L2, k2, hv2⟩ := own_shape ho2
  subst hv2
  have J7 := hid (below_t J6.out hb7)
  have G7 := hid (below_t G6.out hb7)
  have H7 := hid (H4.out.trans (G7.out.mono H4.out.size))
  clear ho2 hb7 q0 q1 q2 q3 q4 q5
  obtain ⟨q0, q1, q2, q3, q4, q5⟩ := HCB.out w7 G7.out
  obtain ⟨p0, p1, p2, p3, p4, p5⟩ := HDB.out w7 H7.out
  obtain ⟨y0, y1, y2, y3, y4, y5⟩ := HBB.out w7 J7.out
  have HSM2 := hid (rdesc_eq i o (M : Int) (s1 : Int) A2 A1 c5 c1 B2 B1 d5 d1 R F w7 ((HBM.out).below J7.out).rules (HCM.out w7 G7.out).rules (HCM.out w7 G7.out).rl ((HBM.out).below J7.out).finals (HCM.out w7 G7.out).finals (HCM.out w7 G7.out).fl HSH.out.1 HSH.out.2)
  have hle : decide ((M : Int) ≤ (N : Int)) = true := decide_eq_true (by have := HKF.out.le; omega)
  have hle2 : M ≤ N := HKF.out.le
  have hlr : (List.range M).length = M := List.length_range
  rw [hlr]
  go_wp2_with (fail)
  refine HSM2.out.mono ?_
  rintro e w8 ⟨rfl, hb8⟩
  have H8 := hid (below_t H7.out hb8)
  have G8 := hid (below_t G7.out hb8)
  clear hb8 p0 p1 p2 p3 p4 p5 q0 q1 q2 q3 q4 q5 y0 y1 y2 y3 y4 y5
  obtain ⟨q0, q1, q2, q3, q4, q5⟩ := HCB.out w8 G8.out
  obtain ⟨p0, p1, p2, p3, p4, p5⟩ := HDB.out w8 H8.out
  go_wp2_with (fail)
  refine (HA.out w8 H8.out).mono ?_
  rintro e wq ⟨rfl, hbq⟩
  have HQ := hid (HBW.out wq (below_t H8.out hbq))
  clear hbq
  go_wp2_with (fail)
  go_ret
  exact ⟨rfl, HQ.out⟩
theorem twice_law (i o n s : Int) (A : Option Addr) (cr : Nat) (B : Option Addr) (cf : Nat) (rs : List RuL) (fs : List FiL) (w : World) (hd : DM w ⟨i, o, n, s, A, cr, B, cf, rs, fs⟩) (hT : Fi.TabB w) : Calls Tryz.prog 6 #[dsc i o n s A rs.length cr B fs.length cf] w (RetB true w) := by
 by_cases hw : (whereD i o n s rs fs).1 = 0
 ·have hR : RightD ⟨i, o, n, s, A, cr, B, cf, rs, fs⟩ := DV.right.rightD (d := ⟨i, o, n, s, A, cr, B, cf, rs, fs⟩) hw
  have h1 := hR.n
  have h2 := hR.s
  dsimp only at h1 h2
  obtain ⟨N, rfl⟩ : ∃ N : Nat, n = (N : Int) := ⟨n.toNat, by omega⟩
  obtain ⟨sn, rfl⟩ : ∃ sn : Nat, s = (sn : Int) := ⟨s.toNat, by omega⟩
  exact twice_ok i o N sn A cr B cf rs fs w hd hT hw
 ·exact twice_bad i o n s A cr B cf rs fs w hd hT hw
end Go.Proofs.YtoofgpoeheponaaGreatDoor.Tr
