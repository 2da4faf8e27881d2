import Derived.Test.YtoofgpoeheponaaGreatDoorQ0
import Derived.Test.YtoofgpoeheponaaGreatDoorQ37
set_option maxRecDepth 100000
namespace Go.Proofs.YtoofgpoeheponaaGreatDoor.Tr
open Go Go.RowKit Sp Pa Te Mi De
open Go.Lib (hid)
theorem below_t {w W W' : World} (h1 : Below w.heap.size w W) (h2 : Below W.heap.size W W') : Below w.heap.size w W' := h1.trans (h2.mono h1.size)
def TrimOut (i o : Int) (N sn : Nat) (rs : List RuL) (fs : List FiL) (w : World) (e : Ending) (w' : World) : Prop := Below w.heap.size w w' ∧
  ((goesF rs fs sn = false ∧ e = .returned (.tuple #[dsc i o 1 0 none 0 0 none 0 0, .int .i64 0])) ∨
   (goesF rs fs sn = true ∧ ∃ A' cr' B' cf', e = .returned (.tuple #[dsc i o ((keptL N sn rs fs).length : Int) (numL (keptL N sn rs fs) sn : Int) A' (trR (keptL N sn rs fs) rs).length cr' B' (trF (keptL N sn rs fs) fs).length cf', .int .i64 0]) ∧
     DM w' ⟨i, o, ((keptL N sn rs fs).length : Int), (numL (keptL N sn rs fs) sn : Int), A', cr', B', cf', trR (keptL N sn rs fs) rs, trF (keptL N sn rs fs) fs⟩))
set_option maxHeartbeats 16000000 in
theorem trim_ok (i o : Int) (N sn : Nat) (A : Option Addr) (cr : Nat) (B : Option Addr) (cf : Nat) (rs : List RuL) (fs : List FiL) (w : World) (hd : DM w ⟨i, o, (N : Int), (sn : Int), A, cr, B, cf, rs, fs⟩) (hT : Fi.TabB w) (hw : (whereD i o (N : Int) (sn : Int) rs fs).1 = 0) (hfl : fs.length ≤ 1024) :
    Calls Tryz.prog 20 #[dsc i o (N : Int) (sn : Int) A rs.length cr B fs.length cf] w (TrimOut i o N sn rs fs w) := by
  obtain ⟨w2, hw2⟩ : ∃ w2, (w.alloc (.cells #[.int .i64 i, .int .i64 o, .int .i64 (N : Int), .int .i64 (sn : Int), .slice A rs.length cr, .slice B fs.length cf] 26)).alloc (.cells #[.int .i64 0, .int .i64 0, .int .i64 0, .int .i64 0, .slice none 0 0, .slice none 0 0] 26) = w2 := ⟨_, rfl⟩
  have hs2 : w2.heap.size = w.heap.size + 2 := by rw [← hw2]; simp
  have hb2 : Below w.heap.size w w2 := by rw [← hw2]; exact ((Below.refl _ _).alloc (Nat.le_refl _) _).alloc (by simp) _
  have hqd : Blk w2 w.heap.size 26 #[.int .i64 i, .int .i64 o, .int .i64 (N : Int), .int .i64 (sn : Int), .slice A rs.length cr, .slice B fs.length cf] := by
    rw [← hw2]
    exact (show Blk _ _ _ _ from heap_alloc_new w _).alloc _
  have hqz : Blk w2 (w.heap.size + 1) 26 #[.int .i64 0, .int .i64 0, .int .i64 0, .int .i64 0, .slice none 0 0, .slice none 0 0] := by
    rw [← hw2]
    have h := heap_alloc_new (w.alloc (.cells #[.int .i64 i, .int .i64 o, .int .i64 (N : Int), .int .i64 (sn : Int), .slice A rs.length cr, .slice B fs.length cf] 26)) (.cells #[.int .i64 0, .int .i64 0, .int .i64 0, .int .i64 0, .slice none 0 0, .slice none 0 0] 26)
    rw [World.size_alloc] at h
    exact h
  have H2 := hid (show w.heap.size ≤ w2.heap.size by omega)
  have HBW := hid (fun W (h : Below w2.heap.size w2 W) => show Below w.heap.size w W from hb2.trans (h.mono H2.out))
  have HDB := hid (fun W (h : Below w2.heap.size w2 W) => show DB W w.heap.size i o (N : Int) (sn : Int) A rs.length cr B fs.length cf from by
    have h1 := hqd.below h (by omega)
    exact ⟨h1.cell 0, h1.cell 1, h1.cell 2, h1.cell 3, h1.cell 4, h1.cell 5⟩)
  have HQD := hid (fun W (h : Below w2.heap.size w2 W) => show Blk W w.heap.size 26 #[.int .i64 i, .int .i64 o, .int .i64 (N : Int), .int .i64 (sn : Int), .slice A rs.length cr, .slice B fs.length cf] from hqd.below h (by omega))
  have HZ := hid (fun W (h : Below w2.heap.size w2 W) => show Blk W (w.heap.size + 1) 26 #[.int .i64 0, .int .i64 0, .int .i64 0, .int .i64 0, .slice none 0 0, .slice none 0 0] from hqz.below h (by omega))
  have hR : RightD ⟨i, o, (N : Int), (sn : Int), A, cr, B, cf, rs, fs⟩ := DV.right.rightD (d := ⟨i, o, (N : Int), (sn : Int), A, cr, B, cf, rs, fs⟩) hw
  have hNN : 1 ≤ N ∧ N ≤ 1024 := by have h1 := hR.n; dsimp only at h1; omega
  have hsn : sn < N := by have h1 := hR.s.2; dsimp only at h1; omega
  have hst : ∀ j (hj : j < rs.length), stB N rs[j].frm = true ∧ stB N rs[j].to_ = true := fun j hj => by
    obtain ⟨h1, h2, h3, h4, _⟩ := hR.rs rs[j] (List.getElem_mem hj)
    exact ⟨stB_t h1 h2, stB_t h3 h4⟩
  have hsf : ∀ j (hj : j < fs.length), stB N fs[j].frm = true := fun j hj => by
    obtain ⟨h1, h2, _⟩ := hR.fs fs[j] (List.getElem_mem hj)
    exact stB_t h1 h2
  have HC := hid (checkD_any i o N sn A cr B cf rs fs w2 (hd.below hb2).rules hd.rl (hd.below hb2).finals hd.fl (hT.next hb2))
  rw [if_pos hw] at HC
  have HCM := hid (fun W (h : Below w2.heap.size w2 W) => comes_any N i o sn A cr B cf rs fs W (hd.below (HBW.out W h)).rules (hd.below (HBW.out W h)).finals hR.r hfl hNN hsn hst hsf)
  have HGO := hid (fun W (h : Below w2.heap.size w2 W) => goes_any N i o sn A cr B cf rs fs W (hd.below (HBW.out W h)).rules (hd.below (HBW.out W h)).finals hR.r hfl hNN hsn hst hsf)
  obtain ⟨l, hl⟩ : ∃ l, keptL N sn rs fs = l := ⟨_, rfl⟩
  have HL := hid hl
  have HKP := hid (fun W (h : Below w2.heap.size w2 W) S (hm : Marks W S N fun q => comesF rs sn q && goesF rs fs q) (hg : goesF rs fs sn = true) => show Calls Tryz.prog 34 #[dsc i o (N : Int) (sn : Int) A rs.length cr B fs.length cf, .slice (some ⟨S, 0, none⟩) N N] W (KeptD i o sn l rs fs W) from by
    rw [← hl]
    exact keep_any N i o sn A cr B cf rs fs (fun q => comesF rs sn q && goesF rs fs q) S W hm (hd.below (HBW.out W h)) hR (by
      rw [hg, Bool.and_true]
      exact reachB_iff.2 (.first (by simp))))
  clear hl
  obtain ⟨p0, p1, p2, p3, p4, p5⟩ := HDB.out w2 (Below.refl _ _)
  have HN1 := hid hNN.2
  clear hd hT hw hb2 hqd hqz hR hst hsf hfl hNN
  go_enter Tryz.func20, Tryz.ntmps20
  go_wp2_with (fail)
  refine HC.out.mono ?_
  rintro e w3 ⟨rfl, hb3⟩
  have H3 := hid hb3
  clear hb3 p0 p1 p2 p3 p4 p5
  obtain ⟨p0, p1, p2, p3, p4, p5⟩ := HDB.out w3 H3.out
  go_wp2_with (fail)
  refine (HGO.out w3 H3.out).mono ?_
  rintro e w4 ⟨S, hS, rfl, ho, hb4⟩
  have H4 := hid (below_t H3.out hb4)
  have HM4 := hid (show Marks w4 S N (goesF rs fs) from ho)
  have hgc := HM4.out.cell hsn
  have i1 : (0 : Int) ≤ (sn : Int) := Int.natCast_nonneg _
  have i2 : (sn : Int) < (N : Int) := by omega
  clear hb4 ho p0 p1 p2 p3 p4 p5
  obtain ⟨p0, p1, p2, p3, p4, p5⟩ := HDB.out w4 H4.out
  cases hg : goesF rs fs sn with
  | false =>
    rw [hg] at hgc
    have HG := hid hg
    clear hg
    go_wp2_with (fail)
    refine (empty_any i o w4).mono ?_
    rintro e w5 ⟨rfl, hb5⟩
    have HZ5 := hid (HZ.out w5 (below_t H4.out hb5))
    have HB5 := hid (HBW.out w5 (below_t H4.out hb5))
    clear hb5 hgc p0 p1 p2 p3 p4 p5
    have z0 := HZ5.out.cell 0
    have y0 := HZ5.out.frozen 0
    have z1 := HZ5.out.cell 1
    have y1 := HZ5.out.frozen 1
    have z2 := HZ5.out.cell 2
    have y2 := HZ5.out.frozen 2
    have z3 := HZ5.out.cell 3
    have y3 := HZ5.out.frozen 3
    have z4 := HZ5.out.cell 4
    have y4 := HZ5.out.frozen 4
    have z5 := HZ5.out.cell 5
    have y5 := HZ5.out.frozen 5
    simp only [sD, sE, sF] at z0 z1 z2 z3 z4 z5
    go_wp2_with (fail)
    obtain ⟨wE, hwE⟩ : ∃ wE, ((((((w5.setCell ⟨w.heap.size + 1, 0, none⟩ (.int .i64 i)).setCell ⟨w.heap.size + 1, 1, none⟩ (.int .i64 o)).setCell ⟨w.heap.size + 1, 2, none⟩ (.int .i64 1)).setCell ⟨w.heap.size + 1, 3, none⟩ (.int .i64 0)).setCell ⟨w.heap.size + 1, 4, none⟩ (.slice none 0 0)).setCell ⟨w.heap.size + 1, 5, none⟩ (.slice none 0 0)) = wE := ⟨_, rfl⟩
    have hqE : Blk wE (w.heap.size + 1) 26 #[.int .i64 i, .int .i64 o, .int .i64 1, .int .i64 0, .slice none 0 0, .slice none 0 0] := by
      rw [← hwE]
      exact ((((((HZ5.out.set_ 0 _).set_ 1 _).set_ 2 _).set_ 3 _).set_ 4 _).set_ 5 _)
    have hbE : Below w.heap.size w wE := by
      rw [← hwE]
      exact (((((HB5.out.setCell (by simp) _).setCell (by simp) _).setCell (by simp) _).setCell (by simp) _).setCell (by simp) _).setCell (by simp) _
    have hother : ∀ g, g ≠ w.heap.size + 1 → wE.heap[g]? = w5.heap[g]? := fun g hg => by
      rw [← hwE]
      rw [heap_setCell_other _ ⟨w.heap.size + 1, 5, none⟩ g _ hg, heap_setCell_other _ ⟨w.heap.size + 1, 4, none⟩ g _ hg, heap_setCell_other _ ⟨w.heap.size + 1, 3, none⟩ g _ hg, heap_setCell_other _ ⟨w.heap.size + 1, 2, none⟩ g _ hg, heap_setCell_other _ ⟨w.heap.size + 1, 1, none⟩ g _ hg, heap_setCell_other _ ⟨w.heap.size + 1, 0, none⟩ g _ hg]
    have k0 := hqE.cell 0
    have k1 := hqE.cell 1
    have k2 := hqE.cell 2
    have k3 := hqE.cell 3
    have k4 := hqE.cell 4
    have k5 := hqE.cell 5
    simp only [sD, sE, sF] at k0 k1 k2 k3 k4 k5
    try rw [hwE]
    have HPOST : TrimOut i o N sn rs fs w (.returned (.tuple #[dsc i o 1 0 none 0 0 none 0 0, .int .i64 0])) wE := ⟨hbE, .inl ⟨HG.out, rfl⟩⟩
    exact bodyPost_ret (v := .tuple #[dsc i o 1 0 none 0 0 none 0 0, .int .i64 0]) (by simp [results, Tryz.results20, go_sem, k0, k1, k2, k3, k4, k5]) rfl HPOST
  | true =>
    rw [hg] at hgc
    have HG := hid hg
    clear hg
    go_upto_region 7 with (fail)
    clear hgc p0 p1 p2 p3 p4 p5
    obtain ⟨we, hwe⟩ : ∃ we, w4.drew = we := ⟨_, rfl⟩
    have hB2 : Below w2.heap.size w2 we := by rw [← hwe]; exact H4.out.drew
    have hM : Marks we S N (goesF rs fs) := by rw [← hwe]; exact HM4.out.keep (Below.refl _ _).drew
    refine wp_region_held_drew (S := fun W => Blk W w.heap.size 26 #[.int .i64 i, .int .i64 o, .int .i64 (N : Int), .int .i64 (sn : Int), .slice A rs.length cr, .slice B fs.length cf]) (by kernel_rfl) (by rw [hwe]; exact HQD.out _ hB2) (fun hHeld => ?_)
    rw [hwe] at hHeld ⊢
    refine wpAnyH_take (i := 0) (oi := ⟨some 25, .load 26 (.tmp 1), 26, "trim.go:39", #[], none⟩) (v := ?_) rfl (by kernel_rfl) (by kernel_rfl) (by kernel_rfl) (fun _ _ _ h => h) (Or.inl ⟨by rfl, ?_⟩) (by assumption) ?_
    rotate_left
    · intro w' hSw
      (try dsimp only at hSw)
      have p0 := hSw.cell 0
      have p1 := hSw.cell 1
      have p2 := hSw.cell 2
      have p3 := hSw.cell 3
      have p4 := hSw.cell 4
      have p5 := hSw.cell 5
      simp only [sD, sE, sF] at p0 p1 p2 p3 p4 p5
      go_simp
      all_goals with_reducible rfl
    try simp only [Act.put, sA, sB, sC]
    refine wpAnyH_take (i := 1) (oi := ⟨some 26, .load 26 (.tmp 1), 26, "trim.go:39", #[], none⟩) (v := ?_) rfl (by kernel_rfl) (by kernel_rfl) (by kernel_rfl) (fun _ _ _ h => h) (Or.inl ⟨by rfl, ?_⟩) (by assumption) ?_
    rotate_left
    · intro w' hSw
      (try dsimp only at hSw)
      have p0 := hSw.cell 0
      have p1 := hSw.cell 1
      have p2 := hSw.cell 2
      have p3 := hSw.cell 3
      have p4 := hSw.cell 4
      have p5 := hSw.cell 5
      simp only [sD, sE, sF] at p0 p1 p2 p3 p4 p5
      go_simp
      all_goals with_reducible rfl
    try simp only [Act.put, sA, sB, sC]
    refine wpAnyH_take (i := 3) (oi := ⟨some 28, .move (.tmp 5), 38, "trim.go:39", #[], none⟩) (v := ?_) rfl (by kernel_rfl) (by kernel_rfl) (by kernel_rfl) (fun _ _ _ h => h) (Or.inl ⟨by rfl, ?_⟩) (by assumption) ?_
    rotate_left
    · intro w' hSw
      (try dsimp only at hSw)
      have p0 := hSw.cell 0
      have p1 := hSw.cell 1
      have p2 := hSw.cell 2
      have p3 := hSw.cell 3
      have p4 := hSw.cell 4
      have p5 := hSw.cell 5
      simp only [sD, sE, sF] at p0 p1 p2 p3 p4 p5
      go_simp
      all_goals with_reducible rfl
    try simp only [Act.put, sA, sB, sC]
    refine wpAnyH_ready (rs := [2]) (by kernel_rfl) (by simp) ?_
    refine AllReadyH.cons (o := ⟨some 27, .call { callee := .value (.func 32), args := #[.tmp 26], argTypes := #[26] }, 38, "trim.go:39", #[⟨1, .data⟩], none⟩) rfl (fun K hK => ?_) AllReadyH.nil
    go_simp
    go_wp2_with (go_at_call 32; (with_reducible refine (HCM.out _ hB2).mono ?_); rintro e5 w5 ⟨T, hTS, rfl, ho5, hb5⟩)
    have hM5 : Marks w5 T N (comesF rs sn) := ho5
    have hM := hM.keep hb5
    have hB2 := below_t hB2 hb5
    clear ho5
    refine hK.out _ _ ?_ (fun hHeld => ?_)
    · exact HQD.out _ hB2
    clear hK K
    try simp only [Act.put, sA, sB, sC]
    refine wpAnyH_ready (rs := [4]) (by kernel_rfl) (by simp) ?_
    refine AllReadyH.cons (o := ⟨some 29, .call { callee := .value (.func 35), args := #[.tmp 27, .tmp 28], argTypes := #[38, 38] }, 38, "trim.go:39", #[⟨2, .data⟩, ⟨3, .data⟩, ⟨2, .chain⟩], none⟩) rfl (fun K hK => ?_) AllReadyH.nil
    go_simp
    go_wp2_with (go_at_call 35; (with_reducible refine (both_any (comesF rs sn) (goesF rs fs) N T S w5 hM5 hM HN1.out).mono ?_); rintro e6 w6 ⟨rfl, hM6, hb6⟩)
    have hB2 := below_t hB2 hb6
    refine hK.out _ _ ?_ (fun hHeld => ?_)
    · exact HQD.out _ hB2
    clear hK K
    try simp only [Act.put, sA, sB, sC]
    refine wpAnyH_ready (rs := [5]) (by kernel_rfl) (by simp) ?_
    refine AllReadyH.cons (o := ⟨some 30, .call { callee := .value (.func 34), args := #[.tmp 25, .tmp 29], argTypes := #[26, 38] }, 26, "trim.go:39", #[⟨0, .data⟩, ⟨4, .data⟩, ⟨4, .chain⟩], none⟩) rfl (fun K hK => ?_) AllReadyH.nil
    go_simp
    go_wp2_with (go_at_call 34; (with_reducible refine (HKP.out _ hB2 _ hM6 HG.out).mono ?_); rintro e7 w7 ⟨hb7, A', cr', B', cf', rfl, hdm⟩)
    have hs6 := hB2.size
    have hB2 := below_t hB2 hb7
    obtain ⟨ns, hns⟩ : ∃ ns, numL l sn = ns := ⟨_, rfl⟩
    have HNS := hid hns
    rw [hns] at hdm ⊢
    clear hns
    refine hK.out _ _ ?_ (fun hHeld => ?_)
    · exact HQD.out _ hB2
    clear hK K
    try simp only [Act.put, sA, sB, sC]
    have HZ7 := hid (HZ.out w7 hB2)
    have HDMM := hid hdm
    have HB7 := hid hB2
    have HS6 := hid hs6
    clear hdm hM hM5 hM6 hb5 hb6 hb7 hB2 hs6 hwe hTS
    have z0 := HZ7.out.cell 0
    have y0 := HZ7.out.frozen 0
    have z1 := HZ7.out.cell 1
    have y1 := HZ7.out.frozen 1
    have z2 := HZ7.out.cell 2
    have y2 := HZ7.out.frozen 2
    have z3 := HZ7.out.cell 3
    have y3 := HZ7.out.frozen 3
    have z4 := HZ7.out.cell 4
    have y4 := HZ7.out.frozen 4
    have z5 := HZ7.out.cell 5
    have y5 := HZ7.out.frozen 5
    simp only [sD, sE, sF] at z0 z1 z2 z3 z4 z5
    refine wpAnyH_ready (rs := [6]) (by kernel_rfl) (by simp) ?_
    refine AllReadyH.cons (o := ⟨none, .store 26 (.tmp 2) (.tmp 30), 0, "trim.go:39", #[⟨5, .data⟩, ⟨5, .chain⟩, ⟨0, .phase⟩, ⟨1, .phase⟩, ⟨2, .phase⟩, ⟨3, .phase⟩, ⟨4, .phase⟩, ⟨5, .phase⟩], none⟩) rfl (fun K hK => ?_) AllReadyH.nil
    go_wp2_with (fail)
    obtain ⟨wE, hwE⟩ : ∃ wE, ((((((w7.setCell ⟨w.heap.size + 1, 0, none⟩ (.int .i64 i)).setCell ⟨w.heap.size + 1, 1, none⟩ (.int .i64 o)).setCell ⟨w.heap.size + 1, 2, none⟩ (.int .i64 (l.length : Int))).setCell ⟨w.heap.size + 1, 3, none⟩ (.int .i64 (ns : Int))).setCell ⟨w.heap.size + 1, 4, none⟩ (.slice A' (trR l rs).length cr')).setCell ⟨w.heap.size + 1, 5, none⟩ (.slice B' (trF l fs).length cf')) = wE := ⟨_, rfl⟩
    have hqE : Blk wE (w.heap.size + 1) 26 #[.int .i64 i, .int .i64 o, .int .i64 (l.length : Int), .int .i64 (ns : Int), .slice A' (trR l rs).length cr', .slice B' (trF l fs).length cf'] := by
      rw [← hwE]
      exact ((((((HZ7.out.set_ 0 _).set_ 1 _).set_ 2 _).set_ 3 _).set_ 4 _).set_ 5 _)
    have hbE : Below w.heap.size w wE := by
      rw [← hwE]
      exact (((((((HBW.out w7 HB7.out).setCell (by simp) _).setCell (by simp) _).setCell (by simp) _).setCell (by simp) _).setCell (by simp) _).setCell (by simp) _)
    have hother : ∀ g, g ≠ w.heap.size + 1 → wE.heap[g]? = w7.heap[g]? := fun g hg => by
      rw [← hwE]
      rw [heap_setCell_other _ ⟨w.heap.size + 1, 5, none⟩ g _ hg, heap_setCell_other _ ⟨w.heap.size + 1, 4, none⟩ g _ hg, heap_setCell_other _ ⟨w.heap.size + 1, 3, none⟩ g _ hg, heap_setCell_other _ ⟨w.heap.size + 1, 2, none⟩ g _ hg, heap_setCell_other _ ⟨w.heap.size + 1, 1, none⟩ g _ hg, heap_setCell_other _ ⟨w.heap.size + 1, 0, none⟩ g _ hg]
    have hsE : wE.heap.size = w7.heap.size := by rw [← hwE]; simp
    try rw [hwE]
    refine hK.out _ _ ?_ (fun hHeld => ?_)
    · exact Blk_keep (HQD.out _ HB7.out) (hother w.heap.size (by omega))
    clear hK K
    try simp only [Act.put, sA, sB, sC]
    refine wpAnyH_take (i := 7) (oi := ⟨some 3, .assign (.const (Go.Value.int IntKind.i64 0)), 29, "trim.go:39", #[⟨6, .chain⟩, ⟨0, .phase⟩, ⟨1, .phase⟩, ⟨2, .phase⟩, ⟨3, .phase⟩, ⟨4, .phase⟩, ⟨5, .phase⟩, ⟨6, .phase⟩], none⟩) (v := ?_) rfl (by kernel_rfl) (by kernel_rfl) (by kernel_rfl) (fun _ _ _ h => h) (Or.inl ⟨by rfl, ?_⟩) (by assumption) ?_
    rotate_left
    · intro w' hSw
      (try dsimp only at hSw)
      have p0 := hSw.cell 0
      have p1 := hSw.cell 1
      have p2 := hSw.cell 2
      have p3 := hSw.cell 3
      have p4 := hSw.cell 4
      have p5 := hSw.cell 5
      simp only [sD, sE, sF] at p0 p1 p2 p3 p4 p5
      go_simp
      all_goals with_reducible rfl
    try simp only [Act.put, sA, sB, sC]
    refine wpAnyH_done (by kernel_rfl) ?_ _
    have k0 := hqE.cell 0
    have k1 := hqE.cell 1
    have k2 := hqE.cell 2
    have k3 := hqE.cell 3
    have k4 := hqE.cell 4
    have k5 := hqE.cell 5
    simp only [sD, sE, sF] at k0 k1 k2 k3 k4 k5
    have hdE : DM wE ⟨i, o, (l.length : Int), (ns : Int), A', cr', B', cf', trR l rs, trF l fs⟩ := HDMM.out wE (by rw [hsE]; exact Nat.le_refl _) (fun g hg _ => hother g (by have := HS6.out; omega))
    have HPOST : TrimOut i o N sn rs fs w (.returned (.tuple #[dsc i o (l.length : Int) (ns : Int) A' (trR l rs).length cr' B' (trF l fs).length cf', .int .i64 0])) wE := ⟨hbE, .inr ⟨HG.out, by rw [HL.out, HNS.out]; exact ⟨A', cr', B', cf', rfl, hdE⟩⟩⟩
    clear hdE hother
    go_wp2_with (fail)
    exact bodyPost_ret (v := .tuple #[dsc i o (l.length : Int) (ns : Int) A' (trR l rs).length cr' B' (trF l fs).length cf', .int .i64 0]) (by simp [results, Tryz.results20, go_sem, k0, k1, k2, k3, k4, k5]) rfl HPOST
open Go.Lib (hid)
def exR9 : List RuL := [⟨0, 1, [[(97, 97)]], 1, []⟩, ⟨0, 2, [[(98, 98)]], 1, []⟩]
def exF9 : List FiL := [⟨1, [], []⟩]
theorem guard_one {x : Int} (h0 : 0 ≤ x) (h1 : x ≤ 255) : guardsB 1 [[(x, x)]] = true := by
 unfold guardsB guardB
 have h2 : plainB [(x, x)] = true := plainB_true ⟨List.pairwise_singleton _ _, fun p hp => by obtain rfl := List.mem_singleton.1 hp; unfold Ok; simp only; omega⟩
 have h3 : subB 1 [(x, x)] = true := by
  unfold subB
  refine @decide_eq_true _ (Classical.propDecidable _) fun y h => ?_
  obtain ⟨hy, p, hp, k1, k2⟩ := h.1
  obtain rfl := List.mem_singleton.1 hp
  simp only at k1 k2
  exact h.2 ⟨hy, (0, 255), by simp [domL], by simp only; omega, by simp only; omega⟩
 simp only [List.all_cons, List.all_nil, h2, h3]
 simp
theorem one_rule {x t : Int} (h0 : 0 ≤ x) (h1 : x ≤ 255) (ht : 0 ≤ t ∧ t < 3) : ruleB 1 3 (fitF 1 1) ⟨0, t, [[(x, x)]], 1, []⟩ = true := by
 have e1 : stB 3 0 = true := stB_t (by omega) (by omega)
 unfold ruleB eatB termsB
 dsimp only
 rw [e1, stB_t ht.1 ht.2, guard_one h0 h1]
 simp
theorem ex9_where : whereD 1 1 3 0 exR9 exF9 = (0, 0) :=
 where_zero (by unfold headB; rw [sort_one (.inl rfl)]; decide) (fun r hr => by
  rcases (show r = ⟨0, 1, [[(97, 97)]], 1, []⟩ ∨ r = ⟨0, 2, [[(98, 98)]], 1, []⟩ by simpa [exR9] using hr) with rfl | rfl
  ·exact one_rule (by omega) (by omega) ⟨by omega, by omega⟩
  ·exact one_rule (by omega) (by omega) ⟨by omega, by omega⟩) (fun f hf => by
  obtain rfl := List.mem_singleton.1 hf
  exact empty_final ⟨by omega, by omega⟩) (by
  have he : epsE exR9 = [] := by decide
  rw [he]
  exact cyc_nil _)
theorem ex9_edges : exR9.map edg = [(0, 1), (0, 2)] := by decide
theorem ex9_back : exR9.map edgB = [(1, 0), (2, 0)] := by decide
theorem ex9_comes {q : Nat} (h : q < 3) : comesF exR9 0 q = true := by
 unfold comesF
 rw [ex9_edges, reachB_iff]
 have h0 : Reach [(0, 1), (0, 2)] [0] 0 := .first (by simp)
 rcases (show q = 0 ∨ q = 1 ∨ q = 2 by omega) with rfl | rfl | rfl
 ·exact h0
 ·exact .step (e := (0, 1)) (by simp) h0
 ·exact .step (e := (0, 2)) (by simp) h0
theorem ex9_goes : goesF exR9 exF9 0 = true ∧ goesF exR9 exF9 1 = true ∧ goesF exR9 exF9 2 = false := by
 unfold goesF
 rw [ex9_back]
 have h1 : Reach [(1, 0), (2, 0)] (exF9.map fun f => f.frm.toNat) 1 := .first (by decide)
 refine ⟨reachB_iff.2 (.step (e := (1, 0)) (by simp) h1), reachB_iff.2 h1, ?_⟩
 rw [Bool.eq_false_iff]
 intro h
 have key : ∀ q, Reach [(1, 0), (2, 0)] (exF9.map fun f => f.frm.toNat) q → q = 0 ∨ q = 1 := fun q hq => by
  induction hq with
  | first hm => exact .inr (by simpa [exF9] using hm)
  | step he _ _ =>
   rcases (show _ = (1, 0) ∨ _ = (2, 0) by simpa using he) with rfl | rfl <;> exact .inl rfl
 rcases key 2 (reachB_iff.1 h) with q | q <;> omega
theorem ex9_range : List.range 3 = [0, 1, 2] := by decide
theorem ex9_listC : (List.range 3).filter (comesF exR9 0) = [0, 1, 2] := by
 rw [List.filter_eq_self.2 fun q hq => ex9_comes (List.mem_range.1 hq), ex9_range]
theorem ex9_listG : (List.range 3).filter (goesF exR9 exF9) = [0, 1] := by
 obtain ⟨h0, h1, h2⟩ := ex9_goes
 rw [ex9_range]
 simp [h0, h1, h2]
theorem ex9_kept : keptL 3 0 exR9 exF9 = [0, 1] := by
 obtain ⟨h0, h1, h2⟩ := ex9_goes
 unfold keptL
 rw [ex9_range]
 simp [h0, h1, h2, ex9_comes]
theorem lit_RS1 {W : World} {b : Nat} {x : Int} (h : Blk W b 47 #[.int .i64 x, .int .i64 x]) : RS W W.heap.size (some ⟨b, 0, none⟩) 1 [(x, x)] :=
 ⟨rfl, fun _ => ⟨b, 0, rfl, h.lt, fun j hj => by
  obtain rfl : j = 0 := by simp at hj; omega
  exact ⟨h.cell 0, h.cell 1⟩⟩⟩
theorem lit_RG1 {W : World} {b g : Nat} {x : Int} (h : Blk W b 47 #[.int .i64 x, .int .i64 x]) (hg : Blk W g 48 #[.slice (some ⟨b, 0, none⟩) 1 1]) : RGs W (some ⟨g, 0, none⟩) 1 [[(x, x)]] :=
 ⟨rfl, fun _ => ⟨g, 0, rfl, hg.lt, fun j hj => by
  obtain rfl : j = 0 := by simp at hj; omega
  exact ⟨some ⟨b, 0, none⟩, 1, hg.cell 0, lit_RS1 h, Nat.le_refl _, fun e => by cases e⟩⟩⟩
theorem lit_exR9 {W : World} {b1 g1 b2 g2 r : Nat} (h1 : Blk W b1 47 #[.int .i64 97, .int .i64 97]) (k1 : Blk W g1 48 #[.slice (some ⟨b1, 0, none⟩) 1 1]) (h2 : Blk W b2 47 #[.int .i64 98, .int .i64 98]) (k2 : Blk W g2 48 #[.slice (some ⟨b2, 0, none⟩) 1 1])
  (hr : Blk W r 50 #[.int .i64 0, .int .i64 1, .slice (some ⟨g1, 0, none⟩) 1 1, .int .i64 1, .slice none 0 0, .int .i64 0, .int .i64 2, .slice (some ⟨g2, 0, none⟩) 1 1, .int .i64 1, .slice none 0 0]) : RRu W (some ⟨r, 0, none⟩) 2 exR9 :=
 ⟨rfl, fun _ => ⟨r, 0, rfl, hr.lt, fun j hj => by
  have hm : (1 : Nat) ≤ maxLen := by simp only [maxLen]; decide
  rcases (show j = 0 ∨ j = 1 by simp [exR9] at hj; omega) with rfl | rfl
  ·exact ⟨hr.cell 0, hr.cell 1, hr.cell 3, ⟨some ⟨g1, 0, none⟩, 1, hr.cell 2, lit_RG1 h1 k1, Nat.le_refl _, hm, fun g hg => by
    obtain rfl : g = [(97, 97)] := by simpa [exR9] using hg
    exact hm⟩, none, 0, hr.cell 4, RTm.nil_ _ _, Nat.le_refl _, Nat.zero_le _, by show IntR 1; unfold IntR; omega⟩
  ·exact ⟨hr.cell 5, hr.cell 6, hr.cell 8, ⟨some ⟨g2, 0, none⟩, 1, hr.cell 7, lit_RG1 h2 k2, Nat.le_refl _, hm, fun g hg => by
    obtain rfl : g = [(98, 98)] := by simpa [exR9] using hg
    exact hm⟩, none, 0, hr.cell 9, RTm.nil_ _ _, Nat.le_refl _, Nat.zero_le _, by show IntR 1; unfold IntR; omega⟩⟩⟩
theorem lit_exF9 {W : World} {bf : Nat} (hf : Blk W bf 45 #[.int .i64 1, .slice none 0 0, .slice none 0 0]) : RFi W (some ⟨bf, 0, none⟩) 1 exF9 :=
 ⟨rfl, fun _ => ⟨bf, 0, rfl, hf.lt, fun j hj => by
  obtain rfl : j = 0 := by simp [exF9] at hj; omega
  exact ⟨hf.cell 0, ⟨none, 0, hf.cell 1, RGs.nil_ _ _, Nat.le_refl _, Nat.zero_le _, fun g hg => by cases hg⟩, none, 0, hf.cell 2, RTm.nil_ _ _, Nat.le_refl _, Nat.zero_le _⟩⟩⟩
theorem nilT_blk {W : World} {g m k n : Nat} {t : TypeId} {cs : Array Value} (h : Blk W g t cs) (hc : ∀ j, j < n → ∀ l c, cs[j * m + k]? = some (.slice none l c) → c = 0) : NilT W (some ⟨g, 0, none⟩) n m k := fun b off e j hj l c hjc => by
 injection e with e
 injection e with e1 e2
 subst e1 e2
 refine hc j hj l c ?_
 rw [← hjc, Nat.zero_add]
 exact (h.cell (j * m + k)).symm
set_option maxHeartbeats 8000000 in
theorem awake_any (w : World) (hT : Fi.TabB w) : Calls Tryz.prog 14 #[] w (RetB true w) := by
 obtain ⟨u1, hu1, qu1, lu1, bu1⟩ := new_cells w #[.int .i64 97, .int .i64 97] 47
 have su1 : u1.heap.size = w.heap.size + 1 := by rw [← hu1, World.size_alloc]
 obtain ⟨u2, hu2, qu2, lu2, bu2⟩ := new_cells u1 #[.slice (some ⟨w.heap.size, 0, none⟩) 1 1] 48
 have su2 : u2.heap.size = w.heap.size + 1 + 1 := by rw [← hu2, World.size_alloc, su1]
 rw [su1] at qu2
 obtain ⟨u3, hu3, qu3, lu3, bu3⟩ := new_cells u2 #[.int .i64 98, .int .i64 98] 47
 have su3 : u3.heap.size = w.heap.size + 1 + 1 + 1 := by rw [← hu3, World.size_alloc, su2]
 rw [su2] at qu3
 obtain ⟨u4, hu4, qu4, lu4, bu4⟩ := new_cells u3 #[.slice (some ⟨w.heap.size + 1 + 1, 0, none⟩) 1 1] 48
 have su4 : u4.heap.size = w.heap.size + 1 + 1 + 1 + 1 := by rw [← hu4, World.size_alloc, su3]
 rw [su3] at qu4
 obtain ⟨u5, hu5, qu5, lu5, bu5⟩ := new_cells u4 #[.int .i64 1, .slice none 0 0, .slice none 0 0] 45
 have su5 : u5.heap.size = w.heap.size + 1 + 1 + 1 + 1 + 1 := by rw [← hu5, World.size_alloc, su4]
 rw [su4] at qu5
 obtain ⟨u6, hu6, qu6, lu6, bu6⟩ := new_cells u5 #[.int .i64 0, .int .i64 1, .slice (some ⟨w.heap.size + 1, 0, none⟩) 1 1, .int .i64 1, .slice none 0 0, .int .i64 0, .int .i64 2, .slice (some ⟨w.heap.size + 1 + 1 + 1, 0, none⟩) 1 1, .int .i64 1, .slice none 0 0] 50
 have su6 : u6.heap.size = w.heap.size + 1 + 1 + 1 + 1 + 1 + 1 := by rw [← hu6, World.size_alloc, su5]
 rw [su5] at qu6
 obtain ⟨u7, hu7, qu7, lu7, bu7⟩ := new_cells u6 #[.int .i64 1, .int .i64 1, .int .i64 3, .int .i64 0, .slice (some ⟨w.heap.size + 1 + 1 + 1 + 1 + 1, 0, none⟩) 2 2, .slice (some ⟨w.heap.size + 1 + 1 + 1 + 1, 0, none⟩) 1 1] 26
 have su7 : u7.heap.size = w.heap.size + 1 + 1 + 1 + 1 + 1 + 1 + 1 := by rw [← hu7, World.size_alloc, su6]
 rw [su6] at qu7
 have qu1 := qu1.below bu2 (by omega)
 have qu1 := qu1.below bu3 (by omega)
 have qu1 := qu1.below bu4 (by omega)
 have qu1 := qu1.below bu5 (by omega)
 have qu1 := qu1.below bu6 (by omega)
 have qu1 := qu1.below bu7 (by omega)
 have qu2 := qu2.below bu3 (by omega)
 have qu2 := qu2.below bu4 (by omega)
 have qu2 := qu2.below bu5 (by omega)
 have qu2 := qu2.below bu6 (by omega)
 have qu2 := qu2.below bu7 (by omega)
 have qu3 := qu3.below bu4 (by omega)
 have qu3 := qu3.below bu5 (by omega)
 have qu3 := qu3.below bu6 (by omega)
 have qu3 := qu3.below bu7 (by omega)
 have qu4 := qu4.below bu5 (by omega)
 have qu4 := qu4.below bu6 (by omega)
 have qu4 := qu4.below bu7 (by omega)
 have qu5 := qu5.below bu6 (by omega)
 have qu5 := qu5.below bu7 (by omega)
 have qu6 := qu6.below bu7 (by omega)
 have B1 := bu1
 have B1 := B1.trans (bu2.mono (by omega))
 have B1 := B1.trans (bu3.mono (by omega))
 have B1 := B1.trans (bu4.mono (by omega))
 have B1 := B1.trans (bu5.mono (by omega))
 have B1 := B1.trans (bu6.mono (by omega))
 have B1 := B1.trans (bu7.mono (by omega))
 have HRW := hid (lit_exR9 qu1 qu2 qu3 qu4 qu6)
 have HFW := hid (lit_exF9 qu5)
 have HNR := hid (nilT_blk (m := 5) (k := 4) (n := 2) qu6 (fun j hj l c e => by
  rcases (show j = 0 ∨ j = 1 by omega) with rfl | rfl
  ·simp at e; exact e.2.symm
  ·simp at e; exact e.2.symm))
 have HNF := hid (nilT_blk (m := 3) (k := 2) (n := 1) qu5 (fun j hj l c e => by
  obtain rfl : j = 0 := by omega
  simp at e; exact e.2.symm))
 have HQD := hid (fun W (h : Below u7.heap.size u7 W) => show DB W (w.heap.size + 1 + 1 + 1 + 1 + 1 + 1) 1 1 3 0 (some ⟨w.heap.size + 1 + 1 + 1 + 1 + 1, 0, none⟩) 2 2 (some ⟨w.heap.size + 1 + 1 + 1 + 1, 0, none⟩) 1 1 from by
  have h1 := qu7.below h (by omega)
  exact ⟨h1.cell 0, h1.cell 1, h1.cell 2, h1.cell 3, h1.cell 4, h1.cell 5⟩)
 have hsu := su7
 have HB := hid (fun W (h : Below u7.heap.size u7 W) => show Below w.heap.size w W from B1.trans (h.mono (by omega)))
 have HTB := hid (fun W (h : Below u7.heap.size u7 W) => show Fi.TabB W from hT.next (B1.trans (h.mono (by omega))))
 have hmx : (2 : Nat) ≤ maxLen := by simp only [maxLen]; decide
 have hmx1 : (1 : Nat) ≤ maxLen := by simp only [maxLen]; decide
 have HDM := hid (fun W (h : Below u7.heap.size u7 W) => show DM W ⟨1, 1, 3, 0, some ⟨w.heap.size + 1 + 1 + 1 + 1 + 1, 0, none⟩, 2, some ⟨w.heap.size + 1 + 1 + 1 + 1, 0, none⟩, 1, exR9, exF9⟩ from DM.below (w := u7) ⟨HRW.out, hmx, HFW.out, hmx1, HNR.out, HNF.out⟩ h)
 have Hu1 := hid hu1
 have Hu2 := hid hu2
 have Hu3 := hid hu3
 have Hu4 := hid hu4
 have Hu5 := hid hu5
 have Hu6 := hid hu6
 have Hu7 := hid hu7
 clear hT hmx hmx1 B1 hu1 qu1 lu1 bu1 hu2 qu2 lu2 bu2 hu3 qu3 lu3 bu3 hu4 qu4 lu4 bu4 hu5 qu5 lu5 bu5 hu6 qu6 lu6 bu6 hu7 qu7 lu7 bu7
 clear su1 su2 su3 su4 su5 su6 su7
 have HST := hid (show (∀ j (hj : j < exR9.length), stB (3 : Nat) exR9[j].frm = true ∧ stB (3 : Nat) exR9[j].to_ = true) ∧ ∀ j (hj : j < exF9.length), stB (3 : Nat) exF9[j].frm = true from ⟨fun j hj => by
  rcases (show j = 0 ∨ j = 1 by simp [exR9] at hj; omega) with rfl | rfl <;> exact ⟨rfl, rfl⟩, fun j hj => by
  obtain rfl : j = 0 := by simp [exF9] at hj; omega
  rfl⟩)
 have HCK := hid (fun W (h : Below u7.heap.size u7 W) => show Calls Tryz.prog 25 #[dsc 1 1 3 0 (some ⟨w.heap.size + 1 + 1 + 1 + 1 + 1, 0, none⟩) 2 2 (some ⟨w.heap.size + 1 + 1 + 1 + 1, 0, none⟩) 1 1] W (RetI 0 W) from by
  have h1 := checkD_any 1 1 3 0 (some ⟨w.heap.size + 1 + 1 + 1 + 1 + 1, 0, none⟩) 2 (some ⟨w.heap.size + 1 + 1 + 1 + 1, 0, none⟩) 1 exR9 exF9 W (HDM.out W h).rules (HDM.out W h).rl (HDM.out W h).finals (HDM.out W h).fl (HTB.out W h)
  rw [ex9_where] at h1
  exact h1)
 have HCO := hid (fun W (h : Below u7.heap.size u7 W) => Comes_ok 3 1 1 0 (some ⟨w.heap.size + 1 + 1 + 1 + 1 + 1, 0, none⟩) 2 (some ⟨w.heap.size + 1 + 1 + 1 + 1, 0, none⟩) 1 exR9 exF9 W (HDM.out W h).rules (HDM.out W h).finals (by decide) (by decide) ⟨by omega, by omega⟩ (by omega) HST.out.1 HST.out.2 (fun V hV => HCK.out V (below_t h hV)))
 have HGO := hid (fun W (h : Below u7.heap.size u7 W) => GoesOn_ok 3 1 1 0 (some ⟨w.heap.size + 1 + 1 + 1 + 1 + 1, 0, none⟩) 2 (some ⟨w.heap.size + 1 + 1 + 1 + 1, 0, none⟩) 1 exR9 exF9 W (HDM.out W h).rules (HDM.out W h).finals (by decide) (by decide) ⟨by omega, by omega⟩ (by omega) HST.out.1 HST.out.2 (fun V hV => HCK.out V (below_t h hV)))
 have HTR := hid (fun W (h : Below u7.heap.size u7 W) => trim_ok 1 1 3 0 (some ⟨w.heap.size + 1 + 1 + 1 + 1 + 1, 0, none⟩) 2 (some ⟨w.heap.size + 1 + 1 + 1 + 1, 0, none⟩) 1 exR9 exF9 W (HDM.out W h) (HTB.out W h) (by rw [show ((3 : Nat) : Int) = 3 from rfl, show ((0 : Nat) : Int) = 0 from rfl, ex9_where]) (by decide))
 rw [ex9_listC] at HCO
 rw [ex9_listG] at HGO
 go_enter Tryz.func14, Tryz.ntmps14
 go_upto_region 3 with (fail)
 rw [Hu1.out, Hu2.out, Hu3.out, Hu4.out, Hu5.out, Hu6.out, Hu7.out]
 obtain ⟨p0, p1, p2, p3, p4, p5⟩ := HQD.out u7 (Below.refl _ _)
 go_wp2_with (fail)
 refine (HCO.out u7 (Below.refl _ _)).mono ?_
 rintro e w1 ⟨v1, rfl, ho1, hb1⟩
 obtain ⟨A1, c1, hv1⟩ := own_shape ho1
 subst hv1
 have H1 := hid hb1
 clear hb1 ho1 p0 p1 p2 p3 p4 p5
 obtain ⟨p0, p1, p2, p3, p4, p5⟩ := HQD.out w1 H1.out
 go_wp2_with (fail)
 refine (HGO.out w1 H1.out).mono ?_
 rintro e w2 ⟨v2, rfl, ho2, hb2⟩
 obtain ⟨A2, c2, hv2⟩ := own_shape ho2
 subst hv2
 have H2 := hid (below_t H1.out hb2)
 clear hb2 ho2 p0 p1 p2 p3 p4 p5
 obtain ⟨p0, p1, p2, p3, p4, p5⟩ := HQD.out w2 H2.out
 go_wp2_with (fail)
 refine (HTR.out w2 H2.out).mono ?_
 rintro e w3 ⟨hb3, hto⟩
 have H3 := hid (below_t H2.out hb3)
 clear hb3 p0 p1 p2 p3 p4 p5
 rw [ex9_goes.1, ex9_kept] at hto
 rcases hto with ⟨h, _⟩ | ⟨_, A3, c3, B3, d3, rfl, _⟩
 ·cases h
 have hn : (([0, 1] : List Nat).length : Int) = 2 := rfl
 have hm : ((trR [0, 1] exR9).length : Int) = 1 := by decide
 have hm' : (trR [0, 1] exR9).length = 1 := by decide
 rw [hm', hn]
 obtain ⟨w4, hw4, hq4, hl4, hb4⟩ := new_cells w3 #[.int .i64 1, .int .i64 1, .int .i64 2, .int .i64 (numL [0, 1] 0 : Int), .slice A3 1 c3, .slice B3 (trF [0, 1] exF9).length d3] 26
 have z2 := hq4.cell 2
 have z4 := hq4.cell 4
 simp only [sD, sE, sF] at z2 z4
 have HE := hid (HB.out w4 (below_t H3.out hb4))
 clear hq4 hl4 hb4
 go_wp2_with (fail)
 go_ret
 exact ⟨rfl, HE.out⟩
def chr (j : Nat) : RuL := ⟨(j : Int), (j : Int) + 1, [[((j : Int), (j : Int))]], 1, []⟩
def chR (P : Nat → Bool) (i : Nat) : List RuL := ((List.range i).filter P).map chr
def chF (m : Nat) : List FiL := [⟨(m : Int), [], []⟩]
section
variable {P : Nat → Bool} {i m q : Nat}
theorem chR_more (h : P i = true) : chR P (i + 1) = chR P i ++ [chr i] := by
 unfold chR
 rw [rangeF_more h, List.map_append]
 rfl
theorem chR_skip (h : P i = false) : chR P (i + 1) = chR P i := by
 unfold chR
 rw [rangeF_skip h]
theorem chR_mem {r : RuL} (h : r ∈ chR P i) : ∃ j, j < i ∧ P j = true ∧ r = chr j := by
 unfold chR at h
 obtain ⟨j, hj, rfl⟩ := List.mem_map.1 h
 obtain ⟨h1, h2⟩ := List.mem_filter.1 hj
 exact ⟨j, List.mem_range.1 h1, h2, rfl⟩
theorem chr_mem (hj : q < i) (h : P q = true) : chr q ∈ chR P i := List.mem_map.2 ⟨q, List.mem_filter.2 ⟨List.mem_range.2 hj, h⟩, rfl⟩
theorem chr_edg (j : Nat) : edg (chr j) = (j, j + 1) := by
 unfold edg chr
 simp only [Prod.mk.injEq]
 omega
theorem chr_edgB (j : Nat) : edgB (chr j) = (j + 1, j) := by
 unfold edgB
 rw [chr_edg]
theorem ch_comes (hq : q ≤ m) : comesF (chR P m) 0 q = true ↔ ∀ j, j < q → P j = true := by
 unfold comesF
 rw [reachB_iff]
 constructor
 ·intro h
  induction h with
  | first hm => intro j hj; rw [List.mem_singleton.1 hm] at hj; omega
  | step he _ ih =>
   obtain ⟨r, hr, rfl⟩ := List.mem_map.1 he
   obtain ⟨j, hj, hp, rfl⟩ := chR_mem hr
   rw [chr_edg] at ih hq ⊢
   intro x hx
   rcases Nat.lt_or_ge x j with h | h
   ·exact ih (by simp only; omega) x h
   ·obtain rfl : x = j := by simp only at hx; omega
    exact hp
 ·intro h
  induction q with
  | zero => exact .first (by simp)
  | succ q ih =>
   have h1 := ih (by omega) fun j hj => h j (by omega)
   have := Reach.step (e := (q, q + 1)) (F := [0]) (List.mem_map.2 ⟨chr q, chr_mem (P := P) (i := m) (by omega) (h q (by omega)), chr_edg q⟩) h1
   exact this
theorem ch_goes (hq : q ≤ m) : goesF (chR P m) (chF m) q = true ↔ ∀ j, q ≤ j → j < m → P j = true := by
 unfold goesF
 rw [reachB_iff, show (chF m).map (fun f => f.frm.toNat) = [m] from by simp [chF]]
 constructor
 ·intro h
  have key : ∀ x, Reach ((chR P m).map edgB) [m] x → x ≤ m ∧ ∀ j, x ≤ j → j < m → P j = true := fun x hx => by
   induction hx with
   | first hm => rw [List.mem_singleton.1 hm]; exact ⟨Nat.le_refl _, fun j h1 h2 => by omega⟩
   | step he _ ih =>
    obtain ⟨r, hr, rfl⟩ := List.mem_map.1 he
    obtain ⟨j, hj, hp, rfl⟩ := chR_mem hr
    rw [chr_edgB] at ih ⊢
    refine ⟨by simp only; omega, fun x h1 h2 => ?_⟩
    simp only at h1 ih
    rcases Nat.lt_or_ge j x with h | h
    ·exact ih.2 x h h2
    ·obtain rfl : x = j := by omega
     exact hp
  exact (key q h).2
 ·intro h
  obtain ⟨d, hd⟩ : ∃ d, m = q + d := ⟨m - q, by omega⟩
  have key : ∀ d q, m = q + d → (∀ j, q ≤ j → j < m → P j = true) → Reach ((chR P m).map edgB) [m] q := fun d => by
   induction d with
   | zero => intro q hq _; exact .first (by simp [hq])
   | succ d ih =>
    intro q hq h
    have h1 := ih (q + 1) (by omega) fun j h1 h2 => h j (by omega) h2
    have := Reach.step (e := (q + 1, q)) (F := [m]) (List.mem_map.2 ⟨chr q, chr_mem (P := P) (i := m) (by omega) (h q (Nat.le_refl _) (by omega)), chr_edgB q⟩) h1
    exact this
  exact key d q hd h
theorem ch_where (hm : m ≤ 1000) : whereD 2 1 ((m + 1 : Nat) : Int) ((0 : Nat) : Int) (chR P m) (chF m) = (0, 0) := by
 have hlen : (chR P m).length ≤ m := by
  unfold chR
  rw [List.length_map]
  have := List.length_filter_le P (List.range m)
  simpa using this
 refine where_zero ?_ (fun r hr => ?_) (fun f hf => ?_) ?_
 ·unfold headB
  rw [sort_one (.inr rfl), sort_one (.inl rfl), decide_eq_true (show (1 : Int) ≤ ((m + 1 : Nat) : Int) by omega), decide_eq_true (show ((m + 1 : Nat) : Int) ≤ 1024 by omega), stB_t (by omega) (by omega), decide_eq_true (show (chR P m).length ≤ 4096 by omega)]
  simp [chF]
 ·obtain ⟨j, hj, _, rfl⟩ := chR_mem hr
  have hg : guardsB 2 [[((j : Int), (j : Int))]] = true := by
   unfold guardsB guardB
   have h2 : plainB [((j : Int), (j : Int))] = true := plainB_true ⟨List.pairwise_singleton _ _, fun p hp => by obtain rfl := List.mem_singleton.1 hp; unfold Ok; simp only; omega⟩
   have h3 : subB 2 [((j : Int), (j : Int))] = true := by
    unfold subB
    refine @decide_eq_true _ (Classical.propDecidable _) fun y h => ?_
    obtain ⟨hy, p, hp, k1, k2⟩ := h.1
    obtain rfl := List.mem_singleton.1 hp
    simp only at k1 k2
    exact h.2 ⟨hy, (0, 55295), by simp [domL], by simp only; omega, by simp only; omega⟩
   simp only [List.all_cons, List.all_nil, h2, h3]
   simp
  have e1 : stB ((m + 1 : Nat) : Int) (j : Int) = true := stB_t (by omega) (by omega)
  have e2 : stB ((m + 1 : Nat) : Int) ((j : Int) + 1) = true := stB_t (by omega) (by omega)
  unfold ruleB eatB termsB chr
  dsimp only
  rw [e1, e2, hg]
  simp
 ·obtain rfl := List.mem_singleton.1 hf
  exact empty_final ⟨by omega, by omega⟩
 ·have he : epsE (chR P m) = [] := by
   unfold epsE
   rw [List.map_eq_nil_iff, List.filter_eq_nil_iff]
   intro r hr
   obtain ⟨j, _, _, rfl⟩ := chR_mem hr
   simp [epsR, chr]
  rw [he]
  exact cyc_nil _
end
theorem ch_all {m : Nat} {P : Nat → Bool} (hP : ∀ j, P j = true) : (List.range (m + 1)).filter (comesF (chR P m) 0) = List.range (m + 1) ∧ (List.range (m + 1)).filter (goesF (chR P m) (chF m)) = List.range (m + 1) ∧ goesF (chR P m) (chF m) 0 = true ∧ keptL (m + 1) 0 (chR P m) (chF m) = List.range (m + 1) := by
 have h1 : ∀ q ∈ List.range (m + 1), comesF (chR P m) 0 q = true := fun q hq => (ch_comes (by have := List.mem_range.1 hq; omega)).2 fun j _ => hP j
 have h2 : ∀ q ∈ List.range (m + 1), goesF (chR P m) (chF m) q = true := fun q hq => (ch_goes (by have := List.mem_range.1 hq; omega)).2 fun j _ _ => hP j
 refine ⟨List.filter_eq_self.2 h1, List.filter_eq_self.2 h2, h2 0 (by simp), ?_⟩
 unfold keptL
 exact List.filter_eq_self.2 fun q hq => by rw [h1 q hq, h2 q hq]; rfl
theorem range_lt {n : Nat} : ∀ {N : Nat}, n ≤ N → ((List.range N).filter fun q => decide (q < n)).length = n
 | 0, h => by simp; omega
 | N + 1, h => by
  rw [List.range_succ, List.filter_append, List.length_append]
  rcases Nat.lt_or_ge N n with k | k
  ·obtain rfl : n = N + 1 := by omega
   have : (List.range N).filter (fun q => decide (q < N + 1)) = List.range N := List.filter_eq_self.2 fun q hq => decide_eq_true (by have := List.mem_range.1 hq; omega)
   rw [this]
   simp
  ·rw [range_lt k]
   simp
   omega
theorem range_ge {n : Nat} : ∀ {N : Nat}, n ≤ N → ((List.range N).filter fun q => decide (n ≤ q)).length = N - n
 | 0, _ => by simp
 | N + 1, h => by
  rw [List.range_succ, List.filter_append, List.length_append]
  rcases Nat.lt_or_ge N n with k | k
  ·obtain rfl : n = N + 1 := by omega
   have : (List.range N).filter (fun q => decide (N + 1 ≤ q)) = [] := List.filter_eq_nil_iff.2 fun q hq => by have := List.mem_range.1 hq; simp; omega
   rw [this]
   simp
  ·rw [range_ge k]
   simp [k]
   omega
theorem ch_gap {m g : Nat} {P : Nat → Bool} (hg : g < m) (hP : ∀ j, P j = !(j == g)) : ((List.range (m + 1)).filter (comesF (chR P m) 0)).length = g + 1 ∧ ((List.range (m + 1)).filter (goesF (chR P m) (chF m))).length = m - g ∧ goesF (chR P m) (chF m) 0 = false := by
 have hp : ∀ j, P j = true ↔ j ≠ g := fun j => by rw [hP]; simp
 have h1 : ∀ q, q ≤ m → (comesF (chR P m) 0 q = decide (q < g + 1)) := fun q hq => by
  rw [Bool.eq_iff_iff, ch_comes hq, decide_eq_true_eq]
  constructor
  ·intro h
   rcases Nat.lt_or_ge g q with k | k
   ·exact absurd rfl ((hp g).1 (h g k))
   ·omega
  ·intro h j hj
   exact (hp j).2 (by omega)
 have h2 : ∀ q, q ≤ m → (goesF (chR P m) (chF m) q = decide (g + 1 ≤ q)) := fun q hq => by
  rw [Bool.eq_iff_iff, ch_goes hq, decide_eq_true_eq]
  constructor
  ·intro h
   rcases Nat.lt_or_ge g q with k | k
   ·exact k
   ·exact absurd rfl ((hp g).1 (h g k hg))
  ·intro h j h1 _
   exact (hp j).2 (by omega)
 refine ⟨?_, ?_, by rw [h2 0 (Nat.zero_le _)]; simp⟩
 ·rw [List.filter_congr (q := fun q => decide (q < g + 1)) fun q hq => h1 q (by have := List.mem_range.1 hq; omega)]
  exact range_lt (by omega)
 ·rw [List.filter_congr (q := fun q => decide (g + 1 ≤ q)) fun q hq => h2 q (by have := List.mem_range.1 hq; omega), range_ge (by omega)]
  omega
structure ChS (x : Nat) (i : Nat) (P : Nat → Bool) (n : Int) (v vf : Value) (w : World) : Prop where
 box : DBox w x 2 1 n 0 v vf
 rules : RowRu (fun b => x + 1 ≤ b) w (x + 1) v (chR P i)
 nil_ : NilW w (x + 1) 50 5 4 v (chR P i).length
def ChRel (x k : Nat) (P : Nat → Bool) (vf : Value) (wz : World) (iv : Value) (wr : World) : Prop :=
 ∃ (i : Nat) (v : Value), i + 1 ≤ k ∧ iv = .int .i64 i ∧ ChS x i P (k : Int) v vf wr ∧ Below x wz wr
theorem ChS.keep {x i : Nat} {P : Nat → Bool} {n : Int} {v vf : Value} {w w' : World} (h : ChS x i P n v vf w) (hb : Below w.heap.size w w') : ChS x i P n v vf w' := by
 have hv : ∀ g, v.ownBlock = some g → w'.heap[g]? = w.heap[g]? := fun g e => hb.block g (by obtain ⟨vs, h1, _⟩ := h.rules; exact (World.ownsRow.lt h1 g e).2)
 exact ⟨h.box.keep (hb.block x h.box.lt), h.rules.keep hb.size hv (fun b _ _ hlt => hb.block b hlt) (fun _ hp _ => hp), h.nil_.keep hv⟩
theorem ChS.more {x i g0 gg capg : Nat} {P : Nat → Bool} {n : Int} {v vf : Value} {w w' : World} {vs : List Value} (h : ChS x i P n v vf w) (hP : P i = true) (hvs : w.ownsRow (x + 1) 50 5 v (chR P i).length vs)
  (hs : RGp (fun b => x + 1 ≤ b ∧ v.ownBlock ≠ some b) w (some ⟨g0, 0, none⟩) [[((i : Int), (i : Int))]]) (hg : w.grownBy w' v.ownBlock)
  (ho : w'.ownsRow (x + 1) 50 5 (.slice (some ⟨gg, 0, none⟩) ((chR P i).length + 1) capg) ((chR P i).length + 1) (vs ++ [.int .i64 (i : Int), .int .i64 ((i : Int) + 1), .slice (some ⟨g0, 0, none⟩) 1 1, .int .i64 1, .slice none 0 0]))
  (hat : (Value.slice (some ⟨gg, 0, none⟩) ((chR P i).length + 1) capg).ownBlock = v.ownBlock ∨ (Value.slice (some ⟨gg, 0, none⟩) ((chR P i).length + 1) capg).ownBlock = some w.heap.size) :
  ChS x (i + 1) P n (.slice (some ⟨gg, 0, none⟩) ((chR P i).length + 1) capg) vf (w'.setCell ⟨x, 4, none⟩ (.slice (some ⟨gg, 0, none⟩) ((chR P i).length + 1) capg)) := by
 have hxl := h.box.lt
 have hlow : ∀ g, (Value.slice (some ⟨gg, 0, none⟩) ((chR P i).length + 1) capg).ownBlock = some g → x + 1 ≤ g := fun g e => (World.ownsRow.lt ho g e).1
 have hset : ∀ g, x + 1 ≤ g → (w'.setCell ⟨x, 4, none⟩ (.slice (some ⟨gg, 0, none⟩) ((chR P i).length + 1) capg)).heap[g]? = w'.heap[g]? := fun g hg => heap_setCell_other w' ⟨x, 4, none⟩ g _ (show g ≠ x by omega)
 have hru := h.rules.more (r := chr i) (gc := 1) (tc := 0) (T := none) hvs hs (Nat.le_refl _) (fun hn => absurd hn (by simp [chr])) (Nat.le_refl _) hg ho hat (Nat.le_refl _)
 have hnl := h.nil_.more hvs ho (by omega) (fun l c e => by
  simp only [List.getElem?_cons_succ, List.getElem?_cons_zero, Option.some.injEq, Value.slice.injEq] at e
  omega)
 refine ⟨(h.box.keep (hg.block x hxl (fun e => by have := (World.ownsRow.lt hvs x e.symm).1; omega))).set4 _, ?_, ?_⟩
 ·rw [chR_more hP]
  exact hru.keep (by simp) (fun g e => hset g (hlow g e)) (fun b hb _ _ => hset b hb) (fun _ hp _ => hp)
 ·rw [chR_more hP, List.length_append]
  exact hnl.keep fun g e => hset g (hlow g e)
open Go.Lib (hid)
theorem rem_nat {a : Int} {m : Nat} (h0 : 0 ≤ a) (hm : 0 < m) : ∃ r : Nat, r < m ∧ a.tmod (m : Int) = (r : Int) := by
 have h1 := Int.emod_nonneg a (show (m : Int) ≠ 0 by omega)
 have h2 := Int.emod_lt_of_pos a (show (0 : Int) < (m : Int) by omega)
 refine ⟨(a % (m : Int)).toNat, by omega, ?_⟩
 rw [Int.tmod_eq_emod_of_nonneg h0]
 omega
structure ChNums (n c : Int) (k m g : Nat) : Prop where
 rem : ∃ r : Nat, n.tmod 60 = (r : Int) ∧ k = r + 2 ∧ r < 60
 km : k = m + 1
 m1 : 1 ≤ m ∧ m ≤ 60
 gm : g < m
 gr : c.tmod (m : Int) = (g : Int)
theorem ch_nums {n c : Int} (hn : 0 ≤ n) (hc : 0 ≤ c) : ∃ k m g, ChNums n c k m g := by
 obtain ⟨r, hr, he⟩ := rem_nat (m := 60) hn (by decide)
 obtain ⟨g, hg, hge⟩ := rem_nat (m := r + 1) hc (by omega)
 exact ⟨r + 2, r + 1, g, ⟨r, he, rfl, hr⟩, rfl, ⟨by omega, by omega⟩, hg, hge⟩
set_option maxHeartbeats 16000000 in
theorem chain_law (n c : Int) (hn : 0 ≤ n ∧ n ≤ 255) (hc : 0 ≤ c ∧ c ≤ 255) (wh : Bool) (w : World) (hT : Fi.TabB w) : Calls Tryz.prog 7 #[.int .u8 n, .int .u8 c, .bool wh] w (RetB true w) := by
 obtain ⟨k, m, g, hnum⟩ := ch_nums hn.1 hc.1
 obtain ⟨⟨r, hr, hkr, hr60⟩, hkm, ⟨hm1, hm60⟩, hgm, hgr⟩ := hnum
 obtain ⟨P, hP⟩ : ∃ P : Nat → Bool, (fun j => wh || !(j == g)) = P := ⟨_, rfl⟩
 have HP := hid (fun j => show P j = (wh || !(j == g)) from by rw [← hP])
 have HNUM := hid (show n.tmod 60 = (r : Int) ∧ c.tmod (m : Int) = (g : Int) ∧ IntKind.u8.wrap (r : Int) = (r : Int) ∧ IntKind.i64.wrap (r : Int) = (r : Int) ∧ IntKind.i64.wrap ((r : Int) + 2) = (k : Int) ∧ IntKind.i64.wrap c = c ∧ IntKind.i64.wrap ((k : Int) - 1) = (m : Int) ∧ IntKind.i64.wrap (g : Int) = (g : Int) from ⟨hr, hgr, IntWalk.u8_in _ (by omega), IntWalk.i64_in _ (by omega), by rw [IntWalk.i64_in _ (by omega)]; omega, IntWalk.i64_in _ (by omega), by rw [IntWalk.i64_in _ (by omega)]; omega, IntWalk.i64_in _ (by omega)⟩)
 obtain ⟨u1, hu1, qu1, lu1, bu1⟩ := new_cells w #[.int .i64 (m : Int), .slice none 0 0, .slice none 0 0] 45
 have su1 : u1.heap.size = w.heap.size + 1 := by rw [← hu1, World.size_alloc]
 obtain ⟨wz, hwz, qz, lz, bz⟩ := new_cells u1 #[.int .i64 2, .int .i64 1, .int .i64 (k : Int), .int .i64 0, .slice none 0 0, .slice (some ⟨w.heap.size, 0, none⟩) 1 1] 26
 have sz : wz.heap.size = w.heap.size + 1 + 1 := by rw [← hwz, World.size_alloc, su1]
 rw [su1] at qz
 have hbz : Below w.heap.size w wz := bu1.trans (bz.mono (by omega))
 obtain ⟨x, hx⟩ : ∃ x, w.heap.size + 1 = x := ⟨_, rfl⟩
 have HX := hid hx
 rw [hx] at qz
 have HS0 := hid (show ChS x 0 P (k : Int) (.slice none 0 0) (.slice (some ⟨w.heap.size, 0, none⟩) 1 1) wz from ⟨qz, RowRu.nil_ _ _ _, NilW.nil_ _ _ _ _ _⟩)
 have HBZ := hid (fun W (h : Below x wz W) => show Below w.heap.size w W from hbz.trans (h.mono (by omega)))
 have HFB := hid (fun W (h : Below x wz W) => show Blk W w.heap.size 45 #[.int .i64 (m : Int), .slice none 0 0, .slice none 0 0] from ((qu1.below bz (by omega)).below h (by omega)))
 have HT := hid hT
 have Hu1 := hid hu1
 have Hwz := hid hwz
 have HB60 := hid (And.intro hkm (And.intro hm1 (And.intro hm60 hgm)))
 clear hT hu1 qu1 lu1 bu1 hwz qz lz bz hbz hP hr hgr hr60 hkr su1 sz hx
 obtain ⟨e1, e2, e3, e4, e5, e6, e7, e8⟩ := HNUM.out
 have e9 : ((m : Int) == 0) = false := by simpa using (show m ≠ 0 by omega)
 have e10 : decide ((m : Int) = 0) = false := decide_eq_false (by omega)
 have e11 : ¬ m = 0 := by omega
 clear hkm
 go_enter Tryz.func7, Tryz.ntmps7
 go_upto_region 4 with (fail)
 rw [Hu1.out, Hwz.out]
 clear e1 e2 e3 e4 e5 e6 e8 e9 e10 e11
 try simp only [HX.out]
 go_wp2_with (fail)
 go_loopw [10] (fun iv wr => ChRel x k P (.slice (some ⟨w.heap.size, 0, none⟩) 1 1) wz iv wr) (fun iv _ => k - (intOf iv).toNat)
 case atStart => exact ⟨0, _, by have := HB60.out; omega, rfl, HS0.out, Below.refl _ _⟩
 case round =>
  obtain ⟨i, v, hik, rfl, hch, hbl⟩ := hrel
  have s1 : IntKind.i64.wrap ((i : Int) + 1) = (i : Int) + 1 := IntWalk.i64_in _ (by have := HB60.out; omega)
  by_cases hlt : i + 1 < k
  ·have d1 : decide ((i : Int) + 1 < (k : Int)) = true := decide_eq_true (by omega)
   obtain ⟨nL, hnL⟩ : ∃ nL, (chR P i).length = nL := ⟨_, rfl⟩
   have hnLb : nL ≤ 61 := by
    rw [← hnL]
    unfold chR
    rw [List.length_map]
    have h1 := List.length_filter_le P (List.range i)
    simp only [List.length_range] at h1
    have := HB60.out
    omega
   have HCH := hid hch
   have HBL := hid hbl
   have HIK := hid hlt
   have HNL := hid hnL
   have hkb : i < 100 := by have := HB60.out; omega
   have HSK := hid (fun (h : P i = false) => show ChRel x k P (.slice (some ⟨w.heap.size, 0, none⟩) 1 1) wz (.int .i64 ((i + 1 : Nat) : Int)) wr from ⟨i + 1, v, hlt, rfl, by
    obtain ⟨c1, c2, c3⟩ := hch
    exact ⟨c1, by rw [chR_skip h]; exact c2, by rw [chR_skip h]; exact c3⟩, hbl⟩)
   cases hPi : P i with
   | false =>
    have hw : wh = false ∧ i = g := by
     have h1 := HP.out i
     rw [hPi] at h1
     cases hwh : wh with
     | true => rw [hwh] at h1; cases h1
     | false => rw [hwh] at h1; exact ⟨rfl, by simpa using h1.symm⟩
    obtain ⟨rfl, rfl⟩ := hw
    have HGO := hid (HSK.out hPi)
    clear hch hbl HSK hPi hnL
    go_wp2_with (fail)
    go_roundw
    case rel => exact HGO.out
    case measure => simp [intOf]; omega
   | true =>
    have HPI := hid hPi
    obtain ⟨b1, hb1, q1, l1, bb1⟩ := new_cells wr #[.int .i64 (i : Int), .int .i64 (i : Int)] 47
    have t1 : b1.heap.size = wr.heap.size + 1 := by rw [← hb1, World.size_alloc]
    obtain ⟨b2, hb2, q2, l2, bb2⟩ := new_cells b1 #[.slice (some ⟨wr.heap.size, 0, none⟩) 1 1] 48
    have t2 : b2.heap.size = wr.heap.size + 1 + 1 := by rw [← hb2, World.size_alloc, t1]
    rw [t1] at q2
    obtain ⟨b3, hb3, q3, l3, bb3⟩ := new_cells b2 #[.int .i64 (i : Int), .int .i64 ((i : Int) + 1), .slice (some ⟨wr.heap.size + 1, 0, none⟩) 1 1, .int .i64 1, .slice none 0 0] 50
    rw [t2] at q3
    have hbr3 : Below wr.heap.size wr b3 := (bb1.trans (bb2.mono (by omega))).trans (bb3.mono (by omega))
    have hr3 := hch.keep hbr3
    have hxl := hch.box.lt
    obtain ⟨vs, hvs, _⟩ := hr3.rules
    have hv0 : ∀ g, v.ownBlock = some g → x + 1 ≤ g ∧ g < wr.heap.size := fun g e => by
     obtain ⟨vs0, h0, _⟩ := hch.rules
     exact World.ownsRow.lt h0 g e
    have q1' := (q1.below bb2 (by omega)).below bb3 (by omega)
    have q2' := q2.below bb3 (by omega)
    have HRG := hid (show RGp (fun b => x + 1 ≤ b ∧ v.ownBlock ≠ some b) b3 (some ⟨wr.heap.size + 1, 0, none⟩) [[((i : Int), (i : Int))]] from fun _ => ⟨wr.heap.size + 1, 0, rfl, ⟨by omega, fun e => by have := (hv0 _ e).2; omega⟩, q2'.lt, fun j hj => by
     obtain rfl : j = 0 := by simp at hj; omega
     refine ⟨some ⟨wr.heap.size, 0, none⟩, 1, q2'.cell 0, ⟨lit_RS1 q1', fun _ b' off' e => ?_⟩, Nat.le_refl _, fun e => by cases e⟩
     injection e with e
     injection e with e
     subst e
     exact ⟨by omega, fun e => by have := (hv0 _ e).2; omega⟩⟩)
    rw [hnL] at hvs
    have HVS := hid hvs
    have HR3 := hid hr3
    have HNEWS := hid (fun (j : Nat) (u : Value) (e : ([.int .i64 (i : Int), .int .i64 ((i : Int) + 1), .slice (some ⟨wr.heap.size + 1, 0, none⟩) 1 1, .int .i64 1, .slice none 0 0] : List Value)[j]? = some u) => World.news_of_block (w := b3) q3 j u e)
    have HONE := hid (show ∀ u ∈ ([.int .i64 (i : Int), .int .i64 ((i : Int) + 1), .slice (some ⟨wr.heap.size + 1, 0, none⟩) 1 1, .int .i64 1, .slice none 0 0] : List Value), u.oneCell' = true from fun u hu => by
     simp only [List.mem_cons, List.not_mem_nil, or_false] at hu
     rcases hu with rfl | rfl | rfl | rfl | rfl <;> rfl)
    have HXS := hid (show x + 1 ≤ b3.heap.size by omega)
    have HB3 := hid (hbl.trans (hbr3.mono (by omega)))
    obtain ⟨i9, hi9, hy0, hy1, hy2⟩ := info_parts infoRule
    have xv := hch.box.at4
    have hcond : wh = true ∨ (wh = false ∧ ¬ i = g) := by
     have h1 := HP.out i
     rw [hPi] at h1
     cases hwh : wh with
     | true => exact .inl rfl
     | false => rw [hwh] at h1; exact .inr ⟨rfl, by simpa using h1.symm⟩
    clear hch hbl HSK hPi hnL q1 q2 q3 q1' q2' hbr3 hr3 hvs hv0 l1 l2 l3 bb1 bb2 bb3
    rcases hcond with rfl | ⟨rfl, hig⟩
    all_goals
     go_wp2_with (at_builtin; go_must (refine wpList_append_own_at _ rfl _ _ 23 rfl (x + 1) 50 i9 _ 5 72 Tryz.underlying23 hi9 hy0 hy1 hy2 rfl (by decide) v nL vs rfl HVS.out ⟨wr.heap.size + 1 + 1, 0, none⟩ 1 1 [.int .i64 (i : Int), .int .i64 ((i : Int) + 1), .slice (some ⟨wr.heap.size + 1, 0, none⟩) 1 1, .int .i64 1, .slice none 0 0] rfl rfl HNEWS.out HONE.out ?c3 ?c4 HXS.out ?_))
     case c3 => simp only [maxLen]; omega
     case c4 => omega
     intro v9 w9 hown9 hg9 _ hat9
     have hx9 : some x ≠ v.ownBlock := fun e => by have := (World.ownsRow.lt HVS.out x e.symm).1; omega
     have hdb := HR3.out.box.keep (hg9.block x (by have := HXS.out; omega) hx9)
     obtain ⟨g9, c9, hv9, _, _⟩ := World.ownsRow.form hown9 (by omega)
     subst hv9
     have k1 := hdb.at4
     have k2 := hdb.frozen 4
     obtain ⟨wn, hwn⟩ : ∃ wn, w9.setCell ⟨x, 4, none⟩ (.slice (some ⟨g9, 0, none⟩) (nL + 1) c9) = wn := ⟨_, rfl⟩
     have hnext := HR3.out.more HPI.out (by rw [HNL.out]; exact HVS.out) HRG.out hg9 (by rw [HNL.out]; exact hown9) (by rw [HNL.out]; exact hat9)
     rw [HNL.out, hwn] at hnext
     have HNEXT := hid (show ChRel x k P (.slice (some ⟨w.heap.size, 0, none⟩) 1 1) wz (.int .i64 ((i + 1 : Nat) : Int)) wn from ⟨i + 1, _, HIK.out, rfl, hnext, by
      rw [← hwn]
      exact (HB3.out.grown hg9 (by have := HXS.out; omega) (fun q e => by have := (World.ownsRow.lt HVS.out q e).1; omega)).setCell (Nat.le_refl x) _⟩)
     clear hnext hdb hown9 hg9 hat9
     go_wp2_with (fail)
     go_roundw
     case rel => exact HNEXT.out
     case measure => simp [intOf]; omega
  ·have him : i = m := by have := HB60.out; omega
   have d1 : decide ((i : Int) + 1 < (k : Int)) = false := decide_eq_false (by omega)
   have hbw := HBZ.out wr hbl
   have hlm : (chR P i).length ≤ i := by
    unfold chR
    rw [List.length_map]
    have h1 := List.length_filter_le P (List.range i)
    simpa using h1
   have hbR : ∀ r ∈ chR P i, r.gs.length ≤ maxLen ∧ (∀ g ∈ r.gs, g.length ≤ maxLen) ∧ r.out.length ≤ maxLen ∧ IntR r.eat := fun r hr => by
    obtain ⟨j, _, _, rfl⟩ := chR_mem hr
    have h1 : (1 : Nat) ≤ maxLen := by simp only [maxLen]; decide
    refine ⟨h1, fun g hg => ?_, Nat.zero_le _, by show IntR 1; unfold IntR; omega⟩
    obtain rfl := List.mem_singleton.1 hg
    exact h1
   have hbox := hch.box
   have hnil := hch.nil_
   obtain ⟨AR, cR, hvR, hrR, hcR, hmR⟩ := RowRu.reads hch.rules hbR
   subst hvR
   have HFW := hid (HFB.out wr hbl)
   obtain rfl : m = i := him.symm
   obtain ⟨R, hRR⟩ : ∃ R, chR P m = R := ⟨_, rfl⟩
   obtain ⟨F, hFF⟩ : ∃ F, chF m = F := ⟨_, rfl⟩
   have hlF : F.length = 1 := by rw [← hFF]; rfl
   have hrF : RFi wr (some ⟨w.heap.size, 0, none⟩) F.length F := by
    rw [← hFF]
    exact ⟨rfl, fun _ => ⟨w.heap.size, 0, rfl, HFW.out.lt, fun j hj => by
     obtain rfl : j = 0 := by simp [chF] at hj; omega
     exact ⟨HFW.out.cell 0, ⟨none, 0, HFW.out.cell 1, RGs.nil_ _ _, Nat.le_refl _, Nat.zero_le _, fun g hg => by cases hg⟩, none, 0, HFW.out.cell 2, RTm.nil_ _ _, Nat.le_refl _, Nat.zero_le _⟩⟩⟩
   have hmx1 : F.length ≤ maxLen := by rw [hlF]; simp only [maxLen]; decide
   have hnF : NilT wr (some ⟨w.heap.size, 0, none⟩) F.length 3 2 := by
    rw [hlF]
    refine nilT_blk HFW.out fun j hj l c e => ?_
    obtain rfl : j = 0 := by omega
    simp at e
    exact e.2.symm
   have hnR := hnil.nilT (k := 4) (by omega)
   rw [hRR] at hrR hmR hnR hcR hbox hnil
   have HDM := hid (fun W (h : Below wr.heap.size wr W) => show DM W ⟨2, 1, ((k : Nat) : Int), ((0 : Nat) : Int), AR, cR, some ⟨w.heap.size, 0, none⟩, 1, R, F⟩ from DM.below (w := wr) ⟨hrR, hmR, hrF, hmx1, hnR, hnF⟩ h)
   have hkm : k = m + 1 := HB60.out.1
   have HWH := hid (show whereD 2 1 ((k : Nat) : Int) ((0 : Nat) : Int) R F = (0, 0) from by rw [← hRR, ← hFF, hkm]; exact ch_where (by have := HB60.out; omega))
   have HRD : RightD ⟨2, 1, ((k : Nat) : Int), ((0 : Nat) : Int), AR, cR, some ⟨w.heap.size, 0, none⟩, 1, R, F⟩ := DV.right.rightD (d := ⟨2, 1, ((k : Nat) : Int), ((0 : Nat) : Int), AR, cR, some ⟨w.heap.size, 0, none⟩, 1, R, F⟩) (show (whereD _ _ _ _ _ _).1 = 0 by rw [HWH.out])
   have hst : (∀ j (hj : j < R.length), stB k R[j].frm = true ∧ stB k R[j].to_ = true) ∧ ∀ j (hj : j < F.length), stB k F[j].frm = true := ⟨fun j hj => by
    obtain ⟨h1, h2, h3, h4, _⟩ := HRD.rs R[j] (List.getElem_mem hj)
    exact ⟨stB_t h1 h2, stB_t h3 h4⟩, fun j hj => by
    obtain ⟨h1, h2, _⟩ := HRD.fs F[j] (List.getElem_mem hj)
    exact stB_t h1 h2⟩
   have HTW := hid (fun W (h : Below wr.heap.size wr W) => show Fi.TabB W from HT.out.next (hbw.trans (h.mono (by have := hbw.size; exact this))))
   have HCK := hid (fun W (h : Below wr.heap.size wr W) => show Calls Tryz.prog 25 #[dsc 2 1 (k : Int) 0 AR R.length cR (some ⟨w.heap.size, 0, none⟩) F.length 1] W (RetI 0 W) from by
    have h1 := checkD_any 2 1 ((k : Nat) : Int) ((0 : Nat) : Int) AR cR (some ⟨w.heap.size, 0, none⟩) 1 R F W (HDM.out W h).rules (HDM.out W h).rl (HDM.out W h).finals (HDM.out W h).fl (HTW.out W h)
    rw [HWH.out] at h1
    exact h1)
   have hrl : R.length ≤ 4096 := HRD.r
   have hk2 : 1 ≤ k ∧ k ≤ 1024 := by have := HB60.out; omega
   have HCO := hid (fun W (h : Below wr.heap.size wr W) => Comes_ok k 2 1 0 AR cR (some ⟨w.heap.size, 0, none⟩) 1 R F W (HDM.out W h).rules (HDM.out W h).finals hrl (by rw [hlF]; decide) hk2 (by omega) hst.1 hst.2 (fun V hV => HCK.out V (below_t h hV)))
   have HGO := hid (fun W (h : Below wr.heap.size wr W) => GoesOn_ok k 2 1 0 AR cR (some ⟨w.heap.size, 0, none⟩) 1 R F W (HDM.out W h).rules (HDM.out W h).finals hrl (by rw [hlF]; decide) hk2 (by omega) hst.1 hst.2 (fun V hV => HCK.out V (below_t h hV)))
   have HTR := hid (fun W (h : Below wr.heap.size wr W) => trim_ok 2 1 k 0 AR cR (some ⟨w.heap.size, 0, none⟩) 1 R F W (HDM.out W h) (HTW.out W h) (by rw [HWH.out]) (by rw [hlF]; decide))
   rw [hlF] at HCO HGO HTR
   have HDB := hid (fun W (h : Below wr.heap.size wr W) => show DB W x 2 1 (k : Int) 0 AR R.length cR (some ⟨w.heap.size, 0, none⟩) 1 1 from by
    have h1 : DBox W x 2 1 (k : Int) 0 (.slice AR R.length cR) (.slice (some ⟨w.heap.size, 0, none⟩) 1 1) := hbox.keep (h.block x hbox.lt)
    obtain ⟨c0, c1, c2, c3, c4, c5⟩ := h1.cells
    exact ⟨c0, c1, c2, c3, c4, c5⟩)
   have HBW := hid (fun W (h : Below wr.heap.size wr W) => show Below w.heap.size w W from hbw.trans (h.mono (by have := hbw.size; exact this)))
   have HRES := hid (And.intro hRR hFF)
   clear hch hbl hbw hbR hbox hnil hrR hcR hmR hrF hmx1 hnF hnR hRR hFF HRD hst hrl hk2 hkm hik hlt hlF hlm
   obtain ⟨p0, p1, p2, p3, p4, p5⟩ := HDB.out wr (Below.refl _ _)
   go_wp2_with (fail)
   refine (HCO.out wr (Below.refl _ _)).mono ?_
   rintro e w1 ⟨v1, rfl, ho1, hb1⟩
   obtain ⟨L1, k1, hv1⟩ := own_shape ho1
   subst hv1
   have H1 := hid hb1
   clear ho1 hb1 p0 p1 p2 p3 p4 p5
   obtain ⟨p0, p1, p2, p3, p4, p5⟩ := HDB.out w1 H1.out
   go_wp2_with (fail)
   refine (HGO.out w1 H1.out).mono ?_
   rintro e w2 ⟨v2, rfl, ho2, hb2⟩
   obtain ⟨L2, k2, hv2⟩ := own_shape ho2
   subst hv2
   have H2 := hid (below_t H1.out hb2)
   clear ho2 hb2 p0 p1 p2 p3 p4 p5
   obtain ⟨p0, p1, p2, p3, p4, p5⟩ := HDB.out w2 H2.out
   go_wp2_with (fail)
   refine (HTR.out w2 H2.out).mono ?_
   rintro e w3 ⟨hb3, hto⟩
   have H3 := hid (below_t H2.out hb3)
   clear hb3 p0 p1 p2 p3 p4 p5
   cases wh with
   | true =>
    have hall := ch_all (m := m) (P := P) (fun j => by rw [HP.out]; rfl)
    rw [HRES.out.1, HRES.out.2, ← HB60.out.1] at hall
    obtain ⟨h1, h2, h3, h4⟩ := hall
    rw [h3, h4] at hto
    rcases hto with ⟨h, _⟩ | ⟨_, A3, c3, B3, d3, rfl, _⟩
    ·cases h
    have hlk : (List.range k).length = k := List.length_range
    rw [h1, h2, hlk]
    obtain ⟨ns, hns⟩ : ∃ ns, numL (List.range k) 0 = ns := ⟨_, rfl⟩
    obtain ⟨nR, hnR⟩ : ∃ nR, (trR (List.range k) R).length = nR := ⟨_, rfl⟩
    obtain ⟨nF, hnF⟩ : ∃ nF, (trF (List.range k) F).length = nF := ⟨_, rfl⟩
    rw [hns, hnR, hnF]
    obtain ⟨wc, hwc, hqc, hlc, hbc⟩ := new_cells w3 #[.int .i64 2, .int .i64 1, .int .i64 (k : Int), .int .i64 (ns : Int), .slice A3 nR c3, .slice B3 nF d3] 26
    have HWC := hid hwc
    have H4 := hid (below_t H3.out hbc)
    have HC2 := hid (hqc.cell 2)
    clear hwc hqc hlc hbc h1 h2 h3 h4 hns hnR hnF hlk
    go_upto_region 12 with (fail)
    rw [HWC.out]
    have z2 := HC2.out
    simp only [sD, sE, sF] at z2
    go_wp2_with (fail)
    refine (awake_any wc (HTW.out wc H4.out)).mono ?_
    rintro e wq ⟨rfl, hbq⟩
    have HQ := hid (HBW.out wq (below_t H4.out hbq))
    clear hbq
    go_wp2_with (fail)
    go_ret
    exact ⟨rfl, HQ.out⟩
   | false =>
    have hgap := ch_gap (m := m) (g := g) (P := P) HB60.out.2.2.2 (fun j => by rw [HP.out]; rfl)
    rw [HRES.out.1, HRES.out.2, ← HB60.out.1] at hgap
    obtain ⟨h1, h2, h3⟩ := hgap
    rw [h3] at hto
    rcases hto with ⟨_, rfl⟩ | ⟨h, _⟩
    rotate_left
    ·cases h
    obtain ⟨g1, hg1⟩ : ∃ g1, g + 1 = g1 := ⟨_, rfl⟩
    obtain ⟨g2, hg2⟩ : ∃ g2, m - g = g2 := ⟨_, rfl⟩
    rw [h1, h2, hg1, hg2]
    have s1 : IntKind.i64.wrap ((g : Int) + 1) = (g1 : Int) := by have := HB60.out; rw [IntWalk.i64_in _ (by omega)]; omega
    obtain ⟨g3, hg3⟩ : ∃ g3, k - g = g3 := ⟨_, rfl⟩
    have s2 : IntKind.i64.wrap ((k : Int) - (g : Int)) = (g3 : Int) := by have := HB60.out; rw [IntWalk.i64_in _ (by omega)]; omega
    have s3 : IntKind.i64.wrap ((g3 : Int) - 1) = (g2 : Int) := by have := HB60.out; rw [IntWalk.i64_in _ (by omega)]; omega
    obtain ⟨wc, hwc, hqc, hlc, hbc⟩ := new_cells w3 #[.int .i64 2, .int .i64 1, .int .i64 1, .int .i64 0, .slice none 0 0, .slice none 0 0] 26
    have HWC := hid hwc
    have H4 := hid (below_t H3.out hbc)
    have HCB := hid hqc
    clear hwc hqc hlc hbc h1 h2 h3 hg1 hg2 hg3
    go_upto_region 12 with (fail)
    rw [HWC.out]
    have z0 := HCB.out.cell 0
    have z1 := HCB.out.cell 1
    have z2 := HCB.out.cell 2
    have z3 := HCB.out.cell 3
    have z4 := HCB.out.cell 4
    have z5 := HCB.out.cell 5
    simp only [sD, sE, sF] at z0 z1 z2 z3 z4 z5
    go_wp2_with (fail)
    refine (rdesc_eq 2 1 1 0 none none 0 0 none none 0 0 [] [] wc (RRu.nil_ _ _) (RRu.nil_ _ _) (Nat.zero_le _) (RFi.nil_ _ _) (RFi.nil_ _ _) (Nat.zero_le _) (fun q hq => by cases hq) (fun q hq => by cases hq)).mono ?_
    rintro e w5 ⟨rfl, hb5⟩
    have H5 := hid (below_t H4.out hb5)
    clear hb5 z0 z1 z2 z3 z4 z5
    go_wp2_with (fail)
    refine (awake_any w5 (HTW.out w5 H5.out)).mono ?_
    rintro e wq ⟨rfl, hbq⟩
    have HQ := hid (HBW.out wq (below_t H5.out hbq))
    clear hbq
    go_wp2_with (fail)
    go_ret
    exact ⟨rfl, HQ.out⟩
end Go.Proofs.YtoofgpoeheponaaGreatDoor.Tr
