/- The walk of DescMakes. -/
import Derived.Test.YtiddgfcoankpjaaGreatDoorJ17
import Derived.Test.YtiddgfcoankpjaaGreatDoorJ36
namespace Go.Proofs.YtiddgfcoankpjaaGreatDoor.De
set_option maxRecDepth 100000
open Go Go.RowKit Go.Proofs.YtiddgfcoankpjaaGreatDoor.Sp Go.Proofs.YtiddgfcoankpjaaGreatDoor.Pa Go.Proofs.YtiddgfcoankpjaaGreatDoor.Te Go.Proofs.YtiddgfcoankpjaaGreatDoor.Mi Go.Proofs.YtiddgfcoankpjaaGreatDoor.Fi

theorem lit_sameF {W : World} {bf : Nat} (hf : Blk W bf 45 #[.int .i64 0, .slice none 0 0, .slice none 0 0]) : RFi W (some ⟨bf, 0, none⟩) 1 sameF :=
  ⟨rfl, fun _ => ⟨bf, 0, rfl, hf.lt, fun j hj => by
    obtain rfl : j = 0 := by simp [sameF] at hj; omega
    exact ⟨hf.cell 0, ⟨none, 0, hf.cell 1, RGs.nil_ _ _, Nat.le_refl _, Nat.zero_le _, fun g hg => by cases hg⟩, none, 0, hf.cell 2, RTm.nil_ _ _, Nat.le_refl _, Nat.zero_le _⟩⟩⟩
theorem lit_sameR {W : World} {k : Int} {bs bg bp bt br n : Nat} (hn : (domL k).length = n) (hs : RS W W.heap.size (some ⟨bs, 0, none⟩) n (domL k)) (hg : Blk W bg 55 #[.slice (some ⟨bs, 0, none⟩) n n]) (hp : Blk W bp 57 #[.int .i64 0, .int .i64 0, .int .i64 21, .int .i64 0])
    (ht : Blk W bt 24 #[.int .i64 0, .int .i64 0, .int .i64 21, .int .i64 0, .int .i64 0, .slice (some ⟨bp, 0, none⟩) 1 1]) (hr : Blk W br 43 #[.int .i64 0, .int .i64 0, .slice (some ⟨bg, 0, none⟩) 1 1, .int .i64 1, .slice (some ⟨bt, 0, none⟩) 1 1]) : RRu W (some ⟨br, 0, none⟩) 1 (sameR k) := by
  subst hn
  have hrp : RP W W.heap.size (some ⟨bp, 0, none⟩) 1 [(0, 0, 21, 0)] := ⟨rfl, fun _ => ⟨bp, 0, rfl, hp.lt, fun j hj => by
    obtain rfl : j = 0 := by simp at hj; omega
    exact ⟨hp.cell 0, hp.cell 1, hp.cell 2, hp.cell 3⟩⟩⟩
  have hrt : RTm W (some ⟨bt, 0, none⟩) 1 [⟨0, 0, 21, 0, 0, [(0, 0, 21, 0)]⟩] := ⟨rfl, fun _ => ⟨bt, 0, rfl, ht.lt, fun j hj => by
    obtain rfl : j = 0 := by simp at hj; omega
    exact ⟨ht.cell 0, ht.cell 1, ht.cell 2, ht.cell 3, ht.cell 4, some ⟨bp, 0, none⟩, 1, ht.cell 5, hrp, Nat.le_refl _, by show 1 ≤ maxLen; simp only [maxLen]; decide⟩⟩⟩
  have hrg : RGs W (some ⟨bg, 0, none⟩) 1 [domL k] := ⟨rfl, fun _ => ⟨bg, 0, rfl, hg.lt, fun j hj => by
    obtain rfl : j = 0 := by simp at hj; omega
    exact ⟨some ⟨bs, 0, none⟩, (domL k).length, hg.cell 0, hs, Nat.le_refl _, fun e => by cases e⟩⟩⟩
  exact ⟨rfl, fun _ => ⟨br, 0, rfl, hr.lt, fun j hj => by
    obtain rfl : j = 0 := by simp [sameR] at hj; omega
    exact ⟨hr.cell 0, hr.cell 1, hr.cell 3, ⟨some ⟨bg, 0, none⟩, 1, hr.cell 2, hrg, Nat.le_refl _, by show 1 ≤ maxLen; simp only [maxLen]; decide, fun g hg => by
      obtain rfl : g = domL k := by simpa [sameR] using hg
      unfold domL maxLen; split <;> (try split) <;> simp⟩, some ⟨bt, 0, none⟩, 1, hr.cell 4, hrt, Nat.le_refl _, by show 1 ≤ maxLen; simp only [maxLen]; decide, by show IntR 1; unfold IntR; omega⟩⟩⟩
theorem sameR_short {k : Int} : ∀ q ∈ sameR k, ∀ g ∈ q.gs, g.length ≤ 1099511627776 := fun q hq g hg => by
  obtain rfl := List.mem_singleton.1 hq
  obtain rfl : g = domL k := by simpa [sameR] using hg
  unfold domL; split <;> (try split) <;> simp
theorem sameF_short : ∀ q ∈ sameF, ∀ g ∈ q.gs, g.length ≤ 1099511627776 := fun q hq g hg => by
  obtain rfl := List.mem_singleton.1 hq
  cases hg
set_option maxHeartbeats 8000000 in
theorem makes_one_one (w : World) (hT : TabB w) : Calls Tryz.prog 7 #[.int .i64 1, .int .i64 1] w (RetB true w) := by
  have HT := Lib.hid hT
  have HW1 := Lib.hid (show whereD 1 1 1 0 [] [] = (0, 0) from empty_where (.inl rfl) (.inl rfl))
  have HW2 := Lib.hid (show whereD 1 1 1 0 (sameR 1) sameF = (0, 0) from same_where (.inl rfl))
  clear hT
  go_enter Tryz.func7, Tryz.ntmps7
  go_wp2_with (fail)
  refine (empty_any 1 1 w).mono ?_
  rintro e w1 ⟨rfl, hb1⟩
  go_wp2_with (fail)
  refine (same_any 1 w1).mono ?_
  rintro e w2 ⟨A, B, rfl, hrr, hff, hb2, _, _⟩
  have hs1 := hb1.size
  have hs2 := hb2.size
  have HB2 := Lib.hid (hb1.trans (hb2.mono hs1))
  obtain ⟨w4, hw4⟩ : ∃ w4, (w2.alloc (.cells #[.int .i64 1, .int .i64 1, .int .i64 1, .int .i64 0, .slice none 0 0, .slice none 0 0] 35)).alloc (.cells #[.int .i64 1, .int .i64 1, .int .i64 1, .int .i64 0, .slice A 1 1, .slice B 1 1] 35) = w4 := ⟨_, rfl⟩
  have HW4 := Lib.hid hw4
  have hs4 : w4.heap.size = w2.heap.size + 2 := by rw [← hw4]; simp
  have hb4 : Below w2.heap.size w2 w4 := by rw [← hw4]; exact ((Below.refl _ _).alloc (Nat.le_refl _) _).alloc (by simp) _
  have he4 : Blk w4 w2.heap.size 35 #[.int .i64 1, .int .i64 1, .int .i64 1, .int .i64 0, .slice none 0 0, .slice none 0 0] := by rw [← hw4]; exact (show Blk _ _ _ _ from heap_alloc_new w2 _).alloc _
  have hc4 : Blk w4 (w2.heap.size + 1) 35 #[.int .i64 1, .int .i64 1, .int .i64 1, .int .i64 0, .slice A 1 1, .slice B 1 1] := by
    rw [← hw4]
    have h := heap_alloc_new (w2.alloc (.cells #[.int .i64 1, .int .i64 1, .int .i64 1, .int .i64 0, .slice none 0 0, .slice none 0 0] 35)) (.cells #[.int .i64 1, .int .i64 1, .int .i64 1, .int .i64 0, .slice A 1 1, .slice B 1 1] 35)
    rw [World.size_alloc] at h
    exact h
  have HBOX := Lib.hid (fun W (hW : Below w4.heap.size w4 W) => show DB W w2.heap.size 1 1 1 0 none 0 0 none 0 0 ∧ DB W (w2.heap.size + 1) 1 1 1 0 A 1 1 B 1 1 from by
    have h1 := he4.below hW (by omega)
    have h2 := hc4.below hW (by omega)
    exact ⟨⟨h1.cell 0, h1.cell 1, h1.cell 2, h1.cell 3, h1.cell 4, h1.cell 5⟩, h2.cell 0, h2.cell 1, h2.cell 2, h2.cell 3, h2.cell 4, h2.cell 5⟩)
  have HB4 := Lib.hid (HB2.out.trans (hb4.mono (by omega)))
  have HR := Lib.hid (hrr.belowM hb4)
  have HF := Lib.hid (hff.belowM hb4)
  clear hb1 hb2 hb4 hw4 hrr hff he4 hc4
  go_upto_region 3 with (fail)
  rw [HW4.out]
  obtain ⟨p0, p1, p2, p3, p4, p5⟩ := (HBOX.out w4 (Below.refl _ _)).1
  obtain ⟨y0, y1, y2, y3, y4, y5⟩ := (HBOX.out w4 (Below.refl _ _)).2
  go_wp2_with (fail)
  refine (rdesc_eq 1 1 1 0 none none 0 0 none none 0 0 [] [] w4 (RRu.nil_ _ _) (RRu.nil_ _ _) (Nat.zero_le _) (RFi.nil_ _ _) (RFi.nil_ _ _) (Nat.zero_le _) (fun q hq => by cases hq) (fun q hq => by cases hq)).mono ?_
  rintro e w5 ⟨rfl, hb5⟩
  clear p0 p1 p2 p3 p4 p5 y0 y1 y2 y3 y4 y5
  obtain ⟨p0, p1, p2, p3, p4, p5⟩ := (HBOX.out w5 hb5).1
  obtain ⟨y0, y1, y2, y3, y4, y5⟩ := (HBOX.out w5 hb5).2
  have HB5 := Lib.hid (HB4.out.trans (hb5.mono (by omega)))
  have H45 := Lib.hid hb5
  have HC1 := Lib.hid (checkD_any 1 1 1 0 none 0 none 0 [] [] w5 (RRu.nil_ _ _) (Nat.zero_le _) (RFi.nil_ _ _) (Nat.zero_le _) (HT.out.next HB5.out))
  rw [HW1.out] at HC1
  clear hb5
  go_wp2_with (fail)
  refine HC1.out.mono ?_
  rintro e w6 ⟨rfl, hb6⟩
  have H46 := Lib.hid (H45.out.trans (hb6.mono H45.out.size))
  clear p0 p1 p2 p3 p4 p5 y0 y1 y2 y3 y4 y5
  obtain ⟨p0, p1, p2, p3, p4, p5⟩ := (HBOX.out w6 H46.out).1
  obtain ⟨y0, y1, y2, y3, y4, y5⟩ := (HBOX.out w6 H46.out).2
  have HB6 := Lib.hid (HB4.out.trans (H46.out.mono (by omega)))
  have HC2 := Lib.hid (checkD_any 1 1 1 0 A 1 B 1 (sameR 1) sameF w6 (HR.out.belowM H46.out) (show 1 ≤ maxLen by simp only [maxLen]; decide) (HF.out.belowM H46.out) (show 1 ≤ maxLen by simp only [maxLen]; decide) (HT.out.next HB6.out))
  rw [HW2.out] at HC2
  clear hb6
  go_wp2_with (fail)
  refine HC2.out.mono ?_
  rintro e w7 ⟨rfl, hb7⟩
  have H47 := Lib.hid (H46.out.trans (hb7.mono H46.out.size))
  have HB7 := Lib.hid (HB4.out.trans (H47.out.mono (by omega)))
  clear hb7 p0 p1 p2 p3 p4 p5 y0 y1 y2 y3 y4 y5
  obtain ⟨u1, hu1, qu1, lu1, bu1⟩ := new_cells w7 #[.int .i64 0, .int .i64 255] 54
  have su1 : u1.heap.size = w7.heap.size + 1 := by rw [← hu1, World.size_alloc]
  obtain ⟨u2, hu2, qu2, lu2, bu2⟩ := new_cells u1 #[.slice (some ⟨w7.heap.size, 0, none⟩) 1 1] 55
  have su2 : u2.heap.size = w7.heap.size + 1 + 1 := by rw [← hu2, World.size_alloc, su1]
  rw [su1] at qu2
  obtain ⟨u3, hu3, qu3, lu3, bu3⟩ := new_cells u2 #[.int .i64 0, .int .i64 0, .int .i64 21, .int .i64 0] 57
  have su3 : u3.heap.size = w7.heap.size + 1 + 1 + 1 := by rw [← hu3, World.size_alloc, su2]
  rw [su2] at qu3
  obtain ⟨u4, hu4, qu4, lu4, bu4⟩ := new_cells u3 #[.int .i64 0, .int .i64 0, .int .i64 21, .int .i64 0, .int .i64 0, .slice (some ⟨w7.heap.size + 1 + 1, 0, none⟩) 1 1] 24
  have su4 : u4.heap.size = w7.heap.size + 1 + 1 + 1 + 1 := by rw [← hu4, World.size_alloc, su3]
  rw [su3] at qu4
  obtain ⟨u5, hu5, qu5, lu5, bu5⟩ := new_cells u4 #[.int .i64 0, .int .i64 0, .slice (some ⟨w7.heap.size + 1, 0, none⟩) 1 1, .int .i64 1, .slice (some ⟨w7.heap.size + 1 + 1 + 1, 0, none⟩) 1 1] 43
  have su5 : u5.heap.size = w7.heap.size + 1 + 1 + 1 + 1 + 1 := by rw [← hu5, World.size_alloc, su4]
  rw [su4] at qu5
  obtain ⟨u6, hu6, qu6, lu6, bu6⟩ := new_cells u5 #[.int .i64 0, .slice none 0 0, .slice none 0 0] 45
  have su6 : u6.heap.size = w7.heap.size + 1 + 1 + 1 + 1 + 1 + 1 := by rw [← hu6, World.size_alloc, su5]
  rw [su5] at qu6
  obtain ⟨u7, hu7, qu7, lu7, bu7⟩ := new_cells u6 #[.int .i64 1, .int .i64 1, .int .i64 1, .int .i64 0, .slice (some ⟨w7.heap.size + 1 + 1 + 1 + 1, 0, none⟩) 1 1, .slice (some ⟨w7.heap.size + 1 + 1 + 1 + 1 + 1, 0, none⟩) 1 1] 35
  have su7 : u7.heap.size = w7.heap.size + 1 + 1 + 1 + 1 + 1 + 1 + 1 := by rw [← hu7, World.size_alloc, su6]
  rw [su6] at qu7
  have qu1 := qu1.below bu2 (by omega)
  have qu1 := qu1.below bu3 (by omega)
  have qu1 := qu1.below bu4 (by omega)
  have qu1 := qu1.below bu5 (by omega)
  have qu1 := qu1.below bu6 (by omega)
  have qu1 := qu1.below bu7 (by omega)
  have qu2 := qu2.below bu3 (by omega)
  have qu2 := qu2.below bu4 (by omega)
  have qu2 := qu2.below bu5 (by omega)
  have qu2 := qu2.below bu6 (by omega)
  have qu2 := qu2.below bu7 (by omega)
  have qu3 := qu3.below bu4 (by omega)
  have qu3 := qu3.below bu5 (by omega)
  have qu3 := qu3.below bu6 (by omega)
  have qu3 := qu3.below bu7 (by omega)
  have qu4 := qu4.below bu5 (by omega)
  have qu4 := qu4.below bu6 (by omega)
  have qu4 := qu4.below bu7 (by omega)
  have qu5 := qu5.below bu6 (by omega)
  have qu5 := qu5.below bu7 (by omega)
  have qu6 := qu6.below bu7 (by omega)
  have B1 := bu1
  have B1 := B1.trans (bu2.mono (by omega))
  have B1 := B1.trans (bu3.mono (by omega))
  have B1 := B1.trans (bu4.mono (by omega))
  have B1 := B1.trans (bu5.mono (by omega))
  have B1 := B1.trans (bu6.mono (by omega))
  have B1 := B1.trans (bu7.mono (by omega))
  have HS : RS u7 u7.heap.size (some ⟨w7.heap.size, 0, none⟩) 1 (domL 1) := lit_RS (by omega) qu1
  have HRW := Lib.hid (lit_sameR (k := 1) rfl HS qu2 qu3 qu4 qu5)
  have HFW := Lib.hid (lit_sameF qu6)
  have HQD := Lib.hid qu7
  have H7U := Lib.hid B1
  have H4U := Lib.hid (H47.out.trans (B1.mono H47.out.size))
  have HBU := Lib.hid (HB7.out.trans (B1.mono HB7.out.size))
  have Hu1 := Lib.hid hu1
  have Hu2 := Lib.hid hu2
  have Hu3 := Lib.hid hu3
  have Hu4 := Lib.hid hu4
  have Hu5 := Lib.hid hu5
  have Hu6 := Lib.hid hu6
  have Hu7 := Lib.hid hu7
  clear HS B1 hu1 qu1 lu1 bu1 hu2 qu2 lu2 bu2 hu3 qu3 lu3 bu3 hu4 qu4 lu4 bu4 hu5 qu5 lu5 bu5 hu6 qu6 lu6 bu6 hu7 qu7 lu7 bu7
  have HSZ := Lib.hid (show w7.heap.size ≤ u7.heap.size by omega)
  clear su1 su2 su3 su4 su5 su6 su7
  go_upto_region 13 with (fail)
  rw [Hu1.out, Hu2.out, Hu3.out, Hu4.out, Hu5.out, Hu6.out, Hu7.out]
  obtain ⟨p0, p1, p2, p3, p4, p5⟩ := (HBOX.out u7 H4U.out).1
  obtain ⟨y0, y1, y2, y3, y4, y5⟩ := (HBOX.out u7 H4U.out).2
  have v0 := HQD.out.cell 0
  have v1 := HQD.out.cell 1
  have v2 := HQD.out.cell 2
  have v3 := HQD.out.cell 3
  have v4 := HQD.out.cell 4
  have v5 := HQD.out.cell 5
  simp only [List.getElem?_toArray, List.getElem?_cons_zero, List.getElem?_cons_succ] at v0 v1 v2 v3 v4 v5
  have HSM := Lib.hid (rdesc_eq 1 1 1 0 A (some ⟨w7.heap.size + 1 + 1 + 1 + 1, 0, none⟩) 1 1 B (some ⟨w7.heap.size + 1 + 1 + 1 + 1 + 1, 0, none⟩) 1 1 (sameR 1) sameF u7 (HR.out.belowM H4U.out) HRW.out (show 1 ≤ maxLen by simp only [maxLen]; decide) (HF.out.belowM H4U.out) HFW.out (show 1 ≤ maxLen by simp only [maxLen]; decide) sameR_short sameF_short)
  go_wp2_with (fail)
  refine HSM.out.mono ?_
  rintro e w8 ⟨rfl, hb8⟩
  have HB8 := Lib.hid (HBU.out.trans (hb8.mono HBU.out.size))
  clear hb8 p0 p1 p2 p3 p4 p5 y0 y1 y2 y3 y4 y5 v0 v1 v2 v3 v4 v5
  go_wp2_with (fail)
  refine (awake_any w8 (HT.out.next HB8.out)).mono ?_
  rintro e w9 ⟨rfl, hb9⟩
  have HB9 := Lib.hid (HB8.out.trans (hb9.mono HB8.out.size))
  clear hb9
  go_wp2_with (fail)
  go_ret
  exact ⟨rfl, HB9.out⟩
set_option maxHeartbeats 8000000 in
theorem makes_one_two (w : World) (hT : TabB w) : Calls Tryz.prog 7 #[.int .i64 1, .int .i64 2] w (RetB true w) := by
  have HT := Lib.hid hT
  have HW1 := Lib.hid (show whereD 1 2 1 0 [] [] = (0, 0) from empty_where (.inl rfl) (.inr rfl))
  have HW2 := Lib.hid (show whereD 1 1 1 0 (sameR 1) sameF = (0, 0) from same_where (.inl rfl))
  clear hT
  go_enter Tryz.func7, Tryz.ntmps7
  go_wp2_with (fail)
  refine (empty_any 1 2 w).mono ?_
  rintro e w1 ⟨rfl, hb1⟩
  go_wp2_with (fail)
  refine (same_any 1 w1).mono ?_
  rintro e w2 ⟨A, B, rfl, hrr, hff, hb2, _, _⟩
  have hs1 := hb1.size
  have hs2 := hb2.size
  have HB2 := Lib.hid (hb1.trans (hb2.mono hs1))
  obtain ⟨w4, hw4⟩ : ∃ w4, (w2.alloc (.cells #[.int .i64 1, .int .i64 2, .int .i64 1, .int .i64 0, .slice none 0 0, .slice none 0 0] 35)).alloc (.cells #[.int .i64 1, .int .i64 1, .int .i64 1, .int .i64 0, .slice A 1 1, .slice B 1 1] 35) = w4 := ⟨_, rfl⟩
  have HW4 := Lib.hid hw4
  have hs4 : w4.heap.size = w2.heap.size + 2 := by rw [← hw4]; simp
  have hb4 : Below w2.heap.size w2 w4 := by rw [← hw4]; exact ((Below.refl _ _).alloc (Nat.le_refl _) _).alloc (by simp) _
  have he4 : Blk w4 w2.heap.size 35 #[.int .i64 1, .int .i64 2, .int .i64 1, .int .i64 0, .slice none 0 0, .slice none 0 0] := by rw [← hw4]; exact (show Blk _ _ _ _ from heap_alloc_new w2 _).alloc _
  have hc4 : Blk w4 (w2.heap.size + 1) 35 #[.int .i64 1, .int .i64 1, .int .i64 1, .int .i64 0, .slice A 1 1, .slice B 1 1] := by
    rw [← hw4]
    have h := heap_alloc_new (w2.alloc (.cells #[.int .i64 1, .int .i64 2, .int .i64 1, .int .i64 0, .slice none 0 0, .slice none 0 0] 35)) (.cells #[.int .i64 1, .int .i64 1, .int .i64 1, .int .i64 0, .slice A 1 1, .slice B 1 1] 35)
    rw [World.size_alloc] at h
    exact h
  have HBOX := Lib.hid (fun W (hW : Below w4.heap.size w4 W) => show DB W w2.heap.size 1 2 1 0 none 0 0 none 0 0 ∧ DB W (w2.heap.size + 1) 1 1 1 0 A 1 1 B 1 1 from by
    have h1 := he4.below hW (by omega)
    have h2 := hc4.below hW (by omega)
    exact ⟨⟨h1.cell 0, h1.cell 1, h1.cell 2, h1.cell 3, h1.cell 4, h1.cell 5⟩, h2.cell 0, h2.cell 1, h2.cell 2, h2.cell 3, h2.cell 4, h2.cell 5⟩)
  have HB4 := Lib.hid (HB2.out.trans (hb4.mono (by omega)))
  have HR := Lib.hid (hrr.belowM hb4)
  have HF := Lib.hid (hff.belowM hb4)
  clear hb1 hb2 hb4 hw4 hrr hff he4 hc4
  go_upto_region 3 with (fail)
  rw [HW4.out]
  obtain ⟨p0, p1, p2, p3, p4, p5⟩ := (HBOX.out w4 (Below.refl _ _)).1
  obtain ⟨y0, y1, y2, y3, y4, y5⟩ := (HBOX.out w4 (Below.refl _ _)).2
  go_wp2_with (fail)
  refine (rdesc_eq 1 2 1 0 none none 0 0 none none 0 0 [] [] w4 (RRu.nil_ _ _) (RRu.nil_ _ _) (Nat.zero_le _) (RFi.nil_ _ _) (RFi.nil_ _ _) (Nat.zero_le _) (fun q hq => by cases hq) (fun q hq => by cases hq)).mono ?_
  rintro e w5 ⟨rfl, hb5⟩
  clear p0 p1 p2 p3 p4 p5 y0 y1 y2 y3 y4 y5
  obtain ⟨p0, p1, p2, p3, p4, p5⟩ := (HBOX.out w5 hb5).1
  obtain ⟨y0, y1, y2, y3, y4, y5⟩ := (HBOX.out w5 hb5).2
  have HB5 := Lib.hid (HB4.out.trans (hb5.mono (by omega)))
  have H45 := Lib.hid hb5
  have HC1 := Lib.hid (checkD_any 1 2 1 0 none 0 none 0 [] [] w5 (RRu.nil_ _ _) (Nat.zero_le _) (RFi.nil_ _ _) (Nat.zero_le _) (HT.out.next HB5.out))
  rw [HW1.out] at HC1
  clear hb5
  go_wp2_with (fail)
  refine HC1.out.mono ?_
  rintro e w6 ⟨rfl, hb6⟩
  have H46 := Lib.hid (H45.out.trans (hb6.mono H45.out.size))
  clear p0 p1 p2 p3 p4 p5 y0 y1 y2 y3 y4 y5
  obtain ⟨p0, p1, p2, p3, p4, p5⟩ := (HBOX.out w6 H46.out).1
  obtain ⟨y0, y1, y2, y3, y4, y5⟩ := (HBOX.out w6 H46.out).2
  have HB6 := Lib.hid (HB4.out.trans (H46.out.mono (by omega)))
  have HC2 := Lib.hid (checkD_any 1 1 1 0 A 1 B 1 (sameR 1) sameF w6 (HR.out.belowM H46.out) (show 1 ≤ maxLen by simp only [maxLen]; decide) (HF.out.belowM H46.out) (show 1 ≤ maxLen by simp only [maxLen]; decide) (HT.out.next HB6.out))
  rw [HW2.out] at HC2
  clear hb6
  go_wp2_with (fail)
  refine HC2.out.mono ?_
  rintro e w7 ⟨rfl, hb7⟩
  have H47 := Lib.hid (H46.out.trans (hb7.mono H46.out.size))
  have HB7 := Lib.hid (HB4.out.trans (H47.out.mono (by omega)))
  clear hb7 p0 p1 p2 p3 p4 p5 y0 y1 y2 y3 y4 y5
  obtain ⟨u1, hu1, qu1, lu1, bu1⟩ := new_cells w7 #[.int .i64 0, .int .i64 255] 54
  have su1 : u1.heap.size = w7.heap.size + 1 := by rw [← hu1, World.size_alloc]
  obtain ⟨u2, hu2, qu2, lu2, bu2⟩ := new_cells u1 #[.slice (some ⟨w7.heap.size, 0, none⟩) 1 1] 55
  have su2 : u2.heap.size = w7.heap.size + 1 + 1 := by rw [← hu2, World.size_alloc, su1]
  rw [su1] at qu2
  obtain ⟨u3, hu3, qu3, lu3, bu3⟩ := new_cells u2 #[.int .i64 0, .int .i64 0, .int .i64 21, .int .i64 0] 57
  have su3 : u3.heap.size = w7.heap.size + 1 + 1 + 1 := by rw [← hu3, World.size_alloc, su2]
  rw [su2] at qu3
  obtain ⟨u4, hu4, qu4, lu4, bu4⟩ := new_cells u3 #[.int .i64 0, .int .i64 0, .int .i64 21, .int .i64 0, .int .i64 0, .slice (some ⟨w7.heap.size + 1 + 1, 0, none⟩) 1 1] 24
  have su4 : u4.heap.size = w7.heap.size + 1 + 1 + 1 + 1 := by rw [← hu4, World.size_alloc, su3]
  rw [su3] at qu4
  obtain ⟨u5, hu5, qu5, lu5, bu5⟩ := new_cells u4 #[.int .i64 0, .int .i64 0, .slice (some ⟨w7.heap.size + 1, 0, none⟩) 1 1, .int .i64 1, .slice (some ⟨w7.heap.size + 1 + 1 + 1, 0, none⟩) 1 1] 43
  have su5 : u5.heap.size = w7.heap.size + 1 + 1 + 1 + 1 + 1 := by rw [← hu5, World.size_alloc, su4]
  rw [su4] at qu5
  obtain ⟨u6, hu6, qu6, lu6, bu6⟩ := new_cells u5 #[.int .i64 0, .slice none 0 0, .slice none 0 0] 45
  have su6 : u6.heap.size = w7.heap.size + 1 + 1 + 1 + 1 + 1 + 1 := by rw [← hu6, World.size_alloc, su5]
  rw [su5] at qu6
  obtain ⟨u7, hu7, qu7, lu7, bu7⟩ := new_cells u6 #[.int .i64 1, .int .i64 1, .int .i64 1, .int .i64 0, .slice (some ⟨w7.heap.size + 1 + 1 + 1 + 1, 0, none⟩) 1 1, .slice (some ⟨w7.heap.size + 1 + 1 + 1 + 1 + 1, 0, none⟩) 1 1] 35
  have su7 : u7.heap.size = w7.heap.size + 1 + 1 + 1 + 1 + 1 + 1 + 1 := by rw [← hu7, World.size_alloc, su6]
  rw [su6] at qu7
  have qu1 := qu1.below bu2 (by omega)
  have qu1 := qu1.below bu3 (by omega)
  have qu1 := qu1.below bu4 (by omega)
  have qu1 := qu1.below bu5 (by omega)
  have qu1 := qu1.below bu6 (by omega)
  have qu1 := qu1.below bu7 (by omega)
  have qu2 := qu2.below bu3 (by omega)
  have qu2 := qu2.below bu4 (by omega)
  have qu2 := qu2.below bu5 (by omega)
  have qu2 := qu2.below bu6 (by omega)
  have qu2 := qu2.below bu7 (by omega)
  have qu3 := qu3.below bu4 (by omega)
  have qu3 := qu3.below bu5 (by omega)
  have qu3 := qu3.below bu6 (by omega)
  have qu3 := qu3.below bu7 (by omega)
  have qu4 := qu4.below bu5 (by omega)
  have qu4 := qu4.below bu6 (by omega)
  have qu4 := qu4.below bu7 (by omega)
  have qu5 := qu5.below bu6 (by omega)
  have qu5 := qu5.below bu7 (by omega)
  have qu6 := qu6.below bu7 (by omega)
  have B1 := bu1
  have B1 := B1.trans (bu2.mono (by omega))
  have B1 := B1.trans (bu3.mono (by omega))
  have B1 := B1.trans (bu4.mono (by omega))
  have B1 := B1.trans (bu5.mono (by omega))
  have B1 := B1.trans (bu6.mono (by omega))
  have B1 := B1.trans (bu7.mono (by omega))
  have HS : RS u7 u7.heap.size (some ⟨w7.heap.size, 0, none⟩) 1 (domL 1) := lit_RS (by omega) qu1
  have HRW := Lib.hid (lit_sameR (k := 1) rfl HS qu2 qu3 qu4 qu5)
  have HFW := Lib.hid (lit_sameF qu6)
  have HQD := Lib.hid qu7
  have H7U := Lib.hid B1
  have H4U := Lib.hid (H47.out.trans (B1.mono H47.out.size))
  have HBU := Lib.hid (HB7.out.trans (B1.mono HB7.out.size))
  have Hu1 := Lib.hid hu1
  have Hu2 := Lib.hid hu2
  have Hu3 := Lib.hid hu3
  have Hu4 := Lib.hid hu4
  have Hu5 := Lib.hid hu5
  have Hu6 := Lib.hid hu6
  have Hu7 := Lib.hid hu7
  clear HS B1 hu1 qu1 lu1 bu1 hu2 qu2 lu2 bu2 hu3 qu3 lu3 bu3 hu4 qu4 lu4 bu4 hu5 qu5 lu5 bu5 hu6 qu6 lu6 bu6 hu7 qu7 lu7 bu7
  have HSZ := Lib.hid (show w7.heap.size ≤ u7.heap.size by omega)
  clear su1 su2 su3 su4 su5 su6 su7
  go_upto_region 13 with (fail)
  rw [Hu1.out, Hu2.out, Hu3.out, Hu4.out, Hu5.out, Hu6.out, Hu7.out]
  obtain ⟨p0, p1, p2, p3, p4, p5⟩ := (HBOX.out u7 H4U.out).1
  obtain ⟨y0, y1, y2, y3, y4, y5⟩ := (HBOX.out u7 H4U.out).2
  have v0 := HQD.out.cell 0
  have v1 := HQD.out.cell 1
  have v2 := HQD.out.cell 2
  have v3 := HQD.out.cell 3
  have v4 := HQD.out.cell 4
  have v5 := HQD.out.cell 5
  simp only [List.getElem?_toArray, List.getElem?_cons_zero, List.getElem?_cons_succ] at v0 v1 v2 v3 v4 v5
  have HSM := Lib.hid (rdesc_eq 1 1 1 0 A (some ⟨w7.heap.size + 1 + 1 + 1 + 1, 0, none⟩) 1 1 B (some ⟨w7.heap.size + 1 + 1 + 1 + 1 + 1, 0, none⟩) 1 1 (sameR 1) sameF u7 (HR.out.belowM H4U.out) HRW.out (show 1 ≤ maxLen by simp only [maxLen]; decide) (HF.out.belowM H4U.out) HFW.out (show 1 ≤ maxLen by simp only [maxLen]; decide) sameR_short sameF_short)
  go_wp2_with (fail)
  refine HSM.out.mono ?_
  rintro e w8 ⟨rfl, hb8⟩
  have HB8 := Lib.hid (HBU.out.trans (hb8.mono HBU.out.size))
  clear hb8 p0 p1 p2 p3 p4 p5 y0 y1 y2 y3 y4 y5 v0 v1 v2 v3 v4 v5
  go_wp2_with (fail)
  refine (awake_any w8 (HT.out.next HB8.out)).mono ?_
  rintro e w9 ⟨rfl, hb9⟩
  have HB9 := Lib.hid (HB8.out.trans (hb9.mono HB8.out.size))
  clear hb9
  go_wp2_with (fail)
  go_ret
  exact ⟨rfl, HB9.out⟩
set_option maxHeartbeats 8000000 in
theorem makes_one_not (y : Int) (hy1 : ¬ y = 1) (hy2 : ¬ y = 2) (w : World) (hT : TabB w) : Calls Tryz.prog 7 #[.int .i64 1, .int .i64 y] w (RetB true w) := by
  have HT := Lib.hid hT
  have HW1 := Lib.hid (show whereD 1 y 1 0 [] [] = (1, 0) from empty_wrong (fun h => by rcases h.2 with q | q; exact hy1 q; exact hy2 q))
  have HW2 := Lib.hid (show whereD 1 1 1 0 (sameR 1) sameF = (0, 0) from same_where (.inl rfl))
  clear hT
  have hya : (y == 1) = false := by simpa using hy1
  have hyb : (y == 2) = false := by simpa using hy2
  go_enter Tryz.func7, Tryz.ntmps7
  go_wp2_with (fail)
  refine (empty_any 1 y w).mono ?_
  rintro e w1 ⟨rfl, hb1⟩
  go_wp2_with (fail)
  refine (same_any 1 w1).mono ?_
  rintro e w2 ⟨A, B, rfl, hrr, hff, hb2, _, _⟩
  have hs1 := hb1.size
  have hs2 := hb2.size
  have HB2 := Lib.hid (hb1.trans (hb2.mono hs1))
  obtain ⟨w4, hw4⟩ : ∃ w4, (w2.alloc (.cells #[.int .i64 1, .int .i64 y, .int .i64 1, .int .i64 0, .slice none 0 0, .slice none 0 0] 35)).alloc (.cells #[.int .i64 1, .int .i64 1, .int .i64 1, .int .i64 0, .slice A 1 1, .slice B 1 1] 35) = w4 := ⟨_, rfl⟩
  have HW4 := Lib.hid hw4
  have hs4 : w4.heap.size = w2.heap.size + 2 := by rw [← hw4]; simp
  have hb4 : Below w2.heap.size w2 w4 := by rw [← hw4]; exact ((Below.refl _ _).alloc (Nat.le_refl _) _).alloc (by simp) _
  have he4 : Blk w4 w2.heap.size 35 #[.int .i64 1, .int .i64 y, .int .i64 1, .int .i64 0, .slice none 0 0, .slice none 0 0] := by rw [← hw4]; exact (show Blk _ _ _ _ from heap_alloc_new w2 _).alloc _
  have hc4 : Blk w4 (w2.heap.size + 1) 35 #[.int .i64 1, .int .i64 1, .int .i64 1, .int .i64 0, .slice A 1 1, .slice B 1 1] := by
    rw [← hw4]
    have h := heap_alloc_new (w2.alloc (.cells #[.int .i64 1, .int .i64 y, .int .i64 1, .int .i64 0, .slice none 0 0, .slice none 0 0] 35)) (.cells #[.int .i64 1, .int .i64 1, .int .i64 1, .int .i64 0, .slice A 1 1, .slice B 1 1] 35)
    rw [World.size_alloc] at h
    exact h
  have HBOX := Lib.hid (fun W (hW : Below w4.heap.size w4 W) => show DB W w2.heap.size 1 y 1 0 none 0 0 none 0 0 ∧ DB W (w2.heap.size + 1) 1 1 1 0 A 1 1 B 1 1 from by
    have h1 := he4.below hW (by omega)
    have h2 := hc4.below hW (by omega)
    exact ⟨⟨h1.cell 0, h1.cell 1, h1.cell 2, h1.cell 3, h1.cell 4, h1.cell 5⟩, h2.cell 0, h2.cell 1, h2.cell 2, h2.cell 3, h2.cell 4, h2.cell 5⟩)
  have HB4 := Lib.hid (HB2.out.trans (hb4.mono (by omega)))
  have HR := Lib.hid (hrr.belowM hb4)
  have HF := Lib.hid (hff.belowM hb4)
  clear hb1 hb2 hb4 hw4 hrr hff he4 hc4
  go_upto_region 3 with (fail)
  rw [HW4.out]
  obtain ⟨p0, p1, p2, p3, p4, p5⟩ := (HBOX.out w4 (Below.refl _ _)).1
  obtain ⟨y0, y1, y2, y3, y4, y5⟩ := (HBOX.out w4 (Below.refl _ _)).2
  go_wp2_with (fail)
  refine (rdesc_eq 1 y 1 0 none none 0 0 none none 0 0 [] [] w4 (RRu.nil_ _ _) (RRu.nil_ _ _) (Nat.zero_le _) (RFi.nil_ _ _) (RFi.nil_ _ _) (Nat.zero_le _) (fun q hq => by cases hq) (fun q hq => by cases hq)).mono ?_
  rintro e w5 ⟨rfl, hb5⟩
  clear p0 p1 p2 p3 p4 p5 y0 y1 y2 y3 y4 y5
  obtain ⟨p0, p1, p2, p3, p4, p5⟩ := (HBOX.out w5 hb5).1
  obtain ⟨y0, y1, y2, y3, y4, y5⟩ := (HBOX.out w5 hb5).2
  have HB5 := Lib.hid (HB4.out.trans (hb5.mono (by omega)))
  have H45 := Lib.hid hb5
  have HC1 := Lib.hid (checkD_any 1 y 1 0 none 0 none 0 [] [] w5 (RRu.nil_ _ _) (Nat.zero_le _) (RFi.nil_ _ _) (Nat.zero_le _) (HT.out.next HB5.out))
  rw [HW1.out] at HC1
  clear hb5
  go_wp2_with (fail)
  refine HC1.out.mono ?_
  rintro e w6 ⟨rfl, hb6⟩
  have H46 := Lib.hid (H45.out.trans (hb6.mono H45.out.size))
  clear p0 p1 p2 p3 p4 p5 y0 y1 y2 y3 y4 y5
  obtain ⟨p0, p1, p2, p3, p4, p5⟩ := (HBOX.out w6 H46.out).1
  obtain ⟨y0, y1, y2, y3, y4, y5⟩ := (HBOX.out w6 H46.out).2
  have HB6 := Lib.hid (HB4.out.trans (H46.out.mono (by omega)))
  have HC2 := Lib.hid (checkD_any 1 1 1 0 A 1 B 1 (sameR 1) sameF w6 (HR.out.belowM H46.out) (show 1 ≤ maxLen by simp only [maxLen]; decide) (HF.out.belowM H46.out) (show 1 ≤ maxLen by simp only [maxLen]; decide) (HT.out.next HB6.out))
  rw [HW2.out] at HC2
  clear hb6
  go_wp2_with (fail)
  refine HC2.out.mono ?_
  rintro e w7 ⟨rfl, hb7⟩
  have H47 := Lib.hid (H46.out.trans (hb7.mono H46.out.size))
  have HB7 := Lib.hid (HB4.out.trans (H47.out.mono (by omega)))
  clear hb7 p0 p1 p2 p3 p4 p5 y0 y1 y2 y3 y4 y5
  obtain ⟨u1, hu1, qu1, lu1, bu1⟩ := new_cells w7 #[.int .i64 0, .int .i64 255] 54
  have su1 : u1.heap.size = w7.heap.size + 1 := by rw [← hu1, World.size_alloc]
  obtain ⟨u2, hu2, qu2, lu2, bu2⟩ := new_cells u1 #[.slice (some ⟨w7.heap.size, 0, none⟩) 1 1] 55
  have su2 : u2.heap.size = w7.heap.size + 1 + 1 := by rw [← hu2, World.size_alloc, su1]
  rw [su1] at qu2
  obtain ⟨u3, hu3, qu3, lu3, bu3⟩ := new_cells u2 #[.int .i64 0, .int .i64 0, .int .i64 21, .int .i64 0] 57
  have su3 : u3.heap.size = w7.heap.size + 1 + 1 + 1 := by rw [← hu3, World.size_alloc, su2]
  rw [su2] at qu3
  obtain ⟨u4, hu4, qu4, lu4, bu4⟩ := new_cells u3 #[.int .i64 0, .int .i64 0, .int .i64 21, .int .i64 0, .int .i64 0, .slice (some ⟨w7.heap.size + 1 + 1, 0, none⟩) 1 1] 24
  have su4 : u4.heap.size = w7.heap.size + 1 + 1 + 1 + 1 := by rw [← hu4, World.size_alloc, su3]
  rw [su3] at qu4
  obtain ⟨u5, hu5, qu5, lu5, bu5⟩ := new_cells u4 #[.int .i64 0, .int .i64 0, .slice (some ⟨w7.heap.size + 1, 0, none⟩) 1 1, .int .i64 1, .slice (some ⟨w7.heap.size + 1 + 1 + 1, 0, none⟩) 1 1] 43
  have su5 : u5.heap.size = w7.heap.size + 1 + 1 + 1 + 1 + 1 := by rw [← hu5, World.size_alloc, su4]
  rw [su4] at qu5
  obtain ⟨u6, hu6, qu6, lu6, bu6⟩ := new_cells u5 #[.int .i64 0, .slice none 0 0, .slice none 0 0] 45
  have su6 : u6.heap.size = w7.heap.size + 1 + 1 + 1 + 1 + 1 + 1 := by rw [← hu6, World.size_alloc, su5]
  rw [su5] at qu6
  obtain ⟨u7, hu7, qu7, lu7, bu7⟩ := new_cells u6 #[.int .i64 1, .int .i64 1, .int .i64 1, .int .i64 0, .slice (some ⟨w7.heap.size + 1 + 1 + 1 + 1, 0, none⟩) 1 1, .slice (some ⟨w7.heap.size + 1 + 1 + 1 + 1 + 1, 0, none⟩) 1 1] 35
  have su7 : u7.heap.size = w7.heap.size + 1 + 1 + 1 + 1 + 1 + 1 + 1 := by rw [← hu7, World.size_alloc, su6]
  rw [su6] at qu7
  have qu1 := qu1.below bu2 (by omega)
  have qu1 := qu1.below bu3 (by omega)
  have qu1 := qu1.below bu4 (by omega)
  have qu1 := qu1.below bu5 (by omega)
  have qu1 := qu1.below bu6 (by omega)
  have qu1 := qu1.below bu7 (by omega)
  have qu2 := qu2.below bu3 (by omega)
  have qu2 := qu2.below bu4 (by omega)
  have qu2 := qu2.below bu5 (by omega)
  have qu2 := qu2.below bu6 (by omega)
  have qu2 := qu2.below bu7 (by omega)
  have qu3 := qu3.below bu4 (by omega)
  have qu3 := qu3.below bu5 (by omega)
  have qu3 := qu3.below bu6 (by omega)
  have qu3 := qu3.below bu7 (by omega)
  have qu4 := qu4.below bu5 (by omega)
  have qu4 := qu4.below bu6 (by omega)
  have qu4 := qu4.below bu7 (by omega)
  have qu5 := qu5.below bu6 (by omega)
  have qu5 := qu5.below bu7 (by omega)
  have qu6 := qu6.below bu7 (by omega)
  have B1 := bu1
  have B1 := B1.trans (bu2.mono (by omega))
  have B1 := B1.trans (bu3.mono (by omega))
  have B1 := B1.trans (bu4.mono (by omega))
  have B1 := B1.trans (bu5.mono (by omega))
  have B1 := B1.trans (bu6.mono (by omega))
  have B1 := B1.trans (bu7.mono (by omega))
  have HS : RS u7 u7.heap.size (some ⟨w7.heap.size, 0, none⟩) 1 (domL 1) := lit_RS (by omega) qu1
  have HRW := Lib.hid (lit_sameR (k := 1) rfl HS qu2 qu3 qu4 qu5)
  have HFW := Lib.hid (lit_sameF qu6)
  have HQD := Lib.hid qu7
  have H7U := Lib.hid B1
  have H4U := Lib.hid (H47.out.trans (B1.mono H47.out.size))
  have HBU := Lib.hid (HB7.out.trans (B1.mono HB7.out.size))
  have Hu1 := Lib.hid hu1
  have Hu2 := Lib.hid hu2
  have Hu3 := Lib.hid hu3
  have Hu4 := Lib.hid hu4
  have Hu5 := Lib.hid hu5
  have Hu6 := Lib.hid hu6
  have Hu7 := Lib.hid hu7
  clear HS B1 hu1 qu1 lu1 bu1 hu2 qu2 lu2 bu2 hu3 qu3 lu3 bu3 hu4 qu4 lu4 bu4 hu5 qu5 lu5 bu5 hu6 qu6 lu6 bu6 hu7 qu7 lu7 bu7
  have HSZ := Lib.hid (show w7.heap.size ≤ u7.heap.size by omega)
  clear su1 su2 su3 su4 su5 su6 su7
  go_upto_region 13 with (fail)
  rw [Hu1.out, Hu2.out, Hu3.out, Hu4.out, Hu5.out, Hu6.out, Hu7.out]
  obtain ⟨p0, p1, p2, p3, p4, p5⟩ := (HBOX.out u7 H4U.out).1
  obtain ⟨y0, y1, y2, y3, y4, y5⟩ := (HBOX.out u7 H4U.out).2
  have v0 := HQD.out.cell 0
  have v1 := HQD.out.cell 1
  have v2 := HQD.out.cell 2
  have v3 := HQD.out.cell 3
  have v4 := HQD.out.cell 4
  have v5 := HQD.out.cell 5
  simp only [List.getElem?_toArray, List.getElem?_cons_zero, List.getElem?_cons_succ] at v0 v1 v2 v3 v4 v5
  have HSM := Lib.hid (rdesc_eq 1 1 1 0 A (some ⟨w7.heap.size + 1 + 1 + 1 + 1, 0, none⟩) 1 1 B (some ⟨w7.heap.size + 1 + 1 + 1 + 1 + 1, 0, none⟩) 1 1 (sameR 1) sameF u7 (HR.out.belowM H4U.out) HRW.out (show 1 ≤ maxLen by simp only [maxLen]; decide) (HF.out.belowM H4U.out) HFW.out (show 1 ≤ maxLen by simp only [maxLen]; decide) sameR_short sameF_short)
  go_wp2_with (fail)
  refine HSM.out.mono ?_
  rintro e w8 ⟨rfl, hb8⟩
  have HB8 := Lib.hid (HBU.out.trans (hb8.mono HBU.out.size))
  clear hb8 p0 p1 p2 p3 p4 p5 y0 y1 y2 y3 y4 y5 v0 v1 v2 v3 v4 v5
  go_wp2_with (fail)
  refine (awake_any w8 (HT.out.next HB8.out)).mono ?_
  rintro e w9 ⟨rfl, hb9⟩
  have HB9 := Lib.hid (HB8.out.trans (hb9.mono HB8.out.size))
  clear hb9
  go_wp2_with (fail)
  go_ret
  exact ⟨rfl, HB9.out⟩
set_option maxHeartbeats 8000000 in
theorem makes_two_one (w : World) (hT : TabB w) : Calls Tryz.prog 7 #[.int .i64 2, .int .i64 1] w (RetB true w) := by
  have HT := Lib.hid hT
  have HW1 := Lib.hid (show whereD 2 1 1 0 [] [] = (0, 0) from empty_where (.inr rfl) (.inl rfl))
  have HW2 := Lib.hid (show whereD 2 2 1 0 (sameR 2) sameF = (0, 0) from same_where (.inr rfl))
  clear hT
  go_enter Tryz.func7, Tryz.ntmps7
  go_wp2_with (fail)
  refine (empty_any 2 1 w).mono ?_
  rintro e w1 ⟨rfl, hb1⟩
  go_wp2_with (fail)
  refine (same_any 2 w1).mono ?_
  rintro e w2 ⟨A, B, rfl, hrr, hff, hb2, _, _⟩
  have hs1 := hb1.size
  have hs2 := hb2.size
  have HB2 := Lib.hid (hb1.trans (hb2.mono hs1))
  obtain ⟨w4, hw4⟩ : ∃ w4, (w2.alloc (.cells #[.int .i64 2, .int .i64 1, .int .i64 1, .int .i64 0, .slice none 0 0, .slice none 0 0] 35)).alloc (.cells #[.int .i64 2, .int .i64 2, .int .i64 1, .int .i64 0, .slice A 1 1, .slice B 1 1] 35) = w4 := ⟨_, rfl⟩
  have HW4 := Lib.hid hw4
  have hs4 : w4.heap.size = w2.heap.size + 2 := by rw [← hw4]; simp
  have hb4 : Below w2.heap.size w2 w4 := by rw [← hw4]; exact ((Below.refl _ _).alloc (Nat.le_refl _) _).alloc (by simp) _
  have he4 : Blk w4 w2.heap.size 35 #[.int .i64 2, .int .i64 1, .int .i64 1, .int .i64 0, .slice none 0 0, .slice none 0 0] := by rw [← hw4]; exact (show Blk _ _ _ _ from heap_alloc_new w2 _).alloc _
  have hc4 : Blk w4 (w2.heap.size + 1) 35 #[.int .i64 2, .int .i64 2, .int .i64 1, .int .i64 0, .slice A 1 1, .slice B 1 1] := by
    rw [← hw4]
    have h := heap_alloc_new (w2.alloc (.cells #[.int .i64 2, .int .i64 1, .int .i64 1, .int .i64 0, .slice none 0 0, .slice none 0 0] 35)) (.cells #[.int .i64 2, .int .i64 2, .int .i64 1, .int .i64 0, .slice A 1 1, .slice B 1 1] 35)
    rw [World.size_alloc] at h
    exact h
  have HBOX := Lib.hid (fun W (hW : Below w4.heap.size w4 W) => show DB W w2.heap.size 2 1 1 0 none 0 0 none 0 0 ∧ DB W (w2.heap.size + 1) 2 2 1 0 A 1 1 B 1 1 from by
    have h1 := he4.below hW (by omega)
    have h2 := hc4.below hW (by omega)
    exact ⟨⟨h1.cell 0, h1.cell 1, h1.cell 2, h1.cell 3, h1.cell 4, h1.cell 5⟩, h2.cell 0, h2.cell 1, h2.cell 2, h2.cell 3, h2.cell 4, h2.cell 5⟩)
  have HB4 := Lib.hid (HB2.out.trans (hb4.mono (by omega)))
  have HR := Lib.hid (hrr.belowM hb4)
  have HF := Lib.hid (hff.belowM hb4)
  clear hb1 hb2 hb4 hw4 hrr hff he4 hc4
  go_upto_region 3 with (fail)
  rw [HW4.out]
  obtain ⟨p0, p1, p2, p3, p4, p5⟩ := (HBOX.out w4 (Below.refl _ _)).1
  obtain ⟨y0, y1, y2, y3, y4, y5⟩ := (HBOX.out w4 (Below.refl _ _)).2
  go_wp2_with (fail)
  refine (rdesc_eq 2 1 1 0 none none 0 0 none none 0 0 [] [] w4 (RRu.nil_ _ _) (RRu.nil_ _ _) (Nat.zero_le _) (RFi.nil_ _ _) (RFi.nil_ _ _) (Nat.zero_le _) (fun q hq => by cases hq) (fun q hq => by cases hq)).mono ?_
  rintro e w5 ⟨rfl, hb5⟩
  clear p0 p1 p2 p3 p4 p5 y0 y1 y2 y3 y4 y5
  obtain ⟨p0, p1, p2, p3, p4, p5⟩ := (HBOX.out w5 hb5).1
  obtain ⟨y0, y1, y2, y3, y4, y5⟩ := (HBOX.out w5 hb5).2
  have HB5 := Lib.hid (HB4.out.trans (hb5.mono (by omega)))
  have H45 := Lib.hid hb5
  have HC1 := Lib.hid (checkD_any 2 1 1 0 none 0 none 0 [] [] w5 (RRu.nil_ _ _) (Nat.zero_le _) (RFi.nil_ _ _) (Nat.zero_le _) (HT.out.next HB5.out))
  rw [HW1.out] at HC1
  clear hb5
  go_wp2_with (fail)
  refine HC1.out.mono ?_
  rintro e w6 ⟨rfl, hb6⟩
  have H46 := Lib.hid (H45.out.trans (hb6.mono H45.out.size))
  clear p0 p1 p2 p3 p4 p5 y0 y1 y2 y3 y4 y5
  obtain ⟨p0, p1, p2, p3, p4, p5⟩ := (HBOX.out w6 H46.out).1
  obtain ⟨y0, y1, y2, y3, y4, y5⟩ := (HBOX.out w6 H46.out).2
  have HB6 := Lib.hid (HB4.out.trans (H46.out.mono (by omega)))
  have HC2 := Lib.hid (checkD_any 2 2 1 0 A 1 B 1 (sameR 2) sameF w6 (HR.out.belowM H46.out) (show 1 ≤ maxLen by simp only [maxLen]; decide) (HF.out.belowM H46.out) (show 1 ≤ maxLen by simp only [maxLen]; decide) (HT.out.next HB6.out))
  rw [HW2.out] at HC2
  clear hb6
  go_wp2_with (fail)
  refine HC2.out.mono ?_
  rintro e w7 ⟨rfl, hb7⟩
  have H47 := Lib.hid (H46.out.trans (hb7.mono H46.out.size))
  have HB7 := Lib.hid (HB4.out.trans (H47.out.mono (by omega)))
  clear hb7 p0 p1 p2 p3 p4 p5 y0 y1 y2 y3 y4 y5
  obtain ⟨u1, hu1, qu1, lu1, bu1⟩ := new_cells w7 #[.int .i64 0, .int .i64 255] 54
  have su1 : u1.heap.size = w7.heap.size + 1 := by rw [← hu1, World.size_alloc]
  obtain ⟨u2, hu2, qu2, lu2, bu2⟩ := new_cells u1 #[.int .i64 0, .int .i64 55295, .int .i64 57344, .int .i64 1114111] 54
  have su2 : u2.heap.size = w7.heap.size + 1 + 1 := by rw [← hu2, World.size_alloc, su1]
  rw [su1] at qu2
  obtain ⟨u3, hu3, qu3, lu3, bu3⟩ := new_cells u2 #[.slice (some ⟨w7.heap.size + 1, 0, none⟩) 2 2] 55
  have su3 : u3.heap.size = w7.heap.size + 1 + 1 + 1 := by rw [← hu3, World.size_alloc, su2]
  rw [su2] at qu3
  obtain ⟨u4, hu4, qu4, lu4, bu4⟩ := new_cells u3 #[.int .i64 0, .int .i64 0, .int .i64 21, .int .i64 0] 57
  have su4 : u4.heap.size = w7.heap.size + 1 + 1 + 1 + 1 := by rw [← hu4, World.size_alloc, su3]
  rw [su3] at qu4
  obtain ⟨u5, hu5, qu5, lu5, bu5⟩ := new_cells u4 #[.int .i64 0, .int .i64 0, .int .i64 21, .int .i64 0, .int .i64 0, .slice (some ⟨w7.heap.size + 1 + 1 + 1, 0, none⟩) 1 1] 24
  have su5 : u5.heap.size = w7.heap.size + 1 + 1 + 1 + 1 + 1 := by rw [← hu5, World.size_alloc, su4]
  rw [su4] at qu5
  obtain ⟨u6, hu6, qu6, lu6, bu6⟩ := new_cells u5 #[.int .i64 0, .int .i64 0, .slice (some ⟨w7.heap.size + 1 + 1, 0, none⟩) 1 1, .int .i64 1, .slice (some ⟨w7.heap.size + 1 + 1 + 1 + 1, 0, none⟩) 1 1] 43
  have su6 : u6.heap.size = w7.heap.size + 1 + 1 + 1 + 1 + 1 + 1 := by rw [← hu6, World.size_alloc, su5]
  rw [su5] at qu6
  obtain ⟨u7, hu7, qu7, lu7, bu7⟩ := new_cells u6 #[.int .i64 0, .slice none 0 0, .slice none 0 0] 45
  have su7 : u7.heap.size = w7.heap.size + 1 + 1 + 1 + 1 + 1 + 1 + 1 := by rw [← hu7, World.size_alloc, su6]
  rw [su6] at qu7
  obtain ⟨u8, hu8, qu8, lu8, bu8⟩ := new_cells u7 #[.int .i64 2, .int .i64 2, .int .i64 1, .int .i64 0, .slice (some ⟨w7.heap.size + 1 + 1 + 1 + 1 + 1, 0, none⟩) 1 1, .slice (some ⟨w7.heap.size + 1 + 1 + 1 + 1 + 1 + 1, 0, none⟩) 1 1] 35
  have su8 : u8.heap.size = w7.heap.size + 1 + 1 + 1 + 1 + 1 + 1 + 1 + 1 := by rw [← hu8, World.size_alloc, su7]
  rw [su7] at qu8
  have qu1 := qu1.below bu2 (by omega)
  have qu1 := qu1.below bu3 (by omega)
  have qu1 := qu1.below bu4 (by omega)
  have qu1 := qu1.below bu5 (by omega)
  have qu1 := qu1.below bu6 (by omega)
  have qu1 := qu1.below bu7 (by omega)
  have qu1 := qu1.below bu8 (by omega)
  have qu2 := qu2.below bu3 (by omega)
  have qu2 := qu2.below bu4 (by omega)
  have qu2 := qu2.below bu5 (by omega)
  have qu2 := qu2.below bu6 (by omega)
  have qu2 := qu2.below bu7 (by omega)
  have qu2 := qu2.below bu8 (by omega)
  have qu3 := qu3.below bu4 (by omega)
  have qu3 := qu3.below bu5 (by omega)
  have qu3 := qu3.below bu6 (by omega)
  have qu3 := qu3.below bu7 (by omega)
  have qu3 := qu3.below bu8 (by omega)
  have qu4 := qu4.below bu5 (by omega)
  have qu4 := qu4.below bu6 (by omega)
  have qu4 := qu4.below bu7 (by omega)
  have qu4 := qu4.below bu8 (by omega)
  have qu5 := qu5.below bu6 (by omega)
  have qu5 := qu5.below bu7 (by omega)
  have qu5 := qu5.below bu8 (by omega)
  have qu6 := qu6.below bu7 (by omega)
  have qu6 := qu6.below bu8 (by omega)
  have qu7 := qu7.below bu8 (by omega)
  have B1 := bu1
  have B1 := B1.trans (bu2.mono (by omega))
  have B1 := B1.trans (bu3.mono (by omega))
  have B1 := B1.trans (bu4.mono (by omega))
  have B1 := B1.trans (bu5.mono (by omega))
  have B1 := B1.trans (bu6.mono (by omega))
  have B1 := B1.trans (bu7.mono (by omega))
  have B1 := B1.trans (bu8.mono (by omega))
  have HS : RS u8 u8.heap.size (some ⟨w7.heap.size + 1, 0, none⟩) 2 (domL 2) := ⟨rfl, fun _ => ⟨w7.heap.size + 1, 0, rfl, by omega, fun j hj => by
    rcases (show j = 0 ∨ j = 1 by simp [domL] at hj; omega) with rfl | rfl
    · exact ⟨qu2.cell 0, qu2.cell 1⟩
    · exact ⟨qu2.cell 2, qu2.cell 3⟩⟩⟩
  have HRW := Lib.hid (lit_sameR (k := 2) rfl HS qu3 qu4 qu5 qu6)
  have HFW := Lib.hid (lit_sameF qu7)
  have HQD := Lib.hid qu8
  have H7U := Lib.hid B1
  have H4U := Lib.hid (H47.out.trans (B1.mono H47.out.size))
  have HBU := Lib.hid (HB7.out.trans (B1.mono HB7.out.size))
  have Hu1 := Lib.hid hu1
  have Hu2 := Lib.hid hu2
  have Hu3 := Lib.hid hu3
  have Hu4 := Lib.hid hu4
  have Hu5 := Lib.hid hu5
  have Hu6 := Lib.hid hu6
  have Hu7 := Lib.hid hu7
  have Hu8 := Lib.hid hu8
  clear HS B1 hu1 qu1 lu1 bu1 hu2 qu2 lu2 bu2 hu3 qu3 lu3 bu3 hu4 qu4 lu4 bu4 hu5 qu5 lu5 bu5 hu6 qu6 lu6 bu6 hu7 qu7 lu7 bu7 hu8 qu8 lu8 bu8
  have HSZ := Lib.hid (show w7.heap.size ≤ u8.heap.size by omega)
  clear su1 su2 su3 su4 su5 su6 su7 su8
  go_upto_region 13 with (fail)
  rw [Hu1.out, Hu2.out, Hu3.out, Hu4.out, Hu5.out, Hu6.out, Hu7.out, Hu8.out]
  obtain ⟨p0, p1, p2, p3, p4, p5⟩ := (HBOX.out u8 H4U.out).1
  obtain ⟨y0, y1, y2, y3, y4, y5⟩ := (HBOX.out u8 H4U.out).2
  have v0 := HQD.out.cell 0
  have v1 := HQD.out.cell 1
  have v2 := HQD.out.cell 2
  have v3 := HQD.out.cell 3
  have v4 := HQD.out.cell 4
  have v5 := HQD.out.cell 5
  simp only [List.getElem?_toArray, List.getElem?_cons_zero, List.getElem?_cons_succ] at v0 v1 v2 v3 v4 v5
  have HSM := Lib.hid (rdesc_eq 2 2 1 0 A (some ⟨w7.heap.size + 1 + 1 + 1 + 1 + 1, 0, none⟩) 1 1 B (some ⟨w7.heap.size + 1 + 1 + 1 + 1 + 1 + 1, 0, none⟩) 1 1 (sameR 2) sameF u8 (HR.out.belowM H4U.out) HRW.out (show 1 ≤ maxLen by simp only [maxLen]; decide) (HF.out.belowM H4U.out) HFW.out (show 1 ≤ maxLen by simp only [maxLen]; decide) sameR_short sameF_short)
  go_wp2_with (fail)
  refine HSM.out.mono ?_
  rintro e w8 ⟨rfl, hb8⟩
  have HB8 := Lib.hid (HBU.out.trans (hb8.mono HBU.out.size))
  clear hb8 p0 p1 p2 p3 p4 p5 y0 y1 y2 y3 y4 y5 v0 v1 v2 v3 v4 v5
  go_wp2_with (fail)
  refine (awake_any w8 (HT.out.next HB8.out)).mono ?_
  rintro e w9 ⟨rfl, hb9⟩
  have HB9 := Lib.hid (HB8.out.trans (hb9.mono HB8.out.size))
  clear hb9
  go_wp2_with (fail)
  go_ret
  exact ⟨rfl, HB9.out⟩
set_option maxHeartbeats 8000000 in
theorem makes_two_two (w : World) (hT : TabB w) : Calls Tryz.prog 7 #[.int .i64 2, .int .i64 2] w (RetB true w) := by
  have HT := Lib.hid hT
  have HW1 := Lib.hid (show whereD 2 2 1 0 [] [] = (0, 0) from empty_where (.inr rfl) (.inr rfl))
  have HW2 := Lib.hid (show whereD 2 2 1 0 (sameR 2) sameF = (0, 0) from same_where (.inr rfl))
  clear hT
  go_enter Tryz.func7, Tryz.ntmps7
  go_wp2_with (fail)
  refine (empty_any 2 2 w).mono ?_
  rintro e w1 ⟨rfl, hb1⟩
  go_wp2_with (fail)
  refine (same_any 2 w1).mono ?_
  rintro e w2 ⟨A, B, rfl, hrr, hff, hb2, _, _⟩
  have hs1 := hb1.size
  have hs2 := hb2.size
  have HB2 := Lib.hid (hb1.trans (hb2.mono hs1))
  obtain ⟨w4, hw4⟩ : ∃ w4, (w2.alloc (.cells #[.int .i64 2, .int .i64 2, .int .i64 1, .int .i64 0, .slice none 0 0, .slice none 0 0] 35)).alloc (.cells #[.int .i64 2, .int .i64 2, .int .i64 1, .int .i64 0, .slice A 1 1, .slice B 1 1] 35) = w4 := ⟨_, rfl⟩
  have HW4 := Lib.hid hw4
  have hs4 : w4.heap.size = w2.heap.size + 2 := by rw [← hw4]; simp
  have hb4 : Below w2.heap.size w2 w4 := by rw [← hw4]; exact ((Below.refl _ _).alloc (Nat.le_refl _) _).alloc (by simp) _
  have he4 : Blk w4 w2.heap.size 35 #[.int .i64 2, .int .i64 2, .int .i64 1, .int .i64 0, .slice none 0 0, .slice none 0 0] := by rw [← hw4]; exact (show Blk _ _ _ _ from heap_alloc_new w2 _).alloc _
  have hc4 : Blk w4 (w2.heap.size + 1) 35 #[.int .i64 2, .int .i64 2, .int .i64 1, .int .i64 0, .slice A 1 1, .slice B 1 1] := by
    rw [← hw4]
    have h := heap_alloc_new (w2.alloc (.cells #[.int .i64 2, .int .i64 2, .int .i64 1, .int .i64 0, .slice none 0 0, .slice none 0 0] 35)) (.cells #[.int .i64 2, .int .i64 2, .int .i64 1, .int .i64 0, .slice A 1 1, .slice B 1 1] 35)
    rw [World.size_alloc] at h
    exact h
  have HBOX := Lib.hid (fun W (hW : Below w4.heap.size w4 W) => show DB W w2.heap.size 2 2 1 0 none 0 0 none 0 0 ∧ DB W (w2.heap.size + 1) 2 2 1 0 A 1 1 B 1 1 from by
    have h1 := he4.below hW (by omega)
    have h2 := hc4.below hW (by omega)
    exact ⟨⟨h1.cell 0, h1.cell 1, h1.cell 2, h1.cell 3, h1.cell 4, h1.cell 5⟩, h2.cell 0, h2.cell 1, h2.cell 2, h2.cell 3, h2.cell 4, h2.cell 5⟩)
  have HB4 := Lib.hid (HB2.out.trans (hb4.mono (by omega)))
  have HR := Lib.hid (hrr.belowM hb4)
  have HF := Lib.hid (hff.belowM hb4)
  clear hb1 hb2 hb4 hw4 hrr hff he4 hc4
  go_upto_region 3 with (fail)
  rw [HW4.out]
  obtain ⟨p0, p1, p2, p3, p4, p5⟩ := (HBOX.out w4 (Below.refl _ _)).1
  obtain ⟨y0, y1, y2, y3, y4, y5⟩ := (HBOX.out w4 (Below.refl _ _)).2
  go_wp2_with (fail)
  refine (rdesc_eq 2 2 1 0 none none 0 0 none none 0 0 [] [] w4 (RRu.nil_ _ _) (RRu.nil_ _ _) (Nat.zero_le _) (RFi.nil_ _ _) (RFi.nil_ _ _) (Nat.zero_le _) (fun q hq => by cases hq) (fun q hq => by cases hq)).mono ?_
  rintro e w5 ⟨rfl, hb5⟩
  clear p0 p1 p2 p3 p4 p5 y0 y1 y2 y3 y4 y5
  obtain ⟨p0, p1, p2, p3, p4, p5⟩ := (HBOX.out w5 hb5).1
  obtain ⟨y0, y1, y2, y3, y4, y5⟩ := (HBOX.out w5 hb5).2
  have HB5 := Lib.hid (HB4.out.trans (hb5.mono (by omega)))
  have H45 := Lib.hid hb5
  have HC1 := Lib.hid (checkD_any 2 2 1 0 none 0 none 0 [] [] w5 (RRu.nil_ _ _) (Nat.zero_le _) (RFi.nil_ _ _) (Nat.zero_le _) (HT.out.next HB5.out))
  rw [HW1.out] at HC1
  clear hb5
  go_wp2_with (fail)
  refine HC1.out.mono ?_
  rintro e w6 ⟨rfl, hb6⟩
  have H46 := Lib.hid (H45.out.trans (hb6.mono H45.out.size))
  clear p0 p1 p2 p3 p4 p5 y0 y1 y2 y3 y4 y5
  obtain ⟨p0, p1, p2, p3, p4, p5⟩ := (HBOX.out w6 H46.out).1
  obtain ⟨y0, y1, y2, y3, y4, y5⟩ := (HBOX.out w6 H46.out).2
  have HB6 := Lib.hid (HB4.out.trans (H46.out.mono (by omega)))
  have HC2 := Lib.hid (checkD_any 2 2 1 0 A 1 B 1 (sameR 2) sameF w6 (HR.out.belowM H46.out) (show 1 ≤ maxLen by simp only [maxLen]; decide) (HF.out.belowM H46.out) (show 1 ≤ maxLen by simp only [maxLen]; decide) (HT.out.next HB6.out))
  rw [HW2.out] at HC2
  clear hb6
  go_wp2_with (fail)
  refine HC2.out.mono ?_
  rintro e w7 ⟨rfl, hb7⟩
  have H47 := Lib.hid (H46.out.trans (hb7.mono H46.out.size))
  have HB7 := Lib.hid (HB4.out.trans (H47.out.mono (by omega)))
  clear hb7 p0 p1 p2 p3 p4 p5 y0 y1 y2 y3 y4 y5
  obtain ⟨u1, hu1, qu1, lu1, bu1⟩ := new_cells w7 #[.int .i64 0, .int .i64 255] 54
  have su1 : u1.heap.size = w7.heap.size + 1 := by rw [← hu1, World.size_alloc]
  obtain ⟨u2, hu2, qu2, lu2, bu2⟩ := new_cells u1 #[.int .i64 0, .int .i64 55295, .int .i64 57344, .int .i64 1114111] 54
  have su2 : u2.heap.size = w7.heap.size + 1 + 1 := by rw [← hu2, World.size_alloc, su1]
  rw [su1] at qu2
  obtain ⟨u3, hu3, qu3, lu3, bu3⟩ := new_cells u2 #[.slice (some ⟨w7.heap.size + 1, 0, none⟩) 2 2] 55
  have su3 : u3.heap.size = w7.heap.size + 1 + 1 + 1 := by rw [← hu3, World.size_alloc, su2]
  rw [su2] at qu3
  obtain ⟨u4, hu4, qu4, lu4, bu4⟩ := new_cells u3 #[.int .i64 0, .int .i64 0, .int .i64 21, .int .i64 0] 57
  have su4 : u4.heap.size = w7.heap.size + 1 + 1 + 1 + 1 := by rw [← hu4, World.size_alloc, su3]
  rw [su3] at qu4
  obtain ⟨u5, hu5, qu5, lu5, bu5⟩ := new_cells u4 #[.int .i64 0, .int .i64 0, .int .i64 21, .int .i64 0, .int .i64 0, .slice (some ⟨w7.heap.size + 1 + 1 + 1, 0, none⟩) 1 1] 24
  have su5 : u5.heap.size = w7.heap.size + 1 + 1 + 1 + 1 + 1 := by rw [← hu5, World.size_alloc, su4]
  rw [su4] at qu5
  obtain ⟨u6, hu6, qu6, lu6, bu6⟩ := new_cells u5 #[.int .i64 0, .int .i64 0, .slice (some ⟨w7.heap.size + 1 + 1, 0, none⟩) 1 1, .int .i64 1, .slice (some ⟨w7.heap.size + 1 + 1 + 1 + 1, 0, none⟩) 1 1] 43
  have su6 : u6.heap.size = w7.heap.size + 1 + 1 + 1 + 1 + 1 + 1 := by rw [← hu6, World.size_alloc, su5]
  rw [su5] at qu6
  obtain ⟨u7, hu7, qu7, lu7, bu7⟩ := new_cells u6 #[.int .i64 0, .slice none 0 0, .slice none 0 0] 45
  have su7 : u7.heap.size = w7.heap.size + 1 + 1 + 1 + 1 + 1 + 1 + 1 := by rw [← hu7, World.size_alloc, su6]
  rw [su6] at qu7
  obtain ⟨u8, hu8, qu8, lu8, bu8⟩ := new_cells u7 #[.int .i64 2, .int .i64 2, .int .i64 1, .int .i64 0, .slice (some ⟨w7.heap.size + 1 + 1 + 1 + 1 + 1, 0, none⟩) 1 1, .slice (some ⟨w7.heap.size + 1 + 1 + 1 + 1 + 1 + 1, 0, none⟩) 1 1] 35
  have su8 : u8.heap.size = w7.heap.size + 1 + 1 + 1 + 1 + 1 + 1 + 1 + 1 := by rw [← hu8, World.size_alloc, su7]
  rw [su7] at qu8
  have qu1 := qu1.below bu2 (by omega)
  have qu1 := qu1.below bu3 (by omega)
  have qu1 := qu1.below bu4 (by omega)
  have qu1 := qu1.below bu5 (by omega)
  have qu1 := qu1.below bu6 (by omega)
  have qu1 := qu1.below bu7 (by omega)
  have qu1 := qu1.below bu8 (by omega)
  have qu2 := qu2.below bu3 (by omega)
  have qu2 := qu2.below bu4 (by omega)
  have qu2 := qu2.below bu5 (by omega)
  have qu2 := qu2.below bu6 (by omega)
  have qu2 := qu2.below bu7 (by omega)
  have qu2 := qu2.below bu8 (by omega)
  have qu3 := qu3.below bu4 (by omega)
  have qu3 := qu3.below bu5 (by omega)
  have qu3 := qu3.below bu6 (by omega)
  have qu3 := qu3.below bu7 (by omega)
  have qu3 := qu3.below bu8 (by omega)
  have qu4 := qu4.below bu5 (by omega)
  have qu4 := qu4.below bu6 (by omega)
  have qu4 := qu4.below bu7 (by omega)
  have qu4 := qu4.below bu8 (by omega)
  have qu5 := qu5.below bu6 (by omega)
  have qu5 := qu5.below bu7 (by omega)
  have qu5 := qu5.below bu8 (by omega)
  have qu6 := qu6.below bu7 (by omega)
  have qu6 := qu6.below bu8 (by omega)
  have qu7 := qu7.below bu8 (by omega)
  have B1 := bu1
  have B1 := B1.trans (bu2.mono (by omega))
  have B1 := B1.trans (bu3.mono (by omega))
  have B1 := B1.trans (bu4.mono (by omega))
  have B1 := B1.trans (bu5.mono (by omega))
  have B1 := B1.trans (bu6.mono (by omega))
  have B1 := B1.trans (bu7.mono (by omega))
  have B1 := B1.trans (bu8.mono (by omega))
  have HS : RS u8 u8.heap.size (some ⟨w7.heap.size + 1, 0, none⟩) 2 (domL 2) := ⟨rfl, fun _ => ⟨w7.heap.size + 1, 0, rfl, by omega, fun j hj => by
    rcases (show j = 0 ∨ j = 1 by simp [domL] at hj; omega) with rfl | rfl
    · exact ⟨qu2.cell 0, qu2.cell 1⟩
    · exact ⟨qu2.cell 2, qu2.cell 3⟩⟩⟩
  have HRW := Lib.hid (lit_sameR (k := 2) rfl HS qu3 qu4 qu5 qu6)
  have HFW := Lib.hid (lit_sameF qu7)
  have HQD := Lib.hid qu8
  have H7U := Lib.hid B1
  have H4U := Lib.hid (H47.out.trans (B1.mono H47.out.size))
  have HBU := Lib.hid (HB7.out.trans (B1.mono HB7.out.size))
  have Hu1 := Lib.hid hu1
  have Hu2 := Lib.hid hu2
  have Hu3 := Lib.hid hu3
  have Hu4 := Lib.hid hu4
  have Hu5 := Lib.hid hu5
  have Hu6 := Lib.hid hu6
  have Hu7 := Lib.hid hu7
  have Hu8 := Lib.hid hu8
  clear HS B1 hu1 qu1 lu1 bu1 hu2 qu2 lu2 bu2 hu3 qu3 lu3 bu3 hu4 qu4 lu4 bu4 hu5 qu5 lu5 bu5 hu6 qu6 lu6 bu6 hu7 qu7 lu7 bu7 hu8 qu8 lu8 bu8
  have HSZ := Lib.hid (show w7.heap.size ≤ u8.heap.size by omega)
  clear su1 su2 su3 su4 su5 su6 su7 su8
  go_upto_region 13 with (fail)
  rw [Hu1.out, Hu2.out, Hu3.out, Hu4.out, Hu5.out, Hu6.out, Hu7.out, Hu8.out]
  obtain ⟨p0, p1, p2, p3, p4, p5⟩ := (HBOX.out u8 H4U.out).1
  obtain ⟨y0, y1, y2, y3, y4, y5⟩ := (HBOX.out u8 H4U.out).2
  have v0 := HQD.out.cell 0
  have v1 := HQD.out.cell 1
  have v2 := HQD.out.cell 2
  have v3 := HQD.out.cell 3
  have v4 := HQD.out.cell 4
  have v5 := HQD.out.cell 5
  simp only [List.getElem?_toArray, List.getElem?_cons_zero, List.getElem?_cons_succ] at v0 v1 v2 v3 v4 v5
  have HSM := Lib.hid (rdesc_eq 2 2 1 0 A (some ⟨w7.heap.size + 1 + 1 + 1 + 1 + 1, 0, none⟩) 1 1 B (some ⟨w7.heap.size + 1 + 1 + 1 + 1 + 1 + 1, 0, none⟩) 1 1 (sameR 2) sameF u8 (HR.out.belowM H4U.out) HRW.out (show 1 ≤ maxLen by simp only [maxLen]; decide) (HF.out.belowM H4U.out) HFW.out (show 1 ≤ maxLen by simp only [maxLen]; decide) sameR_short sameF_short)
  go_wp2_with (fail)
  refine HSM.out.mono ?_
  rintro e w8 ⟨rfl, hb8⟩
  have HB8 := Lib.hid (HBU.out.trans (hb8.mono HBU.out.size))
  clear hb8 p0 p1 p2 p3 p4 p5 y0 y1 y2 y3 y4 y5 v0 v1 v2 v3 v4 v5
  go_wp2_with (fail)
  refine (awake_any w8 (HT.out.next HB8.out)).mono ?_
  rintro e w9 ⟨rfl, hb9⟩
  have HB9 := Lib.hid (HB8.out.trans (hb9.mono HB8.out.size))
  clear hb9
  go_wp2_with (fail)
  go_ret
  exact ⟨rfl, HB9.out⟩
set_option maxHeartbeats 8000000 in
theorem makes_two_not (y : Int) (hy1 : ¬ y = 1) (hy2 : ¬ y = 2) (w : World) (hT : TabB w) : Calls Tryz.prog 7 #[.int .i64 2, .int .i64 y] w (RetB true w) := by
  have HT := Lib.hid hT
  have HW1 := Lib.hid (show whereD 2 y 1 0 [] [] = (1, 0) from empty_wrong (fun h => by rcases h.2 with q | q; exact hy1 q; exact hy2 q))
  have HW2 := Lib.hid (show whereD 2 2 1 0 (sameR 2) sameF = (0, 0) from same_where (.inr rfl))
  clear hT
  have hya : (y == 1) = false := by simpa using hy1
  have hyb : (y == 2) = false := by simpa using hy2
  go_enter Tryz.func7, Tryz.ntmps7
  go_wp2_with (fail)
  refine (empty_any 2 y w).mono ?_
  rintro e w1 ⟨rfl, hb1⟩
  go_wp2_with (fail)
  refine (same_any 2 w1).mono ?_
  rintro e w2 ⟨A, B, rfl, hrr, hff, hb2, _, _⟩
  have hs1 := hb1.size
  have hs2 := hb2.size
  have HB2 := Lib.hid (hb1.trans (hb2.mono hs1))
  obtain ⟨w4, hw4⟩ : ∃ w4, (w2.alloc (.cells #[.int .i64 2, .int .i64 y, .int .i64 1, .int .i64 0, .slice none 0 0, .slice none 0 0] 35)).alloc (.cells #[.int .i64 2, .int .i64 2, .int .i64 1, .int .i64 0, .slice A 1 1, .slice B 1 1] 35) = w4 := ⟨_, rfl⟩
  have HW4 := Lib.hid hw4
  have hs4 : w4.heap.size = w2.heap.size + 2 := by rw [← hw4]; simp
  have hb4 : Below w2.heap.size w2 w4 := by rw [← hw4]; exact ((Below.refl _ _).alloc (Nat.le_refl _) _).alloc (by simp) _
  have he4 : Blk w4 w2.heap.size 35 #[.int .i64 2, .int .i64 y, .int .i64 1, .int .i64 0, .slice none 0 0, .slice none 0 0] := by rw [← hw4]; exact (show Blk _ _ _ _ from heap_alloc_new w2 _).alloc _
  have hc4 : Blk w4 (w2.heap.size + 1) 35 #[.int .i64 2, .int .i64 2, .int .i64 1, .int .i64 0, .slice A 1 1, .slice B 1 1] := by
    rw [← hw4]
    have h := heap_alloc_new (w2.alloc (.cells #[.int .i64 2, .int .i64 y, .int .i64 1, .int .i64 0, .slice none 0 0, .slice none 0 0] 35)) (.cells #[.int .i64 2, .int .i64 2, .int .i64 1, .int .i64 0, .slice A 1 1, .slice B 1 1] 35)
    rw [World.size_alloc] at h
    exact h
  have HBOX := Lib.hid (fun W (hW : Below w4.heap.size w4 W) => show DB W w2.heap.size 2 y 1 0 none 0 0 none 0 0 ∧ DB W (w2.heap.size + 1) 2 2 1 0 A 1 1 B 1 1 from by
    have h1 := he4.below hW (by omega)
    have h2 := hc4.below hW (by omega)
    exact ⟨⟨h1.cell 0, h1.cell 1, h1.cell 2, h1.cell 3, h1.cell 4, h1.cell 5⟩, h2.cell 0, h2.cell 1, h2.cell 2, h2.cell 3, h2.cell 4, h2.cell 5⟩)
  have HB4 := Lib.hid (HB2.out.trans (hb4.mono (by omega)))
  have HR := Lib.hid (hrr.belowM hb4)
  have HF := Lib.hid (hff.belowM hb4)
  clear hb1 hb2 hb4 hw4 hrr hff he4 hc4
  go_upto_region 3 with (fail)
  rw [HW4.out]
  obtain ⟨p0, p1, p2, p3, p4, p5⟩ := (HBOX.out w4 (Below.refl _ _)).1
  obtain ⟨y0, y1, y2, y3, y4, y5⟩ := (HBOX.out w4 (Below.refl _ _)).2
  go_wp2_with (fail)
  refine (rdesc_eq 2 y 1 0 none none 0 0 none none 0 0 [] [] w4 (RRu.nil_ _ _) (RRu.nil_ _ _) (Nat.zero_le _) (RFi.nil_ _ _) (RFi.nil_ _ _) (Nat.zero_le _) (fun q hq => by cases hq) (fun q hq => by cases hq)).mono ?_
  rintro e w5 ⟨rfl, hb5⟩
  clear p0 p1 p2 p3 p4 p5 y0 y1 y2 y3 y4 y5
  obtain ⟨p0, p1, p2, p3, p4, p5⟩ := (HBOX.out w5 hb5).1
  obtain ⟨y0, y1, y2, y3, y4, y5⟩ := (HBOX.out w5 hb5).2
  have HB5 := Lib.hid (HB4.out.trans (hb5.mono (by omega)))
  have H45 := Lib.hid hb5
  have HC1 := Lib.hid (checkD_any 2 y 1 0 none 0 none 0 [] [] w5 (RRu.nil_ _ _) (Nat.zero_le _) (RFi.nil_ _ _) (Nat.zero_le _) (HT.out.next HB5.out))
  rw [HW1.out] at HC1
  clear hb5
  go_wp2_with (fail)
  refine HC1.out.mono ?_
  rintro e w6 ⟨rfl, hb6⟩
  have H46 := Lib.hid (H45.out.trans (hb6.mono H45.out.size))
  clear p0 p1 p2 p3 p4 p5 y0 y1 y2 y3 y4 y5
  obtain ⟨p0, p1, p2, p3, p4, p5⟩ := (HBOX.out w6 H46.out).1
  obtain ⟨y0, y1, y2, y3, y4, y5⟩ := (HBOX.out w6 H46.out).2
  have HB6 := Lib.hid (HB4.out.trans (H46.out.mono (by omega)))
  have HC2 := Lib.hid (checkD_any 2 2 1 0 A 1 B 1 (sameR 2) sameF w6 (HR.out.belowM H46.out) (show 1 ≤ maxLen by simp only [maxLen]; decide) (HF.out.belowM H46.out) (show 1 ≤ maxLen by simp only [maxLen]; decide) (HT.out.next HB6.out))
  rw [HW2.out] at HC2
  clear hb6
  go_wp2_with (fail)
  refine HC2.out.mono ?_
  rintro e w7 ⟨rfl, hb7⟩
  have H47 := Lib.hid (H46.out.trans (hb7.mono H46.out.size))
  have HB7 := Lib.hid (HB4.out.trans (H47.out.mono (by omega)))
  clear hb7 p0 p1 p2 p3 p4 p5 y0 y1 y2 y3 y4 y5
  obtain ⟨u1, hu1, qu1, lu1, bu1⟩ := new_cells w7 #[.int .i64 0, .int .i64 255] 54
  have su1 : u1.heap.size = w7.heap.size + 1 := by rw [← hu1, World.size_alloc]
  obtain ⟨u2, hu2, qu2, lu2, bu2⟩ := new_cells u1 #[.int .i64 0, .int .i64 55295, .int .i64 57344, .int .i64 1114111] 54
  have su2 : u2.heap.size = w7.heap.size + 1 + 1 := by rw [← hu2, World.size_alloc, su1]
  rw [su1] at qu2
  obtain ⟨u3, hu3, qu3, lu3, bu3⟩ := new_cells u2 #[.slice (some ⟨w7.heap.size + 1, 0, none⟩) 2 2] 55
  have su3 : u3.heap.size = w7.heap.size + 1 + 1 + 1 := by rw [← hu3, World.size_alloc, su2]
  rw [su2] at qu3
  obtain ⟨u4, hu4, qu4, lu4, bu4⟩ := new_cells u3 #[.int .i64 0, .int .i64 0, .int .i64 21, .int .i64 0] 57
  have su4 : u4.heap.size = w7.heap.size + 1 + 1 + 1 + 1 := by rw [← hu4, World.size_alloc, su3]
  rw [su3] at qu4
  obtain ⟨u5, hu5, qu5, lu5, bu5⟩ := new_cells u4 #[.int .i64 0, .int .i64 0, .int .i64 21, .int .i64 0, .int .i64 0, .slice (some ⟨w7.heap.size + 1 + 1 + 1, 0, none⟩) 1 1] 24
  have su5 : u5.heap.size = w7.heap.size + 1 + 1 + 1 + 1 + 1 := by rw [← hu5, World.size_alloc, su4]
  rw [su4] at qu5
  obtain ⟨u6, hu6, qu6, lu6, bu6⟩ := new_cells u5 #[.int .i64 0, .int .i64 0, .slice (some ⟨w7.heap.size + 1 + 1, 0, none⟩) 1 1, .int .i64 1, .slice (some ⟨w7.heap.size + 1 + 1 + 1 + 1, 0, none⟩) 1 1] 43
  have su6 : u6.heap.size = w7.heap.size + 1 + 1 + 1 + 1 + 1 + 1 := by rw [← hu6, World.size_alloc, su5]
  rw [su5] at qu6
  obtain ⟨u7, hu7, qu7, lu7, bu7⟩ := new_cells u6 #[.int .i64 0, .slice none 0 0, .slice none 0 0] 45
  have su7 : u7.heap.size = w7.heap.size + 1 + 1 + 1 + 1 + 1 + 1 + 1 := by rw [← hu7, World.size_alloc, su6]
  rw [su6] at qu7
  obtain ⟨u8, hu8, qu8, lu8, bu8⟩ := new_cells u7 #[.int .i64 2, .int .i64 2, .int .i64 1, .int .i64 0, .slice (some ⟨w7.heap.size + 1 + 1 + 1 + 1 + 1, 0, none⟩) 1 1, .slice (some ⟨w7.heap.size + 1 + 1 + 1 + 1 + 1 + 1, 0, none⟩) 1 1] 35
  have su8 : u8.heap.size = w7.heap.size + 1 + 1 + 1 + 1 + 1 + 1 + 1 + 1 := by rw [← hu8, World.size_alloc, su7]
  rw [su7] at qu8
  have qu1 := qu1.below bu2 (by omega)
  have qu1 := qu1.below bu3 (by omega)
  have qu1 := qu1.below bu4 (by omega)
  have qu1 := qu1.below bu5 (by omega)
  have qu1 := qu1.below bu6 (by omega)
  have qu1 := qu1.below bu7 (by omega)
  have qu1 := qu1.below bu8 (by omega)
  have qu2 := qu2.below bu3 (by omega)
  have qu2 := qu2.below bu4 (by omega)
  have qu2 := qu2.below bu5 (by omega)
  have qu2 := qu2.below bu6 (by omega)
  have qu2 := qu2.below bu7 (by omega)
  have qu2 := qu2.below bu8 (by omega)
  have qu3 := qu3.below bu4 (by omega)
  have qu3 := qu3.below bu5 (by omega)
  have qu3 := qu3.below bu6 (by omega)
  have qu3 := qu3.below bu7 (by omega)
  have qu3 := qu3.below bu8 (by omega)
  have qu4 := qu4.below bu5 (by omega)
  have qu4 := qu4.below bu6 (by omega)
  have qu4 := qu4.below bu7 (by omega)
  have qu4 := qu4.below bu8 (by omega)
  have qu5 := qu5.below bu6 (by omega)
  have qu5 := qu5.below bu7 (by omega)
  have qu5 := qu5.below bu8 (by omega)
  have qu6 := qu6.below bu7 (by omega)
  have qu6 := qu6.below bu8 (by omega)
  have qu7 := qu7.below bu8 (by omega)
  have B1 := bu1
  have B1 := B1.trans (bu2.mono (by omega))
  have B1 := B1.trans (bu3.mono (by omega))
  have B1 := B1.trans (bu4.mono (by omega))
  have B1 := B1.trans (bu5.mono (by omega))
  have B1 := B1.trans (bu6.mono (by omega))
  have B1 := B1.trans (bu7.mono (by omega))
  have B1 := B1.trans (bu8.mono (by omega))
  have HS : RS u8 u8.heap.size (some ⟨w7.heap.size + 1, 0, none⟩) 2 (domL 2) := ⟨rfl, fun _ => ⟨w7.heap.size + 1, 0, rfl, by omega, fun j hj => by
    rcases (show j = 0 ∨ j = 1 by simp [domL] at hj; omega) with rfl | rfl
    · exact ⟨qu2.cell 0, qu2.cell 1⟩
    · exact ⟨qu2.cell 2, qu2.cell 3⟩⟩⟩
  have HRW := Lib.hid (lit_sameR (k := 2) rfl HS qu3 qu4 qu5 qu6)
  have HFW := Lib.hid (lit_sameF qu7)
  have HQD := Lib.hid qu8
  have H7U := Lib.hid B1
  have H4U := Lib.hid (H47.out.trans (B1.mono H47.out.size))
  have HBU := Lib.hid (HB7.out.trans (B1.mono HB7.out.size))
  have Hu1 := Lib.hid hu1
  have Hu2 := Lib.hid hu2
  have Hu3 := Lib.hid hu3
  have Hu4 := Lib.hid hu4
  have Hu5 := Lib.hid hu5
  have Hu6 := Lib.hid hu6
  have Hu7 := Lib.hid hu7
  have Hu8 := Lib.hid hu8
  clear HS B1 hu1 qu1 lu1 bu1 hu2 qu2 lu2 bu2 hu3 qu3 lu3 bu3 hu4 qu4 lu4 bu4 hu5 qu5 lu5 bu5 hu6 qu6 lu6 bu6 hu7 qu7 lu7 bu7 hu8 qu8 lu8 bu8
  have HSZ := Lib.hid (show w7.heap.size ≤ u8.heap.size by omega)
  clear su1 su2 su3 su4 su5 su6 su7 su8
  go_upto_region 13 with (fail)
  rw [Hu1.out, Hu2.out, Hu3.out, Hu4.out, Hu5.out, Hu6.out, Hu7.out, Hu8.out]
  obtain ⟨p0, p1, p2, p3, p4, p5⟩ := (HBOX.out u8 H4U.out).1
  obtain ⟨y0, y1, y2, y3, y4, y5⟩ := (HBOX.out u8 H4U.out).2
  have v0 := HQD.out.cell 0
  have v1 := HQD.out.cell 1
  have v2 := HQD.out.cell 2
  have v3 := HQD.out.cell 3
  have v4 := HQD.out.cell 4
  have v5 := HQD.out.cell 5
  simp only [List.getElem?_toArray, List.getElem?_cons_zero, List.getElem?_cons_succ] at v0 v1 v2 v3 v4 v5
  have HSM := Lib.hid (rdesc_eq 2 2 1 0 A (some ⟨w7.heap.size + 1 + 1 + 1 + 1 + 1, 0, none⟩) 1 1 B (some ⟨w7.heap.size + 1 + 1 + 1 + 1 + 1 + 1, 0, none⟩) 1 1 (sameR 2) sameF u8 (HR.out.belowM H4U.out) HRW.out (show 1 ≤ maxLen by simp only [maxLen]; decide) (HF.out.belowM H4U.out) HFW.out (show 1 ≤ maxLen by simp only [maxLen]; decide) sameR_short sameF_short)
  go_wp2_with (fail)
  refine HSM.out.mono ?_
  rintro e w8 ⟨rfl, hb8⟩
  have HB8 := Lib.hid (HBU.out.trans (hb8.mono HBU.out.size))
  clear hb8 p0 p1 p2 p3 p4 p5 y0 y1 y2 y3 y4 y5 v0 v1 v2 v3 v4 v5
  go_wp2_with (fail)
  refine (awake_any w8 (HT.out.next HB8.out)).mono ?_
  rintro e w9 ⟨rfl, hb9⟩
  have HB9 := Lib.hid (HB8.out.trans (hb9.mono HB8.out.size))
  clear hb9
  go_wp2_with (fail)
  go_ret
  exact ⟨rfl, HB9.out⟩
set_option maxHeartbeats 8000000 in
theorem makes_not_one (x : Int) (hx1 : ¬ x = 1) (hx2 : ¬ x = 2) (w : World) (hT : TabB w) : Calls Tryz.prog 7 #[.int .i64 x, .int .i64 1] w (RetB true w) := by
  have HT := Lib.hid hT
  have HW1 := Lib.hid (show whereD x 1 1 0 [] [] = (1, 0) from empty_wrong (fun h => by rcases h.1 with q | q; exact hx1 q; exact hx2 q))
  have HW2 := Lib.hid (show whereD x x 1 0 (sameR x) sameF = (1, 0) from same_wrong (fun h => by rcases h with q | q; exact hx1 q; exact hx2 q))
  clear hT
  have hxa : (x == 1) = false := by simpa using hx1
  have hxb : (x == 2) = false := by simpa using hx2
  have hxc : (x != 1) = true := by simpa using hx1
  have hxd : (x != 2) = true := by simpa using hx2
  go_enter Tryz.func7, Tryz.ntmps7
  go_wp2_with (fail)
  refine (empty_any x 1 w).mono ?_
  rintro e w1 ⟨rfl, hb1⟩
  go_wp2_with (fail)
  refine (same_any x w1).mono ?_
  rintro e w2 ⟨A, B, rfl, hrr, hff, hb2, _, _⟩
  have hs1 := hb1.size
  have hs2 := hb2.size
  have HB2 := Lib.hid (hb1.trans (hb2.mono hs1))
  obtain ⟨w4, hw4⟩ : ∃ w4, (w2.alloc (.cells #[.int .i64 x, .int .i64 1, .int .i64 1, .int .i64 0, .slice none 0 0, .slice none 0 0] 35)).alloc (.cells #[.int .i64 x, .int .i64 x, .int .i64 1, .int .i64 0, .slice A 1 1, .slice B 1 1] 35) = w4 := ⟨_, rfl⟩
  have HW4 := Lib.hid hw4
  have hs4 : w4.heap.size = w2.heap.size + 2 := by rw [← hw4]; simp
  have hb4 : Below w2.heap.size w2 w4 := by rw [← hw4]; exact ((Below.refl _ _).alloc (Nat.le_refl _) _).alloc (by simp) _
  have he4 : Blk w4 w2.heap.size 35 #[.int .i64 x, .int .i64 1, .int .i64 1, .int .i64 0, .slice none 0 0, .slice none 0 0] := by rw [← hw4]; exact (show Blk _ _ _ _ from heap_alloc_new w2 _).alloc _
  have hc4 : Blk w4 (w2.heap.size + 1) 35 #[.int .i64 x, .int .i64 x, .int .i64 1, .int .i64 0, .slice A 1 1, .slice B 1 1] := by
    rw [← hw4]
    have h := heap_alloc_new (w2.alloc (.cells #[.int .i64 x, .int .i64 1, .int .i64 1, .int .i64 0, .slice none 0 0, .slice none 0 0] 35)) (.cells #[.int .i64 x, .int .i64 x, .int .i64 1, .int .i64 0, .slice A 1 1, .slice B 1 1] 35)
    rw [World.size_alloc] at h
    exact h
  have HBOX := Lib.hid (fun W (hW : Below w4.heap.size w4 W) => show DB W w2.heap.size x 1 1 0 none 0 0 none 0 0 ∧ DB W (w2.heap.size + 1) x x 1 0 A 1 1 B 1 1 from by
    have h1 := he4.below hW (by omega)
    have h2 := hc4.below hW (by omega)
    exact ⟨⟨h1.cell 0, h1.cell 1, h1.cell 2, h1.cell 3, h1.cell 4, h1.cell 5⟩, h2.cell 0, h2.cell 1, h2.cell 2, h2.cell 3, h2.cell 4, h2.cell 5⟩)
  have HB4 := Lib.hid (HB2.out.trans (hb4.mono (by omega)))
  have HR := Lib.hid (hrr.belowM hb4)
  have HF := Lib.hid (hff.belowM hb4)
  clear hb1 hb2 hb4 hw4 hrr hff he4 hc4
  go_upto_region 3 with (fail)
  rw [HW4.out]
  obtain ⟨p0, p1, p2, p3, p4, p5⟩ := (HBOX.out w4 (Below.refl _ _)).1
  obtain ⟨y0, y1, y2, y3, y4, y5⟩ := (HBOX.out w4 (Below.refl _ _)).2
  go_wp2_with (fail)
  refine (rdesc_eq x 1 1 0 none none 0 0 none none 0 0 [] [] w4 (RRu.nil_ _ _) (RRu.nil_ _ _) (Nat.zero_le _) (RFi.nil_ _ _) (RFi.nil_ _ _) (Nat.zero_le _) (fun q hq => by cases hq) (fun q hq => by cases hq)).mono ?_
  rintro e w5 ⟨rfl, hb5⟩
  clear p0 p1 p2 p3 p4 p5 y0 y1 y2 y3 y4 y5
  obtain ⟨p0, p1, p2, p3, p4, p5⟩ := (HBOX.out w5 hb5).1
  obtain ⟨y0, y1, y2, y3, y4, y5⟩ := (HBOX.out w5 hb5).2
  have HB5 := Lib.hid (HB4.out.trans (hb5.mono (by omega)))
  have H45 := Lib.hid hb5
  have HC1 := Lib.hid (checkD_any x 1 1 0 none 0 none 0 [] [] w5 (RRu.nil_ _ _) (Nat.zero_le _) (RFi.nil_ _ _) (Nat.zero_le _) (HT.out.next HB5.out))
  rw [HW1.out] at HC1
  clear hb5
  go_wp2_with (fail)
  refine HC1.out.mono ?_
  rintro e w6 ⟨rfl, hb6⟩
  have H46 := Lib.hid (H45.out.trans (hb6.mono H45.out.size))
  clear p0 p1 p2 p3 p4 p5 y0 y1 y2 y3 y4 y5
  obtain ⟨p0, p1, p2, p3, p4, p5⟩ := (HBOX.out w6 H46.out).1
  obtain ⟨y0, y1, y2, y3, y4, y5⟩ := (HBOX.out w6 H46.out).2
  have HB6 := Lib.hid (HB4.out.trans (H46.out.mono (by omega)))
  have HC2 := Lib.hid (checkD_any x x 1 0 A 1 B 1 (sameR x) sameF w6 (HR.out.belowM H46.out) (show 1 ≤ maxLen by simp only [maxLen]; decide) (HF.out.belowM H46.out) (show 1 ≤ maxLen by simp only [maxLen]; decide) (HT.out.next HB6.out))
  rw [HW2.out] at HC2
  clear hb6
  go_wp2_with (fail)
  refine HC2.out.mono ?_
  rintro e w7 ⟨rfl, hb7⟩
  have H47 := Lib.hid (H46.out.trans (hb7.mono H46.out.size))
  have HB7 := Lib.hid (HB4.out.trans (H47.out.mono (by omega)))
  clear hb7 p0 p1 p2 p3 p4 p5 y0 y1 y2 y3 y4 y5
  go_wp2_with (fail)
  refine (awake_any w7 (HT.out.next HB7.out)).mono ?_
  rintro e w8 ⟨rfl, hb8⟩
  have HB8 := Lib.hid (HB7.out.trans (hb8.mono HB7.out.size))
  clear hb8
  go_wp2_with (fail)
  go_ret
  exact ⟨rfl, HB8.out⟩
set_option maxHeartbeats 8000000 in
theorem makes_not_two (x : Int) (hx1 : ¬ x = 1) (hx2 : ¬ x = 2) (w : World) (hT : TabB w) : Calls Tryz.prog 7 #[.int .i64 x, .int .i64 2] w (RetB true w) := by
  have HT := Lib.hid hT
  have HW1 := Lib.hid (show whereD x 2 1 0 [] [] = (1, 0) from empty_wrong (fun h => by rcases h.1 with q | q; exact hx1 q; exact hx2 q))
  have HW2 := Lib.hid (show whereD x x 1 0 (sameR x) sameF = (1, 0) from same_wrong (fun h => by rcases h with q | q; exact hx1 q; exact hx2 q))
  clear hT
  have hxa : (x == 1) = false := by simpa using hx1
  have hxb : (x == 2) = false := by simpa using hx2
  have hxc : (x != 1) = true := by simpa using hx1
  have hxd : (x != 2) = true := by simpa using hx2
  go_enter Tryz.func7, Tryz.ntmps7
  go_wp2_with (fail)
  refine (empty_any x 2 w).mono ?_
  rintro e w1 ⟨rfl, hb1⟩
  go_wp2_with (fail)
  refine (same_any x w1).mono ?_
  rintro e w2 ⟨A, B, rfl, hrr, hff, hb2, _, _⟩
  have hs1 := hb1.size
  have hs2 := hb2.size
  have HB2 := Lib.hid (hb1.trans (hb2.mono hs1))
  obtain ⟨w4, hw4⟩ : ∃ w4, (w2.alloc (.cells #[.int .i64 x, .int .i64 2, .int .i64 1, .int .i64 0, .slice none 0 0, .slice none 0 0] 35)).alloc (.cells #[.int .i64 x, .int .i64 x, .int .i64 1, .int .i64 0, .slice A 1 1, .slice B 1 1] 35) = w4 := ⟨_, rfl⟩
  have HW4 := Lib.hid hw4
  have hs4 : w4.heap.size = w2.heap.size + 2 := by rw [← hw4]; simp
  have hb4 : Below w2.heap.size w2 w4 := by rw [← hw4]; exact ((Below.refl _ _).alloc (Nat.le_refl _) _).alloc (by simp) _
  have he4 : Blk w4 w2.heap.size 35 #[.int .i64 x, .int .i64 2, .int .i64 1, .int .i64 0, .slice none 0 0, .slice none 0 0] := by rw [← hw4]; exact (show Blk _ _ _ _ from heap_alloc_new w2 _).alloc _
  have hc4 : Blk w4 (w2.heap.size + 1) 35 #[.int .i64 x, .int .i64 x, .int .i64 1, .int .i64 0, .slice A 1 1, .slice B 1 1] := by
    rw [← hw4]
    have h := heap_alloc_new (w2.alloc (.cells #[.int .i64 x, .int .i64 2, .int .i64 1, .int .i64 0, .slice none 0 0, .slice none 0 0] 35)) (.cells #[.int .i64 x, .int .i64 x, .int .i64 1, .int .i64 0, .slice A 1 1, .slice B 1 1] 35)
    rw [World.size_alloc] at h
    exact h
  have HBOX := Lib.hid (fun W (hW : Below w4.heap.size w4 W) => show DB W w2.heap.size x 2 1 0 none 0 0 none 0 0 ∧ DB W (w2.heap.size + 1) x x 1 0 A 1 1 B 1 1 from by
    have h1 := he4.below hW (by omega)
    have h2 := hc4.below hW (by omega)
    exact ⟨⟨h1.cell 0, h1.cell 1, h1.cell 2, h1.cell 3, h1.cell 4, h1.cell 5⟩, h2.cell 0, h2.cell 1, h2.cell 2, h2.cell 3, h2.cell 4, h2.cell 5⟩)
  have HB4 := Lib.hid (HB2.out.trans (hb4.mono (by omega)))
  have HR := Lib.hid (hrr.belowM hb4)
  have HF := Lib.hid (hff.belowM hb4)
  clear hb1 hb2 hb4 hw4 hrr hff he4 hc4
  go_upto_region 3 with (fail)
  rw [HW4.out]
  obtain ⟨p0, p1, p2, p3, p4, p5⟩ := (HBOX.out w4 (Below.refl _ _)).1
  obtain ⟨y0, y1, y2, y3, y4, y5⟩ := (HBOX.out w4 (Below.refl _ _)).2
  go_wp2_with (fail)
  refine (rdesc_eq x 2 1 0 none none 0 0 none none 0 0 [] [] w4 (RRu.nil_ _ _) (RRu.nil_ _ _) (Nat.zero_le _) (RFi.nil_ _ _) (RFi.nil_ _ _) (Nat.zero_le _) (fun q hq => by cases hq) (fun q hq => by cases hq)).mono ?_
  rintro e w5 ⟨rfl, hb5⟩
  clear p0 p1 p2 p3 p4 p5 y0 y1 y2 y3 y4 y5
  obtain ⟨p0, p1, p2, p3, p4, p5⟩ := (HBOX.out w5 hb5).1
  obtain ⟨y0, y1, y2, y3, y4, y5⟩ := (HBOX.out w5 hb5).2
  have HB5 := Lib.hid (HB4.out.trans (hb5.mono (by omega)))
  have H45 := Lib.hid hb5
  have HC1 := Lib.hid (checkD_any x 2 1 0 none 0 none 0 [] [] w5 (RRu.nil_ _ _) (Nat.zero_le _) (RFi.nil_ _ _) (Nat.zero_le _) (HT.out.next HB5.out))
  rw [HW1.out] at HC1
  clear hb5
  go_wp2_with (fail)
  refine HC1.out.mono ?_
  rintro e w6 ⟨rfl, hb6⟩
  have H46 := Lib.hid (H45.out.trans (hb6.mono H45.out.size))
  clear p0 p1 p2 p3 p4 p5 y0 y1 y2 y3 y4 y5
  obtain ⟨p0, p1, p2, p3, p4, p5⟩ := (HBOX.out w6 H46.out).1
  obtain ⟨y0, y1, y2, y3, y4, y5⟩ := (HBOX.out w6 H46.out).2
  have HB6 := Lib.hid (HB4.out.trans (H46.out.mono (by omega)))
  have HC2 := Lib.hid (checkD_any x x 1 0 A 1 B 1 (sameR x) sameF w6 (HR.out.belowM H46.out) (show 1 ≤ maxLen by simp only [maxLen]; decide) (HF.out.belowM H46.out) (show 1 ≤ maxLen by simp only [maxLen]; decide) (HT.out.next HB6.out))
  rw [HW2.out] at HC2
  clear hb6
  go_wp2_with (fail)
  refine HC2.out.mono ?_
  rintro e w7 ⟨rfl, hb7⟩
  have H47 := Lib.hid (H46.out.trans (hb7.mono H46.out.size))
  have HB7 := Lib.hid (HB4.out.trans (H47.out.mono (by omega)))
  clear hb7 p0 p1 p2 p3 p4 p5 y0 y1 y2 y3 y4 y5
  go_wp2_with (fail)
  refine (awake_any w7 (HT.out.next HB7.out)).mono ?_
  rintro e w8 ⟨rfl, hb8⟩
  have HB8 := Lib.hid (HB7.out.trans (hb8.mono HB7.out.size))
  clear hb8
  go_wp2_with (fail)
  go_ret
  exact ⟨rfl, HB8.out⟩
set_option maxHeartbeats 8000000 in
theorem makes_not_not (x : Int) (hx1 : ¬ x = 1) (hx2 : ¬ x = 2) (y : Int) (hy1 : ¬ y = 1) (hy2 : ¬ y = 2) (w : World) (hT : TabB w) : Calls Tryz.prog 7 #[.int .i64 x, .int .i64 y] w (RetB true w) := by
  have HT := Lib.hid hT
  have HW1 := Lib.hid (show whereD x y 1 0 [] [] = (1, 0) from empty_wrong (fun h => by rcases h.1 with q | q; exact hx1 q; exact hx2 q))
  have HW2 := Lib.hid (show whereD x x 1 0 (sameR x) sameF = (1, 0) from same_wrong (fun h => by rcases h with q | q; exact hx1 q; exact hx2 q))
  clear hT
  have hxa : (x == 1) = false := by simpa using hx1
  have hxb : (x == 2) = false := by simpa using hx2
  have hxc : (x != 1) = true := by simpa using hx1
  have hxd : (x != 2) = true := by simpa using hx2
  have hya : (y == 1) = false := by simpa using hy1
  have hyb : (y == 2) = false := by simpa using hy2
  go_enter Tryz.func7, Tryz.ntmps7
  go_wp2_with (fail)
  refine (empty_any x y w).mono ?_
  rintro e w1 ⟨rfl, hb1⟩
  go_wp2_with (fail)
  refine (same_any x w1).mono ?_
  rintro e w2 ⟨A, B, rfl, hrr, hff, hb2, _, _⟩
  have hs1 := hb1.size
  have hs2 := hb2.size
  have HB2 := Lib.hid (hb1.trans (hb2.mono hs1))
  obtain ⟨w4, hw4⟩ : ∃ w4, (w2.alloc (.cells #[.int .i64 x, .int .i64 y, .int .i64 1, .int .i64 0, .slice none 0 0, .slice none 0 0] 35)).alloc (.cells #[.int .i64 x, .int .i64 x, .int .i64 1, .int .i64 0, .slice A 1 1, .slice B 1 1] 35) = w4 := ⟨_, rfl⟩
  have HW4 := Lib.hid hw4
  have hs4 : w4.heap.size = w2.heap.size + 2 := by rw [← hw4]; simp
  have hb4 : Below w2.heap.size w2 w4 := by rw [← hw4]; exact ((Below.refl _ _).alloc (Nat.le_refl _) _).alloc (by simp) _
  have he4 : Blk w4 w2.heap.size 35 #[.int .i64 x, .int .i64 y, .int .i64 1, .int .i64 0, .slice none 0 0, .slice none 0 0] := by rw [← hw4]; exact (show Blk _ _ _ _ from heap_alloc_new w2 _).alloc _
  have hc4 : Blk w4 (w2.heap.size + 1) 35 #[.int .i64 x, .int .i64 x, .int .i64 1, .int .i64 0, .slice A 1 1, .slice B 1 1] := by
    rw [← hw4]
    have h := heap_alloc_new (w2.alloc (.cells #[.int .i64 x, .int .i64 y, .int .i64 1, .int .i64 0, .slice none 0 0, .slice none 0 0] 35)) (.cells #[.int .i64 x, .int .i64 x, .int .i64 1, .int .i64 0, .slice A 1 1, .slice B 1 1] 35)
    rw [World.size_alloc] at h
    exact h
  have HBOX := Lib.hid (fun W (hW : Below w4.heap.size w4 W) => show DB W w2.heap.size x y 1 0 none 0 0 none 0 0 ∧ DB W (w2.heap.size + 1) x x 1 0 A 1 1 B 1 1 from by
    have h1 := he4.below hW (by omega)
    have h2 := hc4.below hW (by omega)
    exact ⟨⟨h1.cell 0, h1.cell 1, h1.cell 2, h1.cell 3, h1.cell 4, h1.cell 5⟩, h2.cell 0, h2.cell 1, h2.cell 2, h2.cell 3, h2.cell 4, h2.cell 5⟩)
  have HB4 := Lib.hid (HB2.out.trans (hb4.mono (by omega)))
  have HR := Lib.hid (hrr.belowM hb4)
  have HF := Lib.hid (hff.belowM hb4)
  clear hb1 hb2 hb4 hw4 hrr hff he4 hc4
  go_upto_region 3 with (fail)
  rw [HW4.out]
  obtain ⟨p0, p1, p2, p3, p4, p5⟩ := (HBOX.out w4 (Below.refl _ _)).1
  obtain ⟨y0, y1, y2, y3, y4, y5⟩ := (HBOX.out w4 (Below.refl _ _)).2
  go_wp2_with (fail)
  refine (rdesc_eq x y 1 0 none none 0 0 none none 0 0 [] [] w4 (RRu.nil_ _ _) (RRu.nil_ _ _) (Nat.zero_le _) (RFi.nil_ _ _) (RFi.nil_ _ _) (Nat.zero_le _) (fun q hq => by cases hq) (fun q hq => by cases hq)).mono ?_
  rintro e w5 ⟨rfl, hb5⟩
  clear p0 p1 p2 p3 p4 p5 y0 y1 y2 y3 y4 y5
  obtain ⟨p0, p1, p2, p3, p4, p5⟩ := (HBOX.out w5 hb5).1
  obtain ⟨y0, y1, y2, y3, y4, y5⟩ := (HBOX.out w5 hb5).2
  have HB5 := Lib.hid (HB4.out.trans (hb5.mono (by omega)))
  have H45 := Lib.hid hb5
  have HC1 := Lib.hid (checkD_any x y 1 0 none 0 none 0 [] [] w5 (RRu.nil_ _ _) (Nat.zero_le _) (RFi.nil_ _ _) (Nat.zero_le _) (HT.out.next HB5.out))
  rw [HW1.out] at HC1
  clear hb5
  go_wp2_with (fail)
  refine HC1.out.mono ?_
  rintro e w6 ⟨rfl, hb6⟩
  have H46 := Lib.hid (H45.out.trans (hb6.mono H45.out.size))
  clear p0 p1 p2 p3 p4 p5 y0 y1 y2 y3 y4 y5
  obtain ⟨p0, p1, p2, p3, p4, p5⟩ := (HBOX.out w6 H46.out).1
  obtain ⟨y0, y1, y2, y3, y4, y5⟩ := (HBOX.out w6 H46.out).2
  have HB6 := Lib.hid (HB4.out.trans (H46.out.mono (by omega)))
  have HC2 := Lib.hid (checkD_any x x 1 0 A 1 B 1 (sameR x) sameF w6 (HR.out.belowM H46.out) (show 1 ≤ maxLen by simp only [maxLen]; decide) (HF.out.belowM H46.out) (show 1 ≤ maxLen by simp only [maxLen]; decide) (HT.out.next HB6.out))
  rw [HW2.out] at HC2
  clear hb6
  go_wp2_with (fail)
  refine HC2.out.mono ?_
  rintro e w7 ⟨rfl, hb7⟩
  have H47 := Lib.hid (H46.out.trans (hb7.mono H46.out.size))
  have HB7 := Lib.hid (HB4.out.trans (H47.out.mono (by omega)))
  clear hb7 p0 p1 p2 p3 p4 p5 y0 y1 y2 y3 y4 y5
  go_wp2_with (fail)
  refine (awake_any w7 (HT.out.next HB7.out)).mono ?_
  rintro e w8 ⟨rfl, hb8⟩
  have HB8 := Lib.hid (HB7.out.trans (hb8.mono HB7.out.size))
  clear hb8
  go_wp2_with (fail)
  go_ret
  exact ⟨rfl, HB8.out⟩
theorem makes_law (x y : Int) (w : World) (hT : TabB w) : Calls Tryz.prog 7 #[.int .i64 x, .int .i64 y] w (RetB true w) := by
  by_cases x1 : x = 1
  · subst x1
    by_cases y1 : y = 1
    · subst y1; exact makes_one_one w hT
    · by_cases y2 : y = 2
      · subst y2; exact makes_one_two w hT
      · exact makes_one_not y y1 y2 w hT
  · by_cases x2 : x = 2
    · subst x2
      by_cases y1 : y = 1
      · subst y1; exact makes_two_one w hT
      · by_cases y2 : y = 2
        · subst y2; exact makes_two_two w hT
        · exact makes_two_not y y1 y2 w hT
    · by_cases y1 : y = 1
      · subst y1; exact makes_not_one x x1 x2 w hT
      · by_cases y2 : y = 2
        · subst y2; exact makes_not_two x x1 x2 w hT
        · exact makes_not_not x x1 x2 y y1 y2 w hT
end Go.Proofs.YtiddgfcoankpjaaGreatDoor.De
