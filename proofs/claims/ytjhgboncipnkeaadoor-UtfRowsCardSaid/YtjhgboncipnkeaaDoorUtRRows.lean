/- The walk of the reference's Rows. -/
import Derived.Test.YtjhgboncipnkeaaDoorUtRows
import Derived.StillTailTactics
namespace Go.Proofs.YtjhgboncipnkeaaDoor.Ut
set_option maxRecDepth 100000
open Go Go.RowKit Go.Shelf Go.Proofs.YtjhgboncipnkeaaDoor.Wo

abbrev tabA : Obj := .cells #[.int .i64 0, .int .i64 127, .int .i64 194, .int .i64 223, .int .i64 224, .int .i64 224, .int .i64 225, .int .i64 236, .int .i64 237, .int .i64 237, .int .i64 238, .int .i64 239, .int .i64 240, .int .i64 240, .int .i64 241, .int .i64 243, .int .i64 244, .int .i64 244] 60
abbrev tabB : Obj := .cells #[.int .i64 0, .int .i64 0, .int .i64 128, .int .i64 191, .int .i64 160, .int .i64 191, .int .i64 128, .int .i64 191, .int .i64 128, .int .i64 159, .int .i64 128, .int .i64 191, .int .i64 144, .int .i64 191, .int .i64 128, .int .i64 191, .int .i64 128, .int .i64 143] 60
abbrev tabC : Obj := .cells #[.int .i64 1, .int .i64 2, .int .i64 3, .int .i64 3, .int .i64 3, .int .i64 3, .int .i64 4, .int .i64 4, .int .i64 4] 3
def TabsR (w : World) (B : Nat) : Prop := w.heap[B]? = some tabA ∧ w.heap[B + 1]? = some tabB ∧ w.heap[B + 1 + 1]? = some tabC
theorem tabs_new (w w1 w2 w3 : World) (h1 : w.alloc tabA = w1) (h2 : w1.alloc tabB = w2) (h3 : w2.alloc tabC = w3) : TabsR w3 w.heap.size ∧ w3.heap.size = w.heap.size + 1 + 1 + 1 := by
  subst h1 h2 h3
  have e1 : (w.alloc tabA).heap.size = w.heap.size + 1 := World.size_alloc _ _
  have e2 : ((w.alloc tabA).alloc tabB).heap.size = w.heap.size + 1 + 1 := by rw [World.size_alloc, e1]
  have b1 := (Below.refl (w.alloc tabA).heap.size (w.alloc tabA)).alloc (Nat.le_refl _) tabB
  have b2 := (Below.refl ((w.alloc tabA).alloc tabB).heap.size ((w.alloc tabA).alloc tabB)).alloc (Nat.le_refl _) tabC
  have n1 := heap_alloc_new w tabA
  have n2 := heap_alloc_new (w.alloc tabA) tabB
  have n3 := heap_alloc_new ((w.alloc tabA).alloc tabB) tabC
  rw [e1] at n2
  rw [e2] at n3
  exact ⟨⟨(b2.block _ (by omega)).trans ((b1.block _ (by omega)).trans n1), (b2.block _ (by omega)).trans n2, n3⟩, by rw [World.size_alloc, e2]⟩
theorem tabs_at {w : World} {B : Nat} (h : TabsR w B) (j : Nat) (hj : j < 9) : w.cell? ⟨B, j * 2, none⟩ = some (.int .i64 (rowT j).1) ∧ w.cell? ⟨B, j * 2 + 1, none⟩ = some (.int .i64 (rowT j).2.1) ∧ w.cell? ⟨B + 1, j * 2, none⟩ = some (.int .i64 (rowT j).2.2.2.1) ∧ w.cell? ⟨B + 1, j * 2 + 1, none⟩ = some (.int .i64 (rowT j).2.2.2.2) ∧ w.cell? ⟨B + 1 + 1, j, none⟩ = some (.int .i64 ((rowT j).2.2.1 + 1 : Nat)) := by
  obtain ⟨h1, h2, h3⟩ := h
  obtain rfl | rfl | rfl | rfl | rfl | rfl | rfl | rfl | rfl : j = 0 ∨ j = 1 ∨ j = 2 ∨ j = 3 ∨ j = 4 ∨ j = 5 ∨ j = 6 ∨ j = 7 ∨ j = 8 := by omega
  all_goals exact ⟨by simp [World.cell?, h1, rowT], by simp [World.cell?, h1, rowT], by simp [World.cell?, h2, rowT], by simp [World.cell?, h2, rowT], by simp [World.cell?, h3, rowT]⟩
def RRel (w3 : World) (v i : Value) (wr : World) : Prop := ∃ j : Nat, j ≤ 9 ∧ i = .int .i64 j ∧ OwnsQ wr w3.heap.size v (rowsN j) ∧ Below w3.heap.size w3 wr
def RSet (w2 : World) (j kk : Nat) (v i : Value) (wr : World) : Prop := ∃ k : Nat, k ≤ kk ∧ i = .int .i64 ((k + 1 : Nat) : Int) ∧ OwnsP wr w2.heap.size v (setsN j k) ∧ Below w2.heap.size w2 wr
set_option maxHeartbeats 4000000 in
theorem rrows_any (w : World) : Calls Tryd.prog 22 #[] w (RowsOut w) := by
  obtain ⟨i1, hi1, hz0, hz1, hz2⟩ := info_parts infoSet
  obtain ⟨i2, hi2, hy0, hy1, hy2⟩ := info_parts infoSets
  obtain ⟨wa, hwa⟩ : ∃ wa, w.alloc tabA = wa := ⟨_, rfl⟩
  obtain ⟨wb, hwb⟩ : ∃ wb, wa.alloc tabB = wb := ⟨_, rfl⟩
  obtain ⟨w3, hw3⟩ : ∃ w3, wb.alloc tabC = w3 := ⟨_, rfl⟩
  obtain ⟨ht, hsz3⟩ := tabs_new w wa wb w3 hwa hwb hw3
  have HT := Lib.hid ht
  have HS3 := Lib.hid hsz3
  have hsa : wa.heap.size = w.heap.size + 1 := by rw [← hwa]; simp
  have hsb : wb.heap.size = w.heap.size + 1 + 1 := by rw [← hwb, World.size_alloc, hsa]
  have HB3 := Lib.hid (show Below w.heap.size w w3 by rw [← hw3, ← hwb, ← hwa]; exact (((Below.refl _ _).alloc (Nat.le_refl _) _).alloc (by simp) _).alloc (by simp; omega) _)
  clear ht hsz3
  go_enter Tryd.func22, Tryd.ntmps22
  go_wp2_with (fail)
  clear hwa hwb hw3 hsa hsb
  go_loopw [4, 5] (fun v i wr => RRel w3 v i wr) (fun _ i _ => 9 - (intOf i).toNat)
  case atStart => exact ⟨0, by omega, rfl, ownQ_nil _ _, Below.refl _ _⟩
  case round =>
    rename World => w1
    obtain ⟨j, hj, rfl, ho, hb⟩ := hrel
    have HB := Lib.hid hb
    have hsz := hb.size
    clear hb
    by_cases hj9 : j < 9
    · obtain ⟨A1, c1, hv⟩ := ho.form
      rw [rowsN_len] at hv
      subst hv
      have HO := Lib.hid ho
      clear ho
      have hs := (row_small j hj9).1
      have HSN := Lib.hid (setsN_succ j)
      have HS0 := Lib.hid (show setsN j 0 = [((rowT j).1, (rowT j).2.1)] from rfl)
      have HRN := Lib.hid (rowsN_succ j)
      have HT1 := Lib.hid (fun W (hW : Below w3.heap.size w3 W) => tabs_at (w := W) (B := w.heap.size) (by
        have h := HT.out
        have e := HS3.out
        exact ⟨(hW.block _ (by omega)).trans h.1, (hW.block _ (by omega)).trans h.2.1, (hW.block _ (by omega)).trans h.2.2⟩) j hj9)
      generalize (rowT j).1 = lo at *
      generalize (rowT j).2.1 = hi at *
      generalize (rowT j).2.2.1 = kk at *
      generalize (rowT j).2.2.2.1 = f at *
      generalize (rowT j).2.2.2.2 = t at *
      obtain ⟨q1, q2, q3, q4, q5⟩ := HT1.out w1 HB.out
      have n1 : (0 : Int) ≤ (j : Int) := Int.natCast_nonneg _
      have n2 : (j : Int) < 9 := by omega
      go_wp2_with (fail)
      go_still_tail 11, (by kernel_rfl)
      change wpList _ _ _ _ _ w1.drew
      have hbd : Below w1.heap.size w1 w1.drew := (Below.refl _ _).drew
      generalize w1.drew = w2 at hbd ⊢
      have hz2' := hbd.size
      obtain ⟨w4, hw4⟩ : ∃ w4, w2.alloc (.cells #[.int .i64 lo, .int .i64 hi] 42) = w4 := ⟨_, rfl⟩
      obtain ⟨w5, hw5⟩ : ∃ w5, w4.alloc (.cells #[.slice (some ⟨w2.heap.size, 0, none⟩) 1 1] 43) = w5 := ⟨_, rfl⟩
      have HNW := Lib.hid (OwnsP.new (s := (lo, hi)) (base := w2.heap.size) (Nat.le_refl _) hw4 hw5)
      have hb4 : Below w2.heap.size w2 w4 := by rw [← hw4]; exact (Below.refl _ _).alloc (Nat.le_refl _) _
      have hb5 : Below w4.heap.size w4 w5 := by rw [← hw5]; exact (Below.refl _ _).alloc (Nat.le_refl _) _
      have HB25 := Lib.hid (hb4.trans (hb5.mono hb4.size))
      have HBD := Lib.hid hbd
      clear hb4 hb5 hbd q1 q2 q3 q4 q5
      go_wp2_with (fail)
      go_loopw [6, 7] (fun v i wr => RSet w2 j kk v i wr) (fun _ i _ => kk + 1 - (intOf i).toNat)
      case atStart => exact ⟨0, by omega, rfl, by rw [HS0.out]; exact HNW.out, HB25.out⟩
      case round =>
        rename World => w6
        obtain ⟨k, hk, rfl, hop, hbk⟩ := hrel
        obtain ⟨A4, c4, hv4, hle4, hrg4⟩ := hop.shape (by simp [setsN])
        rw [setsN_len] at hv4 hle4
        subst hv4
        have hz6 := hbk.size
        have HBK := Lib.hid hbk
        have HOP := Lib.hid hop
        obtain ⟨q1, q2, q3, q4, q5⟩ := HT1.out w6 (HB.out.trans (((HBD.out.trans (hbk.mono hz2'))).mono hsz))
        by_cases hlt : k < kk
        · clear hbk hop hrg4
          by_cases hk0 : k = 0
          · subst hk0
            clear q1 q2
            have HSK := Lib.hid (show setsN j (0 + 1) = setsN j 0 ++ [(f, t)] from HSN.out 0)
            have hb7 : Below w6.heap.size w6 (w6.alloc (.cells #[.int .i64 f, .int .i64 t] 42)) := (Below.refl _ _).alloc (Nat.le_refl _) _
            have hb8 : Below w6.heap.size w6 ((w6.alloc (.cells #[.int .i64 f, .int .i64 t] 42)).alloc (.cells #[.slice (some ⟨w6.heap.size, 0, none⟩) 1 1] 43)).drew := ((hb7.alloc (by simp) _)).drew
            have hbl : ((w6.alloc (.cells #[.int .i64 f, .int .i64 t] 42)).alloc (.cells #[.slice (some ⟨w6.heap.size, 0, none⟩) 1 1] 43)).drew.heap[w6.heap.size]? = some (spanB (f, t)) := (((Below.refl (w6.heap.size + 1) (w6.alloc (.cells #[.int .i64 f, .int .i64 t] 42))).alloc (by simp) (.cells #[.slice (some ⟨w6.heap.size, 0, none⟩) 1 1] 43)).block w6.heap.size (by omega)).trans (heap_alloc_new w6 _)
            have hzz : ((w6.alloc (.cells #[.int .i64 f, .int .i64 t] 42)).alloc (.cells #[.slice (some ⟨w6.heap.size, 0, none⟩) 1 1] 43)).drew.heap.size = w6.heap.size + 1 + 1 := by
              show ((w6.alloc (.cells #[.int .i64 f, .int .i64 t] 42)).alloc (.cells #[.slice (some ⟨w6.heap.size, 0, none⟩) 1 1] 43)).heap.size = _
              rw [World.size_alloc, World.size_alloc]
            obtain ⟨vs, o1, o2⟩ := HOP.out.below hb8
            have O1 := Lib.hid o1
            have HO2 := Lib.hid o2
            have HB8 := Lib.hid hb8
            have HBL := Lib.hid hbl
            have HZZ := Lib.hid hzz
            have HN := Lib.hid (show ∀ q, (Value.slice A4 (0 + 1) c4).ownBlock = some q → w2.heap.size ≤ q ∧ q < w6.heap.size from fun q e => by
              obtain ⟨_, o, _⟩ := HOP.out
              exact o.lt q e)
            clear o1 o2 hb7 hb8 hbl hzz
            go_wp2_with (fail)
            go_region_law ((refine step_append_lies _ (by rfl) _ _ _ (by rfl) w2.heap.size 43 i1 _ 1 24 Tryd.underlying40 hi1 hz0 hz1 hz2 rfl (by omega) (.slice A4 1 c4) 1 vs (by rfl) O1.out ⟨w6.heap.size + 1, 0, none⟩ 1 1 [.slice (some ⟨w6.heap.size, 0, none⟩) 1 1] (by rfl) (by rfl) (World.news_of_block (cs := #[.slice (some ⟨w6.heap.size, 0, none⟩) 1 1]) (t := 43) (fr := (0, 0)) (two_new w6 _ _)) (by simp [Value.oneCell']) (by omega) (by simp only [maxLen]; omega) (by omega) (by have := HZZ.out; omega) (w6.heap.size + 1 + 1) HZZ.out ?_; intro gg capg w9 hown hg hat hltg))
            all_goals have HNN := Lib.hid (show OwnsP w9 w2.heap.size (.slice (some ⟨gg, 0, none⟩) (1 + 1) capg) (setsN j (0 + 1)) by
              rw [HSK.out]
              exact OwnsP.more (b := w6.heap.size) (vs := vs) O1.out HO2.out hz6 (fun e => by have := HN.out _ e; omega) (by have := HZZ.out; omega) HBL.out hg (by rw [setsN_len]; exact hown) (by rw [HZZ.out]; exact hat.imp (fun e => e.symm) (fun e => by subst e; rfl)))
            all_goals have HBN := Lib.hid ((HBK.out.trans (HB8.out.mono hz6)).trans (grown_below O1.out hg (Nat.le_refl _) (by have := HZZ.out; omega)))
            all_goals clear hown hg hat hltg
            all_goals go_wp2_with (fail)
            all_goals go_roundw
            all_goals first
              | exact ⟨0 + 1, by omega, by go_num, HNN.out, HBN.out⟩
              | (simp [intOf]; omega)
          · have hne : (((k + 1 : Nat) : Int) == 1) = false := beq_eq_false_iff_ne.2 (by omega)
            clear q1 q2 q3 q4
            have HSK := Lib.hid (show setsN j (k + 1) = setsN j k ++ [(128, 191)] by have h := HSN.out k; rw [if_neg (by omega), if_neg (by omega)] at h; exact h)
            have hb7 := Below.refl w6.heap.size w6
            have hz7 := hb7.size
            obtain ⟨w8, hw8⟩ : ∃ w8, w6.alloc (.cells #[.int .i64 128, .int .i64 191] 42) = w8 := ⟨_, rfl⟩
            obtain ⟨w9, hw9⟩ : ∃ w9, w8.alloc (.cells #[.slice (some ⟨w6.heap.size, 0, none⟩) 1 1] 43) = w9 := ⟨_, rfl⟩
            have hs8 : w8.heap.size = w6.heap.size + 1 := by rw [← hw8]; simp
            have hs9 : w9.heap.size = w8.heap.size + 1 := by rw [← hw9]; simp
            have hb8 : Below w6.heap.size w6 w8 := by rw [← hw8]; exact (Below.refl _ _).alloc (Nat.le_refl _) _
            have hb9 : Below w8.heap.size w8 w9 := by rw [← hw9]; exact (Below.refl _ _).alloc (Nat.le_refl _) _
            have hbl8 : w8.heap[w6.heap.size]? = some (spanB (128, 191)) := by rw [← hw8]; exact heap_alloc_new w6 _
            have HBL := Lib.hid ((hb9.block w6.heap.size (by omega)).trans hbl8)
            have hb69 : Below w6.heap.size w6 w9 := hb7.trans ((hb8.trans (hb9.mono (by omega))).mono hz7)
            obtain ⟨vs, o1, o2⟩ := HOP.out.below hb69
            rw [setsN_len] at o1
            have HO2 := Lib.hid o2
            have HB69 := Lib.hid hb69
            have HS8 := Lib.hid hs8
            have HS9 := Lib.hid hs9
            have hcN : ∀ j u, [Value.slice (some ⟨w6.heap.size, 0, none⟩) 1 1][j]? = some u → w9.cell? ((⟨w8.heap.size, 0, none⟩ : Addr).add j) = some u := by rw [← hw9]; exact cell_one_new _ _ _
            have HN := Lib.hid (show ∀ q, (Value.slice A4 (k + 1) c4).ownBlock = some q → w2.heap.size ≤ q ∧ q < w6.heap.size from fun q e => by
              obtain ⟨_, o, _⟩ := HOP.out
              exact o.lt q e)
            clear o2 hb7 hb8 hb9 hbl8 hb69 hs8 hs9
            go_wp2_with (at_builtin; go_must (refine wpList_append_own_at _ rfl _ _ 40 rfl w2.heap.size 43 i1 _ 1 24 Tryd.underlying40 hi1 hz0 hz1 hz2 rfl (by decide) (.slice A4 (k + 1) c4) (k + 1) vs rfl o1 ⟨w8.heap.size, 0, none⟩ 1 1 [.slice (some ⟨w6.heap.size, 0, none⟩) 1 1] rfl rfl hcN ?c2 ?c3 ?c4 ?c5 ?_))
            case c2 => first | rfl | (intro q hq; simp at hq; subst hq; rfl)
            case c3 => simp only [maxLen]; omega
            case c4 => omega
            case c5 => have := HS8.out; have := HS9.out; omega
            intro v' w' hown hg _ hat
            have hN : OwnsP w' w2.heap.size v' (setsN j (k + 1)) := by
              rw [HSK.out]
              refine OwnsP.more (b := w6.heap.size) (vs := vs) (by rw [setsN_len]; exact o1) HO2.out (by omega) (fun e => by have := HN.out _ e; omega) (by have := HS8.out; have := HS9.out; omega) HBL.out hg (by rw [setsN_len]; exact hown) hat
            have HNN := Lib.hid hN
            have HBN := Lib.hid ((HBK.out.trans (HB69.out.mono hz6)).trans (grown_below o1 hg (Nat.le_refl _) (by have := HS8.out; have := HS9.out; omega)))
            clear hN hown hg hat o1 hcN hw8 hw9
            go_wp2_with (fail)
            go_roundw
            case rel => exact ⟨k + 1, by omega, by go_num, HNN.out, HBN.out⟩
            case measure => simp [intOf]; omega
        · have hkk : k = kk := by omega
          subst hkk
          obtain ⟨w7, hw7⟩ : ∃ w7, w6.alloc (.cells #[.slice A4 (k + 1) c4] 40) = w7 := ⟨_, rfl⟩
          have hs7 : w7.heap.size = w6.heap.size + 1 := by rw [← hw7]; simp
          have hb7 : Below w6.heap.size w6 w7 := by rw [← hw7]; exact (Below.refl _ _).alloc (Nat.le_refl _) _
          have hbw : Below w1.heap.size w1 w7 := (HBD.out.trans (hbk.mono hz2')).trans (hb7.mono (by omega))
          obtain ⟨vs, o1, o2⟩ := HO.out.below hbw
          rw [rowsN_len] at o1
          have HO2 := Lib.hid o2
          have HBW := Lib.hid hbw
          have HN := Lib.hid (show ∀ q, (Value.slice A1 j c1).ownBlock = some q → w3.heap.size ≤ q ∧ q < w1.heap.size from fun q e => by
            obtain ⟨_, o, _⟩ := HO.out
            exact o.lt q e)
          have HR7 := Lib.hid (show RGp (fun b => (Value.slice A1 j c1).ownBlock ≠ some b) w7 A4 (setsN j k) from (hrg4.below hb7).keep (Nat.le_refl _) (fun _ _ _ => rfl) (fun b q _ e => by have := HN.out _ e; omega))
          have HS7 := Lib.hid hs7
          have hcN : ∀ j u, [Value.slice A4 (k + 1) c4][j]? = some u → w7.cell? ((⟨w6.heap.size, 0, none⟩ : Addr).add j) = some u := by rw [← hw7]; exact cell_one_new _ _ _
          clear o2 hb7 hbw hs7 hbk hop hrg4 q1 q2 q3 q4
          go_wp2_with (at_builtin; go_must (refine wpList_append_own_at _ rfl _ _ 37 rfl w3.heap.size 40 i2 _ 1 24 Tryd.underlying37 hi2 hy0 hy1 hy2 rfl (by decide) (.slice A1 j c1) j vs rfl o1 ⟨w6.heap.size, 0, none⟩ 1 1 [.slice A4 (k + 1) c4] rfl rfl hcN ?c2 ?c3 ?c4 ?c5 ?_))
          case c2 => first | rfl | (intro q hq; simp at hq; subst hq; rfl)
          case c3 => simp only [maxLen]; omega
          case c4 => omega
          case c5 => have := HS7.out; omega
          intro v' w' hown hg _ hat
          have hN : OwnsQ w' w3.heap.size v' (rowsN (j + 1)) := by
            rw [HRN.out]
            refine OwnsQ.more (A := A4) (c := c4) (vs := vs) (by rw [rowsN_len]; exact o1) HO2.out (by rw [setsN_len]; exact hle4) HR7.out hg (by rw [rowsN_len, setsN_len]; exact hown) hat
          have HNN := Lib.hid hN
          have HBN := Lib.hid ((HB.out.trans (HBW.out.mono hsz)).trans (grown_below o1 hg (Nat.le_refl _) (by have := HS7.out; omega)))
          clear hN hown hg hat o1 hcN hw7
          go_wp2_with (fail)
          go_roundw
          case rel => exact ⟨j + 1, by omega, by go_num, HNN.out, HBN.out⟩
          case measure => simp [intOf]; omega
    · have hj : j = 9 := by omega
      subst hj
      obtain ⟨A, c, rfl, hr⟩ := ho.reads (by simp [rowsN])
      rw [rowsN_len]
      have HR := Lib.hid hr
      clear hr ho
      go_wp2_with (fail)
      go_ret
      exact ⟨A, c, rfl, HR.out, HB3.out.trans (HB.out.mono HB3.out.size)⟩
end Go.Proofs.YtjhgboncipnkeaaDoor.Ut
