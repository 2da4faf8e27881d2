/- The walk of utf.Rows: the table's rows as rows of sets of one span each. -/
import Derived.Test.YtjhgboncipnkeaaDoorUtSets
namespace Go.Proofs.YtjhgboncipnkeaaDoor.Ut
set_option maxRecDepth 100000
open Go Go.RowKit Go.Shelf Go.Proofs.YtjhgboncipnkeaaDoor.Wo

def RowRel (w : World) (v i : Value) (wr : World) : Prop := ∃ j : Nat, j ≤ 9 ∧ i = .int .i64 j ∧ OwnsQ wr w.heap.size v (rowsN j) ∧ Below w.heap.size w wr
def SetRel (w2 : World) (j kk : Nat) (v i : Value) (wr : World) : Prop := ∃ k : Nat, k ≤ kk ∧ i = .int .i64 k ∧ OwnsP wr w2.heap.size v (setsN j k) ∧ Below w2.heap.size w2 wr
set_option maxHeartbeats 4000000 in
theorem rows_any (w : World) (hT : TabT w) : Calls Tryd.prog 21 #[] w (RowsOut w) := by
  obtain ⟨i1, hi1, hz0, hz1, hz2⟩ := info_parts infoSet
  obtain ⟨i2, hi2, hy0, hy1, hy2⟩ := info_parts infoSets
  have HTT := Lib.hid hT
  have hsize : (Tryd.prog.info? 50).map (·.size) = some tabL.length := by kernel_rfl
  have HSZ := Lib.hid hsize
  clear hsize hT
  go_enter Tryd.func21, Tryd.ntmps21
  go_wp2_with (refine wpList_load_mid rfl 50 (.global 0) rfl 0 0 rfl tabL _ HTT.out Tryd.underlying50 rfl HSZ.out ?_)
  go_loopw [1, 7] (fun v i wr => RowRel w v i wr) (fun _ i _ => 9 - (intOf i).toNat)
  case atStart => exact ⟨0, by omega, rfl, ownQ_nil _ _, Below.refl _ _⟩
  case round =>
    rename World => w1
    obtain ⟨j, hj, rfl, ho, hb⟩ := hrel
    have HB := Lib.hid hb
    have hsz := hb.size
    clear hb
    by_cases hj9 : j < 9
    · obtain ⟨A1, c1, hv⟩ := ho.form
      rw [rowsN_len] at hv
      subst hv
      have HO := Lib.hid ho
      clear ho
      have hidx : ∀ W, (Instr.index 50 (.agg tabL.toArray) (.int .i64 (j : Int))).run Tryd.prog W = .ok (rw5 (rowT j).1 (rowT j).2.1 (rowT j).2.2.1 (rowT j).2.2.2.1 (rowT j).2.2.2.2) W := fun W => run_row j hj9 W
      have hs := (row_small j hj9).1
      have HSN := Lib.hid (setsN_succ j)
      have HS0 := Lib.hid (show setsN j 0 = [((rowT j).1, (rowT j).2.1)] from rfl)
      have HRN := Lib.hid (rowsN_succ j)
      generalize (rowT j).1 = lo at *
      generalize (rowT j).2.1 = hi at *
      generalize (rowT j).2.2.1 = kk at *
      generalize (rowT j).2.2.2.1 = f at *
      generalize (rowT j).2.2.2.2 = t at *
      have HFI := Lib.hid (first_any lo hi kk f t)
      have HBE := Lib.hid (behind_any lo hi kk f t)
      obtain ⟨w2, hw2⟩ : ∃ w2, w1.alloc (.cells #[.int .i64 lo, .int .i64 hi, .int .i64 kk, .int .i64 f, .int .i64 t] 49) = w2 := ⟨_, rfl⟩
      have hq := boxed5 (Below.refl _ (w1.alloc (.cells #[.int .i64 lo, .int .i64 hi, .int .i64 kk, .int .i64 f, .int .i64 t] 49)))
      have hb2 := (Below.refl w1.heap.size w1).alloc (Nat.le_refl _) (.cells #[.int .i64 lo, .int .i64 hi, .int .i64 kk, .int .i64 f, .int .i64 t] 49)
      have hz2' : (w1.alloc (.cells #[.int .i64 lo, .int .i64 hi, .int .i64 kk, .int .i64 f, .int .i64 t] 49)).heap.size = w1.heap.size + 1 := by simp
      rw [hw2] at hq hb2 hz2'
      obtain ⟨q0, q1, q2, q3, q4⟩ := hq
      have HB2 := Lib.hid hb2
      have HZ2 := Lib.hid hz2'
      clear hb2 hz2'
      go_wp2_with (fail)
      refine (HFI.out _).mono ?_
      rintro e w3 ⟨rfl, hb3⟩
      have hz3 := hb3.size
      have HB3 := Lib.hid hb3
      obtain ⟨w4, hw4⟩ : ∃ w4, w3.alloc (.cells #[.int .i64 lo, .int .i64 hi] 42) = w4 := ⟨_, rfl⟩
      obtain ⟨w5, hw5⟩ : ∃ w5, w4.alloc (.cells #[.slice (some ⟨w3.heap.size, 0, none⟩) 1 1] 43) = w5 := ⟨_, rfl⟩
      have HNW := Lib.hid (OwnsP.new (s := (lo, hi)) (base := w2.heap.size) hz3 hw4 hw5)
      have hb4 : Below w3.heap.size w3 w4 := by rw [← hw4]; exact (Below.refl _ _).alloc (Nat.le_refl _) _
      have hb5 : Below w4.heap.size w4 w5 := by rw [← hw5]; exact (Below.refl _ _).alloc (Nat.le_refl _) _
      have hb25 : Below w2.heap.size w2 w5 := hb3.trans ((hb4.trans (hb5.mono hb4.size)).mono hz3)
      have hr2 := (hb25.cell (p := ⟨w1.heap.size, 2, none⟩) (by have := HZ2.out; simp; omega)).trans q2
      have HB25 := Lib.hid hb25
      clear hb3 hb4 hb5 hb25
      have HQ := Lib.hid (And.intro q0 (And.intro q1 (And.intro q2 (And.intro q3 q4))))
      have HBW := Lib.hid (HB2.out.trans (HB25.out.mono (by have := HZ2.out; omega)))
      clear q0 q1 q2 q3 q4 HFI
      go_wp2_with (fail)
      go_loopw [4, 16] (fun v i wr => SetRel w2 j kk v i wr) (fun _ i _ => kk - (intOf i).toNat)
      case atStart => exact ⟨0, by omega, rfl, by rw [HS0.out]; exact HNW.out, HB25.out⟩
      case round =>
        obtain ⟨k, hk, rfl, hop, hbk⟩ := hrel
        obtain ⟨A4, c4, hv4, hle4, hrg4⟩ := hop.shape (by simp [setsN])
        rw [setsN_len] at hv4 hle4
        subst hv4
        rename World => w6
        have hz6 := hbk.size
        have HBK := Lib.hid hbk
        have HOP := Lib.hid hop
        have HRG := Lib.hid hrg4
        by_cases hlt : k < kk
        · have hcell : ∀ (n : Nat) (u : Value), w2.cell? ⟨w1.heap.size, n, none⟩ = some u → w6.cell? ⟨w1.heap.size, n, none⟩ = some u := fun n u q => (hbk.cell (p := ⟨w1.heap.size, n, none⟩) (by have := HZ2.out; simp; omega)).trans q
          have p0 := hcell 0 _ HQ.out.1
          have p1 := hcell 1 _ HQ.out.2.1
          have p2 := hcell 2 _ HQ.out.2.2.1
          have p3 := hcell 3 _ HQ.out.2.2.2.1
          have p4 := hcell 4 _ HQ.out.2.2.2.2
          clear hcell hbk hop hrg4
          have HBK2 := Lib.hid (fun W => HBE.out (k : Int) W)
          have HSK := Lib.hid (HSN.out k)
          generalize (if (k : Int) = 0 then f else 128) = ff at HBK2 HSK
          generalize (if (k : Int) = 0 then t else 191) = tt at HBK2 HSK
          go_wp2_with (fail)
          refine (HBK2.out _).mono ?_
          rintro e w7 ⟨rfl, hb7⟩
          have hz7 := hb7.size
          obtain ⟨w8, hw8⟩ : ∃ w8, w7.alloc (.cells #[.int .i64 ff, .int .i64 tt] 42) = w8 := ⟨_, rfl⟩
          obtain ⟨w9, hw9⟩ : ∃ w9, w8.alloc (.cells #[.slice (some ⟨w7.heap.size, 0, none⟩) 1 1] 43) = w9 := ⟨_, rfl⟩
          have hs8 : w8.heap.size = w7.heap.size + 1 := by rw [← hw8]; simp
          have hs9 : w9.heap.size = w8.heap.size + 1 := by rw [← hw9]; simp
          have hb8 : Below w7.heap.size w7 w8 := by rw [← hw8]; exact (Below.refl _ _).alloc (Nat.le_refl _) _
          have hb9 : Below w8.heap.size w8 w9 := by rw [← hw9]; exact (Below.refl _ _).alloc (Nat.le_refl _) _
          have hbl8 : w8.heap[w7.heap.size]? = some (spanB (ff, tt)) := by rw [← hw8]; exact heap_alloc_new w7 _
          have HBL := Lib.hid ((hb9.block w7.heap.size (by omega)).trans hbl8)
          have hb69 : Below w6.heap.size w6 w9 := hb7.trans ((hb8.trans (hb9.mono (by omega))).mono hz7)
          obtain ⟨vs, o1, o2⟩ := HOP.out.below hb69
          rw [setsN_len] at o1
          have HO2 := Lib.hid o2
          have HB69 := Lib.hid hb69
          have HS8 := Lib.hid hs8
          have HS9 := Lib.hid hs9
          have hcN : ∀ j u, [Value.slice (some ⟨w7.heap.size, 0, none⟩) 1 1][j]? = some u → w9.cell? ((⟨w8.heap.size, 0, none⟩ : Addr).add j) = some u := by rw [← hw9]; exact cell_one_new _ _ _
          have HN := Lib.hid (show ∀ q, (Value.slice A4 (k + 1) c4).ownBlock = some q → w2.heap.size ≤ q ∧ q < w6.heap.size from fun q e => by
            obtain ⟨_, o, _⟩ := HOP.out
            exact o.lt q e)
          clear o2 hb7 hb8 hb9 hbl8 hb69 hs8 hs9
          go_wp2_with (at_builtin; go_must (refine wpList_append_own_at _ rfl _ _ 40 rfl w2.heap.size 43 i1 _ 1 24 Tryd.underlying40 hi1 hz0 hz1 hz2 rfl (by decide) (.slice A4 (k + 1) c4) (k + 1) vs rfl o1 ⟨w8.heap.size, 0, none⟩ 1 1 [.slice (some ⟨w7.heap.size, 0, none⟩) 1 1] rfl rfl hcN ?c2 ?c3 ?c4 ?c5 ?_))
          case c2 => first | rfl | (intro q hq; simp at hq; subst hq; rfl)
          case c3 => simp only [maxLen]; omega
          case c4 => omega
          case c5 => have := HS8.out; have := HS9.out; omega
          intro v' w' hown hg _ hat
          have hN : OwnsP w' w2.heap.size v' (setsN j (k + 1)) := by
            rw [HSK.out]
            refine OwnsP.more (b := w7.heap.size) (vs := vs) (by rw [setsN_len]; exact o1) HO2.out (by omega) (fun e => by have := HN.out _ e; omega) (by have := HS8.out; have := HS9.out; omega) HBL.out hg (by rw [setsN_len]; exact hown) hat
          have HNN := Lib.hid hN
          have HBN := Lib.hid ((HBK.out.trans (HB69.out.mono hz6)).trans (grown_below o1 hg (Nat.le_refl _) (by have := HS8.out; have := HS9.out; omega)))
          clear hN hown hg hat o1 hcN hw8 hw9
          go_wp2_with (fail)
          go_roundw
          case rel => exact ⟨k + 1, by omega, by go_num, HNN.out, HBN.out⟩
          case measure => simp [intOf]; omega
        · have hkk : k = kk := by omega
          subst hkk
          obtain ⟨w7, hw7⟩ : ∃ w7, w6.alloc (.cells #[.slice A4 (k + 1) c4] 40) = w7 := ⟨_, rfl⟩
          have hs7 : w7.heap.size = w6.heap.size + 1 := by rw [← hw7]; simp
          have hb7 : Below w6.heap.size w6 w7 := by rw [← hw7]; exact (Below.refl _ _).alloc (Nat.le_refl _) _
          have hbw : Below w1.heap.size w1 w7 := (HB2.out.trans (hbk.mono (by have := HZ2.out; omega))).trans (hb7.mono (by have := HZ2.out; omega))
          obtain ⟨vs, o1, o2⟩ := HO.out.below hbw
          rw [rowsN_len] at o1
          have HO2 := Lib.hid o2
          have HBW := Lib.hid hbw
          have HN := Lib.hid (show ∀ q, (Value.slice A1 j c1).ownBlock = some q → w.heap.size ≤ q ∧ q < w1.heap.size from fun q e => by
            obtain ⟨_, o, _⟩ := HO.out
            exact o.lt q e)
          have HR7 := Lib.hid (show RGp (fun b => (Value.slice A1 j c1).ownBlock ≠ some b) w7 A4 (setsN j k) from (hrg4.below hb7).keep (Nat.le_refl _) (fun _ _ _ => rfl) (fun b q _ e => by have := HN.out _ e; have := HZ2.out; omega))
          have HS7 := Lib.hid hs7
          have hcN : ∀ j u, [Value.slice A4 (k + 1) c4][j]? = some u → w7.cell? ((⟨w6.heap.size, 0, none⟩ : Addr).add j) = some u := by rw [← hw7]; exact cell_one_new _ _ _
          clear o2 hb7 hbw hs7 hbk hop hrg4
          go_wp2_with (at_builtin; go_must (refine wpList_append_own_at _ rfl _ _ 37 rfl w.heap.size 40 i2 _ 1 24 Tryd.underlying37 hi2 hy0 hy1 hy2 rfl (by decide) (.slice A1 j c1) j vs rfl o1 ⟨w6.heap.size, 0, none⟩ 1 1 [.slice A4 (k + 1) c4] rfl rfl hcN ?c2 ?c3 ?c4 ?c5 ?_))
          case c2 => first | rfl | (intro q hq; simp at hq; subst hq; rfl)
          case c3 => simp only [maxLen]; omega
          case c4 => omega
          case c5 => have := HS7.out; have := HZ2.out; omega
          intro v' w' hown hg _ hat
          have hN : OwnsQ w' w.heap.size v' (rowsN (j + 1)) := by
            rw [HRN.out]
            refine OwnsQ.more (A := A4) (c := c4) (vs := vs) (by rw [rowsN_len]; exact o1) HO2.out (by rw [setsN_len]; exact hle4) HR7.out hg (by rw [rowsN_len, setsN_len]; exact hown) hat
          have HNN := Lib.hid hN
          have HBN := Lib.hid ((HB.out.trans (HBW.out.mono hsz)).trans (grown_below o1 hg (Nat.le_refl _) (by have := HS7.out; have := HZ2.out; omega)))
          clear hN hown hg hat o1 hcN hw7
          go_wp2_with (fail)
          go_roundw
          case rel => exact ⟨j + 1, by omega, by go_num, HNN.out, HBN.out⟩
          case measure => simp [intOf]; omega
    · have hj : j = 9 := by omega
      subst hj
      obtain ⟨A, c, rfl, hr⟩ := ho.reads (by simp [rowsN])
      rw [rowsN_len]
      have HR := Lib.hid hr
      clear hr ho
      go_wp2_with (fail)
      go_ret
      exact ⟨A, c, rfl, HR.out, HB.out⟩
end Go.Proofs.YtjhgboncipnkeaaDoor.Ut
