/- The walk of table.Check: of any table. -/
import Derived.Test.YtgmkchkaceciiaaPkNode
import Derived.Test.YtgmkchkaceciiaaPkSizes
namespace Go.Proofs.Ytgmkchkaceciiaa.Pk
set_option maxRecDepth 100000
open Go Go.RowKit Go.Proofs.Ytgmkchkaceciiaa.Sp Go.Proofs.Ytgmkchkaceciiaa.Pa Go.Proofs.Ytgmkchkaceciiaa.Te Go.Proofs.Ytgmkchkaceciiaa.Mi Go.Proofs.Ytgmkchkaceciiaa.De

def CkRel (T : TabL) (w1 : World) (iv : Value) (wr : World) : Prop := ∃ k : Nat, k ≤ T.nodes.length ∧ iv = .int .i64 k ∧ (∀ j (hj : j < T.nodes.length), j < k → NodeOk T T.nodes[j]) ∧ Below w1.heap.size w1 wr
set_option maxHeartbeats 4000000 in
theorem tcheck_any (t : TV) (w : World) (h : TM w t) : Calls Try.prog 36 #[t.val] w (RetB (propB (RightTab t.T)) w) := by
  have hla := h.la
  unfold maxLen at hla
  have hcl := h.cls
  obtain ⟨w1, hw1⟩ : ∃ w1, w.alloc (.cells t.cells.toArray 44) = w1 := ⟨_, rfl⟩
  have hT : TW w1 w.heap.size t := by rw [← hw1]; exact TW.boxed h
  have hs1 : w1.heap.size = w.heap.size + 1 := by rw [← hw1]; simp
  have HB := Lib.hid (show Below w.heap.size w w1 by rw [← hw1]; exact (Below.refl _ _).alloc (Nat.le_refl _) _)
  have HT := Lib.hid (fun W (hW : Below w1.heap.size w1 W) => show TW W w.heap.size t from hT.below hW)
  have HT1 := Lib.hid hT
  have HCL := Lib.hid hcl
  have HS1 := Lib.hid (sizesRight_any t w1 hT.mem)
  have HS2 := Lib.hid (fun W (hW : Below w1.heap.size w1 W) => actsRight_any t W (HT.out W hW).mem)
  have HS3 := Lib.hid (fun W (hW : Below w1.heap.size w1 W) => endsRight_any t W (HT.out W hW).mem)
  have HE := Lib.hid (fun W (hW : Below w1.heap.size w1 W) => show Below w.heap.size w W from HB.out.trans (hW.mono (by omega)))
  obtain ⟨v, hv⟩ : ∃ v, propB (RightTab t.T) = v := ⟨_, rfl⟩
  rw [hv]
  have HNO := Lib.hid (show ¬ RightTab t.T → v = false from fun q => hv.symm.trans (propB_false q))
  have HYES := Lib.hid (show RightTab t.T → v = true from fun q => hv.symm.trans (propB_true q))
  clear h hT hv hcl
  have hval : t.val = .agg t.cells.toArray := rfl
  rw [hval]
  clear hval
  by_cases k1 : SizesOk t.T
  case neg =>
    rw [propB_false k1] at HS1
    have HP := Lib.hid (HNO.out fun q => k1 q.sizes)
    clear k1
    go_enter Try.func36, Try.ntmps36
    go_wp2_with (refine load_tab rfl _ rfl w.heap.size t HT1.out rfl ?_)
    refine HS1.out.mono ?_
    rintro e w2 ⟨rfl, hb2⟩
    have HB2 := Lib.hid hb2
    clear hb2
    go_wp2_with (fail)
    go_ret
    exact ⟨ret_bool HP.out.symm, HE.out w2 HB2.out⟩
  rw [propB_true k1] at HS1
  have HK1 := Lib.hid k1
  by_cases k2 : ∀ a ∈ t.T.acts, ActOk t.T a
  case neg =>
    rw [propB_false k2] at HS2
    have HP := Lib.hid (HNO.out fun q => k2 q.acts)
    clear k1 k2
    go_enter Try.func36, Try.ntmps36
    go_wp2_with (refine load_tab rfl _ rfl w.heap.size t HT1.out rfl ?_)
    refine HS1.out.mono ?_
    rintro e w2 ⟨rfl, hb2⟩
    have HB2 := Lib.hid hb2
    have HT2 := Lib.hid (HT.out w2 hb2)
    clear hb2
    go_wp2_with (refine want_tab (by rfl) _ rfl w.heap.size t HT2.out rfl ?_)
    refine (HS2.out w2 HB2.out).mono ?_
    rintro e w3 ⟨rfl, hb3⟩
    have HB3 := Lib.hid (HB2.out.trans (hb3.mono HB2.out.size))
    clear hb3
    go_wp2_with (fail)
    go_ret
    exact ⟨ret_bool HP.out.symm, HE.out w3 HB3.out⟩
  rw [propB_true k2] at HS2
  have HK2 := Lib.hid k2
  by_cases k3 : ∀ l ∈ t.T.ends, l.length ≤ 64
  case neg =>
    rw [propB_false k3] at HS3
    have HP := Lib.hid (HNO.out fun q => k3 q.ends)
    clear k1 k2 k3
    go_enter Try.func36, Try.ntmps36
    go_wp2_with (refine load_tab rfl _ rfl w.heap.size t HT1.out rfl ?_)
    refine HS1.out.mono ?_
    rintro e w2 ⟨rfl, hb2⟩
    have HB2 := Lib.hid hb2
    have HT2 := Lib.hid (HT.out w2 hb2)
    clear hb2
    go_wp2_with (refine want_tab (by rfl) _ rfl w.heap.size t HT2.out rfl ?_)
    refine (HS2.out w2 HB2.out).mono ?_
    rintro e w3 ⟨rfl, hb3⟩
    have HB3 := Lib.hid (HB2.out.trans (hb3.mono HB2.out.size))
    have HT3 := Lib.hid (HT.out w3 HB3.out)
    clear hb3
    go_wp2_with (refine want_tab (by rfl) _ rfl w.heap.size t HT3.out rfl ?_)
    refine (HS3.out w3 HB3.out).mono ?_
    rintro e w4 ⟨rfl, hb4⟩
    have HB4 := Lib.hid (HB3.out.trans (hb4.mono HB3.out.size))
    clear hb4
    go_wp2_with (fail)
    go_ret
    exact ⟨ret_bool HP.out.symm, HE.out w4 HB4.out⟩
  rw [propB_true k3] at HS3
  have HK3 := Lib.hid k3
  have HNE := Lib.hid (fun W (hW : Below w1.heap.size w1 W) => needsOf_any t W (HT.out W hW).mem k1.acts k1.ends)
  clear k1 k2 k3
  go_enter Try.func36, Try.ntmps36
  go_wp2_with (refine load_tab rfl _ rfl w.heap.size t HT1.out rfl ?_)
  refine HS1.out.mono ?_
  rintro e w2 ⟨rfl, hb2⟩
  have HB2 := Lib.hid hb2
  have HT2 := Lib.hid (HT.out w2 hb2)
  clear hb2
  go_wp2_with (refine want_tab (by rfl) _ rfl w.heap.size t HT2.out rfl ?_)
  refine (HS2.out w2 HB2.out).mono ?_
  rintro e w3 ⟨rfl, hb3⟩
  have HB3 := Lib.hid (HB2.out.trans (hb3.mono HB2.out.size))
  have HT3 := Lib.hid (HT.out w3 HB3.out)
  clear hb3
  go_wp2_with (refine want_tab (by rfl) _ rfl w.heap.size t HT3.out rfl ?_)
  refine (HS3.out w3 HB3.out).mono ?_
  rintro e w4 ⟨rfl, hb4⟩
  have HB4 := Lib.hid (HB3.out.trans (hb4.mono HB3.out.size))
  have HT4 := Lib.hid (HT.out w4 HB4.out)
  clear hb4
  go_wp2_with (refine load_tab rfl _ rfl w.heap.size t HT4.out rfl ?_)
  refine (HNE.out w4 HB4.out).mono ?_
  rintro e w5 ⟨va, ve, la, le, rfl, hna, hne, hoa, hoe, hb5⟩
  have HB5 := Lib.hid (HB4.out.trans (hb5.mono HB4.out.size))
  have hT5 := HT.out w5 HB5.out
  have HNM := Lib.hid (show NM w5 ⟨t, va, ve⟩ la le from ⟨hT5.mem, RowI.of_own hoa, RowI.of_own hoe, hna, hne, HK1.out.acts, HK1.out.ends⟩)
  have HOA := Lib.hid (own_one hoa)
  have HOE := Lib.hid (own_one hoe)
  have hz5 := HB5.out.size
  obtain ⟨w6, hw6⟩ : ∃ w6, w5.alloc (.cells Try.zeroCells101 101) = w6 := ⟨_, rfl⟩
  have HR6 := Lib.hid (show w6.heap[w5.heap.size]? = some (.cells Try.zeroCells101 101 (0, 0)) from by rw [← hw6]; exact heap_alloc_new w5 _)
  have hb6 : Below w5.heap.size w5 w6 := by rw [← hw6]; exact (Below.refl _ _).alloc (Nat.le_refl _) _
  have HB56 := Lib.hid hb6
  have hs6 : w6.heap.size = w5.heap.size + 1 := by rw [← hw6]; simp
  clear hna hne hoa hoe hb5 hT5 hb6
  go_wp2_with (refine store_needs rfl _ _ rfl w5.heap.size ⟨t, va, ve⟩ HCL.out HOA.out HOE.out rfl rfl _ HR6.out needs_zsize ?_; intro w7 hn7 hb7 hs7 hk7; have HN7 := Lib.hid hn7; have HB7 := Lib.hid (HB56.out.trans hb7); have HB17 := Lib.hid (HB5.out.trans (HB7.out.mono hz5)); have c7 := (HT.out w7 HB17.out).cA; clear hn7 hb7 hk7)
  have HNM7 := Lib.hid (HNM.out.below HB7.out)
  have hl7 : w5.heap.size < w7.heap.size := by omega
  go_loopw [23] (fun iv wr => CkRel t.T w7 iv wr) (fun i _ => t.T.nodes.length - (intOf i).toNat)
  case atStart => exact ⟨0, Nat.zero_le _, rfl, fun j _ h => absurd h (by omega), Below.refl _ _⟩
  case round =>
    obtain ⟨k, hk, rfl, hall, hbr⟩ := hrel
    have HALL := Lib.hid hall
    have HBR := Lib.hid hbr
    have hsr := hbr.size
    have HER := Lib.hid (HE.out wr (HB17.out.trans (hbr.mono HB17.out.size)))
    clear hall
    by_cases hlt : k < t.T.nodes.length
    · have HC := Lib.hid (nodeRight_any ⟨t, va, ve⟩ la le k wr (HNM7.out.below hbr) hlt (HK1.out.each _ (List.getElem_mem hlt)).2.1 (HK1.out.each _ (List.getElem_mem hlt)).2.2)
      have HLD := Lib.hid (load_needs_below HN7.out hl7 hbr)
      have HNX := Lib.hid (show NodeOk t.T t.T.nodes[k] → ∀ j (hj : j < t.T.nodes.length), j < k + 1 → NodeOk t.T t.T.nodes[j] from fun q j hj hjk => by
        rcases Nat.lt_or_ge j k with z | z
        · exact HALL.out j hj z
        · obtain rfl : j = k := by omega
          exact q)
      clear hbr
      by_cases k1 : NodeOk t.T t.T.nodes[k]
      · rw [propB_true k1] at HC
        have HN2 := Lib.hid (HNX.out k1)
        clear k1
        go_wp2_with (refine load_needs rfl _ rfl w5.heap.size ⟨t, va, ve⟩ HCL.out HLD.out rfl ?_)
        refine HC.out.mono ?_
        rintro e w8 ⟨rfl, hb8⟩
        have HB8 := Lib.hid hb8
        clear hb8
        go_wp2_with (fail)
        go_roundw
        case rel => exact ⟨k + 1, by omega, by go_num, HN2.out, HBR.out.trans (HB8.out.mono hsr)⟩
        case measure => simp [intOf]; omega
      · rw [propB_false k1] at HC
        have HP := Lib.hid (HNO.out fun q => k1 (q.nodes _ (List.getElem_mem hlt)))
        clear k1
        go_wp2_with (refine load_needs rfl _ rfl w5.heap.size ⟨t, va, ve⟩ HCL.out HLD.out rfl ?_)
        refine HC.out.mono ?_
        rintro e w8 ⟨rfl, hb8⟩
        have HB8 := Lib.hid hb8
        clear hb8
        go_wp2_with (fail)
        go_ret
        exact ⟨ret_bool HP.out.symm, HER.out.trans (HB8.out.mono (by have := HER.out.size; omega))⟩
    · have HP := Lib.hid (HYES.out ⟨HK1.out, HK2.out, HK3.out, fun n hn => by
        obtain ⟨j, hj, rfl⟩ := List.getElem_of_mem hn
        exact HALL.out j hj (by omega)⟩)
      clear hbr
      go_wp2_with (fail)
      go_ret
      exact ⟨ret_bool HP.out.symm, HER.out⟩
end Go.Proofs.Ytgmkchkaceciiaa.Pk
