/- The walk of pack.Pack: of any table. -/
import Derived.Test.YtgmkchkaceciiaaPkTable
import Derived.Test.YtgmkchkaceciiaaPkCheck
import Derived.Lib.SlBytesConst
namespace Go.Proofs.Ytgmkchkaceciiaa.Pk
set_option maxRecDepth 100000
open Go Go.RowKit Go.Proofs.Ytgmkchkaceciiaa.Sp Go.Proofs.Ytgmkchkaceciiaa.Pa Go.Proofs.Ytgmkchkaceciiaa.Te Go.Proofs.Ytgmkchkaceciiaa.Mi Go.Proofs.Ytgmkchkaceciiaa.De Go.Proofs.Ytgmkchkaceciiaa.Wo

/-- Has a table bytes? -/
noncomputable def packB (T : TabL) : Bool := propB (RightTab T) && !(wideB T.headI || wideB T.restI)
theorem body_lt {T : TabL} (h : ∀ c ∈ T.cls, c < 256) : ∀ b ∈ T.body, b < 256 := by
  intro b hb
  unfold TabL.body at hb
  rcases List.mem_append.1 hb with q | q
  · have : ∀ z ∈ magicL, z < 256 := by decide
    exact this b q
  rcases List.mem_append.1 q with q | q
  · exact numsB_lt q
  rcases List.mem_append.1 q with q | q
  · exact h b q
  · exact numsB_lt q
theorem RowW.read {bs : Nat} {v : Value} {L : List Nat} {w : World} (h : RowW bs v L w) : ∃ A c, v = .slice A L.length c ∧ RY w w.heap.size A L.length (byI L) ∧ L.length ≤ c := by
  rcases h with h | ⟨g, rfl, _, hg⟩
  · rcases h.2 with ⟨rfl, h0⟩ | ⟨g, cap, cur, rfl, hg, hr⟩
    · exact ⟨none, 0, by rw [h0], ⟨byI_length L, fun q => by omega⟩, by omega⟩
    · refine ⟨some ⟨g, 0, none⟩, cap, rfl, ⟨byI_length L, fun _ => ⟨g, 0, rfl, (h.lt g rfl).2, fun j hj => ?_⟩⟩, hr.2.1⟩
      rw [Nat.zero_add]
      rw [byI_length] at hj
      exact row_cell h j _ (by simp [byV, byI, hj])
  · refine ⟨_, _, rfl, ⟨byI_length L, fun _ => ⟨g, 0, rfl, (Array.getElem?_eq_some_iff.1 hg).1, fun j hj => ?_⟩⟩, Nat.le_refl _⟩
    rw [Nat.zero_add, cell_of_row w g j _ _ _ hg]
    rw [byI_length] at hj
    simp [byV, byI, hj]
def PackOut (T : TabL) (w : World) (e : Ending) (w' : World) : Prop := Below w.heap.size w w' ∧
  ((packB T = true ∧ ∃ A c, e = .returned (.tuple #[.slice A T.bytes.length c, .int .i64 0]) ∧ RY w' w'.heap.size A T.bytes.length (byI T.bytes) ∧ T.bytes.length ≤ c) ∨
   (packB T = false ∧ e = .returned (.tuple #[.slice none 0 0, .int .i64 2])))
set_option maxHeartbeats 8000000 in
theorem pack_any (t : TV) (w : World) (h : TM w t) (hR : t.T.restI.length ≤ 1000000000) : Calls Try.prog 30 #[t.val] w (PackOut t.T w) := by
  have hcl := h.cls
  obtain ⟨w1, hw1⟩ : ∃ w1, w.alloc (.cells t.cells.toArray 44) = w1 := ⟨_, rfl⟩
  have hT : TW w1 w.heap.size t := by rw [← hw1]; exact TW.boxed h
  have hs1 : w1.heap.size = w.heap.size + 1 := by rw [← hw1]; simp
  have HB := Lib.hid (show Below w.heap.size w w1 by rw [← hw1]; exact (Below.refl _ _).alloc (Nat.le_refl _) _)
  have HT1 := Lib.hid hT
  have HC := Lib.hid (tcheck_any t w1 hT.mem)
  have HCL := Lib.hid hcl
  have hval : t.val = .agg t.cells.toArray := rfl
  clear h hT hcl
  by_cases k1 : RightTab t.T
  case neg =>
    rw [propB_false k1] at HC
    have HP := Lib.hid (show packB t.T = false from by unfold packB; rw [propB_false k1]; rfl)
    clear k1
    rw [hval]
    clear hval
    go_enter Try.func30, Try.ntmps30
    go_wp2_with (refine load_tab rfl _ rfl w.heap.size t HT1.out rfl ?_)
    refine HC.out.mono ?_
    rintro e w2 ⟨rfl, hb2⟩
    have HB2 := Lib.hid (HB.out.trans (hb2.mono (by omega)))
    clear hb2
    go_wp2_with (fail)
    go_ret2
    exact ⟨HB2.out, .inr ⟨HP.out, rfl⟩⟩
  rw [propB_true k1] at HC
  have HK1 := Lib.hid k1
  have HPB := Lib.hid (show packB t.T = !(wideB t.T.headI || wideB t.T.restI) from by unfold packB; rw [propB_true k1]; rfl)
  clear k1
  rw [hval]
  clear hval
  go_enter Try.func30, Try.ntmps30
  go_wp2_with (refine load_tab rfl _ rfl w.heap.size t HT1.out rfl ?_)
  refine HC.out.mono ?_
  rintro e w2 ⟨rfl, hb2⟩
  have HT2 := Lib.hid (HT1.out.below hb2)
  have hz2 := hb2.size
  have HB2 := Lib.hid (HB.out.trans (hb2.mono (by omega)))
  clear hb2
  obtain ⟨w3, hw3⟩ : ∃ w3, w2.alloc (.cells #[.int .u8 117, .int .u8 109, .int .u8 108, .int .u8 116, .int .u8 49] 5 (5, 6)) = w3 := ⟨_, rfl⟩
  have hb3 : Below w2.heap.size w2 w3 := by rw [← hw3]; exact (Below.refl _ _).alloc (Nat.le_refl _) _
  have hs3 : w3.heap.size = w2.heap.size + 1 := by rw [← hw3]; simp
  have hrow3 : RowW w2.heap.size (.slice (some ⟨w2.heap.size, 0, none⟩) 5 5) magicL w3 := .inr ⟨w2.heap.size, rfl, Nat.le_refl _, by rw [← hw3]; exact heap_alloc_new w2 _⟩
  obtain ⟨w4, hw4⟩ : ∃ w4, w3.alloc (.cells #[.slice (some ⟨w2.heap.size, 0, none⟩) 5 5, .bool false] 88) = w4 := ⟨_, rfl⟩
  have hb4 : Below w3.heap.size w3 w4 := by rw [← hw4]; exact (Below.refl _ _).alloc (Nat.le_refl _) _
  have hs4 : w4.heap.size = w2.heap.size + 1 + 1 := by rw [← hw4, ← hs3]; simp
  have hws : WrS (w2.heap.size + 1) w2.heap.size (.slice (some ⟨w2.heap.size, 0, none⟩) 5 5) false magicL w4 := ⟨by rw [← hw4, ← hs3]; exact heap_alloc_new w3 _, hrow3.keep fun g e => hb4.block g (hrow3.lt g e).2, fun e => by
    simp only [Value.ownBlock, Option.some.injEq] at e
    omega, by omega⟩
  have HWS := Lib.hid hws
  have HB4 := Lib.hid (hb3.trans (hb4.mono (by omega)))
  have HT4 := Lib.hid (HT2.out.below HB4.out)
  have HCT := Lib.hid (wtable_any (w2.heap.size + 1) w2.heap.size (.slice (some ⟨w2.heap.size, 0, none⟩) 5 5) false magicL t w2 w4 hws HT2.out.mem HB4.out (by omega) (Nat.le_refl _) HK1.out.sizes.some_ (by show 5 + 4 * (t.T.restI.length + 4) + 256 ≤ _; omega))
  have hcv := Lib.run_convert_bytes_const (P := Try.prog) w2 46 5 #[.int .u8 117, .int .u8 109, .int .u8 108, .int .u8 116, .int .u8 49] 5 5 Try.underlying46 Try.underlying5
  have HW4 := Lib.hid hw4
  have HW3 := Lib.hid hw3
  clear hws hrow3 hb3 hb4 hw4 hw3
  go_upto_region 4 with (fail)
  try rw [HW3.out]
  rw [HW4.out]
  go_wp2_with (refine load_tab rfl _ rfl w.heap.size t HT4.out rfl ?_)
  refine HCT.out.mono ?_
  rintro e w5 ⟨rfl, v5, s5, k5, o5⟩
  have HL5 := Lib.hid (show Below w.heap.size w w5 from HB2.out.trans ((HB4.out.trans (k5.low HWS.out (by omega) (Nat.le_refl _))).mono (by have := HB2.out.size; omega)))
  obtain ⟨wd, hwd⟩ : ∃ wd, (wideB t.T.headI || wideB t.T.restI) = wd := ⟨_, rfl⟩
  rw [Bool.false_or, hwd] at s5
  rw [hwd] at HPB
  obtain ⟨B, hB⟩ : ∃ B, magicL ++ (numsB t.T.headI ++ (t.T.cls ++ numsB t.T.restI)) = B := ⟨_, rfl⟩
  rw [hB] at s5
  have hBB : t.T.body = B := hB
  have HBL := Lib.hid (show ∀ b ∈ B, b < 256 from by rw [← hBB]; exact body_lt HT4.out.mem.byte)
  have hBl : B.length ≤ 1099511627000 := by
    rw [← hB]
    simp only [List.length_append, numsB_length, HCL.out]
    show 5 + (4 * t.T.headI.length + (256 + 4 * t.T.restI.length)) ≤ _
    show 5 + (4 * 4 + (256 + 4 * t.T.restI.length)) ≤ _
    omega
  have HBB := Lib.hid hBB
  have c1 := s5.c1
  have c0 := s5.c0
  have HS5 := Lib.hid s5
  have hx5 := s5.lt
  obtain ⟨A5, c5, hv5, hry, hlc⟩ := s5.row.read
  subst hv5
  have HSUM := Lib.hid (sum_any A5 c5 B w5 hry HBL.out (by omega))
  clear hB hwd s5 k5 o5 hBB hry
  cases wd
  case true =>
    go_wp2_with (fail)
    go_ret2
    exact ⟨HL5.out, .inr ⟨HPB.out, rfl⟩⟩
  obtain ⟨sm, hsm⟩ : ∃ sm, sumL B = sm := ⟨_, rfl⟩
  rw [hsm] at HSUM
  have hsl : sm < 4294967296 := by rw [← hsm]; exact sumL_lt B
  have HSM := Lib.hid hsm
  have HSG := Lib.hid (signed_any sm hsl)
  obtain ⟨ws, hws⟩ : ∃ ws, w5.alloc (.cells #[.int .i64 (sgn sm)] 3) = ws := ⟨_, rfl⟩
  have HC7 := Lib.hid (num_new [sgn sm] HS5.out hws (by simp; omega))
  clear hsm
  go_wp2_with (fail)
  refine HSUM.out.mono ?_
  rintro e w6 ⟨rfl, rfl⟩
  go_wp2_with (fail)
  refine (HSG.out _).mono ?_
  rintro e w6 ⟨rfl, rfl⟩
  go_wp2_with (fail)
  refine HC7.out.mono ?_
  rintro e w7 ⟨rfl, v7, s7, k7, o7⟩
  have HL7 := Lib.hid (show Below w.heap.size w w7 from HL5.out.trans ((k7.low (B0 := w2.heap.size) HS5.out (by omega) (Nat.le_refl _)).mono (by have := HB2.out.size; omega)))
  have hby : B ++ numsB [sgn sm] = t.T.bytes := by
    unfold TabL.bytes
    rw [HBB.out, HSM.out, numsB_cons, numsB_nil, List.append_nil, bits_sgn hsl]
  rw [hby] at s7
  have c07 := s7.c0
  obtain ⟨A7, c7, hv7, hry7, hlc7⟩ := s7.row.read
  subst hv7
  have HRY := Lib.hid hry7
  clear s7 k7 o7 hby hry7 hws c0 c1
  go_wp2_with (fail)
  go_ret2
  exact ⟨HL7.out, .inl ⟨HPB.out, A7, c7, rfl, HRY.out, hlc7⟩⟩
end Go.Proofs.Ytgmkchkaceciiaa.Pk
