/- Texts of this proof, joined: PkPack, PkUnM, PkTinyM, PkRNum, PkRTerms, PkRFits. -/
import Derived.Test.YtboaifdkoemnbaaJ7
import Derived.Test.YtboaifdkoemnbaaJ14
import Derived.Test.YtboaifdkoemnbaaJ16
import Derived.Lib.SlBytesConst
import Derived.Laws.OwnMore
import Derived.Deep.RegionHeld3
import Derived.Deep.RegionLaw
import Derived.Deep.DeepCutAuto
/- The walk of pack.Pack: of any table. -/
namespace Go.Proofs.Ytboaifdkoemnbaa.Pk
set_option maxRecDepth 100000
open Go Go.RowKit Go.Proofs.Ytboaifdkoemnbaa.Sp Go.Proofs.Ytboaifdkoemnbaa.Pa Go.Proofs.Ytboaifdkoemnbaa.Te Go.Proofs.Ytboaifdkoemnbaa.Mi Go.Proofs.Ytboaifdkoemnbaa.De Go.Proofs.Ytboaifdkoemnbaa.Wo

/-- Has a table bytes? -/
noncomputable def packB (T : TabL) : Bool := propB (RightTab T) && !(wideB T.headI || wideB T.restI)
theorem body_lt {T : TabL} (h : ∀ c ∈ T.cls, c < 256) : ∀ b ∈ T.body, b < 256 := by
  intro b hb
  unfold TabL.body at hb
  rcases List.mem_append.1 hb with q | q
  · have : ∀ z ∈ magicL, z < 256 := by decide
    exact this b q
  rcases List.mem_append.1 q with q | q
  · exact numsB_lt q
  rcases List.mem_append.1 q with q | q
  · exact h b q
  · exact numsB_lt q
theorem RowW.read {bs : Nat} {v : Value} {L : List Nat} {w : World} (h : RowW bs v L w) : ∃ A c, v = .slice A L.length c ∧ RY w w.heap.size A L.length (byI L) ∧ L.length ≤ c := by
  rcases h with h | ⟨g, rfl, _, hg⟩
  · rcases h.2 with ⟨rfl, h0⟩ | ⟨g, cap, cur, rfl, hg, hr⟩
    · exact ⟨none, 0, by rw [h0], ⟨byI_length L, fun q => by omega⟩, by omega⟩
    · refine ⟨some ⟨g, 0, none⟩, cap, rfl, ⟨byI_length L, fun _ => ⟨g, 0, rfl, (h.lt g rfl).2, fun j hj => ?_⟩⟩, hr.2.1⟩
      rw [Nat.zero_add]
      rw [byI_length] at hj
      exact row_cell h j _ (by simp [byV, byI, hj])
  · refine ⟨_, _, rfl, ⟨byI_length L, fun _ => ⟨g, 0, rfl, (Array.getElem?_eq_some_iff.1 hg).1, fun j hj => ?_⟩⟩, Nat.le_refl _⟩
    rw [Nat.zero_add, cell_of_row w g j _ _ _ hg]
    rw [byI_length] at hj
    simp [byV, byI, hj]
def PackOut (T : TabL) (w : World) (e : Ending) (w' : World) : Prop := Below w.heap.size w w' ∧
  ((packB T = true ∧ ∃ A c, e = .returned (.tuple #[.slice A T.bytes.length c, .int .i64 0]) ∧ RY w' w'.heap.size A T.bytes.length (byI T.bytes) ∧ T.bytes.length ≤ c) ∨
   (packB T = false ∧ e = .returned (.tuple #[.slice none 0 0, .int .i64 2])))
set_option maxHeartbeats 8000000 in
theorem pack_any (t : TV) (w : World) (h : TM w t) (hR : t.T.restI.length ≤ 1000000000) : Calls Try.prog 9 #[t.val] w (PackOut t.T w) := by
  have hcl := h.cls
  obtain ⟨w1, hw1⟩ : ∃ w1, w.alloc (.cells t.cells.toArray 27) = w1 := ⟨_, rfl⟩
  have hT : TW w1 w.heap.size t := by rw [← hw1]; exact TW.boxed h
  have hs1 : w1.heap.size = w.heap.size + 1 := by rw [← hw1]; simp
  have HB := Lib.hid (show Below w.heap.size w w1 by rw [← hw1]; exact (Below.refl _ _).alloc (Nat.le_refl _) _)
  have HT1 := Lib.hid hT
  have HC := Lib.hid (tcheck_any t w1 hT.mem)
  have HCL := Lib.hid hcl
  have hval : t.val = .agg t.cells.toArray := rfl
  clear h hT hcl
  by_cases k1 : RightTab t.T
  case neg =>
    rw [propB_false k1] at HC
    have HP := Lib.hid (show packB t.T = false from by unfold packB; rw [propB_false k1]; rfl)
    clear k1
    rw [hval]
    clear hval
    go_enter Try.func9, Try.ntmps9
    go_wp2_with (refine load_tab rfl _ rfl w.heap.size t HT1.out rfl ?_)
    refine HC.out.mono ?_
    rintro e w2 ⟨rfl, hb2⟩
    have HB2 := Lib.hid (HB.out.trans (hb2.mono (by omega)))
    clear hb2
    go_wp2_with (fail)
    go_ret2
    exact ⟨HB2.out, .inr ⟨HP.out, rfl⟩⟩
  rw [propB_true k1] at HC
  have HK1 := Lib.hid k1
  have HPB := Lib.hid (show packB t.T = !(wideB t.T.headI || wideB t.T.restI) from by unfold packB; rw [propB_true k1]; rfl)
  clear k1
  rw [hval]
  clear hval
  go_enter Try.func9, Try.ntmps9
  go_wp2_with (refine load_tab rfl _ rfl w.heap.size t HT1.out rfl ?_)
  refine HC.out.mono ?_
  rintro e w2 ⟨rfl, hb2⟩
  have HT2 := Lib.hid (HT1.out.below hb2)
  have hz2 := hb2.size
  have HB2 := Lib.hid (HB.out.trans (hb2.mono (by omega)))
  clear hb2
  obtain ⟨w3, hw3⟩ : ∃ w3, w2.alloc (.cells #[.int .u8 117, .int .u8 109, .int .u8 108, .int .u8 116, .int .u8 49] 5 (5, 6)) = w3 := ⟨_, rfl⟩
  have hb3 : Below w2.heap.size w2 w3 := by rw [← hw3]; exact (Below.refl _ _).alloc (Nat.le_refl _) _
  have hs3 : w3.heap.size = w2.heap.size + 1 := by rw [← hw3]; simp
  have hrow3 : RowW w2.heap.size (.slice (some ⟨w2.heap.size, 0, none⟩) 5 5) magicL w3 := .inr ⟨w2.heap.size, rfl, Nat.le_refl _, by rw [← hw3]; exact heap_alloc_new w2 _⟩
  obtain ⟨w4, hw4⟩ : ∃ w4, w3.alloc (.cells #[.slice (some ⟨w2.heap.size, 0, none⟩) 5 5, .bool false] 54) = w4 := ⟨_, rfl⟩
  have hb4 : Below w3.heap.size w3 w4 := by rw [← hw4]; exact (Below.refl _ _).alloc (Nat.le_refl _) _
  have hs4 : w4.heap.size = w2.heap.size + 1 + 1 := by rw [← hw4, ← hs3]; simp
  have hws : WrS (w2.heap.size + 1) w2.heap.size (.slice (some ⟨w2.heap.size, 0, none⟩) 5 5) false magicL w4 := ⟨by rw [← hw4, ← hs3]; exact heap_alloc_new w3 _, hrow3.keep fun g e => hb4.block g (hrow3.lt g e).2, fun e => by
    simp only [Value.ownBlock, Option.some.injEq] at e
    omega, by omega⟩
  have HWS := Lib.hid hws
  have HB4 := Lib.hid (hb3.trans (hb4.mono (by omega)))
  have HT4 := Lib.hid (HT2.out.below HB4.out)
  have HCT := Lib.hid (wtable_any (w2.heap.size + 1) w2.heap.size (.slice (some ⟨w2.heap.size, 0, none⟩) 5 5) false magicL t w2 w4 hws HT2.out.mem HB4.out (by omega) (Nat.le_refl _) HK1.out.sizes.some_ (by show 5 + 4 * (t.T.restI.length + 4) + 256 ≤ _; omega))
  have hcv := Lib.run_convert_bytes_const (P := Try.prog) w2 30 5 #[.int .u8 117, .int .u8 109, .int .u8 108, .int .u8 116, .int .u8 49] 5 5 Try.underlying30 Try.underlying5
  have HW4 := Lib.hid hw4
  have HW3 := Lib.hid hw3
  clear hws hrow3 hb3 hb4 hw4 hw3
  go_upto_region 4 with (fail)
  try rw [HW3.out]
  rw [HW4.out]
  go_wp2_with (refine load_tab rfl _ rfl w.heap.size t HT4.out rfl ?_)
  refine HCT.out.mono ?_
  rintro e w5 ⟨rfl, v5, s5, k5, o5⟩
  have HL5 := Lib.hid (show Below w.heap.size w w5 from HB2.out.trans ((HB4.out.trans (k5.low HWS.out (by omega) (Nat.le_refl _))).mono (by have := HB2.out.size; omega)))
  obtain ⟨wd, hwd⟩ : ∃ wd, (wideB t.T.headI || wideB t.T.restI) = wd := ⟨_, rfl⟩
  rw [Bool.false_or, hwd] at s5
  rw [hwd] at HPB
  obtain ⟨B, hB⟩ : ∃ B, magicL ++ (numsB t.T.headI ++ (t.T.cls ++ numsB t.T.restI)) = B := ⟨_, rfl⟩
  rw [hB] at s5
  have hBB : t.T.body = B := hB
  have HBL := Lib.hid (show ∀ b ∈ B, b < 256 from by rw [← hBB]; exact body_lt HT4.out.mem.byte)
  have hBl : B.length ≤ 1099511627000 := by
    rw [← hB]
    simp only [List.length_append, numsB_length, HCL.out]
    show 5 + (4 * t.T.headI.length + (256 + 4 * t.T.restI.length)) ≤ _
    show 5 + (4 * 4 + (256 + 4 * t.T.restI.length)) ≤ _
    omega
  have HBB := Lib.hid hBB
  have c1 := s5.c1
  have c0 := s5.c0
  have HS5 := Lib.hid s5
  have hx5 := s5.lt
  obtain ⟨A5, c5, hv5, hry, hlc⟩ := s5.row.read
  subst hv5
  have HSUM := Lib.hid (sum_any A5 c5 B w5 hry HBL.out (by omega))
  clear hB hwd s5 k5 o5 hBB hry
  cases wd
  case true =>
    go_wp2_with (fail)
    go_ret2
    exact ⟨HL5.out, .inr ⟨HPB.out, rfl⟩⟩
  obtain ⟨sm, hsm⟩ : ∃ sm, sumL B = sm := ⟨_, rfl⟩
  rw [hsm] at HSUM
  have hsl : sm < 4294967296 := by rw [← hsm]; exact sumL_lt B
  have HSM := Lib.hid hsm
  have HSG := Lib.hid (signed_any sm hsl)
  obtain ⟨ws, hws⟩ : ∃ ws, w5.alloc (.cells #[.int .i64 (sgn sm)] 3) = ws := ⟨_, rfl⟩
  have HC7 := Lib.hid (num_new [sgn sm] HS5.out hws (by simp; omega))
  clear hsm
  go_wp2_with (fail)
  refine HSUM.out.mono ?_
  rintro e w6 ⟨rfl, rfl⟩
  go_wp2_with (fail)
  refine (HSG.out _).mono ?_
  rintro e w6 ⟨rfl, rfl⟩
  go_wp2_with (fail)
  refine HC7.out.mono ?_
  rintro e w7 ⟨rfl, v7, s7, k7, o7⟩
  have HL7 := Lib.hid (show Below w.heap.size w w7 from HL5.out.trans ((k7.low (B0 := w2.heap.size) HS5.out (by omega) (Nat.le_refl _)).mono (by have := HB2.out.size; omega)))
  have hby : B ++ numsB [sgn sm] = t.T.bytes := by
    unfold TabL.bytes
    rw [HBB.out, HSM.out, numsB_cons, numsB_nil, List.append_nil, bits_sgn hsl]
  rw [hby] at s7
  have c07 := s7.c0
  obtain ⟨A7, c7, hv7, hry7, hlc7⟩ := s7.row.read
  subst hv7
  have HRY := Lib.hid hry7
  clear s7 k7 o7 hby hry7 hws c0 c1
  go_wp2_with (fail)
  go_ret2
  exact ⟨HL7.out, .inl ⟨HPB.out, A7, c7, rfl, HRY.out, hlc7⟩⟩
end Go.Proofs.Ytboaifdkoemnbaa.Pk
/- What pack.Unpack asks of bytes, and that just a right table's bytes keep it. -/
namespace Go.Proofs.Ytboaifdkoemnbaa.Pk
set_option maxRecDepth 100000
open Go Go.RowKit Go.Proofs.Ytboaifdkoemnbaa.Sp Go.Proofs.Ytboaifdkoemnbaa.Pa Go.Proofs.Ytboaifdkoemnbaa.Te Go.Proofs.Ytboaifdkoemnbaa.Mi Go.Proofs.Ytboaifdkoemnbaa.De

theorem packB_iff {T : TabL} : packB T = true ↔ RightTab T ∧ (∀ x ∈ T.headI, In32 x) ∧ ∀ x ∈ T.restI, In32 x := by
  unfold packB
  rw [Bool.and_eq_true, propB_iff, Bool.not_eq_true', Bool.or_eq_false_iff, wideB_iff, wideB_iff]
theorem packB_fit {T : TabL} (hc : T.cls.length = 256) (h : packB T = true) : T.Fit := by
  obtain ⟨h1, h2, h3⟩ := packB_iff.1 h
  exact ⟨hc, fun n hn => (h1.sizes.each n hn).1, h2, h3⟩
theorem Fit_pack {T : TabL} (hf : T.Fit) (h : RightTab T) : packB T = true := packB_iff.2 ⟨h, hf.head, hf.rest⟩
/-- No table has these bytes. -/
def NoTab (L : List Nat) : Prop := ∀ T : TabL, T.cls.length = 256 → packB T = true → T.bytes ≠ L
theorem bytes_parts {T : TabL} {L : List Nat} (h : T.bytes = L) : 9 ≤ L.length ∧ L.take 5 = magicL ∧ L.take (L.length - 4) = T.body ∧ L.drop (L.length - 4) = num4 (sumL T.body) ∧ (L.take (L.length - 4)).drop 5 = numsB T.headI ++ (T.cls ++ numsB T.restI) := by
  have hl : T.bytes.length = T.body.length + 4 := by unfold TabL.bytes; rw [List.length_append, num4_length]
  have hm : 5 ≤ T.body.length := by
    unfold TabL.body
    rw [List.length_append]
    show 5 ≤ 5 + _
    omega
  subst h
  rw [hl, Nat.add_sub_cancel]
  have e1 : T.bytes.take T.body.length = T.body := List.take_left' rfl
  refine ⟨by omega, ?_, e1, List.drop_left' rfl, ?_⟩
  · unfold TabL.bytes TabL.body
    rw [List.append_assoc]
    exact List.take_left' rfl
  · rw [e1]
    exact List.drop_left' rfl
theorem no_short {L : List Nat} (h : L.length < 9) : NoTab L := fun _ _ _ e => by
  have := (bytes_parts e).1
  omega
theorem no_magic {L : List Nat} (h : L.take 5 ≠ magicL) : NoTab L := fun _ _ _ e => h (bytes_parts e).2.1
/-- The number that stands behind is the check. -/
theorem check_iff {L : List Nat} (hL : ∀ b ∈ L, b < 256) (h9 : 9 ≤ L.length) : (rdNum ⟨L.drop (L.length - 4), false⟩).1 = sgn (sumL (L.take (L.length - 4))) ↔ L.drop (L.length - 4) = num4 (sumL (L.take (L.length - 4))) := by
  have hlen : (L.drop (L.length - 4)).length = 4 := by rw [List.length_drop]; omega
  have hlt := sumL_lt (L.take (L.length - 4))
  obtain ⟨D, hD⟩ : ∃ D, L.drop (L.length - 4) = D := ⟨_, rfl⟩
  obtain ⟨m, hm⟩ : ∃ m, sumL (L.take (L.length - 4)) = m := ⟨_, rfl⟩
  have hDl : ∀ b ∈ D, b < 256 := fun b hb => hL b (by rw [← hD] at hb; exact List.mem_of_mem_drop hb)
  rw [hD] at hlen ⊢
  rw [hm] at hlt ⊢
  unfold rdNum
  cases h : rdN D with
  | none => exact absurd (rdN_none.1 h) (by omega)
  | some p =>
    obtain ⟨x, r⟩ := p
    obtain ⟨h1, h2⟩ := rdN_some hDl h
    have hr : r = [] := List.eq_nil_of_length_eq_zero (by rw [h2, List.length_append, num4_length] at hlen; omega)
    rw [hr, List.append_nil] at h2
    simp only
    constructor
    · intro e
      rw [h2, e, bits_sgn hlt]
    · intro e
      have : num4 (bits x) = num4 m := by rw [← h2, e]
      rw [← num4_inj (bits_lt x) hlt this, sgn_bits h1]
theorem no_check {L : List Nat} (hL : ∀ b ∈ L, b < 256) (h9 : 9 ≤ L.length) (h : (rdNum ⟨L.drop (L.length - 4), false⟩).1 ≠ sgn (sumL (L.take (L.length - 4)))) : NoTab L := fun _ _ _ e => h ((check_iff hL h9).2 (by
  obtain ⟨_, _, e3, e4, _⟩ := bytes_parts e
  rw [e4, e3]))
/-- What a table's reader finds in a right table's bytes. -/
theorem found {T : TabL} {L : List Nat} (hc : T.cls.length = 256) (hp : packB T = true) (e : T.bytes = L) : rdTab ⟨(L.take (L.length - 4)).drop 5, false⟩ = (T, ⟨[], false⟩) := by
  obtain ⟨_, _, _, _, e5⟩ := bytes_parts e
  obtain ⟨hr, _, _⟩ := packB_iff.1 hp
  have := rdTab_finds (packB_fit hc hp) hr.sizes.w2 hr.sizes.nodes hr.sizes.acts hr.sizes.ends (fun a ha => (hr.acts a ha).2.2.2.2) hr.ends []
  rw [List.append_nil] at this
  rw [e5]
  exact this
theorem no_read {L : List Nat} (h : (rdTab ⟨(L.take (L.length - 4)).drop 5, false⟩).2.wrong = true ∨ 0 < (rdTab ⟨(L.take (L.length - 4)).drop 5, false⟩).2.left.length ∨ ¬ RightTab (rdTab ⟨(L.take (L.length - 4)).drop 5, false⟩).1) : NoTab L := fun T hc hp e => by
  rw [found hc hp e] at h
  rcases h with h | h | h
  · cases h
  · simp at h
  · exact h (packB_iff.1 hp).1
theorem tab_read {L : List Nat} (hL : ∀ b ∈ L, b < 256) (h9 : 9 ≤ L.length) (hm : L.take 5 = magicL) (hs : (rdNum ⟨L.drop (L.length - 4), false⟩).1 = sgn (sumL (L.take (L.length - 4))))
    (hw : (rdTab ⟨(L.take (L.length - 4)).drop 5, false⟩).2.wrong = false) (hl : (rdTab ⟨(L.take (L.length - 4)).drop 5, false⟩).2.left = []) (hr : RightTab (rdTab ⟨(L.take (L.length - 4)).drop 5, false⟩).1) :
    (rdTab ⟨(L.take (L.length - 4)).drop 5, false⟩).1.bytes = L ∧ packB (rdTab ⟨(L.take (L.length - 4)).drop 5, false⟩).1 = true ∧ (rdTab ⟨(L.take (L.length - 4)).drop 5, false⟩).1.cls.length = 256 := by
  have hs := (check_iff hL h9).1 hs
  obtain ⟨R, hR⟩ : ∃ R, (L.take (L.length - 4)).drop 5 = R := ⟨_, rfl⟩
  rw [hR] at hw hl hr ⊢
  have hRb : ∀ y ∈ R, y < 256 := fun y hy => hL y (by rw [← hR] at hy; exact List.mem_of_mem_take (List.mem_of_mem_drop hy))
  obtain ⟨_, hf, ht⟩ := rdTab_tells ⟨R, false⟩ hRb hw (fun q => by have := hr.sizes.some_; rw [q] at this; simp at this)
  refine ⟨?_, Fit_pack hf hr, hf.cls⟩
  rw [hl, List.append_nil] at ht
  have hb : (rdTab ⟨R, false⟩).1.body = L.take (L.length - 4) := by
    unfold TabL.body
    have h5 : (L.take (L.length - 4)).take 5 = magicL := by
      rw [List.take_take, Nat.min_eq_left (by omega)]
      exact hm
    have := List.take_append_drop 5 (L.take (L.length - 4))
    rw [h5, hR] at this
    rw [← this]
    congr 1
    exact ht.symm
  unfold TabL.bytes
  rw [hb, ← hs]
  exact List.take_append_drop _ _
end Go.Proofs.Ytboaifdkoemnbaa.Pk
/- The tiny table is right, and two sums. -/
namespace Go.Proofs.Ytboaifdkoemnbaa.Pk
set_option maxRecDepth 100000
open Go Go.RowKit Go.Proofs.Ytboaifdkoemnbaa.Sp Go.Proofs.Ytboaifdkoemnbaa.Pa Go.Proofs.Ytboaifdkoemnbaa.Te Go.Proofs.Ytboaifdkoemnbaa.Mi Go.Proofs.Ytboaifdkoemnbaa.De

theorem sum_a : sumL [97] = 3826002220 := by
  unfold sumL step
  decide
theorem tiny_term : termsOk 0 [⟨0, 0, 21, 0, 120, []⟩] = true := by
  unfold termsOk termOk rightT
  simp only [List.all_cons, List.all_nil, Bool.and_true, partsB]
  have : numB 0 0 21 0 120 [] = true := by
    unfold numB
    have hr : riseB [] = true := riseB_true (k := 0) (by unfold RiseTo; intro i; omega) (Nat.le_refl _)
    simp [hr]
    decide
  simp [this]
theorem tiny_rt : RightTab tinyT := by
  refine ⟨⟨by decide, by decide, by decide, by decide, by decide, by decide, rfl, fun n hn => ?_, fun c hc => ?_⟩, fun a ha => absurd ha (List.not_mem_nil), fun l hl => ?_, fun n hn => ?_⟩
  · rw [List.mem_singleton.1 (show n ∈ [((0 : Int), (0 : Int), [(-1 : Int)])] from hn)]
    exact ⟨rfl, by decide, by decide⟩
  · rw [List.eq_of_mem_replicate (show c ∈ List.replicate 256 0 from hc)]
    decide
  · rw [List.mem_singleton.1 (show l ∈ [[(⟨0, 0, 21, 0, 120, []⟩ : TmL)]] from hl)]
    decide
  · rw [List.mem_singleton.1 (show n ∈ [((0 : Int), (0 : Int), [(-1 : Int)])] from hn)]
    refine ⟨.inr ⟨by decide, _, rfl, tiny_term⟩, fun x hx => .inl (List.mem_singleton.1 hx)⟩
theorem tiny_pack : packB tinyT = true := packB_iff.2 ⟨tiny_rt, wideB_iff.1 (by decide), wideB_iff.1 (by decide)⟩
theorem tiny_count : tinyT.restI.length = 10 := rfl
end Go.Proofs.Ytboaifdkoemnbaa.Pk
/- ref18: num, small; bytes that a call appends to a row of its own. -/
namespace Go.Proofs.Ytboaifdkoemnbaa.Pk
set_option maxRecDepth 100000
open Go Go.RowKit Go.Proofs.Ytboaifdkoemnbaa.Sp Go.Proofs.Ytboaifdkoemnbaa.Pa Go.Proofs.Ytboaifdkoemnbaa.Te Go.Proofs.Ytboaifdkoemnbaa.Mi Go.Proofs.Ytboaifdkoemnbaa.De Go.Proofs.Ytboaifdkoemnbaa.Wo

/-- A call answers new bytes. -/
def NewB (L : List Nat) (w : World) (e : Ending) (w' : World) : Prop := ∃ A c, e = .returned (.slice A L.length c) ∧ RowW w.heap.size (.slice A L.length c) L w' ∧ Below w.heap.size w w'
theorem rowW_lit (w : World) (l : List Nat) (n : Nat) (hn : l.length = n) (hm : n ≤ maxLen) : RowW w.heap.size (.slice (some ⟨w.heap.size, 0, none⟩) n n) l (w.alloc (.cells (byV l).toArray 5)) := by
  subst hn
  refine .inl ?_
  have := World.ownsRow_lit (base := w.heap.size) (e := 5) (size := 1) w (byV l).toArray l.length (Nat.le_refl _) hm (by simp [byV_length])
  simpa using this
theorem RowW.mono {bs bs' : Nat} {v : Value} {L : List Nat} {w : World} (h : RowW bs v L w) (hb : bs' ≤ bs) : RowW bs' v L w := by
  rcases h with h | ⟨g, e, hg, hh⟩
  · exact .inl ⟨h.1, by
      rcases h.2 with q | ⟨g, cap, cur, e, hg, hr⟩
      · exact .inl q
      · exact .inr ⟨g, cap, cur, e, by omega, hr⟩⟩
  · exact .inr ⟨g, e, by omega, hh⟩
theorem RowW.belowM {bs : Nat} {v : Value} {L : List Nat} {w w' : World} (h : RowW bs v L w) (hb : Below w.heap.size w w') : RowW bs v L w' := h.keep fun g e => hb.block g (h.lt g e).2
theorem grown_low {w w' : World} {v : Value} {L : List Nat} {bs : Nat} (hrow : RowW bs v L w) (hbs : bs ≤ w.heap.size) (h : w.grownBy w' v.ownBlock) : Below bs w w' :=
  ⟨h.os, h.tape, h.output, h.size, fun b hb => h.block b (by omega) (fun e => by have := (hrow.lt b e.symm).1; omega)⟩
theorem wpList_append_B {w : World} {ops : Array Oper} {rest : List Oper} {o : Oper} {a : Act} {Q : Exit → Act → World → Prop} (hgd : o.guard = none) (s x : Operand)
    (ho : o.op = .call { callee := .builtin .append, args := #[s, x], argTypes := #[30, 30] })
    {bs b2 : Nat} {v : Value} {L L2 : List Nat} {A : Option Addr} {c : Nat} (hs : a.eval s = v) (hrow : RowW bs v L w) (hx : a.eval x = .slice A L2.length c) (h2 : RowW b2 (.slice A L2.length c) L2 w) (hm : 0 < L2.length) (hb : L.length + L2.length ≤ 1099511627776) (hbase : bs ≤ w.heap.size)
    (h : ∀ v' w', RowW bs v' (L ++ L2) w' → w.grownBy w' v.ownBlock → OwnN v v' w → wpList Try.prog ops Q rest (a.put o.dst v') w') : wpList Try.prog ops Q (o :: rest) a w := by
  obtain ⟨A1, c1, e1, hry, hlc⟩ := h2.read
  injection e1 with eA _ ec
  subst eA ec
  obtain ⟨b, off, hA, hbB, hcell⟩ := hry.2 hm
  subst hA
  refine wpList_append_W hgd s x ho hs hrow ⟨b, off, none⟩ L2.length c (byV L2) hx (byV_length _) (fun j u hj => ?_) (fun u hu => ?_) hm hb hbase (fun v' w' ho hg hn => h v' w' (.inl ?_) hg hn)
  · have hj2 : j < (byI L2).length := by
      rcases Nat.lt_or_ge j (byV L2).length with q | q
      · rw [byV_length] at q; rw [byI_length]; exact q
      · rw [List.getElem?_eq_none q] at hj; cases hj
    have := hcell j hj2
    rw [Go.WideShapes.add_plain, this]
    unfold byV at hj
    rw [List.getElem?_map, List.getElem?_eq_getElem hj2] at hj
    exact hj
  · obtain ⟨z, _, rfl⟩ := List.mem_map.1 hu
    rfl
  · rw [List.length_append, byV_append]
    exact ho
set_option maxHeartbeats 2000000 in
theorem num_any (x : Int) (w : World) : Calls Try.prog 22 #[.int .i64 x] w (NewB (num4 (bits x)) w) := by
  have hu := wrap32_bits x
  have hub := bits_lt x
  obtain ⟨u, hu2⟩ : ∃ u, bits x = u := ⟨_, rfl⟩
  rw [hu2] at hu hub ⊢
  have HV := Lib.hid (num4_vals hub)
  have HL := Lib.hid (rowW_lit w (num4 u) 4 rfl (by unfold maxLen; omega))
  clear hu2
  go_enter Try.func22, Try.ntmps22
  go_wp2_with (fail)
  go_ret
  refine ⟨some ⟨w.heap.size, 0, none⟩, 4, rfl, ?_, (Below.refl _ _).alloc (Nat.le_refl _) _⟩
  have h := HL.out
  rw [← HV.out] at h
  exact h
theorem small32_yes {x : Int} (h : In32 x) (w : World) : Calls Try.prog 37 #[.int .i64 x] w (Sp.RetW (.bool true) w) := by
  obtain ⟨k1, k2⟩ := h
  go_enter Try.func37, Try.ntmps37
  go_wp2_with (fail)
  go_ret
  exact ⟨rfl, rfl⟩
theorem small32_no {x : Int} (h : ¬ In32 x) (w : World) : Calls Try.prog 37 #[.int .i64 x] w (Sp.RetW (.bool false) w) := by
  by_cases k1 : -2147483648 ≤ x
  case neg =>
    go_enter Try.func37, Try.ntmps37
    go_wp2_with (fail)
    go_ret
    exact ⟨rfl, rfl⟩
  have k2 : ¬ x ≤ 2147483647 := fun k2 => h ⟨k1, k2⟩
  clear h
  go_enter Try.func37, Try.ntmps37
  go_wp2_with (fail)
  go_ret
  exact ⟨rfl, rfl⟩
end Go.Proofs.Ytboaifdkoemnbaa.Pk
/- The walk of ref18.terms. -/
namespace Go.Proofs.Ytboaifdkoemnbaa.Pk
set_option maxRecDepth 100000
open Go Go.RowKit Go.Proofs.Ytboaifdkoemnbaa.Sp Go.Proofs.Ytboaifdkoemnbaa.Pa Go.Proofs.Ytboaifdkoemnbaa.Te Go.Proofs.Ytboaifdkoemnbaa.Mi Go.Proofs.Ytboaifdkoemnbaa.De Go.Proofs.Ytboaifdkoemnbaa.Wo

/-- Bytes in a row of the call's own, all else as it was. -/
def OB (w : World) (v : Value) (L : List Nat) (wr : World) : Prop := RowW w.heap.size v L wr ∧ Below w.heap.size w wr
def ApN (nv bv : Value) : Prop := ∀ g, nv.ownBlock = some g → bv.ownBlock ≠ some g
def T8Rel (ts : List TmL) (w : World) (bv iv : Value) (wr : World) : Prop := ∃ (k : Nat) (v : Value), k ≤ ts.length ∧ iv = .int .i64 k ∧ v = bv ∧ OB w v (numsB ((ts.length : Int) :: (ts.take k).flatMap termI)) wr
def N1Rel (B : Nat) (ps : List PT) (l0 : List Int) (w5 : World) (nv iv : Value) (wr : World) : Prop := ∃ (m : Nat) (v : Value), m ≤ ps.length ∧ iv = .int .i64 m ∧ v = nv ∧ OwnsI wr B v (l0 ++ (ps.take m).flatMap partI) ∧ Below w5.heap.size w5 wr
def N2Rel (B : Nat) (w : World) (L0 : List Nat) (nv : Value) (ns : List Int) (bv iv : Value) (wr : World) : Prop := ∃ (j : Nat) (v : Value), j ≤ ns.length ∧ iv = .int .i64 j ∧ v = bv ∧ OB w v (L0 ++ numsB (ns.take j)) wr ∧ OwnsI wr B nv ns ∧ ApN nv v
theorem ownsI_shape {w : World} {base : Nat} {v : Value} {l : List Int} (h : OwnsI w base v l) : ∃ A c, v = .slice A l.length c := by
  rcases h.2 with ⟨rfl, hn⟩ | ⟨g, cap, cur, rfl, _⟩
  · exact ⟨none, 0, by rw [hn]⟩
  · exact ⟨_, _, rfl⟩
theorem new_ints (w : World) (l : List Int) (n : Nat) (hn : l.length = n) (hm : n ≤ maxLen) : ∃ ws, w.alloc (.cells ((l.map (Value.int .i64)).toArray) 3) = ws ∧ OwnsI ws w.heap.size (.slice (some ⟨w.heap.size, 0, none⟩) n n) l ∧ Below w.heap.size w ws ∧ ws.heap.size = w.heap.size + 1 ∧ ws.heap[w.heap.size]? = some (.cells ((l.map (Value.int .i64)).toArray) 3 (0, 0)) := by
  subst hn
  refine ⟨_, rfl, ?_, (Below.refl _ _).alloc (Nat.le_refl _) _, by simp, heap_alloc_new w _⟩
  have := World.ownsRow_lit (base := w.heap.size) (e := 3) (size := 1) w (l.map (Value.int .i64)).toArray l.length (Nat.le_refl _) hm (by simp)
  unfold OwnsI
  simpa using this
theorem infoIntR : (Try.prog.info? 3).map (fun i => (i.zero, i.size, i.bytes)) = some (some (.int .i64 0), 1, 8) := by kernel_rfl
set_option maxHeartbeats 8000000 in
theorem terms18_any (A : Option Addr) (c : Nat) (ts : List TmL) (w : World) (h : RTm w A ts.length ts) (hL : (termsI ts).length ≤ 1000000000) :
    Calls Try.prog 24 #[.slice A ts.length c] w (NewB (numsB (termsI ts)) w) := by
  obtain ⟨i0, hi0, hz0, hz1, hz2⟩ := info_parts infoIntR
  have htl := flatT_count ts
  have hL1 : (ts.flatMap termI).length + 1 ≤ 1000000000 := hL
  have hts : ts.length ≤ 1000000000 := by omega
  have HR := Lib.hid h
  have HFL := Lib.hid (fun k (hk : k < ts.length) => flatT_next hk)
  have HFT := Lib.hid (fun k => flatT_take ts k)
  clear h hL
  go_enter Try.func24, Try.ntmps24
  go_wp2_with (fail)
  refine (num_any _ _).mono ?_
  rintro e w1 ⟨A1, c1, rfl, hrow1, hb1⟩
  have HS := Lib.hid (show OB w (.slice A1 (num4 (bits (ts.length : Int))).length c1) (numsB ((ts.length : Int) :: (ts.take 0).flatMap termI)) w1 from ⟨by simpa [numsB] using hrow1, hb1⟩)
  clear hrow1 hb1
  go_wp2_with (fail)
  go_loopw [3, 4] (fun bv iv wr => T8Rel ts w bv iv wr) (fun _ i _ => ts.length - (intOf i).toNat)
  case atStart => exact ⟨0, _, Nat.zero_le _, rfl, rfl, HS.out⟩
  case round =>
    obtain ⟨k, bv, hk, rfl, rfl, hob⟩ := hrel
    obtain ⟨wo, rfl⟩ : ∃ wo : World, wo = wr := ⟨_, rfl⟩
    by_cases hlt : k < ts.length
    case neg =>
      rw [List.take_of_length_le (by omega)] at hob
      obtain ⟨M, hM⟩ : ∃ M, numsB (termsI ts) = M := ⟨_, rfl⟩
      have hM' : numsB ((ts.length : Int) :: ts.flatMap termI) = M := hM
      rw [hM'] at hob
      obtain ⟨Ax, cx, hbv⟩ := hob.1.shape
      subst hbv
      have HF := Lib.hid (show NewB (numsB (termsI ts)) w (.returned (.slice Ax M.length cx)) wo from by rw [hM]; exact ⟨Ax, cx, rfl, hob.1, hob.2⟩)
      clear hob hM hM'
      go_wp2_with (fail)
      go_ret
      exact HF.out
    have HOB := Lib.hid hob
    obtain ⟨b, off, hA, hbB, d0, d1, d2, d3, d4, A', c', d5, hp, hc, hmm⟩ := (HR.out.belowM hob.2).at_ hlt
    have hfk := HFL.out k hlt
    rw [termI_len] at hfk
    obtain ⟨t, ht⟩ : ∃ t, ts[k] = t := ⟨_, rfl⟩
    have HTK := Lib.hid (show (ts.take (k + 1)).flatMap termI = (ts.take k).flatMap termI ++ termI t by rw [List.take_succ_eq_append_getElem hlt, List.flatMap_append, ht]; simp)
    rw [ht] at d0 d1 d2 d3 d4 d5 hp hc hmm hfk
    obtain ⟨tb, td, tt, tu, tz, ps⟩ := t
    simp only at d0 d1 d2 d3 d4 d5 hp hc hmm hfk
    obtain ⟨w5, hw5⟩ : ∃ w5, wo.alloc (.cells (tcells tb td tt tu tz A' ps.length c') 71) = w5 := ⟨_, rfl⟩
    have hs5 : w5.heap.size = wo.heap.size + 1 := by rw [← hw5]; simp
    have hb5 : Below wo.heap.size wo w5 := by rw [← hw5]; exact (Below.refl _ _).alloc (Nat.le_refl _) _
    have HBX := Lib.hid (fun W (h : W.heap[wo.heap.size]? = w5.heap[wo.heap.size]?) => show Boxed6 W wo.heap.size tb td tt tu tz A' ps.length c' from by
      have e : ∀ j, W.cell? ⟨wo.heap.size, j, none⟩ = w5.cell? ⟨wo.heap.size, j, none⟩ := fun j => World.cell?_of_block h
      have h5 : w5.heap[wo.heap.size]? = some (.cells (tcells tb td tt tu tz A' ps.length c') 71 (0, 0)) := by rw [← hw5]; exact heap_alloc_new wo _
      unfold Boxed6
      simp only [e, cell_of_row w5 wo.heap.size _ _ _ _ h5]
      exact ⟨rfl, rfl, rfl, rfl, rfl, rfl⟩)
    have HP5 := Lib.hid (hp.belowM hb5)
    have HB5 := Lib.hid hb5
    have HS5 := Lib.hid hs5
    obtain ⟨r0, r1, r2, r3, r4, r5⟩ := HBX.out w5 rfl
    obtain ⟨w6, hw6, hown6, hb6, hs6, hq6⟩ := new_ints w5 [tb, td, tt, tu, tz, (ps.length : Int)] 6 rfl (by unfold maxLen; omega)
    simp only [List.map_cons, List.map_nil] at hw6
    rw [hs5] at hown6
    have HO6 := Lib.hid hown6
    have HB6 := Lib.hid hb6
    subst hA
    have HML := Lib.hid hmm
    unfold maxLen at hmm
    have hpl : ps.length ≤ 1000000000 := by omega
    have HFK := Lib.hid hfk
    have HOLT := Lib.hid (show ∀ g, bv.ownBlock = some g → w.heap.size ≤ g ∧ g < wo.heap.size from fun g e => hob.1.lt g e)
    have HZO := Lib.hid hob.2.size
    clear ht hp hc hob hb5 hown6 hb6 hs6 hq6 hmm hfk
    go_upto_region 7 with (fail)
    have HW5 := Lib.hid hw5
    have HW6 := Lib.hid hw6
    clear hw5 hw6 hs5 r0 r1 r2 r3 r4 r5 d0 d1 d2 d3 d4 d5
    go_wp2_with (fail)
    go_loopw [6, 7] (fun nv iv wr => N1Rel (wo.heap.size + 1) ps [tb, td, tt, tu, tz, (ps.length : Int)] w5 nv iv wr) (fun _ i _ => ps.length - (intOf i).toNat)
    case atStart => exact ⟨0, _, Nat.zero_le _, rfl, rfl, by simpa using HO6.out, HB6.out⟩
    case round =>
      obtain ⟨m, nv, hm, rfl, rfl, hnv, hbx⟩ := hrel
      obtain ⟨wn, rfl⟩ : ∃ wn : World, wn = wr := ⟨_, rfl⟩
      obtain ⟨r0, r1, r2, r3, r4, r5⟩ := HBX.out wn (hbx.block _ (by have := HS5.out; omega))
      have HNV := Lib.hid hnv
      have HBN := Lib.hid hbx
      obtain ⟨Av, cv, hsh⟩ := ownsI_shape hnv
      obtain ⟨ns, hns⟩ : ∃ ns, [tb, td, tt, tu, tz, (ps.length : Int)] ++ (ps.take m).flatMap partI = ns := ⟨_, rfl⟩
      have hnl : ns.length = 6 + 4 * m := by rw [← hns, List.length_append, flat_len, List.length_take, Nat.min_eq_left hm]; rfl
      rw [hns] at HNV hsh
      by_cases hlt2 : m < ps.length
      · obtain ⟨b7, off7, pa, pd, pt, pu, hA7, hb7, hlk, c70, c71, c72, c73⟩ := HP5.out.at_ hlt2
        obtain ⟨r0, r1, r2, r3, r4, r5⟩ := HBX.out w5 rfl
        have HXA := Lib.hid hA7
        rw [hA7] at r5
        obtain ⟨hlj, hej⟩ := hlk
        have HPK := Lib.hid (show [tb, td, tt, tu, tz, (ps.length : Int)] ++ (ps.take (m + 1)).flatMap partI = ns ++ [pa, pd, pt, pu] by rw [← hns, List.append_assoc, List.take_succ_eq_append_getElem hlj, List.flatMap_append, hej]; simp [partI])
        have HNEW := Lib.hid (fun W => new_ints W [pa, pd, pt, pu] 4 rfl (by unfold maxLen; omega))
        have HOW := Lib.hid (fun W (hW : Below wn.heap.size wn W) => show OwnsI W (wo.heap.size + 1) nv ns from ownsI_keep HNV.out hW)
        have HZN := Lib.hid (show wo.heap.size + 1 ≤ wn.heap.size from by have := hbx.size; have := HS5.out; omega)
        have HXB := Lib.hid (show b7 < w5.heap.size from hb7)
        have HZB := Lib.hid (show wo.heap.size < w5.heap.size from by have := HS5.out; omega)
        have HBW := Lib.hid (fun (W w7 : World) (hW : Below wn.heap.size wn W) (h2 : W.grownBy w7 nv.ownBlock) => show Below w5.heap.size w5 w7 from by
              have hz := HS5.out
              have hwz := hW.size
              refine HBN.out.trans ((hW.mono HBN.out.size).trans ⟨h2.os, h2.tape, h2.output, h2.size, fun q hq => h2.block q (by have := HBN.out.size; omega) fun e => ?_⟩)
              have := (World.ownsRow.lt HNV.out q e.symm).1
              omega)
        have HBE := Lib.hid (fun (W : World) (hW : Below wn.heap.size wn W) => show Below w5.heap.size w5 W from HBN.out.trans (hW.mono HBN.out.size))
        have HLN := Lib.hid hnl
        have hnb : ns.length + 4 ≤ 4000000010 := by omega
        have HFIN := Lib.hid (fun (W w7 : World) (gg capg : Nat) (hW : Below wn.heap.size wn W) (h1 : w7.ownsRow (wo.heap.size + 1) 3 1 (.slice (some ⟨gg, 0, none⟩) (ns.length + 4) capg) (ns.length + 4) (ns.map (Value.int .i64) ++ [pa, pd, pt, pu].map (Value.int .i64))) (h2 : W.grownBy w7 nv.ownBlock) =>
          show N1Rel (wo.heap.size + 1) ps [tb, td, tt, tu, tz, (ps.length : Int)] w5 (.slice (some ⟨gg, 0, none⟩) (ns.length + 4) capg) (.int .i64 ((m : Int) + 1)) w7 from
            ⟨m + 1, _, by omega, by go_num, rfl, by
              rw [HPK.out]
              unfold OwnsI
              rw [List.map_append]
              exact (show (ns ++ [pa, pd, pt, pu]).length = ns.length + 4 by simp) ▸ h1, HBW.out W w7 hW h2⟩)
        subst hsh
        clear hnv hbx hej hA7 hb7 hns hnl
        go_upto_region 10 with (fail)
        obtain ⟨we, hwe⟩ : ∃ we, wn.drew = we := ⟨_, rfl⟩
        have hB : Below wn.heap.size wn we := by rw [← hwe]; exact (Below.refl _ _).drew
        refine wp_region_held_drew (S := fun W => Below w5.heap.size w5 W) (by kernel_rfl) (by rw [hwe]; exact HBE.out _ hB) (fun hHeld => ?_)
        rw [hwe]
        rw [hwe] at hHeld
        clear hwe
        refine wpAnyH_take (i := 0) (oi := { dst := some 43, op := Go.Op.move (Go.Operand.tmp 6), type := 43, pos := "ref.go:25", after := #[], guard := none }) (v := ?_) rfl (by kernel_rfl) (by kernel_rfl) (by kernel_rfl) (fun _ _ _ h => h) (Or.inl ⟨by rfl, ?_⟩) (by assumption) ?_
        rotate_left
        · intro w' hSw
          (try dsimp only at hSw)
          have y0 := (hSw.cell (p := ⟨wo.heap.size, 5, none⟩) HZB.out).trans r5
          have y1 := (hSw.cell (p := ⟨b7, off7 + m * 4, none⟩) HXB.out).trans c70
          have y2 := (hSw.cell (p := ⟨b7, off7 + m * 4 + 1, none⟩) HXB.out).trans c71
          have y3 := (hSw.cell (p := ⟨b7, off7 + m * 4 + 2, none⟩) HXB.out).trans c72
          have y4 := (hSw.cell (p := ⟨b7, off7 + m * 4 + 3, none⟩) HXB.out).trans c73
          go_simp
          all_goals with_reducible rfl
        try simp only [Act.put, List.setIfInBounds_toArray, List.set_cons_zero, List.set_cons_succ]
        refine wpAnyH_take (i := 1) (oi := { dst := some 44, op := Go.Op.fieldAddr 71 (Go.Operand.tmp 5) 5, type := 0, pos := "ref.go:25", after := #[], guard := none }) (v := ?_) rfl (by kernel_rfl) (by kernel_rfl) (by kernel_rfl) (fun _ _ _ h => h) (Or.inl ⟨by rfl, ?_⟩) (by assumption) ?_
        rotate_left
        · intro w' hSw
          (try dsimp only at hSw)
          have y0 := (hSw.cell (p := ⟨wo.heap.size, 5, none⟩) HZB.out).trans r5
          have y1 := (hSw.cell (p := ⟨b7, off7 + m * 4, none⟩) HXB.out).trans c70
          have y2 := (hSw.cell (p := ⟨b7, off7 + m * 4 + 1, none⟩) HXB.out).trans c71
          have y3 := (hSw.cell (p := ⟨b7, off7 + m * 4 + 2, none⟩) HXB.out).trans c72
          have y4 := (hSw.cell (p := ⟨b7, off7 + m * 4 + 3, none⟩) HXB.out).trans c73
          go_simp
          all_goals with_reducible rfl
        try simp only [Act.put, List.setIfInBounds_toArray, List.set_cons_zero, List.set_cons_succ]
        refine wpAnyH_take (i := 2) (oi := { dst := some 45, op := Go.Op.load 69 (Go.Operand.tmp 44), type := 69, pos := "ref.go:25", after := #[{ on := 1, ground := Go.Ground.data }], guard := none }) (v := ?_) rfl (by kernel_rfl) (by kernel_rfl) (by kernel_rfl) (fun _ _ _ h => h) (Or.inl ⟨by rfl, ?_⟩) (by assumption) ?_
        rotate_left
        · intro w' hSw
          (try dsimp only at hSw)
          have y0 := (hSw.cell (p := ⟨wo.heap.size, 5, none⟩) HZB.out).trans r5
          have y1 := (hSw.cell (p := ⟨b7, off7 + m * 4, none⟩) HXB.out).trans c70
          have y2 := (hSw.cell (p := ⟨b7, off7 + m * 4 + 1, none⟩) HXB.out).trans c71
          have y3 := (hSw.cell (p := ⟨b7, off7 + m * 4 + 2, none⟩) HXB.out).trans c72
          have y4 := (hSw.cell (p := ⟨b7, off7 + m * 4 + 3, none⟩) HXB.out).trans c73
          go_simp
          all_goals with_reducible rfl
        try simp only [Act.put, List.setIfInBounds_toArray, List.set_cons_zero, List.set_cons_succ]
        refine wpAnyH_take (i := 3) (oi := { dst := some 46, op := Go.Op.move (Go.Operand.tmp 7), type := 3, pos := "ref.go:25", after := #[], guard := none }) (v := ?_) rfl (by kernel_rfl) (by kernel_rfl) (by kernel_rfl) (fun _ _ _ h => h) (Or.inl ⟨by rfl, ?_⟩) (by assumption) ?_
        rotate_left
        · intro w' hSw
          (try dsimp only at hSw)
          have y0 := (hSw.cell (p := ⟨wo.heap.size, 5, none⟩) HZB.out).trans r5
          have y1 := (hSw.cell (p := ⟨b7, off7 + m * 4, none⟩) HXB.out).trans c70
          have y2 := (hSw.cell (p := ⟨b7, off7 + m * 4 + 1, none⟩) HXB.out).trans c71
          have y3 := (hSw.cell (p := ⟨b7, off7 + m * 4 + 2, none⟩) HXB.out).trans c72
          have y4 := (hSw.cell (p := ⟨b7, off7 + m * 4 + 3, none⟩) HXB.out).trans c73
          go_simp
          all_goals with_reducible rfl
        try simp only [Act.put, List.setIfInBounds_toArray, List.set_cons_zero, List.set_cons_succ]
        refine wpAnyH_take (i := 4) (oi := { dst := some 47, op := Go.Op.indexAddr 69 (Go.Operand.tmp 45) (Go.Operand.tmp 46), type := 0, pos := "ref.go:25", after := #[{ on := 2, ground := Go.Ground.data }, { on := 3, ground := Go.Ground.data }], guard := none }) (v := ?_) rfl (by kernel_rfl) (by kernel_rfl) (by kernel_rfl) (fun _ _ _ h => h) (Or.inl ⟨by rfl, ?_⟩) (by assumption) ?_
        rotate_left
        · intro w' hSw
          (try dsimp only at hSw)
          have y0 := (hSw.cell (p := ⟨wo.heap.size, 5, none⟩) HZB.out).trans r5
          have y1 := (hSw.cell (p := ⟨b7, off7 + m * 4, none⟩) HXB.out).trans c70
          have y2 := (hSw.cell (p := ⟨b7, off7 + m * 4 + 1, none⟩) HXB.out).trans c71
          have y3 := (hSw.cell (p := ⟨b7, off7 + m * 4 + 2, none⟩) HXB.out).trans c72
          have y4 := (hSw.cell (p := ⟨b7, off7 + m * 4 + 3, none⟩) HXB.out).trans c73
          go_simp
          all_goals with_reducible rfl
        try simp only [Act.put, List.setIfInBounds_toArray, List.set_cons_zero, List.set_cons_succ]
        refine wpAnyH_take (i := 5) (oi := { dst := some 48, op := Go.Op.fieldAddr 77 (Go.Operand.tmp 47) 0, type := 0, pos := "ref.go:25", after := #[{ on := 4, ground := Go.Ground.data }], guard := none }) (v := ?_) rfl (by kernel_rfl) (by kernel_rfl) (by kernel_rfl) (fun _ _ _ h => h) (Or.inl ⟨by rfl, ?_⟩) (by assumption) ?_
        rotate_left
        · intro w' hSw
          (try dsimp only at hSw)
          have y0 := (hSw.cell (p := ⟨wo.heap.size, 5, none⟩) HZB.out).trans r5
          have y1 := (hSw.cell (p := ⟨b7, off7 + m * 4, none⟩) HXB.out).trans c70
          have y2 := (hSw.cell (p := ⟨b7, off7 + m * 4 + 1, none⟩) HXB.out).trans c71
          have y3 := (hSw.cell (p := ⟨b7, off7 + m * 4 + 2, none⟩) HXB.out).trans c72
          have y4 := (hSw.cell (p := ⟨b7, off7 + m * 4 + 3, none⟩) HXB.out).trans c73
          go_simp
          all_goals with_reducible rfl
        try simp only [Act.put, List.setIfInBounds_toArray, List.set_cons_zero, List.set_cons_succ]
        refine wpAnyH_take (i := 6) (oi := { dst := some 49, op := Go.Op.load 3 (Go.Operand.tmp 48), type := 3, pos := "ref.go:25", after := #[{ on := 5, ground := Go.Ground.data }], guard := none }) (v := ?_) rfl (by kernel_rfl) (by kernel_rfl) (by kernel_rfl) (fun _ _ _ h => h) (Or.inl ⟨by rfl, ?_⟩) (by assumption) ?_
        rotate_left
        · intro w' hSw
          (try dsimp only at hSw)
          have y0 := (hSw.cell (p := ⟨wo.heap.size, 5, none⟩) HZB.out).trans r5
          have y1 := (hSw.cell (p := ⟨b7, off7 + m * 4, none⟩) HXB.out).trans c70
          have y2 := (hSw.cell (p := ⟨b7, off7 + m * 4 + 1, none⟩) HXB.out).trans c71
          have y3 := (hSw.cell (p := ⟨b7, off7 + m * 4 + 2, none⟩) HXB.out).trans c72
          have y4 := (hSw.cell (p := ⟨b7, off7 + m * 4 + 3, none⟩) HXB.out).trans c73
          go_simp
          all_goals with_reducible rfl
        try simp only [Act.put, List.setIfInBounds_toArray, List.set_cons_zero, List.set_cons_succ]
        refine wpAnyH_take (i := 7) (oi := { dst := some 50, op := Go.Op.fieldAddr 71 (Go.Operand.tmp 5) 5, type := 0, pos := "ref.go:25", after := #[], guard := none }) (v := ?_) rfl (by kernel_rfl) (by kernel_rfl) (by kernel_rfl) (fun _ _ _ h => h) (Or.inl ⟨by rfl, ?_⟩) (by assumption) ?_
        rotate_left
        · intro w' hSw
          (try dsimp only at hSw)
          have y0 := (hSw.cell (p := ⟨wo.heap.size, 5, none⟩) HZB.out).trans r5
          have y1 := (hSw.cell (p := ⟨b7, off7 + m * 4, none⟩) HXB.out).trans c70
          have y2 := (hSw.cell (p := ⟨b7, off7 + m * 4 + 1, none⟩) HXB.out).trans c71
          have y3 := (hSw.cell (p := ⟨b7, off7 + m * 4 + 2, none⟩) HXB.out).trans c72
          have y4 := (hSw.cell (p := ⟨b7, off7 + m * 4 + 3, none⟩) HXB.out).trans c73
          go_simp
          all_goals with_reducible rfl
        try simp only [Act.put, List.setIfInBounds_toArray, List.set_cons_zero, List.set_cons_succ]
        refine wpAnyH_take (i := 8) (oi := { dst := some 51, op := Go.Op.load 69 (Go.Operand.tmp 50), type := 69, pos := "ref.go:25", after := #[{ on := 7, ground := Go.Ground.data }], guard := none }) (v := ?_) rfl (by kernel_rfl) (by kernel_rfl) (by kernel_rfl) (fun _ _ _ h => h) (Or.inl ⟨by rfl, ?_⟩) (by assumption) ?_
        rotate_left
        · intro w' hSw
          (try dsimp only at hSw)
          have y0 := (hSw.cell (p := ⟨wo.heap.size, 5, none⟩) HZB.out).trans r5
          have y1 := (hSw.cell (p := ⟨b7, off7 + m * 4, none⟩) HXB.out).trans c70
          have y2 := (hSw.cell (p := ⟨b7, off7 + m * 4 + 1, none⟩) HXB.out).trans c71
          have y3 := (hSw.cell (p := ⟨b7, off7 + m * 4 + 2, none⟩) HXB.out).trans c72
          have y4 := (hSw.cell (p := ⟨b7, off7 + m * 4 + 3, none⟩) HXB.out).trans c73
          go_simp
          all_goals with_reducible rfl
        try simp only [Act.put, List.setIfInBounds_toArray, List.set_cons_zero, List.set_cons_succ]
        refine wpAnyH_take (i := 9) (oi := { dst := some 52, op := Go.Op.move (Go.Operand.tmp 7), type := 3, pos := "ref.go:25", after := #[], guard := none }) (v := ?_) rfl (by kernel_rfl) (by kernel_rfl) (by kernel_rfl) (fun _ _ _ h => h) (Or.inl ⟨by rfl, ?_⟩) (by assumption) ?_
        rotate_left
        · intro w' hSw
          (try dsimp only at hSw)
          have y0 := (hSw.cell (p := ⟨wo.heap.size, 5, none⟩) HZB.out).trans r5
          have y1 := (hSw.cell (p := ⟨b7, off7 + m * 4, none⟩) HXB.out).trans c70
          have y2 := (hSw.cell (p := ⟨b7, off7 + m * 4 + 1, none⟩) HXB.out).trans c71
          have y3 := (hSw.cell (p := ⟨b7, off7 + m * 4 + 2, none⟩) HXB.out).trans c72
          have y4 := (hSw.cell (p := ⟨b7, off7 + m * 4 + 3, none⟩) HXB.out).trans c73
          go_simp
          all_goals with_reducible rfl
        try simp only [Act.put, List.setIfInBounds_toArray, List.set_cons_zero, List.set_cons_succ]
        refine wpAnyH_take (i := 10) (oi := { dst := some 53, op := Go.Op.indexAddr 69 (Go.Operand.tmp 51) (Go.Operand.tmp 52), type := 0, pos := "ref.go:25", after := #[{ on := 8, ground := Go.Ground.data }, { on := 9, ground := Go.Ground.data }], guard := none }) (v := ?_) rfl (by kernel_rfl) (by kernel_rfl) (by kernel_rfl) (fun _ _ _ h => h) (Or.inl ⟨by rfl, ?_⟩) (by assumption) ?_
        rotate_left
        · intro w' hSw
          (try dsimp only at hSw)
          have y0 := (hSw.cell (p := ⟨wo.heap.size, 5, none⟩) HZB.out).trans r5
          have y1 := (hSw.cell (p := ⟨b7, off7 + m * 4, none⟩) HXB.out).trans c70
          have y2 := (hSw.cell (p := ⟨b7, off7 + m * 4 + 1, none⟩) HXB.out).trans c71
          have y3 := (hSw.cell (p := ⟨b7, off7 + m * 4 + 2, none⟩) HXB.out).trans c72
          have y4 := (hSw.cell (p := ⟨b7, off7 + m * 4 + 3, none⟩) HXB.out).trans c73
          go_simp
          all_goals with_reducible rfl
        try simp only [Act.put, List.setIfInBounds_toArray, List.set_cons_zero, List.set_cons_succ]
        refine wpAnyH_take (i := 11) (oi := { dst := some 54, op := Go.Op.fieldAddr 77 (Go.Operand.tmp 53) 1, type := 0, pos := "ref.go:25", after := #[{ on := 10, ground := Go.Ground.data }], guard := none }) (v := ?_) rfl (by kernel_rfl) (by kernel_rfl) (by kernel_rfl) (fun _ _ _ h => h) (Or.inl ⟨by rfl, ?_⟩) (by assumption) ?_
        rotate_left
        · intro w' hSw
          (try dsimp only at hSw)
          have y0 := (hSw.cell (p := ⟨wo.heap.size, 5, none⟩) HZB.out).trans r5
          have y1 := (hSw.cell (p := ⟨b7, off7 + m * 4, none⟩) HXB.out).trans c70
          have y2 := (hSw.cell (p := ⟨b7, off7 + m * 4 + 1, none⟩) HXB.out).trans c71
          have y3 := (hSw.cell (p := ⟨b7, off7 + m * 4 + 2, none⟩) HXB.out).trans c72
          have y4 := (hSw.cell (p := ⟨b7, off7 + m * 4 + 3, none⟩) HXB.out).trans c73
          go_simp
          all_goals with_reducible rfl
        try simp only [Act.put, List.setIfInBounds_toArray, List.set_cons_zero, List.set_cons_succ]
        refine wpAnyH_take (i := 12) (oi := { dst := some 55, op := Go.Op.load 3 (Go.Operand.tmp 54), type := 3, pos := "ref.go:25", after := #[{ on := 11, ground := Go.Ground.data }], guard := none }) (v := ?_) rfl (by kernel_rfl) (by kernel_rfl) (by kernel_rfl) (fun _ _ _ h => h) (Or.inl ⟨by rfl, ?_⟩) (by assumption) ?_
        rotate_left
        · intro w' hSw
          (try dsimp only at hSw)
          have y0 := (hSw.cell (p := ⟨wo.heap.size, 5, none⟩) HZB.out).trans r5
          have y1 := (hSw.cell (p := ⟨b7, off7 + m * 4, none⟩) HXB.out).trans c70
          have y2 := (hSw.cell (p := ⟨b7, off7 + m * 4 + 1, none⟩) HXB.out).trans c71
          have y3 := (hSw.cell (p := ⟨b7, off7 + m * 4 + 2, none⟩) HXB.out).trans c72
          have y4 := (hSw.cell (p := ⟨b7, off7 + m * 4 + 3, none⟩) HXB.out).trans c73
          go_simp
          all_goals with_reducible rfl
        try simp only [Act.put, List.setIfInBounds_toArray, List.set_cons_zero, List.set_cons_succ]
        refine wpAnyH_take (i := 13) (oi := { dst := some 56, op := Go.Op.fieldAddr 71 (Go.Operand.tmp 5) 5, type := 0, pos := "ref.go:25", after := #[], guard := none }) (v := ?_) rfl (by kernel_rfl) (by kernel_rfl) (by kernel_rfl) (fun _ _ _ h => h) (Or.inl ⟨by rfl, ?_⟩) (by assumption) ?_
        rotate_left
        · intro w' hSw
          (try dsimp only at hSw)
          have y0 := (hSw.cell (p := ⟨wo.heap.size, 5, none⟩) HZB.out).trans r5
          have y1 := (hSw.cell (p := ⟨b7, off7 + m * 4, none⟩) HXB.out).trans c70
          have y2 := (hSw.cell (p := ⟨b7, off7 + m * 4 + 1, none⟩) HXB.out).trans c71
          have y3 := (hSw.cell (p := ⟨b7, off7 + m * 4 + 2, none⟩) HXB.out).trans c72
          have y4 := (hSw.cell (p := ⟨b7, off7 + m * 4 + 3, none⟩) HXB.out).trans c73
          go_simp
          all_goals with_reducible rfl
        try simp only [Act.put, List.setIfInBounds_toArray, List.set_cons_zero, List.set_cons_succ]
        refine wpAnyH_take (i := 14) (oi := { dst := some 57, op := Go.Op.load 69 (Go.Operand.tmp 56), type := 69, pos := "ref.go:25", after := #[{ on := 13, ground := Go.Ground.data }], guard := none }) (v := ?_) rfl (by kernel_rfl) (by kernel_rfl) (by kernel_rfl) (fun _ _ _ h => h) (Or.inl ⟨by rfl, ?_⟩) (by assumption) ?_
        rotate_left
        · intro w' hSw
          (try dsimp only at hSw)
          have y0 := (hSw.cell (p := ⟨wo.heap.size, 5, none⟩) HZB.out).trans r5
          have y1 := (hSw.cell (p := ⟨b7, off7 + m * 4, none⟩) HXB.out).trans c70
          have y2 := (hSw.cell (p := ⟨b7, off7 + m * 4 + 1, none⟩) HXB.out).trans c71
          have y3 := (hSw.cell (p := ⟨b7, off7 + m * 4 + 2, none⟩) HXB.out).trans c72
          have y4 := (hSw.cell (p := ⟨b7, off7 + m * 4 + 3, none⟩) HXB.out).trans c73
          go_simp
          all_goals with_reducible rfl
        try simp only [Act.put, List.setIfInBounds_toArray, List.set_cons_zero, List.set_cons_succ]
        refine wpAnyH_take (i := 15) (oi := { dst := some 58, op := Go.Op.move (Go.Operand.tmp 7), type := 3, pos := "ref.go:25", after := #[], guard := none }) (v := ?_) rfl (by kernel_rfl) (by kernel_rfl) (by kernel_rfl) (fun _ _ _ h => h) (Or.inl ⟨by rfl, ?_⟩) (by assumption) ?_
        rotate_left
        · intro w' hSw
          (try dsimp only at hSw)
          have y0 := (hSw.cell (p := ⟨wo.heap.size, 5, none⟩) HZB.out).trans r5
          have y1 := (hSw.cell (p := ⟨b7, off7 + m * 4, none⟩) HXB.out).trans c70
          have y2 := (hSw.cell (p := ⟨b7, off7 + m * 4 + 1, none⟩) HXB.out).trans c71
          have y3 := (hSw.cell (p := ⟨b7, off7 + m * 4 + 2, none⟩) HXB.out).trans c72
          have y4 := (hSw.cell (p := ⟨b7, off7 + m * 4 + 3, none⟩) HXB.out).trans c73
          go_simp
          all_goals with_reducible rfl
        try simp only [Act.put, List.setIfInBounds_toArray, List.set_cons_zero, List.set_cons_succ]
        refine wpAnyH_take (i := 16) (oi := { dst := some 59, op := Go.Op.indexAddr 69 (Go.Operand.tmp 57) (Go.Operand.tmp 58), type := 0, pos := "ref.go:25", after := #[{ on := 14, ground := Go.Ground.data }, { on := 15, ground := Go.Ground.data }], guard := none }) (v := ?_) rfl (by kernel_rfl) (by kernel_rfl) (by kernel_rfl) (fun _ _ _ h => h) (Or.inl ⟨by rfl, ?_⟩) (by assumption) ?_
        rotate_left
        · intro w' hSw
          (try dsimp only at hSw)
          have y0 := (hSw.cell (p := ⟨wo.heap.size, 5, none⟩) HZB.out).trans r5
          have y1 := (hSw.cell (p := ⟨b7, off7 + m * 4, none⟩) HXB.out).trans c70
          have y2 := (hSw.cell (p := ⟨b7, off7 + m * 4 + 1, none⟩) HXB.out).trans c71
          have y3 := (hSw.cell (p := ⟨b7, off7 + m * 4 + 2, none⟩) HXB.out).trans c72
          have y4 := (hSw.cell (p := ⟨b7, off7 + m * 4 + 3, none⟩) HXB.out).trans c73
          go_simp
          all_goals with_reducible rfl
        try simp only [Act.put, List.setIfInBounds_toArray, List.set_cons_zero, List.set_cons_succ]
        refine wpAnyH_take (i := 17) (oi := { dst := some 60, op := Go.Op.fieldAddr 77 (Go.Operand.tmp 59) 2, type := 0, pos := "ref.go:25", after := #[{ on := 16, ground := Go.Ground.data }], guard := none }) (v := ?_) rfl (by kernel_rfl) (by kernel_rfl) (by kernel_rfl) (fun _ _ _ h => h) (Or.inl ⟨by rfl, ?_⟩) (by assumption) ?_
        rotate_left
        · intro w' hSw
          (try dsimp only at hSw)
          have y0 := (hSw.cell (p := ⟨wo.heap.size, 5, none⟩) HZB.out).trans r5
          have y1 := (hSw.cell (p := ⟨b7, off7 + m * 4, none⟩) HXB.out).trans c70
          have y2 := (hSw.cell (p := ⟨b7, off7 + m * 4 + 1, none⟩) HXB.out).trans c71
          have y3 := (hSw.cell (p := ⟨b7, off7 + m * 4 + 2, none⟩) HXB.out).trans c72
          have y4 := (hSw.cell (p := ⟨b7, off7 + m * 4 + 3, none⟩) HXB.out).trans c73
          go_simp
          all_goals with_reducible rfl
        try simp only [Act.put, List.setIfInBounds_toArray, List.set_cons_zero, List.set_cons_succ]
        refine wpAnyH_take (i := 18) (oi := { dst := some 61, op := Go.Op.load 3 (Go.Operand.tmp 60), type := 3, pos := "ref.go:25", after := #[{ on := 17, ground := Go.Ground.data }], guard := none }) (v := ?_) rfl (by kernel_rfl) (by kernel_rfl) (by kernel_rfl) (fun _ _ _ h => h) (Or.inl ⟨by rfl, ?_⟩) (by assumption) ?_
        rotate_left
        · intro w' hSw
          (try dsimp only at hSw)
          have y0 := (hSw.cell (p := ⟨wo.heap.size, 5, none⟩) HZB.out).trans r5
          have y1 := (hSw.cell (p := ⟨b7, off7 + m * 4, none⟩) HXB.out).trans c70
          have y2 := (hSw.cell (p := ⟨b7, off7 + m * 4 + 1, none⟩) HXB.out).trans c71
          have y3 := (hSw.cell (p := ⟨b7, off7 + m * 4 + 2, none⟩) HXB.out).trans c72
          have y4 := (hSw.cell (p := ⟨b7, off7 + m * 4 + 3, none⟩) HXB.out).trans c73
          go_simp
          all_goals with_reducible rfl
        try simp only [Act.put, List.setIfInBounds_toArray, List.set_cons_zero, List.set_cons_succ]
        refine wpAnyH_take (i := 19) (oi := { dst := some 62, op := Go.Op.fieldAddr 71 (Go.Operand.tmp 5) 5, type := 0, pos := "ref.go:25", after := #[], guard := none }) (v := ?_) rfl (by kernel_rfl) (by kernel_rfl) (by kernel_rfl) (fun _ _ _ h => h) (Or.inl ⟨by rfl, ?_⟩) (by assumption) ?_
        rotate_left
        · intro w' hSw
          (try dsimp only at hSw)
          have y0 := (hSw.cell (p := ⟨wo.heap.size, 5, none⟩) HZB.out).trans r5
          have y1 := (hSw.cell (p := ⟨b7, off7 + m * 4, none⟩) HXB.out).trans c70
          have y2 := (hSw.cell (p := ⟨b7, off7 + m * 4 + 1, none⟩) HXB.out).trans c71
          have y3 := (hSw.cell (p := ⟨b7, off7 + m * 4 + 2, none⟩) HXB.out).trans c72
          have y4 := (hSw.cell (p := ⟨b7, off7 + m * 4 + 3, none⟩) HXB.out).trans c73
          go_simp
          all_goals with_reducible rfl
        try simp only [Act.put, List.setIfInBounds_toArray, List.set_cons_zero, List.set_cons_succ]
        refine wpAnyH_take (i := 20) (oi := { dst := some 63, op := Go.Op.load 69 (Go.Operand.tmp 62), type := 69, pos := "ref.go:25", after := #[{ on := 19, ground := Go.Ground.data }], guard := none }) (v := ?_) rfl (by kernel_rfl) (by kernel_rfl) (by kernel_rfl) (fun _ _ _ h => h) (Or.inl ⟨by rfl, ?_⟩) (by assumption) ?_
        rotate_left
        · intro w' hSw
          (try dsimp only at hSw)
          have y0 := (hSw.cell (p := ⟨wo.heap.size, 5, none⟩) HZB.out).trans r5
          have y1 := (hSw.cell (p := ⟨b7, off7 + m * 4, none⟩) HXB.out).trans c70
          have y2 := (hSw.cell (p := ⟨b7, off7 + m * 4 + 1, none⟩) HXB.out).trans c71
          have y3 := (hSw.cell (p := ⟨b7, off7 + m * 4 + 2, none⟩) HXB.out).trans c72
          have y4 := (hSw.cell (p := ⟨b7, off7 + m * 4 + 3, none⟩) HXB.out).trans c73
          go_simp
          all_goals with_reducible rfl
        try simp only [Act.put, List.setIfInBounds_toArray, List.set_cons_zero, List.set_cons_succ]
        refine wpAnyH_take (i := 21) (oi := { dst := some 64, op := Go.Op.move (Go.Operand.tmp 7), type := 3, pos := "ref.go:25", after := #[], guard := none }) (v := ?_) rfl (by kernel_rfl) (by kernel_rfl) (by kernel_rfl) (fun _ _ _ h => h) (Or.inl ⟨by rfl, ?_⟩) (by assumption) ?_
        rotate_left
        · intro w' hSw
          (try dsimp only at hSw)
          have y0 := (hSw.cell (p := ⟨wo.heap.size, 5, none⟩) HZB.out).trans r5
          have y1 := (hSw.cell (p := ⟨b7, off7 + m * 4, none⟩) HXB.out).trans c70
          have y2 := (hSw.cell (p := ⟨b7, off7 + m * 4 + 1, none⟩) HXB.out).trans c71
          have y3 := (hSw.cell (p := ⟨b7, off7 + m * 4 + 2, none⟩) HXB.out).trans c72
          have y4 := (hSw.cell (p := ⟨b7, off7 + m * 4 + 3, none⟩) HXB.out).trans c73
          go_simp
          all_goals with_reducible rfl
        try simp only [Act.put, List.setIfInBounds_toArray, List.set_cons_zero, List.set_cons_succ]
        refine wpAnyH_take (i := 22) (oi := { dst := some 65, op := Go.Op.indexAddr 69 (Go.Operand.tmp 63) (Go.Operand.tmp 64), type := 0, pos := "ref.go:25", after := #[{ on := 20, ground := Go.Ground.data }, { on := 21, ground := Go.Ground.data }], guard := none }) (v := ?_) rfl (by kernel_rfl) (by kernel_rfl) (by kernel_rfl) (fun _ _ _ h => h) (Or.inl ⟨by rfl, ?_⟩) (by assumption) ?_
        rotate_left
        · intro w' hSw
          (try dsimp only at hSw)
          have y0 := (hSw.cell (p := ⟨wo.heap.size, 5, none⟩) HZB.out).trans r5
          have y1 := (hSw.cell (p := ⟨b7, off7 + m * 4, none⟩) HXB.out).trans c70
          have y2 := (hSw.cell (p := ⟨b7, off7 + m * 4 + 1, none⟩) HXB.out).trans c71
          have y3 := (hSw.cell (p := ⟨b7, off7 + m * 4 + 2, none⟩) HXB.out).trans c72
          have y4 := (hSw.cell (p := ⟨b7, off7 + m * 4 + 3, none⟩) HXB.out).trans c73
          go_simp
          all_goals with_reducible rfl
        try simp only [Act.put, List.setIfInBounds_toArray, List.set_cons_zero, List.set_cons_succ]
        refine wpAnyH_take (i := 23) (oi := { dst := some 66, op := Go.Op.fieldAddr 77 (Go.Operand.tmp 65) 3, type := 0, pos := "ref.go:25", after := #[{ on := 22, ground := Go.Ground.data }], guard := none }) (v := ?_) rfl (by kernel_rfl) (by kernel_rfl) (by kernel_rfl) (fun _ _ _ h => h) (Or.inl ⟨by rfl, ?_⟩) (by assumption) ?_
        rotate_left
        · intro w' hSw
          (try dsimp only at hSw)
          have y0 := (hSw.cell (p := ⟨wo.heap.size, 5, none⟩) HZB.out).trans r5
          have y1 := (hSw.cell (p := ⟨b7, off7 + m * 4, none⟩) HXB.out).trans c70
          have y2 := (hSw.cell (p := ⟨b7, off7 + m * 4 + 1, none⟩) HXB.out).trans c71
          have y3 := (hSw.cell (p := ⟨b7, off7 + m * 4 + 2, none⟩) HXB.out).trans c72
          have y4 := (hSw.cell (p := ⟨b7, off7 + m * 4 + 3, none⟩) HXB.out).trans c73
          go_simp
          all_goals with_reducible rfl
        try simp only [Act.put, List.setIfInBounds_toArray, List.set_cons_zero, List.set_cons_succ]
        refine wpAnyH_take (i := 24) (oi := { dst := some 67, op := Go.Op.load 3 (Go.Operand.tmp 66), type := 3, pos := "ref.go:25", after := #[{ on := 23, ground := Go.Ground.data }], guard := none }) (v := ?_) rfl (by kernel_rfl) (by kernel_rfl) (by kernel_rfl) (fun _ _ _ h => h) (Or.inl ⟨by rfl, ?_⟩) (by assumption) ?_
        rotate_left
        · intro w' hSw
          (try dsimp only at hSw)
          have y0 := (hSw.cell (p := ⟨wo.heap.size, 5, none⟩) HZB.out).trans r5
          have y1 := (hSw.cell (p := ⟨b7, off7 + m * 4, none⟩) HXB.out).trans c70
          have y2 := (hSw.cell (p := ⟨b7, off7 + m * 4 + 1, none⟩) HXB.out).trans c71
          have y3 := (hSw.cell (p := ⟨b7, off7 + m * 4 + 2, none⟩) HXB.out).trans c72
          have y4 := (hSw.cell (p := ⟨b7, off7 + m * 4 + 3, none⟩) HXB.out).trans c73
          go_simp
          all_goals with_reducible rfl
        try simp only [Act.put, List.setIfInBounds_toArray, List.set_cons_zero, List.set_cons_succ]
        refine wpAnyH_ready (rs := [25]) (by kernel_rfl) (by simp) ?_
        refine (AllReadyH.cons (o := { dst := some 68, op := Go.Op.buildSlice 43 4 #[(0, Go.Operand.tmp 49), (1, Go.Operand.tmp 55), (2, Go.Operand.tmp 61), (3, Go.Operand.tmp 67)], type := 43, pos := "ref.go:25", after := #[{ on := 6, ground := Go.Ground.data }, { on := 12, ground := Go.Ground.data }, { on := 18, ground := Go.Ground.data }, { on := 24, ground := Go.Ground.data }], guard := none }) rfl (fun K hK => ?_) AllReadyH.nil)
        obtain ⟨ws, hws, hqs, hbS, hls, hqq⟩ := HNEW.out we
        simp only [List.map_cons, List.map_nil] at hws
        go_simp
        try rw [hws]
        have hBn := hB
        have hB := hB.trans (hbS.mono hB.size)
        clear hbS
        refine hK.out _ _ ?_ (fun hHeld => ?_)
        · exact HBE.out _ hB
        clear hK K
        try simp only [Act.put, List.setIfInBounds_toArray, List.set_cons_zero, List.set_cons_succ]
        refine wpAnyH_ready (rs := [26]) (by kernel_rfl) (by simp) ?_
        refine (AllReadyH.cons (o := { dst := some 69, op := Go.Op.call { callee := Go.Callee.builtin Go.Builtin.append, args := #[Go.Operand.tmp 43, Go.Operand.tmp 68], argTypes := #[43, 43] }, type := 43, pos := "ref.go:25", after := #[{ on := 0, ground := Go.Ground.data }, { on := 25, ground := Go.Ground.data }], guard := none }) rfl (fun K hK => ?_) AllReadyH.nil)
        have hx9 := HZN.out
        have hxs := hB.size
        refine wp_append_lies ws _ _ _ rfl (wo.heap.size + 1) 3 i0 _ 1 8 Try.underlying43 hi0 hz0 hz1 hz2 rfl (by omega) (.slice Av ns.length cv) ns.length (ns.map (Value.int .i64)) rfl (HOW.out ws hB) ⟨we.heap.size, 0, none⟩ 4 4 ([pa, pd, pt, pu].map (Value.int .i64)) rfl rfl (World.news_of_block hqq) (by simp [Value.oneCell']) (by omega) (by simp only [maxLen]; omega) (by omega) (by omega) ws.heap.size rfl ?_
        intro gg capg w7 hown7 hg7 hat7 hlt7
        have hBW7 := HBW.out ws w7 hB hg7
        have HREL := Lib.hid (HFIN.out ws w7 gg capg hB hown7 hg7)
        clear hown7 hg7 hat7 hlt7
        refine hK.out _ _ ?_ (fun hHeld => ?_)
        · exact hBW7
        clear hK K
        try simp only [Act.put, List.setIfInBounds_toArray, List.set_cons_zero, List.set_cons_succ]
        refine wpAnyH_take (i := 27) (oi := { dst := some 6, op := Go.Op.assign (Go.Operand.tmp 69), type := 43, pos := "ref.go:25", after := #[{ on := 26, ground := Go.Ground.data }, { on := 26, ground := Go.Ground.chain }, { on := 0, ground := Go.Ground.phase }, { on := 1, ground := Go.Ground.phase }, { on := 2, ground := Go.Ground.phase }, { on := 3, ground := Go.Ground.phase }, { on := 4, ground := Go.Ground.phase }, { on := 5, ground := Go.Ground.phase }, { on := 6, ground := Go.Ground.phase }, { on := 7, ground := Go.Ground.phase }, { on := 8, ground := Go.Ground.phase }, { on := 9, ground := Go.Ground.phase }, { on := 10, ground := Go.Ground.phase }, { on := 11, ground := Go.Ground.phase }, { on := 12, ground := Go.Ground.phase }, { on := 13, ground := Go.Ground.phase }, { on := 14, ground := Go.Ground.phase }, { on := 15, ground := Go.Ground.phase }, { on := 16, ground := Go.Ground.phase }, { on := 17, ground := Go.Ground.phase }, { on := 18, ground := Go.Ground.phase }, { on := 19, ground := Go.Ground.phase }, { on := 20, ground := Go.Ground.phase }, { on := 21, ground := Go.Ground.phase }, { on := 22, ground := Go.Ground.phase }, { on := 23, ground := Go.Ground.phase }, { on := 24, ground := Go.Ground.phase }, { on := 25, ground := Go.Ground.phase }, { on := 26, ground := Go.Ground.phase }], guard := none }) (v := ?_) rfl (by kernel_rfl) (by kernel_rfl) (by kernel_rfl) (fun _ _ _ h => h) (Or.inl ⟨by rfl, ?_⟩) (by assumption) ?_
        rotate_left
        · intro w' hSw
          (try dsimp only at hSw)
          have y0 := (hSw.cell (p := ⟨wo.heap.size, 5, none⟩) HZB.out).trans r5
          have y1 := (hSw.cell (p := ⟨b7, off7 + m * 4, none⟩) HXB.out).trans c70
          have y2 := (hSw.cell (p := ⟨b7, off7 + m * 4 + 1, none⟩) HXB.out).trans c71
          have y3 := (hSw.cell (p := ⟨b7, off7 + m * 4 + 2, none⟩) HXB.out).trans c72
          have y4 := (hSw.cell (p := ⟨b7, off7 + m * 4 + 3, none⟩) HXB.out).trans c73
          go_simp
          all_goals with_reducible rfl
        try simp only [Act.put, List.setIfInBounds_toArray, List.set_cons_zero, List.set_cons_succ]
        obtain ⟨wl, rfl⟩ : ∃ wl : World, wl = w7 := ⟨_, rfl⟩
        refine wpAnyH_done (by kernel_rfl) ?_ _
        go_wp2_with (fail)
        go_roundw
        case rel => exact HREL.out
        case measure => simp [intOf]; omega
      have HB7 := Lib.hid (show Below w.heap.size w wn from HOB.out.2.trans ((HB5.out.trans (hbx.mono HB5.out.size)).mono HOB.out.2.size))
      obtain ⟨L0, hL0⟩ : ∃ L0, numsB ((ts.length : Int) :: (ts.take k).flatMap termI) = L0 := ⟨_, rfl⟩
      have hL0l : L0.length = 4 * (((ts.take k).flatMap termI).length + 1) := by rw [← hL0, numsB_length, List.length_cons]
      rw [hL0] at HOB
      have hbo : Below wo.heap.size wo wn := HB5.out.trans (hbx.mono HB5.out.size)
      have HROW := Lib.hid (show RowW w.heap.size bv L0 wn from HOB.out.1.keep fun g e => hbo.block g (HOLT.out g e).2)
      have hnt : ns = termI ⟨tb, td, tt, tu, tz, ps⟩ := by rw [← hns, List.take_of_length_le (by omega)]; rfl
      have HNEXT := Lib.hid (fun bv2 W (hq : OB w bv2 (L0 ++ numsB ns) W) => show T8Rel ts w bv2 (.int .i64 ((k : Int) + 1)) W from ⟨k + 1, _, by omega, by go_num, rfl, by
        rw [HTK.out, ← List.cons_append, numsB_append, hL0, ← hnt]
        exact hq⟩)
      have hm2 : m = ps.length := by omega
      have hnl2 : ns.length = 6 + 4 * ps.length := by rw [hnl, hm2]
      have HAP := Lib.hid (show ApN nv bv from fun g e e2 => by
        have h1 := (World.ownsRow.lt HNV.out g e).1
        have h2 := (HOLT.out g e2).2
        omega)
      have hfk := HFK.out
      have hlb : L0.length + 4 * ns.length ≤ 4000000000 := by omega
      have HLB := Lib.hid hlb
      have HZW := Lib.hid HB7.out.size
      have hnl3 : ns.length ≤ 1000000000 := by omega
      have HNS := Lib.hid hns
      have HHB := Lib.hid hbx
      subst hsh
      clear hnv hbx hns hnl hL0 hL0l hnt hm2 hnl2 hbo hfk hlb r0 r1 r2 r3 r4
      have R5 := r5
      go_wp2_with (fail)
      clear R5 r5
      go_loopw [3, 8] (fun bv iv wr => N2Rel (wo.heap.size + 1) w L0 (.slice Av ns.length cv) ns bv iv wr) (fun _ i _ => ns.length - (intOf i).toNat)
      case atStart => exact ⟨0, _, Nat.zero_le _, rfl, rfl, by simpa [numsB] using (show OB w bv L0 wn from ⟨HROW.out, HB7.out⟩), HNV.out, HAP.out⟩
      case round =>
        obtain ⟨j, b2, hj, rfl, rfl, hob2, hnw, hap⟩ := hrel
        by_cases hlt3 : j < ns.length
        case neg =>
          rw [List.take_of_length_le (by omega)] at hob2
          have HF := Lib.hid (HNEXT.out b2 wr hob2)
          clear hob2 hnw hap
          go_wp2_with (fail)
          go_roundw
          case rel => exact HF.out
          case measure => simp [intOf]; omega
        obtain ⟨Ay, cy, hyv, hyc, hyr⟩ := RowI.of_own hnw
        injection hyv with hyA _ hyC
        subst hyA hyC
        obtain ⟨bb, hAy, hbb, hcell⟩ := hyr (by omega)
        subst hAy
        have y0 := hcell j hlt3
        obtain ⟨y, hy⟩ : ∃ y, ns[j] = y := ⟨_, rfl⟩
        rw [hy] at y0
        have htk : ns.take (j + 1) = ns.take j ++ [y] := by rw [List.take_succ_eq_append_getElem hlt3, hy]
        obtain ⟨M, hM⟩ : ∃ M, L0 ++ numsB (ns.take j) = M := ⟨_, rfl⟩
        have hMl : M.length + 4 ≤ 1099511627776 := by
          have := HLB.out
          rw [← hM, List.length_append, numsB_length, List.length_take]
          omega
        rw [hM] at hob2
        have HOB2 := Lib.hid hob2
        have HNW := Lib.hid hnw
        have HAPP := Lib.hid hap
        have HFI := Lib.hid (fun (w8 w9 : World) (v9 : Value) (h8 : Below wr.heap.size wr w8) (h9 : RowW w.heap.size v9 (M ++ num4 (bits y)) w9) (hg : w8.grownBy w9 b2.ownBlock) (hn : OwnN b2 v9 w8) => show N2Rel (wo.heap.size + 1) w L0 (.slice (some ⟨bb, 0, none⟩) ns.length cv) ns v9 (.int .i64 ((j : Int) + 1)) w9 from by
          have hrow8 : RowW w.heap.size b2 M w8 := HOB2.out.1.belowM h8
          have hz8 : w.heap.size ≤ w8.heap.size := Nat.le_trans HOB2.out.2.size h8.size
          have hn8 : OwnsI w8 (wo.heap.size + 1) (.slice (some ⟨bb, 0, none⟩) ns.length cv) ns := ownsI_keep HNW.out h8
          refine ⟨j + 1, _, by omega, by go_num, rfl, ⟨?_, (HOB2.out.2.trans (h8.mono HOB2.out.2.size)).trans (grown_low hrow8 hz8 hg)⟩, World.ownsRow.kept hn8 hg (.inr fun e => HAPP.out bb rfl (by rw [← e]; rfl)), fun g e e2 => ?_⟩
          · rw [htk, numsB_append, ← List.append_assoc, hM, numsB_cons, numsB_nil, List.append_nil]
            exact h9
          · rcases hn g e2 with q | q
            · exact HAPP.out g e q
            · have := (World.ownsRow.lt hn8 g e).2
              omega)
        have i1 : (0 : Int) ≤ (j : Int) := Int.natCast_nonneg _
        have i2 : (j : Int) < (ns.length : Int) := by omega
        have HZR := Lib.hid (show w.heap.size ≤ wr.heap.size from hob2.2.size)
        clear hob2 hnw hap hcell hyr hy htk hM hyc
        go_wp2_with (fail)
        refine (num_any y wr).mono ?_
        rintro e w8 ⟨A8, c8, rfl, hr8, hb8⟩
        have HR8 := Lib.hid hr8
        have HB8 := Lib.hid hb8
        have HRW := Lib.hid (HOB2.out.1.belowM hb8)
        have HZ8 := Lib.hid (show w.heap.size ≤ w8.heap.size from by have := HZR.out; have := hb8.size; omega)
        clear hr8 hb8
        go_wp2_with (at_builtin; refine wpList_append_B rfl _ _ rfl rfl HRW.out rfl HR8.out (by rw [num4_length]; omega) (by rw [num4_length]; exact hMl) HZ8.out ?_; intro v9 w9 h9 hg9 hn9; have HREL := Lib.hid (HFI.out w8 w9 v9 HB8.out h9 hg9 hn9); clear h9 hg9 hn9)
        go_roundw
        case rel => exact HREL.out
        case measure => simp [intOf]; omega
end Go.Proofs.Ytboaifdkoemnbaa.Pk
/- The walk of ref18.fits. -/
namespace Go.Proofs.Ytboaifdkoemnbaa.Pk
set_option maxRecDepth 100000
open Go Go.RowKit Go.Proofs.Ytboaifdkoemnbaa.Sp Go.Proofs.Ytboaifdkoemnbaa.Pa Go.Proofs.Ytboaifdkoemnbaa.Te Go.Proofs.Ytboaifdkoemnbaa.Mi Go.Proofs.Ytboaifdkoemnbaa.De Go.Proofs.Ytboaifdkoemnbaa.Wo

def FitP (p : PT) : Prop := In32 p.1 ∧ In32 p.2.1 ∧ In32 p.2.2.1 ∧ In32 p.2.2.2
structure FitT (t : TmL) : Prop where
  fb : In32 t.b
  fd : In32 t.d
  ft : In32 t.t
  fu : In32 t.u
  fs : In32 t.s
  fps : ∀ p ∈ t.ps, FitP p
def FtRel (P : Nat → Prop) (n : Nat) (w : World) (iv : Value) (wr : World) : Prop := ∃ k : Nat, k ≤ n ∧ iv = .int .i64 k ∧ P k ∧ Below w.heap.size w wr
theorem allN {α : Type} {l : List α} {P : α → Prop} {k : Nat} {a : α} (hk : k < l.length) (ha : l[k] = a) (h : ∀ j (hj : j < l.length), j < k → P l[j]) (hp : P a) : ∀ j (hj : j < l.length), j < k + 1 → P l[j] := fun j hj hjk => by
  rcases Nat.lt_or_ge j k with z | z
  · exact h j hj z
  · obtain rfl : j = k := by omega
    rw [ha]
    exact hp
theorem allM {α : Type} {l : List α} {P : α → Prop} {k : Nat} (hk : ¬ k < l.length) (h : ∀ j (hj : j < l.length), j < k → P l[j]) : ∀ a ∈ l, P a := fun a ha => by
  obtain ⟨j, hj, rfl⟩ := List.getElem_of_mem ha
  exact h j hj (by omega)
set_option maxHeartbeats 8000000 in
theorem fits18_any (A : Option Addr) (c : Nat) (ts : List TmL) (w : World) (h : RTm w A ts.length ts) (hm : ts.length ≤ maxLen) : Calls Try.prog 23 #[.slice A ts.length c] w (Sp.RetB (propB (∀ t ∈ ts, FitT t)) w) := by
  unfold maxLen at hm
  have HR := Lib.hid h
  obtain ⟨v, hv⟩ : ∃ v, propB (∀ t ∈ ts, FitT t) = v := ⟨_, rfl⟩
  rw [hv]
  have HNO := Lib.hid (show ¬ (∀ t ∈ ts, FitT t) → v = false from fun q => hv.symm.trans (propB_false q))
  have HYES := Lib.hid (show (∀ t ∈ ts, FitT t) → v = true from fun q => hv.symm.trans (propB_true q))
  clear h hv
  go_enter Try.func23, Try.ntmps23
  go_wp2_with (fail)
  go_loopw [3] (fun iv wr => FtRel (fun k => ∀ j (hj : j < ts.length), j < k → FitT ts[j]) ts.length w iv wr) (fun i _ => ts.length - (intOf i).toNat)
  case atStart => exact ⟨0, Nat.zero_le _, rfl, fun j _ h => absurd h (by omega), Below.refl _ _⟩
  case round =>
    obtain ⟨k, hk, rfl, hall, hbr⟩ := hrel
    obtain ⟨wo, rfl⟩ : ∃ wo : World, wo = wr := ⟨_, rfl⟩
    have HALL := Lib.hid hall
    have HBR := Lib.hid hbr
    clear hall
    by_cases hlt : k < ts.length
    case neg =>
      have HP := Lib.hid (HYES.out (allM hlt HALL.out))
      clear hbr
      go_wp2_with (fail)
      go_ret
      exact ⟨Sp.ret_bool HP.out.symm, HBR.out⟩
    obtain ⟨b, off, hA, hbB, d0, d1, d2, d3, d4, A', c', d5, hp, hc, hmm⟩ := (HR.out.belowM hbr).at_ hlt
    obtain ⟨t, ht⟩ : ∃ t, ts[k] = t := ⟨_, rfl⟩
    have HIN := Lib.hid (show t ∈ ts by rw [← ht]; exact List.getElem_mem hlt)
    have HNX := Lib.hid (fun q : FitT t => allN (P := FitT) hlt ht HALL.out q)
    rw [ht] at d0 d1 d2 d3 d4 d5 hp hc hmm
    obtain ⟨tb, td, tt, tu, tz, ps⟩ := t
    simp only at d0 d1 d2 d3 d4 d5 hp hc hmm
    obtain ⟨w5, hw5⟩ : ∃ w5, wo.alloc (.cells (tcells tb td tt tu tz A' ps.length c') 71) = w5 := ⟨_, rfl⟩
    have hs5 : w5.heap.size = wo.heap.size + 1 := by rw [← hw5]; simp
    have hb5 : Below wo.heap.size wo w5 := by rw [← hw5]; exact (Below.refl _ _).alloc (Nat.le_refl _) _
    have HBX := Lib.hid (fun W (h : W.heap[wo.heap.size]? = w5.heap[wo.heap.size]?) => show Boxed6 W wo.heap.size tb td tt tu tz A' ps.length c' from by
      have e : ∀ j, W.cell? ⟨wo.heap.size, j, none⟩ = w5.cell? ⟨wo.heap.size, j, none⟩ := fun j => World.cell?_of_block h
      have h5 : w5.heap[wo.heap.size]? = some (.cells (tcells tb td tt tu tz A' ps.length c') 71 (0, 0)) := by rw [← hw5]; exact heap_alloc_new wo _
      unfold Boxed6
      simp only [e, cell_of_row w5 wo.heap.size _ _ _ _ h5]
      exact ⟨rfl, rfl, rfl, rfl, rfl, rfl⟩)
    have HP5 := Lib.hid (hp.belowM hb5)
    have HE := Lib.hid (fun W (hW : Below w5.heap.size w5 W) => show Below w.heap.size w W from HBR.out.trans ((hb5.trans (hW.mono hb5.size)).mono HBR.out.size))
    have HFIN := Lib.hid (fun (q : ¬ FitT ⟨tb, td, tt, tu, tz, ps⟩) W (hW : Below w5.heap.size w5 W) => show Sp.RetB v w (.returned (.bool false)) W from ⟨by rw [HNO.out fun z => q (z _ HIN.out)], HE.out W hW⟩)
    have HS5 := Lib.hid hs5
    obtain ⟨r0, r1, r2, r3, r4, r5⟩ := HBX.out w5 rfl
    subst hA
    clear ht hp hb5 hbr hs5
    unfold maxLen at hmm
    by_cases k1 : In32 tb
    case neg =>
      have HP := Lib.hid (HFIN.out (fun q => k1 q.fb) w5 (Below.refl _ _))
      have H1 := Lib.hid (fun W => small32_no k1 W)
      clear k1 HNO HYES HNX HALL HBX HE HFIN
      go_wp2_with (go_at_call 37; (with_reducible refine (H1.out _).mono ?_); rintro _ _ ⟨rfl, rfl⟩)
      go_ret
      exact HP.out
    have H1 := Lib.hid (fun W => small32_yes k1 W)
    by_cases k2 : In32 td
    case neg =>
      have HP := Lib.hid (HFIN.out (fun q => k2 q.fd) w5 (Below.refl _ _))
      have H2 := Lib.hid (fun W => small32_no k2 W)
      clear k1 k2 HNO HYES HNX HALL HBX HE HFIN
      go_wp2_with (first | (go_at_call 37; (with_reducible refine (H1.out _).mono ?_); rintro _ _ ⟨rfl, rfl⟩) | (go_at_call 37; (with_reducible refine (H2.out _).mono ?_); rintro _ _ ⟨rfl, rfl⟩))
      go_ret
      exact HP.out
    have H2 := Lib.hid (fun W => small32_yes k2 W)
    by_cases k3 : In32 tt
    case neg =>
      have HP := Lib.hid (HFIN.out (fun q => k3 q.ft) w5 (Below.refl _ _))
      have H3 := Lib.hid (fun W => small32_no k3 W)
      clear k1 k2 k3 HNO HYES HNX HALL HBX HE HFIN
      go_wp2_with (first | (go_at_call 37; (with_reducible refine (H1.out _).mono ?_); rintro _ _ ⟨rfl, rfl⟩) | (go_at_call 37; (with_reducible refine (H2.out _).mono ?_); rintro _ _ ⟨rfl, rfl⟩) | (go_at_call 37; (with_reducible refine (H3.out _).mono ?_); rintro _ _ ⟨rfl, rfl⟩))
      go_ret
      exact HP.out
    have H3 := Lib.hid (fun W => small32_yes k3 W)
    by_cases k4 : In32 tu
    case neg =>
      have HP := Lib.hid (HFIN.out (fun q => k4 q.fu) w5 (Below.refl _ _))
      have H4 := Lib.hid (fun W => small32_no k4 W)
      clear k1 k2 k3 k4 HNO HYES HNX HALL HBX HE HFIN
      go_wp2_with (first | (go_at_call 37; (with_reducible refine (H1.out _).mono ?_); rintro _ _ ⟨rfl, rfl⟩) | (go_at_call 37; (with_reducible refine (H2.out _).mono ?_); rintro _ _ ⟨rfl, rfl⟩) | (go_at_call 37; (with_reducible refine (H3.out _).mono ?_); rintro _ _ ⟨rfl, rfl⟩) | (go_at_call 37; (with_reducible refine (H4.out _).mono ?_); rintro _ _ ⟨rfl, rfl⟩))
      go_ret
      exact HP.out
    have H4 := Lib.hid (fun W => small32_yes k4 W)
    by_cases k5 : In32 tz
    case neg =>
      have HP := Lib.hid (HFIN.out (fun q => k5 q.fs) w5 (Below.refl _ _))
      have H5 := Lib.hid (fun W => small32_no k5 W)
      clear k1 k2 k3 k4 k5 HNO HYES HNX HALL HBX HE HFIN
      go_wp2_with (first | (go_at_call 37; (with_reducible refine (H1.out _).mono ?_); rintro _ _ ⟨rfl, rfl⟩) | (go_at_call 37; (with_reducible refine (H2.out _).mono ?_); rintro _ _ ⟨rfl, rfl⟩) | (go_at_call 37; (with_reducible refine (H3.out _).mono ?_); rintro _ _ ⟨rfl, rfl⟩) | (go_at_call 37; (with_reducible refine (H4.out _).mono ?_); rintro _ _ ⟨rfl, rfl⟩) | (go_at_call 37; (with_reducible refine (H5.out _).mono ?_); rintro _ _ ⟨rfl, rfl⟩))
      go_ret
      exact HP.out
    have H5 := Lib.hid (fun W => small32_yes k5 W)
    have HKK := Lib.hid (show (∀ p ∈ ps, FitP p) → FitT ⟨tb, td, tt, tu, tz, ps⟩ from fun q => ⟨k1, k2, k3, k4, k5, q⟩)
    clear k1 k2 k3 k4 k5
    go_wp2_with (first | (go_at_call 37; (with_reducible refine (H1.out _).mono ?_); rintro _ _ ⟨rfl, rfl⟩) | (go_at_call 37; (with_reducible refine (H2.out _).mono ?_); rintro _ _ ⟨rfl, rfl⟩) | (go_at_call 37; (with_reducible refine (H3.out _).mono ?_); rintro _ _ ⟨rfl, rfl⟩) | (go_at_call 37; (with_reducible refine (H4.out _).mono ?_); rintro _ _ ⟨rfl, rfl⟩) | (go_at_call 37; (with_reducible refine (H5.out _).mono ?_); rintro _ _ ⟨rfl, rfl⟩))
    clear r0 r1 r2 r3 r4 r5 d0 d1 d2 d3 d4 d5
    have HW5 := Lib.hid hw5
    clear hw5
    go_loopw [5] (fun iv wr => FtRel (fun k => ∀ j (hj : j < ps.length), j < k → FitP ps[j]) ps.length w5 iv wr) (fun i _ => ps.length - (intOf i).toNat)
    case atStart => exact ⟨0, Nat.zero_le _, rfl, fun j _ h => absurd h (by omega), Below.refl _ _⟩
    case round =>
      obtain ⟨m, hmm2, rfl, hpl, hbx⟩ := hrel
      have HPL := Lib.hid hpl
      have HBX2 := Lib.hid hbx
      obtain ⟨r0, r1, r2, r3, r4, r5⟩ := HBX.out wr (hbx.block _ (by have := HS5.out; omega))
      clear hpl
      by_cases hlt2 : m < ps.length
      case neg =>
        have HF := Lib.hid (show FtRel (fun k => ∀ j (hj : j < ts.length), j < k → FitT ts[j]) ts.length w (.int .i64 ((k : Int) + 1)) wr from ⟨k + 1, by omega, by go_num, HNX.out (HKK.out (allM hlt2 HPL.out)), HE.out wr hbx⟩)
        clear hbx
        go_wp2_with (fail)
        go_roundw
        case rel => exact HF.out
        case measure => simp [intOf]; omega
      obtain ⟨b7, off7, pa, pd, pt, pu, hA7, hb7, hlk, c70, c71, c72, c73⟩ := (HP5.out.below hbx).at_ hlt2
      subst hA7
      obtain ⟨hlj, hej⟩ := hlk
      have HIP := Lib.hid (show (pa, pd, pt, pu) ∈ ps by rw [← hej]; exact List.getElem_mem hlj)
      have HNP := Lib.hid (fun q : FitP (pa, pd, pt, pu) => allN (P := FitP) hlj hej HPL.out q)
      obtain ⟨w8, hw8⟩ : ∃ w8, wr.alloc (.cells #[.int .i64 pa, .int .i64 pd, .int .i64 pt, .int .i64 pu] 77) = w8 := ⟨_, rfl⟩
      have hb8 : Below wr.heap.size wr w8 := by rw [← hw8]; exact (Below.refl _ _).alloc (Nat.le_refl _) _
      have z0 : w8.cell? ⟨wr.heap.size, 0, none⟩ = some (.int .i64 pa) := by rw [← hw8]; simp
      have z1 : w8.cell? ⟨wr.heap.size, 1, none⟩ = some (.int .i64 pd) := by rw [← hw8]; simp
      have z2 : w8.cell? ⟨wr.heap.size, 2, none⟩ = some (.int .i64 pt) := by rw [← hw8]; simp
      have z3 : w8.cell? ⟨wr.heap.size, 3, none⟩ = some (.int .i64 pu) := by rw [← hw8]; simp
      have HB8 := Lib.hid (show Below w5.heap.size w5 w8 from hbx.trans (hb8.mono hbx.size))
      have HFI := Lib.hid (fun (q : ¬ FitP (pa, pd, pt, pu)) => HFIN.out (fun z => q (z.fps _ HIP.out)) w8 HB8.out)
      clear hej hbx hb8
      by_cases j1 : In32 pa
      case neg =>
        have HP := Lib.hid (HFI.out fun q => j1 q.1)
        have J1 := Lib.hid (fun W => small32_no j1 W)
        clear j1 HNO HYES HNX HALL HBX HE HFIN HKK H1 H2 H3 H4 H5
        go_wp2_with (go_at_call 37; (with_reducible refine (J1.out _).mono ?_); rintro _ _ ⟨rfl, rfl⟩)
        go_ret
        exact HP.out
      have J1 := Lib.hid (fun W => small32_yes j1 W)
      by_cases j2 : In32 pd
      case neg =>
        have HP := Lib.hid (HFI.out fun q => j2 q.2.1)
        have J2 := Lib.hid (fun W => small32_no j2 W)
        clear j1 j2 HNO HYES HNX HALL HBX HE HFIN HKK H1 H2 H3 H4 H5
        go_wp2_with (first | (go_at_call 37; (with_reducible refine (J1.out _).mono ?_); rintro _ _ ⟨rfl, rfl⟩) | (go_at_call 37; (with_reducible refine (J2.out _).mono ?_); rintro _ _ ⟨rfl, rfl⟩))
        go_ret
        exact HP.out
      have J2 := Lib.hid (fun W => small32_yes j2 W)
      by_cases j3 : In32 pt
      case neg =>
        have HP := Lib.hid (HFI.out fun q => j3 q.2.2.1)
        have J3 := Lib.hid (fun W => small32_no j3 W)
        clear j1 j2 j3 HNO HYES HNX HALL HBX HE HFIN HKK H1 H2 H3 H4 H5
        go_wp2_with (first | (go_at_call 37; (with_reducible refine (J1.out _).mono ?_); rintro _ _ ⟨rfl, rfl⟩) | (go_at_call 37; (with_reducible refine (J2.out _).mono ?_); rintro _ _ ⟨rfl, rfl⟩) | (go_at_call 37; (with_reducible refine (J3.out _).mono ?_); rintro _ _ ⟨rfl, rfl⟩))
        go_ret
        exact HP.out
      have J3 := Lib.hid (fun W => small32_yes j3 W)
      by_cases j4 : In32 pu
      case neg =>
        have HP := Lib.hid (HFI.out fun q => j4 q.2.2.2)
        have J4 := Lib.hid (fun W => small32_no j4 W)
        clear j1 j2 j3 j4 HNO HYES HNX HALL HBX HE HFIN HKK H1 H2 H3 H4 H5
        go_wp2_with (first | (go_at_call 37; (with_reducible refine (J1.out _).mono ?_); rintro _ _ ⟨rfl, rfl⟩) | (go_at_call 37; (with_reducible refine (J2.out _).mono ?_); rintro _ _ ⟨rfl, rfl⟩) | (go_at_call 37; (with_reducible refine (J3.out _).mono ?_); rintro _ _ ⟨rfl, rfl⟩) | (go_at_call 37; (with_reducible refine (J4.out _).mono ?_); rintro _ _ ⟨rfl, rfl⟩))
        go_ret
        exact HP.out
      have J4 := Lib.hid (fun W => small32_yes j4 W)
      have HF := Lib.hid (show FtRel (fun k => ∀ j (hj : j < ps.length), j < k → FitP ps[j]) ps.length w5 (.int .i64 ((m : Int) + 1)) w8 from ⟨m + 1, by omega, by go_num, HNP.out ⟨j1, j2, j3, j4⟩, HB8.out⟩)
      clear j1 j2 j3 j4 H1 H2 H3 H4 H5
      go_wp2_with (first | (go_at_call 37; (with_reducible refine (J1.out _).mono ?_); rintro _ _ ⟨rfl, rfl⟩) | (go_at_call 37; (with_reducible refine (J2.out _).mono ?_); rintro _ _ ⟨rfl, rfl⟩) | (go_at_call 37; (with_reducible refine (J3.out _).mono ?_); rintro _ _ ⟨rfl, rfl⟩) | (go_at_call 37; (with_reducible refine (J4.out _).mono ?_); rintro _ _ ⟨rfl, rfl⟩))
      go_roundw
      case rel => exact HF.out
      case measure => simp [intOf]; omega
end Go.Proofs.Ytboaifdkoemnbaa.Pk
