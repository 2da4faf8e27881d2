/- What pack.Unpack asks of bytes, and that just a right table's bytes keep it. -/
import Derived.Test.YtgmkchkaceciiaaPkPack
import Derived.Test.YtgmkchkaceciiaaPkRd
namespace Go.Proofs.Ytgmkchkaceciiaa.Pk
set_option maxRecDepth 100000
open Go Go.RowKit Go.Proofs.Ytgmkchkaceciiaa.Sp Go.Proofs.Ytgmkchkaceciiaa.Pa Go.Proofs.Ytgmkchkaceciiaa.Te Go.Proofs.Ytgmkchkaceciiaa.Mi Go.Proofs.Ytgmkchkaceciiaa.De

theorem packB_iff {T : TabL} : packB T = true ↔ RightTab T ∧ (∀ x ∈ T.headI, In32 x) ∧ ∀ x ∈ T.restI, In32 x := by
  unfold packB
  rw [Bool.and_eq_true, propB_iff, Bool.not_eq_true', Bool.or_eq_false_iff, wideB_iff, wideB_iff]
theorem packB_fit {T : TabL} (hc : T.cls.length = 256) (h : packB T = true) : T.Fit := by
  obtain ⟨h1, h2, h3⟩ := packB_iff.1 h
  exact ⟨hc, fun n hn => (h1.sizes.each n hn).1, h2, h3⟩
theorem Fit_pack {T : TabL} (hf : T.Fit) (h : RightTab T) : packB T = true := packB_iff.2 ⟨h, hf.head, hf.rest⟩
/-- No table has these bytes. -/
def NoTab (L : List Nat) : Prop := ∀ T : TabL, T.cls.length = 256 → packB T = true → T.bytes ≠ L
theorem bytes_parts {T : TabL} {L : List Nat} (h : T.bytes = L) : 9 ≤ L.length ∧ L.take 5 = magicL ∧ L.take (L.length - 4) = T.body ∧ L.drop (L.length - 4) = num4 (sumL T.body) ∧ (L.take (L.length - 4)).drop 5 = numsB T.headI ++ (T.cls ++ numsB T.restI) := by
  have hl : T.bytes.length = T.body.length + 4 := by unfold TabL.bytes; rw [List.length_append, num4_length]
  have hm : 5 ≤ T.body.length := by
    unfold TabL.body
    rw [List.length_append]
    show 5 ≤ 5 + _
    omega
  subst h
  rw [hl, Nat.add_sub_cancel]
  have e1 : T.bytes.take T.body.length = T.body := List.take_left' rfl
  refine ⟨by omega, ?_, e1, List.drop_left' rfl, ?_⟩
  · unfold TabL.bytes TabL.body
    rw [List.append_assoc]
    exact List.take_left' rfl
  · rw [e1]
    exact List.drop_left' rfl
theorem no_short {L : List Nat} (h : L.length < 9) : NoTab L := fun _ _ _ e => by
  have := (bytes_parts e).1
  omega
theorem no_magic {L : List Nat} (h : L.take 5 ≠ magicL) : NoTab L := fun _ _ _ e => h (bytes_parts e).2.1
/-- The number that stands behind is the check. -/
theorem check_iff {L : List Nat} (hL : ∀ b ∈ L, b < 256) (h9 : 9 ≤ L.length) : (rdNum ⟨L.drop (L.length - 4), false⟩).1 = sgn (sumL (L.take (L.length - 4))) ↔ L.drop (L.length - 4) = num4 (sumL (L.take (L.length - 4))) := by
  have hlen : (L.drop (L.length - 4)).length = 4 := by rw [List.length_drop]; omega
  have hlt := sumL_lt (L.take (L.length - 4))
  obtain ⟨D, hD⟩ : ∃ D, L.drop (L.length - 4) = D := ⟨_, rfl⟩
  obtain ⟨m, hm⟩ : ∃ m, sumL (L.take (L.length - 4)) = m := ⟨_, rfl⟩
  have hDl : ∀ b ∈ D, b < 256 := fun b hb => hL b (by rw [← hD] at hb; exact List.mem_of_mem_drop hb)
  rw [hD] at hlen ⊢
  rw [hm] at hlt ⊢
  unfold rdNum
  cases h : rdN D with
  | none => exact absurd (rdN_none.1 h) (by omega)
  | some p =>
    obtain ⟨x, r⟩ := p
    obtain ⟨h1, h2⟩ := rdN_some hDl h
    have hr : r = [] := List.eq_nil_of_length_eq_zero (by rw [h2, List.length_append, num4_length] at hlen; omega)
    rw [hr, List.append_nil] at h2
    simp only
    constructor
    · intro e
      rw [h2, e, bits_sgn hlt]
    · intro e
      have : num4 (bits x) = num4 m := by rw [← h2, e]
      rw [← num4_inj (bits_lt x) hlt this, sgn_bits h1]
theorem no_check {L : List Nat} (hL : ∀ b ∈ L, b < 256) (h9 : 9 ≤ L.length) (h : (rdNum ⟨L.drop (L.length - 4), false⟩).1 ≠ sgn (sumL (L.take (L.length - 4)))) : NoTab L := fun _ _ _ e => h ((check_iff hL h9).2 (by
  obtain ⟨_, _, e3, e4, _⟩ := bytes_parts e
  rw [e4, e3]))
/-- What a table's reader finds in a right table's bytes. -/
theorem found {T : TabL} {L : List Nat} (hc : T.cls.length = 256) (hp : packB T = true) (e : T.bytes = L) : rdTab ⟨(L.take (L.length - 4)).drop 5, false⟩ = (T, ⟨[], false⟩) := by
  obtain ⟨_, _, _, _, e5⟩ := bytes_parts e
  obtain ⟨hr, _, _⟩ := packB_iff.1 hp
  have := rdTab_finds (packB_fit hc hp) hr.sizes.w2 hr.sizes.nodes hr.sizes.acts hr.sizes.ends (fun a ha => (hr.acts a ha).2.2.2.2) hr.ends []
  rw [List.append_nil] at this
  rw [e5]
  exact this
theorem no_read {L : List Nat} (h : (rdTab ⟨(L.take (L.length - 4)).drop 5, false⟩).2.wrong = true ∨ 0 < (rdTab ⟨(L.take (L.length - 4)).drop 5, false⟩).2.left.length ∨ ¬ RightTab (rdTab ⟨(L.take (L.length - 4)).drop 5, false⟩).1) : NoTab L := fun T hc hp e => by
  rw [found hc hp e] at h
  rcases h with h | h | h
  · cases h
  · simp at h
  · exact h (packB_iff.1 hp).1
theorem tab_read {L : List Nat} (hL : ∀ b ∈ L, b < 256) (h9 : 9 ≤ L.length) (hm : L.take 5 = magicL) (hs : (rdNum ⟨L.drop (L.length - 4), false⟩).1 = sgn (sumL (L.take (L.length - 4))))
    (hw : (rdTab ⟨(L.take (L.length - 4)).drop 5, false⟩).2.wrong = false) (hl : (rdTab ⟨(L.take (L.length - 4)).drop 5, false⟩).2.left = []) (hr : RightTab (rdTab ⟨(L.take (L.length - 4)).drop 5, false⟩).1) :
    (rdTab ⟨(L.take (L.length - 4)).drop 5, false⟩).1.bytes = L ∧ packB (rdTab ⟨(L.take (L.length - 4)).drop 5, false⟩).1 = true ∧ (rdTab ⟨(L.take (L.length - 4)).drop 5, false⟩).1.cls.length = 256 := by
  have hs := (check_iff hL h9).1 hs
  obtain ⟨R, hR⟩ : ∃ R, (L.take (L.length - 4)).drop 5 = R := ⟨_, rfl⟩
  rw [hR] at hw hl hr ⊢
  have hRb : ∀ y ∈ R, y < 256 := fun y hy => hL y (by rw [← hR] at hy; exact List.mem_of_mem_take (List.mem_of_mem_drop hy))
  obtain ⟨_, hf, ht⟩ := rdTab_tells ⟨R, false⟩ hRb hw (fun q => by have := hr.sizes.some_; rw [q] at this; simp at this)
  refine ⟨?_, Fit_pack hf hr, hf.cls⟩
  rw [hl, List.append_nil] at ht
  have hb : (rdTab ⟨R, false⟩).1.body = L.take (L.length - 4) := by
    unfold TabL.body
    have h5 : (L.take (L.length - 4)).take 5 = magicL := by
      rw [List.take_take, Nat.min_eq_left (by omega)]
      exact hm
    have := List.take_append_drop 5 (L.take (L.length - 4))
    rw [h5, hR] at this
    rw [← this]
    congr 1
    exact ht.symm
  unfold TabL.bytes
  rw [hb, ← hs]
  exact List.take_append_drop _ _
end Go.Proofs.Ytgmkchkaceciiaa.Pk
