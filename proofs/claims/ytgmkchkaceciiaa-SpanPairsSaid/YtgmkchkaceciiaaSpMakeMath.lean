/- Plain mathematics of ref.Make: between two borders all numbers are alike. No function of the program is named here. -/
import Derived.Test.YtgmkchkaceciiaaSpBorders
namespace Go.Proofs.Ytgmkchkaceciiaa.Sp
set_option maxRecDepth 100000
open Go Go.RowKit

theorem Srt.next_le {ys : List Int} (h : Srt ys) {k : Nat} (hk : k < ys.length) {z : Int} (hz : z ∈ ys) (hlt : ys[k] < z) : ∃ h : k + 1 < ys.length, ys[k + 1] ≤ z := by
  obtain ⟨j, hj, rfl⟩ := List.getElem_of_mem hz
  have hkj : k < j := by
    rcases Nat.lt_trichotomy j k with h1 | h1 | h1
    · have := h.lt h1 hk; omega
    · subst h1; omega
    · exact h1
  refine ⟨by omega, ?_⟩
  by_cases e : j = k + 1
  · subst e; omega
  · have := h.lt (show k + 1 < j by omega) hj; omega
theorem mem_const {l ys : List Span} {bs : List Int} (h : BInv ys bs) (hl : ∀ p ∈ l, p ∈ ys) {k : Nat} (hk : k < bs.length) {x : Int} (h1 : bs[k] ≤ x) (h2 : ∀ h : k + 1 < bs.length, x < bs[k + 1]) (hx : Rng x) : mem l bs[k] ↔ mem l x := by
  have hr := h.rng _ (List.getElem_mem hk)
  have key : ∀ z ∈ bs, bs[k] < z → z ≤ x → False := fun z hz ha hb => by
    obtain ⟨h3, h4⟩ := h.srt.next_le hk hz ha
    have := h2 h3
    omega
  unfold mem
  constructor
  · rintro ⟨_, p, hp, a, b⟩
    refine ⟨hx, p, hp, by omega, ?_⟩
    refine Int.not_lt.1 fun hlt => ?_
    unfold Rng at hr hx
    exact key _ (h.hi p (hl p hp) (by omega) (by omega)) (by omega) (by omega)
  · rintro ⟨_, p, hp, a, b⟩
    refine ⟨hr, p, hp, ?_, by omega⟩
    refine Int.not_lt.1 fun hlt => ?_
    unfold Rng at hr hx
    exact key _ (h.lo p (hl p hp) (by omega) (by omega)) (by omega) (by omega)

/-- Where Make's loop stands: the first k borders are gone through. -/
structure MakeInv (bs : List Int) (P : Int → Prop) (k : Nat) (out : List Span) : Prop where
  plain : Plain out
  set : ∀ x, mem out x ↔ (Rng x ∧ (∀ h : k < bs.length, x < bs[k]) ∧ P x)
  ahead : ∀ r ∈ out, ∀ h : k < bs.length, r.2 < bs[k]
structure Segs (bs : List Int) (P : Int → Prop) : Prop where
  srt : Srt bs
  rng : ∀ y ∈ bs, Rng y
  least : -1073741824 ∈ bs
  const : ∀ (k : Nat) (hk : k < bs.length) (x : Int), bs[k] ≤ x → (∀ h : k + 1 < bs.length, x < bs[k + 1]) → Rng x → (P bs[k] ↔ P x)
theorem MakeInv.start {bs : List Int} {P : Int → Prop} (h : Segs bs P) : MakeInv bs P 0 [] := by
  refine ⟨Plain.nil, fun x => ⟨fun hm => absurd hm (mem_nil x), ?_⟩, fun _ h => (by cases h)⟩
  rintro ⟨hr, hx, _⟩
  exfalso
  obtain ⟨j, hj, e⟩ := List.getElem_of_mem h.least
  have h0 := hx (by omega)
  unfold Rng at hr
  by_cases e0 : j = 0
  · subst e0; omega
  · have := h.srt.lt (show 0 < j by omega) hj; omega
theorem MakeInv.skip {bs : List Int} {P : Int → Prop} {k : Nat} {out : List Span} (h : MakeInv bs P k out) (hs : Segs bs P) (hk : k < bs.length) (hn : ¬ P bs[k]) : MakeInv bs P (k + 1) out := by
  refine ⟨h.plain, fun x => ?_, fun r hr h1 => ?_⟩
  · rw [h.set]
    constructor
    · rintro ⟨a, b, c⟩
      refine ⟨a, fun h1 => ?_, c⟩
      have := b hk
      have := hs.srt.lt (show k < k + 1 by omega) h1
      omega
    · rintro ⟨a, b, c⟩
      refine ⟨a, fun _ => ?_, c⟩
      refine Int.not_le.1 fun hle => ?_
      exact hn ((hs.const k hk x hle b a).2 c)
  · have := h.ahead r hr hk
    have := hs.srt.lt (show k < k + 1 by omega) h1
    omega
/-- The end of a segment. -/
def segEnd (bs : List Int) (k : Nat) (to : Int) : Prop := (∀ h : k + 1 < bs.length, to = bs[k + 1] - 1) ∧ (¬ k + 1 < bs.length → to = 1073741824)
theorem seg_mem {bs : List Int} {P : Int → Prop} {k : Nat} {out : List Span} {to x : Int} (h : MakeInv bs P k out) (hs : Segs bs P) (hk : k < bs.length) (hp : P bs[k]) (ht : segEnd bs k to) : (mem out x ∨ (Rng x ∧ bs[k] ≤ x ∧ x ≤ to)) ↔ (Rng x ∧ (∀ h : k + 1 < bs.length, x < bs[k + 1]) ∧ P x) := by
  rw [h.set]
  have hlt : ∀ h1 : k + 1 < bs.length, bs[k] < bs[k + 1] := fun h1 => hs.srt.lt (by omega) h1
  constructor
  · rintro (⟨a, b, c⟩ | ⟨a, b, c⟩)
    · refine ⟨a, fun h1 => ?_, c⟩
      have := b hk
      have := hlt h1
      omega
    · have hx : ∀ h : k + 1 < bs.length, x < bs[k + 1] := fun h1 => by have := ht.1 h1; omega
      exact ⟨a, hx, (hs.const k hk x b hx a).1 hp⟩
  · rintro ⟨a, b, c⟩
    by_cases hle : bs[k] ≤ x
    · refine .inr ⟨a, hle, ?_⟩
      by_cases h1 : k + 1 < bs.length
      · have := ht.1 h1; have := b h1; omega
      · have := ht.2 h1; unfold Rng at a; omega
    · exact .inl ⟨a, fun _ => by omega, c⟩
theorem seg_ok {bs : List Int} {P : Int → Prop} {k : Nat} {to : Int} (hs : Segs bs P) (hk : k < bs.length) (ht : segEnd bs k to) : bs[k] ≤ to ∧ to ≤ 1073741824 := by
  have h0 := hs.rng _ (List.getElem_mem hk)
  unfold Rng at h0
  by_cases h1 : k + 1 < bs.length
  · have := ht.1 h1
    have := hs.srt.lt (show k < k + 1 by omega) h1
    have h2 := hs.rng _ (List.getElem_mem h1)
    unfold Rng at h2
    omega
  · have := ht.2 h1; omega
theorem MakeInv.more {bs : List Int} {P : Int → Prop} {k : Nat} {out : List Span} {to : Int} (h : MakeInv bs P k out) (hs : Segs bs P) (hk : k < bs.length) (hp : P bs[k]) (ht : segEnd bs k to) (hl : ∀ r, out.getLast? = some r → r.2 ≠ bs[k] - 1) : MakeInv bs P (k + 1) (out ++ [(bs[k], to)]) := by
  have hok := seg_ok hs hk ht
  have h0 := hs.rng _ (List.getElem_mem hk)
  unfold Rng at h0
  refine ⟨h.plain.snoc (by unfold Ok; simp only; omega) fun q hq => ?_, fun x => ?_, fun r hr h1 => ?_⟩
  · simp only
    rcases List.eq_nil_or_concat out with rfl | ⟨o, r, rfl⟩
    · cases hq
    · rw [List.concat_eq_append] at *
      have h3 := hl r (by simp)
      have h4 := h.ahead r (by simp) hk
      rcases List.mem_append.1 hq with hq | hq
      · have h5 := h.plain.append.2.2 q hq r (List.mem_singleton.2 rfl)
        have h6 := h.plain.2 r (by simp)
        unfold Ok at h6
        omega
      · obtain rfl := List.mem_singleton.1 hq
        omega
  · rw [mem_append, mem_one]
    exact seg_mem h hs hk hp ht
  · have := ht.1 h1
    have := hs.srt.lt (show k < k + 1 by omega) h1
    rcases List.mem_append.1 hr with hr | hr
    · have := h.ahead r hr hk; omega
    · obtain rfl := List.mem_singleton.1 hr
      simp only; omega
theorem MakeInv.extend {bs : List Int} {P : Int → Prop} {k : Nat} {o : List Span} {rl rh to : Int} (h : MakeInv bs P k (o ++ [(rl, rh)])) (hs : Segs bs P) (hk : k < bs.length) (hp : P bs[k]) (ht : segEnd bs k to) (hl : rh = bs[k] - 1) : MakeInv bs P (k + 1) (o ++ [(rl, to)]) := by
  have hok := seg_ok hs hk ht
  obtain ⟨ho, _, hor⟩ := h.plain.append
  have hr := h.plain.2 (rl, rh) (by simp)
  unfold Ok at hr
  simp only at hr
  refine ⟨ho.snoc (by unfold Ok; simp only; omega) fun q hq => hor q hq (rl, rh) (by simp), fun x => ?_, fun r hr h1 => ?_⟩
  · rw [← seg_mem h hs hk hp ht, mem_append, mem_append, mem_one, mem_one]
    simp only
    constructor
    · rintro (a | ⟨a, b, c⟩)
      · exact .inl (.inl a)
      · by_cases hx : x ≤ rh
        · exact .inl (.inr ⟨a, b, hx⟩)
        · exact .inr ⟨a, by omega, c⟩
    · rintro ((a | ⟨a, b, c⟩) | ⟨a, b, c⟩)
      · exact .inl a
      · exact .inr ⟨a, b, by omega⟩
      · exact .inr ⟨a, by omega, c⟩
  · have := ht.1 h1
    have := hs.srt.lt (show k < k + 1 by omega) h1
    rcases List.mem_append.1 hr with hr | hr
    · have := h.ahead r (by simp [hr]) hk; omega
    · obtain rfl := List.mem_singleton.1 hr
      simp only; omega
theorem MakeInv.done {bs : List Int} {P : Int → Prop} {k : Nat} {out : List Span} (h : MakeInv bs P k out) (hk : bs.length ≤ k) : Is out fun x => Rng x ∧ P x :=
  ⟨h.plain, fun x => by
    rw [h.set]
    exact ⟨fun ⟨a, _, c⟩ => ⟨a, c⟩, fun ⟨a, c⟩ => ⟨a, fun h => by omega, c⟩⟩⟩

/-- What Make takes of two sets. -/
def inP (how : Int) (a b : Bool) : Bool := if how = 1 then a && b else if how = 2 then a && !b else a || b
theorem segs_of {l r : List Span} {bs : List Int} (h : BInv (l ++ r) bs) (how : Int) : Segs bs (fun x => inP how (memB l x) (memB r x) = true) := by
  refine ⟨h.srt, h.rng, h.least, fun k hk x h1 h2 hx => ?_⟩
  have e1 : memB l bs[k] = memB l x := Bool.eq_iff_iff.2 (by rw [memB_iff, memB_iff]; exact mem_const h (fun p hp => List.mem_append.2 (.inl hp)) hk h1 h2 hx)
  have e2 : memB r bs[k] = memB r x := Bool.eq_iff_iff.2 (by rw [memB_iff, memB_iff]; exact mem_const h (fun p hp => List.mem_append.2 (.inr hp)) hk h1 h2 hx)
  simp only [e1, e2]
end Go.Proofs.Ytgmkchkaceciiaa.Sp
