/- Plain mathematics of a plain list held against one span: which of its spans are cut, and what is left of them. -/
import Derived.Test.YtgmkchkaceciiaaSpMath
namespace Go.Proofs.Ytgmkchkaceciiaa.Sp
set_option maxRecDepth 100000

theorem count_mono (n : Nat) (p : Nat → Bool) (hm : ∀ a b, a ≤ b → b < n → p a = true → p b = true) :
    (List.range n).countP (fun i => !p i) ≤ n ∧ (∀ i, i < (List.range n).countP (fun i => !p i) → p i = false) ∧ (∀ i, (List.range n).countP (fun i => !p i) ≤ i → i < n → p i = true) := by
  induction n with
  | zero => exact ⟨by simp, fun i h => by simp at h, fun i _ h => by omega⟩
  | succ n ih =>
    obtain ⟨h1, h2, h3⟩ := ih fun a b hab hb => hm a b hab (by omega)
    rw [List.range_succ, List.countP_append]
    generalize hc : (List.range n).countP (fun i => !p i) = c at *
    cases hp : p n with
    | true =>
      rw [show List.countP (fun i => !p i) [n] = 0 by simp [hp], Nat.add_zero]
      refine ⟨by omega, h2, fun i h4 h5 => ?_⟩
      by_cases e : i = n
      · rw [e, hp]
      · exact h3 i h4 (by omega)
    | false =>
      have hcn : c = n := by
        by_cases hlt : c < n
        · have h4 := h3 c (Nat.le_refl _) hlt
          have h5 := hm c n (by omega) (by omega) h4
          rw [hp] at h5
          cases h5
        · omega
      rw [show List.countP (fun i => !p i) [n] = 1 by simp [hp]]
      refine ⟨by omega, fun i h4 => ?_, fun i h4 h5 => by omega⟩
      by_cases e : i = n
      · rw [e, hp]
      · exact h2 i (by omega)

/-- The span at a place, and its ends. -/
def spAt (p : List Span) (i : Nat) : Span := (p[i]?).getD (0, 0)
theorem spAt_eq {p : List Span} {i : Nat} (h : i < p.length) : spAt p i = p[i] := by simp [spAt, h]
def fromP (p : List Span) (lo : Int) (i : Nat) : Bool := decide (lo ≤ (spAt p i).2)
def toP (p : List Span) (hi : Int) (i : Nat) : Bool := decide (hi < (spAt p i).1)
def fromN (p : List Span) (lo : Int) : Nat := (List.range p.length).countP (fun i => !fromP p lo i)
def toN (p : List Span) (hi : Int) : Nat := (List.range p.length).countP (fun i => !toP p hi i)
theorem plain_lt {p : List Span} (h : Plain p) {i j : Nat} (hij : i < j) (hj : j < p.length) : p[i].2 + 1 < p[j].1 := (List.pairwise_iff_getElem.1 h.1) i j (by omega) hj hij
theorem plain_ok {p : List Span} (h : Plain p) {i : Nat} (hi : i < p.length) : Ok p[i] := h.2 _ (List.getElem_mem hi)
theorem fromP_mono {p : List Span} (h : Plain p) (lo : Int) : ∀ a b, a ≤ b → b < p.length → fromP p lo a = true → fromP p lo b = true := fun a b hab hb ha => by
  unfold fromP at *
  rw [spAt_eq (by omega)] at *
  simp only [decide_eq_true_eq] at *
  by_cases e : a = b
  · subst e; exact ha
  · have h1 := plain_lt h (i := a) (j := b) (by omega) hb
    have h2 := plain_ok h hb
    unfold Ok at h2
    omega
theorem toP_mono {p : List Span} (h : Plain p) (hi : Int) : ∀ a b, a ≤ b → b < p.length → toP p hi a = true → toP p hi b = true := fun a b hab hb ha => by
  unfold toP at *
  rw [spAt_eq (by omega)] at *
  simp only [decide_eq_true_eq] at *
  by_cases e : a = b
  · subst e; exact ha
  · have h1 := plain_lt h (i := a) (j := b) (by omega) hb
    have h2 := plain_ok h (i := a) (by omega)
    unfold Ok at h2
    omega
theorem fromN_le {p : List Span} (h : Plain p) (lo : Int) : fromN p lo ≤ p.length := (count_mono p.length _ (fromP_mono h lo)).1
theorem toN_le {p : List Span} (h : Plain p) (hi : Int) : toN p hi ≤ p.length := (count_mono p.length _ (toP_mono h hi)).1
theorem from_below {p : List Span} (h : Plain p) {lo : Int} {i : Nat} (hi : i < p.length) : i < fromN p lo ↔ p[i].2 < lo := by
  obtain ⟨_, h2, h3⟩ := count_mono p.length _ (fromP_mono h lo)
  change (∀ i, i < fromN p lo → _) at h2
  change (∀ i, fromN p lo ≤ i → _) at h3
  constructor
  · intro h4
    have := h2 i h4
    unfold fromP at this
    rw [spAt_eq hi] at this
    simp only [decide_eq_false_iff_not] at this
    omega
  · intro h4
    by_cases h5 : i < fromN p lo
    · exact h5
    · have := h3 i (by omega) hi
      unfold fromP at this
      rw [spAt_eq hi] at this
      simp only [decide_eq_true_eq] at this
      omega
theorem to_below {p : List Span} (h : Plain p) {hi : Int} {i : Nat} (hi' : i < p.length) : i < toN p hi ↔ p[i].1 ≤ hi := by
  obtain ⟨_, h2, h3⟩ := count_mono p.length _ (toP_mono h hi)
  change (∀ i, i < toN p hi → _) at h2
  change (∀ i, toN p hi ≤ i → _) at h3
  constructor
  · intro h4
    have := h2 i h4
    unfold toP at this
    rw [spAt_eq hi'] at this
    simp only [decide_eq_false_iff_not] at this
    omega
  · intro h4
    by_cases h5 : i < toN p hi
    · exact h5
    · have := h3 i (by omega) hi'
      unfold toP at this
      rw [spAt_eq hi'] at this
      simp only [decide_eq_true_eq] at this
      omega
/-- What a plain list and a span have in common, span by span. -/
def subL (p : List Span) (r : Span) : List Span := (p.take (toN p r.2)).drop (fromN p r.1)
def clipL (p : List Span) (r : Span) : List Span := (subL p r).map fun q => (max q.1 r.1, min q.2 r.2)
theorem subL_length {p : List Span} (h : Plain p) (r : Span) : (subL p r).length = toN p r.2 - fromN p r.1 := by
  unfold subL
  have := toN_le h r.2
  simp
  omega
theorem subL_at {p : List Span} (h : Plain p) (r : Span) {j : Nat} (hj : j < (subL p r).length) : ∃ hp : fromN p r.1 + j < p.length, (subL p r)[j] = p[fromN p r.1 + j] ∧ r.1 ≤ p[fromN p r.1 + j].2 ∧ p[fromN p r.1 + j].1 ≤ r.2 := by
  have h1 := subL_length h r
  have h2 := toN_le h r.2
  have hp : fromN p r.1 + j < p.length := by omega
  refine ⟨hp, by simp [subL], ?_, (to_below h hp).1 (by omega)⟩
  have := (not_congr (from_below h (lo := r.1) hp)).1 (by omega)
  omega
theorem subL_mem {p : List Span} (h : Plain p) (r : Span) (q : Span) : q ∈ subL p r ↔ q ∈ p ∧ r.1 ≤ q.2 ∧ q.1 ≤ r.2 := by
  constructor
  · intro hq
    obtain ⟨j, hj, rfl⟩ := List.getElem_of_mem hq
    obtain ⟨hp, e, h1, h2⟩ := subL_at h r hj
    rw [e]
    exact ⟨List.getElem_mem hp, h1, h2⟩
  · rintro ⟨hq, h1, h2⟩
    obtain ⟨i, hi, rfl⟩ := List.getElem_of_mem hq
    have h3 := (not_congr (from_below h (lo := r.1) hi)).2 (by omega)
    have h4 := (to_below h (hi := r.2) hi).2 h2
    have hj : i - fromN p r.1 < (subL p r).length := by rw [subL_length h]; omega
    obtain ⟨hp, e, _⟩ := subL_at h r hj
    have : (subL p r)[i - fromN p r.1] = p[i] := by rw [e]; congr 1; omega
    rw [← this]
    exact List.getElem_mem hj
theorem clipL_is {p : List Span} (h : Plain p) {r : Span} (hr : Ok r) : Is (clipL p r) fun x => mem p x ∧ mem [r] x := by
  refine ⟨⟨?_, ?_⟩, fun x => ?_⟩
  · unfold clipL
    rw [List.pairwise_map]
    have h1 : (subL p r).Pairwise (fun p q => p.2 + 1 < q.1) := (h.1.sublist (List.take_sublist _ _)).sublist (List.drop_sublist _ _)
    exact h1.imp fun {a b} hab => by simp only; omega
  · intro q hq
    unfold clipL at hq
    obtain ⟨a, ha, rfl⟩ := List.mem_map.1 hq
    obtain ⟨h1, h2, h3⟩ := (subL_mem h r a).1 ha
    have h4 := h.2 a h1
    unfold Ok at *
    simp only
    omega
  · unfold mem clipL
    constructor
    · rintro ⟨hx, q, hq, h1, h2⟩
      obtain ⟨a, ha, rfl⟩ := List.mem_map.1 hq
      obtain ⟨h3, _, _⟩ := (subL_mem h r a).1 ha
      simp only at h1 h2
      exact ⟨⟨hx, a, h3, by omega, by omega⟩, hx, r, by simp, by omega, by omega⟩
    · rintro ⟨⟨hx, a, ha, h1, h2⟩, _, r', hr', h3, h4⟩
      obtain rfl := List.mem_singleton.1 hr'
      refine ⟨hx, _, List.mem_map.2 ⟨a, (subL_mem h r' a).2 ⟨ha, by omega, by omega⟩, rfl⟩, by simp only; omega, by simp only; omega⟩
theorem clip_none {p : List Span} (h : Plain p) {r : Span} (hle : toN p r.2 ≤ fromN p r.1) : Is [] fun x => mem p x ∧ mem [r] x := by
  refine ⟨Plain.nil, fun x => ⟨fun hm => absurd hm (mem_nil x), ?_⟩⟩
  rintro ⟨⟨hx, a, ha, h1, h2⟩, _, r', hr', h3, h4⟩
  obtain rfl := List.mem_singleton.1 hr'
  have h5 : a ∈ subL p r' := (subL_mem h r' a).2 ⟨ha, by omega, by omega⟩
  have h6 := subL_length h r'
  have := List.length_pos_of_mem h5
  omega
theorem clipL_at {p : List Span} {r : Span} {j : Nat} (h : j < (clipL p r).length) (hj : j < (subL p r).length) : (clipL p r)[j] = (max (subL p r)[j].1 r.1, min (subL p r)[j].2 r.2) := by
  simp [clipL]
/-- The two ends set are all that is cut. -/
def firstL (p : List Span) (r : Span) : List Span := (subL p r).set 0 (max (spAt (subL p r) 0).1 r.1, (spAt (subL p r) 0).2)
theorem firstL_length (p : List Span) (r : Span) : (firstL p r).length = (subL p r).length := by simp [firstL]
theorem clip_two {p : List Span} (h : Plain p) {r : Span} (hpos : 0 < (subL p r).length) :
    (firstL p r).set ((subL p r).length - 1) ((spAt (firstL p r) ((subL p r).length - 1)).1, min (spAt (firstL p r) ((subL p r).length - 1)).2 r.2) = clipL p r := by
  have hl := firstL_length p r
  have hP : Plain (subL p r) := (h.take _).drop _
  apply List.ext_getElem
  · simp [hl, clipL]
  intro j h1 h2
  have hj : j < (subL p r).length := by simpa [clipL] using h2
  obtain ⟨hp, e, h5, h6⟩ := subL_at h r hj
  have e0 : spAt (subL p r) 0 = (subL p r)[0] := spAt_eq hpos
  have en : spAt (firstL p r) ((subL p r).length - 1) = (firstL p r)[(subL p r).length - 1]'(by omega) := spAt_eq (by omega)
  have hfirst : ∀ (i : Nat) (hi : i < (firstL p r).length), (firstL p r)[i] = if i = 0 then (max (subL p r)[0].1 r.1, (subL p r)[0].2) else (subL p r)[i]'(by omega) := fun i hi => by
    simp only [firstL, List.getElem_set, e0]
    split
    · next e => subst e; simp
    · next e => rw [if_neg (by omega)]
  have hmax : 0 < j → max (subL p r)[j].1 r.1 = (subL p r)[j].1 := fun hj0 => by
    have h7 := plain_lt hP hj0 hj
    obtain ⟨hp0, e0', h50, h60⟩ := subL_at h r hpos
    rw [← e0'] at h50
    omega
  have hmin : j < (subL p r).length - 1 → min (subL p r)[j].2 r.2 = (subL p r)[j].2 := fun hjn => by
    have h7 := plain_lt hP hjn (by omega)
    obtain ⟨hpn, en', h5n, h6n⟩ := subL_at h r (j := (subL p r).length - 1) (by omega)
    rw [← en'] at h6n
    omega
  rw [List.getElem_set, clipL_at h2 hj]
  split
  · next e1 =>
    subst e1
    rw [en, hfirst]
    split
    · next e2 =>
      have : (subL p r).length - 1 = 0 := e2
      simp only [this]
    · next e2 =>
      rw [hmax (by omega)]
  · next e1 =>
    rw [hfirst, hmin (by omega)]
    split
    · next e2 => subst e2; rfl
    · next e2 => rw [hmax (by omega)]
end Go.Proofs.Ytgmkchkaceciiaa.Sp
