/- What part.Image and part.raise come to, plainly. -/
import Derived.Test.YtldpoaknddhjfaaPaRaise
namespace Go.Proofs.Ytldpoaknddhjfaa.Pa
set_option maxRecDepth 100000
open Go Go.Proofs.Ytldpoaknddhjfaa.Sp

def ImgS (d t u : Int) (s : List Span) (y : Int) : Prop := ∃ x, DomS d t u s x ∧ valI d t u x = y
def takL (d t : Int) (p : List Span) : List Span := p.flatMap fun q => takeP d t q.1 q.2
theorem takL_next {d t : Int} {p : List Span} {k : Nat} {lo hi : Int} (hk : ∃ hl : k < p.length, p[k] = (lo, hi)) : takL d t (p.take (k + 1)) = takL d t (p.take k) ++ takeP d t lo hi := by
  obtain ⟨hl, e⟩ := hk
  rw [List.take_succ_eq_append_getElem hl, takL, List.flatMap_append, e]
  simp [takL]
theorem takL_len (d t : Int) (p : List Span) : (takL d t p).length ≤ 2 * p.length := by
  induction p with
  | nil => simp [takL]
  | cons q p ih =>
    have : takL d t (q :: p) = takeP d t q.1 q.2 ++ takL d t p := rfl
    rw [this, List.length_append, List.length_cons]
    have := takeP_len d t q.1 q.2
    omega
theorem takL_mem {d t : Int} (ht : t ≤ 21) {p : List Span} (hp : Low p) (y : Int) : mem (takL d t p) y ↔ ∃ x, mem p x ∧ x / pw d % pw t = y := by
  induction p with
  | nil =>
    constructor
    · intro h; exact absurd h (mem_nil y)
    · rintro ⟨x, h, _⟩; exact absurd h (mem_nil x)
  | cons q p ih =>
    have hq := hp q (by simp)
    have ih := ih (fun r hr => hp r (by simp [hr]))
    have e : takL d t (q :: p) = takeP d t q.1 q.2 ++ takL d t p := rfl
    rw [e, mem_append, ih, takeP_mem hq.2.1 ht]
    constructor
    · rintro (⟨x, a, b, c⟩ | ⟨x, a, b⟩)
      · exact ⟨x, mem_cons.2 (.inl ⟨by unfold Rng; omega, a, b⟩), c⟩
      · exact ⟨x, mem_cons.2 (.inr a), b⟩
    · rintro ⟨x, a, c⟩
      rcases mem_cons.1 a with ⟨_, a1, a2⟩ | a
      · exact .inl ⟨x, a1, a2, c⟩
      · exact .inr ⟨x, a, c⟩

theorem seg_mem : ∀ (n : Nat) (lo x : Int), x ∈ seg lo n ↔ lo ≤ x ∧ x < lo + n := by
  intro n
  induction n with
  | zero => intro lo x; simp [seg] <;> omega
  | succ n ih => intro lo x; rw [seg, List.mem_cons, ih]; omega
theorem seg_sorted : ∀ (n : Nat) (lo : Int), (seg lo n).Pairwise (· < ·) := by
  intro n
  induction n with
  | zero => intro lo; exact List.Pairwise.nil
  | succ n ih => intro lo; rw [seg]; exact List.Pairwise.cons (fun x hx => by have := (seg_mem n (lo + 1) x).1 hx; omega) (ih _)
theorem numsL_mem : ∀ (p : List Span), Plain p → ∀ x, x ∈ numsL p ↔ mem p x := by
  intro p
  induction p with
  | nil => intro _ x; simp [numsL, mem_nil]
  | cons q p ih =>
    intro h x
    have hc := h.cons
    have ho := hc.1
    unfold Ok at ho
    rw [numsL, List.mem_append, seg_mem, ih hc.2.1 x, mem_cons]
    unfold Rng
    constructor
    · rintro (a | a)
      · exact .inl (by omega)
      · exact .inr a
    · rintro (a | a)
      · exact .inl (by omega)
      · exact .inr a
theorem numsL_sorted : ∀ (p : List Span), Plain p → (numsL p).Pairwise (· < ·) := by
  intro p
  induction p with
  | nil => intro _; exact List.Pairwise.nil
  | cons q p ih =>
    intro h
    have hc := h.cons
    have ho := hc.1
    unfold Ok at ho
    rw [numsL]
    refine List.pairwise_append.2 ⟨seg_sorted _ _, ih hc.2.1, fun a ha b hb => ?_⟩
    have h1 := (seg_mem _ _ a).1 ha
    obtain ⟨_, r, hr, h2, h3⟩ := (numsL_mem p hc.2.1 b).1 hb
    have := hc.2.2 r hr
    omega
theorem rais_is {p : List Span} {u : Int} (hp : Plain p) (hl : ∀ y, mem p y → 0 ≤ y ∧ y ≤ 63) (hu1 : 1 ≤ u) (hu2 : u ≤ 20) : Is ((numsL p).map (rsF (pw u))) fun v => ∃ y, mem p y ∧ y * pw u = v := by
  have h2 := pw_two hu1
  have h20 := pw_le hu2 pw20
  have hb : ∀ y, mem p y → 0 ≤ y * pw u ∧ y * pw u ≤ 66060288 := fun y hy => mul_bound (A := 63) (B := 1048576) (hl y hy).1 (hl y hy).2 (by omega) h20
  have hf : ∀ y, mem p y → rsF (pw u) y = (y * pw u, y * pw u) := fun y hy => by
    have := hb y hy
    unfold rsF
    rw [IntWalk.i64_in _ (by omega)]
  refine ⟨⟨?_, ?_⟩, fun v => ?_⟩
  · rw [List.pairwise_map]
    refine (numsL_sorted p hp).imp_of_mem fun {a b} ha hb' hab => ?_
    rw [hf a ((numsL_mem p hp a).1 ha), hf b ((numsL_mem p hp b).1 hb')]
    simp only
    have := Int.mul_le_mul_of_nonneg_right (show a + 1 ≤ b by omega) (show 0 ≤ pw u by omega)
    rw [Int.add_mul, Int.one_mul] at this
    omega
  · intro q hq
    obtain ⟨y, hy, rfl⟩ := List.mem_map.1 hq
    have hy := (numsL_mem p hp y).1 hy
    rw [hf y hy]
    have := hb y hy
    unfold Ok
    simp only
    omega
  · unfold mem
    constructor
    · rintro ⟨_, q, hq, a, b⟩
      obtain ⟨y, hy, rfl⟩ := List.mem_map.1 hq
      have hy := (numsL_mem p hp y).1 hy
      rw [hf y hy] at a b
      simp only at a b
      exact ⟨y, hy, by omega⟩
    · rintro ⟨y, hy, rfl⟩
      have := hb y hy
      refine ⟨by unfold Rng; omega, rsF (pw u) y, List.mem_map.2 ⟨y, (numsL_mem p hp y).2 hy, rfl⟩, ?_⟩
      rw [hf y hy]
      exact ⟨Int.le_refl _, Int.le_refl _⟩
/-- What part.Image comes to: the bits that are taken, raised. -/
theorem img_is {d t u : Int} {s own tk : List Span} (hown : Is own (DomS d t u s)) (htk : Is tk (mem (takL d t own))) : Is (raisL u tk) (ImgS d t u s) := by
  by_cases hb : Bits d t u
  · have hlow : Low own := low_of hown.1 fun x hx => ((hown.2 x).1 hx).2.2
    have hk : ∀ y, mem tk y ↔ ∃ x, DomS d t u s x ∧ x / pw d % pw t = y := fun y => by
      rw [htk.2, takL_mem hb.2.2.2.1 hlow]
      constructor
      · rintro ⟨x, a, b⟩; exact ⟨x, (hown.2 x).1 a, b⟩
      · rintro ⟨x, a, b⟩; exact ⟨x, (hown.2 x).2 a, b⟩
    obtain ⟨b1, b2, b3, b4, b5, b6, b7⟩ := hb
    by_cases hu : u = 0
    · subst hu
      rw [raisL, if_pos rfl]
      refine ⟨htk.1, fun y => ?_⟩
      rw [hk]
      unfold ImgS valI
      rw [pw_zero]
      simp only [Int.mul_one]
    · rw [raisL, if_neg hu]
      refine (rais_is htk.1 (fun y hy => ?_) (by omega) b6).congr fun v => ?_
      · obtain ⟨x, _, rfl⟩ := (hk y).1 hy
        have := mod_lt (x / pw d) t
        have := pw_le (show t ≤ 6 by omega) pw6
        omega
      · constructor
        · rintro ⟨y, hy, rfl⟩
          obtain ⟨x, a, rfl⟩ := (hk y).1 hy
          exact ⟨x, a, rfl⟩
        · rintro ⟨x, a, rfl⟩
          exact ⟨_, (hk _).2 ⟨x, a, rfl⟩, rfl⟩
  · have h1 : own = [] := hown.nil_iff.2 fun x hx => hb hx.1
    subst h1
    have h2 : tk = [] := htk.nil_iff.2 fun x hx => mem_nil x hx
    subst h2
    have e : raisL u [] = [] := by unfold raisL; split <;> rfl
    rw [e]
    exact ⟨Plain.nil, fun y => ⟨fun h => absurd h (mem_nil y), fun ⟨x, hx, _⟩ => absurd hx.1 hb⟩⟩
theorem bits_up {d t u : Int} {s own tk : List Span} (hown : Is own (DomS d t u s)) (htk : Is tk (mem (takL d t own))) (hne : tk ≠ []) : 0 ≤ u ∧ u ≤ 20 := by
  by_cases hb : Bits d t u
  · exact ⟨hb.2.2.2.2.1, hb.2.2.2.2.2.1⟩
  · have h1 : own = [] := hown.nil_iff.2 fun x hx => hb hx.1
    subst h1
    exact absurd (htk.nil_iff.2 fun x hx => mem_nil x hx) hne
end Go.Proofs.Ytldpoaknddhjfaa.Pa
