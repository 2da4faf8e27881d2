/- Sets of numbers under a part, plainly. No function of the program is named here. -/
import Derived.Test.YtldpoaknddhjfaaPaMath
namespace Go.Proofs.Ytldpoaknddhjfaa.Pa
set_option maxRecDepth 100000
open Go.Proofs.Ytldpoaknddhjfaa.Sp

/-- The numbers of a set that have a value. -/
def DomS (d t u : Int) (s : List Span) (x : Int) : Prop := Bits d t u ∧ mem s x ∧ 0 ≤ x ∧ x ≤ 2097151
theorem mem_map {f : Span → Span} {p : List Span} {x : Int} : mem (p.map f) x ↔ Rng x ∧ ∃ q ∈ p, (f q).1 ≤ x ∧ x ≤ (f q).2 := by
  unfold mem
  constructor
  · rintro ⟨h, q, hq, h2⟩
    obtain ⟨r, hr, rfl⟩ := List.mem_map.1 hq
    exact ⟨h, r, hr, h2⟩
  · rintro ⟨h, q, hq, h2⟩
    exact ⟨h, f q, List.mem_map.2 ⟨q, hq, rfl⟩, h2⟩
theorem map_next {f : Span → Span} {p : List Span} {k : Nat} {lo hi : Int} (hk : ∃ hl : k < p.length, p[k] = (lo, hi)) : (p.take (k + 1)).map f = (p.take k).map f ++ [f (lo, hi)] := by
  obtain ⟨hl, e⟩ := hk
  rw [List.take_succ_eq_append_getElem hl, List.map_append, e]
  rfl
def shrF (K : Int) (q : Span) : Span := (q.1 / K, q.2 / K)
/-- All spans lie among the numbers that have values. -/
def Low (p : List Span) : Prop := ∀ q ∈ p, 0 ≤ q.1 ∧ q.1 ≤ q.2 ∧ q.2 ≤ 2097151
theorem low_of {p : List Span} (hp : Plain p) (h : ∀ x, mem p x → 0 ≤ x ∧ x ≤ 2097151) : Low p := by
  intro q hq
  obtain ⟨a, b, c⟩ := hp.2 q hq
  have h1 := h q.1 ⟨by unfold Rng; omega, q, hq, Int.le_refl _, a⟩
  have h2 := h q.2 ⟨by unfold Rng; omega, q, hq, a, Int.le_refl _⟩
  omega
theorem shr_mem {K : Int} (hK : 1 ≤ K) {p : List Span} (hp : Low p) (h : Int) : mem (p.map (shrF K)) h ↔ ∃ x, mem p x ∧ x / K = h := by
  rw [mem_map]
  constructor
  · rintro ⟨_, q, hq, a, b⟩
    obtain ⟨h1, h2, h3⟩ := hp q hq
    obtain ⟨x, p1, p2, p3⟩ := (img_div hK h2 h).2 ⟨a, b⟩
    exact ⟨x, ⟨by unfold Rng; omega, q, hq, p1, p2⟩, p3⟩
  · rintro ⟨x, ⟨_, q, hq, a, b⟩, rfl⟩
    obtain ⟨h1, h2, h3⟩ := hp q hq
    have := (img_div hK h2 (x / K)).1 ⟨x, a, b, rfl⟩
    have l1 : 0 ≤ x / K := Int.ediv_nonneg (by omega) (by omega)
    have l2 : x / K ≤ x := Int.ediv_le_self _ (by omega)
    exact ⟨by unfold Rng; omega, q, hq, this⟩
def lowF (U : Int) (q : Span) : Span := ((q.1 + U - 1) / U, q.2 / U)
theorem ceil_le {U a y : Int} (hU : 1 ≤ U) : (a + U - 1) / U ≤ y ↔ a ≤ y * U := by
  have e : (y + 1) * U = y * U + U := by rw [Int.add_mul, Int.one_mul]
  constructor
  · intro h
    have := (Int.ediv_lt_iff_lt_mul (show 0 < U by omega)).1 (show (a + U - 1) / U < y + 1 by omega)
    omega
  · intro h
    have := (Int.ediv_lt_iff_lt_mul (show 0 < U by omega)).2 (show a + U - 1 < (y + 1) * U by omega)
    omega
theorem mul_ge {y U : Int} (hy : 0 ≤ y) (hU : 1 ≤ U) : y ≤ y * U := by
  have := Int.mul_le_mul_of_nonneg_left hU hy
  omega
theorem low_mem {U : Int} (hU : 1 ≤ U) {m : List Span} (hm : ∀ q ∈ m, 0 ≤ q.1 ∧ q.2 ≤ 1073741824) (y : Int) : mem (m.map (lowF U)) y ↔ 0 ≤ y ∧ mem m (y * U) := by
  rw [mem_map]
  constructor
  · rintro ⟨_, q, hq, a, b⟩
    obtain ⟨h1, h2⟩ := hm q hq
    have a' := (ceil_le hU).1 a
    have b' := (Int.le_ediv_iff_mul_le (show 0 < U by omega)).1 b
    have hy : 0 ≤ y := by
      rcases Int.lt_or_le y 0 with h | h
      · have := Int.mul_le_mul_of_nonneg_right (show y ≤ -1 by omega) (show 0 ≤ U by omega)
        omega
      · exact h
    exact ⟨hy, ⟨by unfold Rng; omega, q, hq, a', b'⟩⟩
  · rintro ⟨hy, ⟨hr, q, hq, a, b⟩⟩
    have := mul_ge hy hU
    unfold Rng at hr
    exact ⟨by unfold Rng; omega, q, hq, (ceil_le hU).2 a, (Int.le_ediv_iff_mul_le (show 0 < U by omega)).2 b⟩

/-- What part.Pre lays for one round: where the bits that are taken start from 0 again. -/
def blkF (K D h : Int) (r : Span) : Span := (h * K + r.1 * D, h * K + (r.2 + 1) * D - 1)
def preL (K D : Int) (W : List Span) (hs : List Int) : List Span := hs.flatMap fun h => W.map (blkF K D h)
theorem preL_snoc (K D : Int) (W : List Span) (hs : List Int) (h : Int) : preL K D W (hs ++ [h]) = preL K D W hs ++ W.map (blkF K D h) := by simp [preL]
theorem preL_length (K D : Int) (W : List Span) (hs : List Int) : (preL K D W hs).length = hs.length * W.length := by
  induction hs with
  | nil => simp [preL]
  | cons h hs ih =>
    have : preL K D W (h :: hs) = W.map (blkF K D h) ++ preL K D W hs := rfl
    rw [this, List.length_append, List.length_map, ih, List.length_cons, Nat.add_mul]
    omega
theorem preL_mem {K D : Int} {W : List Span} {hs : List Int} {x : Int} : mem (preL K D W hs) x ↔ Rng x ∧ ∃ h ∈ hs, ∃ r ∈ W, h * K + r.1 * D ≤ x ∧ x ≤ h * K + (r.2 + 1) * D - 1 := by
  unfold mem preL
  constructor
  · rintro ⟨a, q, hq, b⟩
    obtain ⟨h, hh, hq⟩ := List.mem_flatMap.1 hq
    obtain ⟨r, hr, rfl⟩ := List.mem_map.1 hq
    exact ⟨a, h, hh, r, hr, b⟩
  · rintro ⟨a, h, hh, r, hr, b⟩
    exact ⟨a, blkF K D h r, List.mem_flatMap.2 ⟨h, hh, List.mem_map.2 ⟨r, hr, rfl⟩⟩, b⟩
theorem digits {D T x : Int} (hD : 1 ≤ D) : x = x / (D * T) * (D * T) + x / D % T * D + x % D ∧ 0 ≤ x % D ∧ x % D < D := by
  have h1 := Int.emod_add_ediv_mul x D
  have h2 := Int.emod_add_ediv_mul (x / D) T
  have h3 : x / D / T = x / (D * T) := by rw [Int.ediv_ediv, if_neg (by omega)]; omega
  rw [h3] at h2
  have e : x / D * D = (x / D % T + x / (D * T) * T) * D := by rw [h2]
  rw [Int.add_mul] at e
  have e2 : x / (D * T) * T * D = x / (D * T) * (D * T) := by rw [Int.mul_assoc, Int.mul_comm T D]
  exact ⟨by omega, Int.emod_nonneg _ (by omega), Int.emod_lt_of_pos _ (by omega)⟩
theorem round_of {D T x h a b : Int} (hD : 1 ≤ D) (ha : 0 ≤ a) (hb : b ≤ T - 1) (h1 : h * (D * T) + a * D ≤ x) (h2 : x ≤ h * (D * T) + (b + 1) * D - 1) : a ≤ x / D % T ∧ x / D % T ≤ b := by
  have e : h * (D * T) = h * T * D := by rw [Int.mul_assoc, Int.mul_comm T D]
  rw [e] at h1 h2
  have p1 : h * T + a ≤ x / D := (Int.le_ediv_iff_mul_le (by omega)).2 (by rw [Int.add_mul]; omega)
  have p2 : x / D < h * T + (b + 1) := (Int.ediv_lt_iff_lt_mul (by omega)).2 (by rw [Int.add_mul]; omega)
  have q : x / D % T = x / D - h * T := by
    have : x / D = (x / D - h * T) + h * T := by omega
    rw [this, Int.add_mul_emod_self_right]
    rw [show x / D - h * T + h * T - h * T = x / D - h * T from by omega]
    exact Int.emod_eq_of_lt (by omega) (by omega)
  omega
/-- What part.Pre comes to. -/
theorem pre_set {d t u : Int} {s g own R W hs : _} (hown : ∀ x, mem own x ↔ DomS d t u s x) (hR : ∀ h, h ∈ hs ↔ mem R h) (hRm : ∀ h, mem R h ↔ ∃ x, mem own x ∧ x / (pw d * pw t) = h)
    (hW : Plain W) (hWm : ∀ y, mem W y ↔ 0 ≤ y ∧ y ≤ pw t - 1 ∧ mem g (y * pw u)) (x : Int) :
    (mem own x ∧ mem (preL (pw d * pw t) (pw d) W hs) x) ↔ (DomS d t u s x ∧ mem g (valI d t u x)) := by
  have hD := pw_pos d
  have hT := pw_pos t
  have low : ∀ r ∈ W, 0 ≤ r.1 ∧ r.2 ≤ pw t - 1 := by
    intro r hr
    obtain ⟨a, b, c⟩ := hW.2 r hr
    have h1 := (hWm r.1).1 ⟨by unfold Rng; omega, r, hr, Int.le_refl _, a⟩
    have h2 := (hWm r.2).1 ⟨by unfold Rng; omega, r, hr, a, Int.le_refl _⟩
    omega
  rw [preL_mem]
  constructor
  · rintro ⟨ho, hr, h, _, r, hrW, h1, h2⟩
    have hx := (hown x).1 ho
    have := round_of hD (low r hrW).1 (low r hrW).2 h1 h2
    obtain ⟨a, b, c⟩ := hW.2 r hrW
    have hz : mem W (x / pw d % pw t) := ⟨by unfold Rng; omega, r, hrW, this⟩
    exact ⟨hx, ((hWm _).1 hz).2.2⟩
  · rintro ⟨hx, hg⟩
    have ho := (hown x).2 hx
    obtain ⟨_, _, x0, x1⟩ := hx
    have hm := mod_lt (x / pw d) t
    have hz : mem W (x / pw d % pw t) := (hWm _).2 ⟨hm.1, by omega, hg⟩
    obtain ⟨_, r, hrW, r1, r2⟩ := hz
    obtain ⟨e, e1, e2⟩ := digits (T := pw t) (x := x) hD
    refine ⟨ho, by unfold Rng; omega, x / (pw d * pw t), (hR _).2 ((hRm _).2 ⟨x, ho, rfl⟩), r, hrW, ?_, ?_⟩
    · have := Int.mul_le_mul_of_nonneg_right r1 (show 0 ≤ pw d by omega)
      omega
    · have := Int.mul_le_mul_of_nonneg_right r2 (show 0 ≤ pw d by omega)
      rw [Int.add_mul, Int.one_mul]
      omega
end Go.Proofs.Ytldpoaknddhjfaa.Pa
