/- How much part.Pre lays, plainly. -/
import Derived.Test.YtldpoaknddhjfaaPaImage
namespace Go.Proofs.Ytldpoaknddhjfaa.Pa
set_option maxRecDepth 100000
open Go Go.Proofs.Ytldpoaknddhjfaa.Sp

theorem cnt_le_to (M : Int) : ∀ (l : List Span) (lo : Int), Plain l → (∀ p ∈ l, lo ≤ p.1 ∧ p.2 < M) → lo ≤ M → cnt l ≤ M - lo := by
  intro l
  induction l with
  | nil => intro lo _ _ h; simp [cnt]; omega
  | cons p l ih =>
    intro lo h hb hlo
    have hc := h.cons
    have ho := hc.1
    unfold Ok at ho
    have h1 := hb p (by simp)
    have := ih (p.2 + 1) hc.2.1 (fun q hq => ⟨by have := hc.2.2 q hq; omega, (hb q (by simp [hq])).2⟩) (by omega)
    rw [cnt]
    omega
theorem len_le_to (M : Int) : ∀ (l : List Span) (lo : Int), Plain l → (∀ p ∈ l, lo ≤ p.1 ∧ p.2 < M) → lo ≤ M + 1 → 2 * (l.length : Int) ≤ M + 1 - lo := by
  intro l
  induction l with
  | nil => intro lo _ _ h; simp; omega
  | cons p l ih =>
    intro lo h hb hlo
    have hc := h.cons
    have ho := hc.1
    unfold Ok at ho
    have h1 := hb p (by simp)
    have := ih (p.2 + 2) hc.2.1 (fun q hq => ⟨by have := hc.2.2 q hq; omega, (hb q (by simp [hq])).2⟩) (by omega)
    rw [List.length_cons]
    omega
theorem ends_of {l : List Span} (hp : Plain l) {A B : Int} (h : ∀ x, mem l x → A ≤ x ∧ x ≤ B) : ∀ q ∈ l, A ≤ q.1 ∧ q.1 ≤ q.2 ∧ q.2 ≤ B := by
  intro q hq
  obtain ⟨a, b, c⟩ := hp.2 q hq
  have h1 := h q.1 ⟨by unfold Rng; omega, q, hq, Int.le_refl _, a⟩
  have h2 := h q.2 ⟨by unfold Rng; omega, q, hq, a, Int.le_refl _⟩
  omega
def blkW (K D h : Int) (r : Span) : Span := (IntKind.i64.wrap (IntKind.i64.wrap (h * K) + r.1 * D), IntKind.i64.wrap (IntKind.i64.wrap (IntKind.i64.wrap (h * K) + (r.2 + 1) * D) - 1))
def preW (K D : Int) (W : List Span) (hs : List Int) : List Span := hs.flatMap fun h => W.map (blkW K D h)
theorem preW_snoc (K D : Int) (W : List Span) (hs : List Int) (h : Int) : preW K D W (hs ++ [h]) = preW K D W hs ++ W.map (blkW K D h) := by simp [preW]
theorem preW_length (K D : Int) (W : List Span) (hs : List Int) : (preW K D W hs).length = hs.length * W.length := by
  induction hs with
  | nil => simp [preW]
  | cons h hs ih =>
    have : preW K D W (h :: hs) = W.map (blkW K D h) ++ preW K D W hs := rfl
    rw [this, List.length_append, List.length_map, ih, List.length_cons, Nat.add_mul]
    omega
theorem preW_eq {K D : Int} {W : List Span} {hs : List Int} (h : ∀ x ∈ hs, ∀ r ∈ W, blkW K D x r = blkF K D x r) : preW K D W hs = preL K D W hs := by
  unfold preW preL
  induction hs with
  | nil => rfl
  | cons x hs ih =>
    rw [List.flatMap_cons, List.flatMap_cons, ih (fun y hy => h y (by simp [hy])), List.map_congr_left (h x (by simp))]
theorem bmap_next {f : Span → Span} {p : List Span} {k : Nat} {lo hi : Int} (hk : ∃ hl : k < p.length, p[k] = (lo, hi)) : (p.take (k + 1)).map f = (p.take k).map f ++ [f (lo, hi)] := map_next hk
/-- Of numbers that have values nothing wraps round. -/
theorem blk_eq {d t h : Int} {r : Span} (hd : 0 ≤ d) (hd2 : d ≤ 20) (ht : t ≤ 21) (hh : 0 ≤ h) (hK : h * (pw d * pw t) ≤ 2097151) (hr1 : 0 ≤ r.1) (hr : r.1 ≤ r.2) (hr2 : r.2 ≤ pw t - 1) : blkW (pw d * pw t) (pw d) h r = blkF (pw d * pw t) (pw d) h r := by
  have h1 := pw_pos d
  have h2 := pw_pos t
  have h3 := pw_le hd2 pw20
  have h4 := pw_le ht pw21
  have a1 := mul_bound (a := r.1) (b := pw d) (A := 2097152) (B := 1048576) hr1 (by omega) (by omega) h3
  have a2 := mul_bound (a := r.2 + 1) (b := pw d) (A := 2097152) (B := 1048576) (by omega) (by omega) (by omega) h3
  have a3 := Int.mul_nonneg hh (show 0 ≤ pw d * pw t from Int.mul_nonneg (by omega) (by omega))
  have hd' := hd
  unfold blkW blkF
  rw [IntWalk.i64_in (h * (pw d * pw t)) (by omega), IntWalk.i64_in _ (by omega), IntWalk.i64_in (h * (pw d * pw t) + (r.2 + 1) * pw d) (by omega), IntWalk.i64_in _ (by omega)]
end Go.Proofs.Ytldpoaknddhjfaa.Pa
