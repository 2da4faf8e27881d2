/- Parts, plainly: the value of a number, and what becomes of the numbers between two bounds. No function of the program is named here. -/
import Derived.Test.YtgmkchkaceciiaaSpMath
namespace Go.Proofs.Ytgmkchkaceciiaa.Pa
set_option maxRecDepth 100000
open Go.Proofs.Ytgmkchkaceciiaa.Sp

/-- The bits of a part are right. -/
def Bits (d t u : Int) : Prop := 0 ≤ d ∧ d ≤ 20 ∧ 1 ≤ t ∧ t ≤ 21 ∧ 0 ≤ u ∧ u ≤ 20 ∧ (u = 0 ∨ t ≤ 6)
instance (d t u : Int) : Decidable (Bits d t u) := by unfold Bits; infer_instance
/-- A power of two. -/
def pw (n : Int) : Int := 2 ^ n.toNat
theorem pw_pos (n : Int) : 1 ≤ pw n := by
  have : (0 : Int) < 2 ^ n.toNat := Int.pow_pos (by decide)
  unfold pw; omega
theorem pw_zero : pw 0 = 1 := rfl
theorem pw_succ (n : Int) (h : 0 ≤ n) : pw (n + 1) = 2 * pw n := by
  unfold pw
  rw [show (n + 1).toNat = n.toNat + 1 from by omega, Int.pow_succ, Int.mul_comm]
theorem pw_add (a b : Int) (ha : 0 ≤ a) (hb : 0 ≤ b) : pw (a + b) = pw a * pw b := by
  unfold pw
  rw [show (a + b).toNat = a.toNat + b.toNat from by omega, Int.pow_add]
theorem pw_mono (a b : Int) (h : a ≤ b) : pw a ≤ pw b := by
  unfold pw
  rw [show b.toNat = a.toNat + (b.toNat - a.toNat) from by omega, Int.pow_add]
  have h1 : (0 : Int) < 2 ^ a.toNat := Int.pow_pos (by decide)
  have h2 : (0 : Int) < 2 ^ (b.toNat - a.toNat) := Int.pow_pos (by decide)
  have := Int.mul_le_mul_of_nonneg_left (show (1 : Int) ≤ 2 ^ (b.toNat - a.toNat) by omega) (Int.le_of_lt h1)
  omega
theorem pw_two {n : Int} (h : 1 ≤ n) : 2 ≤ pw n := by
  have := pw_mono 1 n h
  have e : pw 1 = 2 := rfl
  omega
theorem pw_le {n : Int} {k : Int} (h : n ≤ k) {m : Int} (hk : pw k = m) : pw n ≤ m := by have := pw_mono n k h; omega
theorem pw20 : pw 20 = 1048576 := by decide
theorem pw21 : pw 21 = 2097152 := by decide
theorem pw6 : pw 6 = 64 := by decide
/-- A part's value of a number. -/
def valI (d t u x : Int) : Int := x / pw d % pw t * pw u
def HasV (d t u x : Int) : Prop := Bits d t u ∧ 0 ≤ x ∧ x ≤ 2097151
instance (d t u x : Int) : Decidable (HasV d t u x) := by unfold HasV; infer_instance
def valP (d t u x : Int) : Int × Bool := if HasV d t u x then (valI d t u x, true) else (0, false)
theorem mod_lt (x t : Int) : 0 ≤ x % pw t ∧ x % pw t < pw t := ⟨Int.emod_nonneg _ (by have := pw_pos t; omega), Int.emod_lt_of_pos _ (by have := pw_pos t; omega)⟩
theorem mul_bound {a b A B : Int} (ha : 0 ≤ a) (hA : a ≤ A) (hb : 0 ≤ b) (hB : b ≤ B) : 0 ≤ a * b ∧ a * b ≤ A * B :=
  ⟨Int.mul_nonneg ha hb, Int.le_trans (Int.mul_le_mul_of_nonneg_right hA hb) (Int.mul_le_mul_of_nonneg_left hB (by omega))⟩
theorem lo_bound {d x : Int} (hx : 0 ≤ x) : 0 ≤ x / pw d ∧ x / pw d ≤ x := by
  have h := pw_pos d
  exact ⟨Int.ediv_nonneg hx (by omega), Int.ediv_le_self _ hx⟩
theorem valI_bound {d t u : Int} (h : Bits d t u) (x : Int) : 0 ≤ valI d t u x ∧ valI d t u x ≤ 66060288 := by
  obtain ⟨h1, h2, h3, h4, h5, h6, h7⟩ := h
  have hm := mod_lt (x / pw d) t
  have hu := pw_pos u
  unfold valI
  rcases h7 with rfl | h7
  · rw [pw_zero]
    have := pw_le h4 pw21
    omega
  · have a := pw_le h7 pw6
    have b := pw_le h6 pw20
    have := mul_bound (a := x / pw d % pw t) (b := pw u) (A := 63) (B := 1048576) hm.1 (by omega) (by omega) b
    omega

theorem img_div {D lo hi : Int} (hD : 1 ≤ D) (h : lo ≤ hi) (z : Int) : (∃ x, lo ≤ x ∧ x ≤ hi ∧ x / D = z) ↔ lo / D ≤ z ∧ z ≤ hi / D := by
  constructor
  · rintro ⟨x, h1, h2, rfl⟩
    exact ⟨Int.ediv_le_ediv (by omega) h1, Int.ediv_le_ediv (by omega) h2⟩
  · rintro ⟨h1, h2⟩
    have h3 : z * D ≤ hi := (Int.le_ediv_iff_mul_le (by omega)).1 h2
    by_cases h4 : lo ≤ z * D
    · exact ⟨z * D, h4, h3, Int.mul_ediv_cancel _ (by omega)⟩
    · refine ⟨lo, Int.le_refl _, h, ?_⟩
      have : z ≤ lo / D := (Int.le_ediv_iff_mul_le (by omega)).2 (by omega)
      omega
theorem img_all {T L H : Int} (hT : 1 ≤ T) (hw : T - 1 ≤ H - L) (y : Int) : (∃ z, L ≤ z ∧ z ≤ H ∧ z % T = y) ↔ 0 ≤ y ∧ y ≤ T - 1 := by
  constructor
  · rintro ⟨z, _, _, rfl⟩
    have h1 := Int.emod_nonneg z (show T ≠ 0 by omega)
    have h2 := Int.emod_lt_of_pos z (show 0 < T by omega)
    omega
  · rintro ⟨h1, h2⟩
    have hl1 := Int.emod_nonneg L (show T ≠ 0 by omega)
    have hl2 := Int.emod_lt_of_pos L (show 0 < T by omega)
    have hl := Int.emod_add_ediv_mul L T
    have key : ∀ k : Int, (y + k * T) % T = y := fun k => by
      rw [Int.add_mul_emod_self_right]; exact Int.emod_eq_of_lt h1 (by omega)
    by_cases h : L % T ≤ y
    · exact ⟨y + L / T * T, by omega, by omega, key _⟩
    · have e : (L / T + 1) * T = L / T * T + T := by rw [Int.add_mul, Int.one_mul]
      exact ⟨y + (L / T + 1) * T, by omega, by omega, key _⟩
theorem img_mod {T L H : Int} (hT : 1 ≤ T) (hLH : L ≤ H) (hw : H - L < T - 1) (y : Int) : (∃ z, L ≤ z ∧ z ≤ H ∧ z % T = y) ↔
    if L % T ≤ H % T then L % T ≤ y ∧ y ≤ H % T else (L % T ≤ y ∧ y ≤ T - 1) ∨ (0 ≤ y ∧ y ≤ H % T) := by
  have hl1 := Int.emod_nonneg L (show T ≠ 0 by omega)
  have hl2 := Int.emod_lt_of_pos L (show 0 < T by omega)
  have hl := Int.emod_add_ediv_mul L T
  have hh1 := Int.emod_nonneg H (show T ≠ 0 by omega)
  have hh2 := Int.emod_lt_of_pos H (show 0 < T by omega)
  have hh := Int.emod_add_ediv_mul H T
  have key : ∀ k y : Int, 0 ≤ y → y < T → (y + k * T) % T = y := fun k y a b => by
    rw [Int.add_mul_emod_self_right]; exact Int.emod_eq_of_lt a b
  have e1 : ∀ k : Int, (k + 1) * T = k * T + T := fun k => by rw [Int.add_mul, Int.one_mul]
  have hmono : L / T ≤ H / T := Int.ediv_le_ediv (by omega) hLH
  have hnext : H / T ≤ L / T + 1 := by
    have : H < (L / T + 2) * T := by
      have : (L / T + 2) * T = L / T * T + T + T := by rw [Int.add_mul]; omega
      omega
    have := (Int.ediv_lt_iff_lt_mul (show 0 < T by omega)).2 this
    omega
  rcases (show H / T = L / T ∨ H / T = L / T + 1 from by omega) with hq | hq
  · rw [hq] at hh
    rw [if_pos (by omega)]
    constructor
    · rintro ⟨z, z1, z2, rfl⟩
      have hz : z / T = L / T := by
        have a := Int.ediv_le_ediv (show 0 < T by omega) z1
        have b := Int.ediv_le_ediv (show 0 < T by omega) z2
        omega
      have hzz := Int.emod_add_ediv_mul z T
      rw [hz] at hzz
      omega
    · rintro ⟨a, b⟩
      exact ⟨y + L / T * T, by omega, by omega, key _ _ (by omega) (by omega)⟩
  · rw [hq, e1] at hh
    rw [if_neg (by omega)]
    constructor
    · rintro ⟨z, z1, z2, rfl⟩
      have a := Int.ediv_le_ediv (show 0 < T by omega) z1
      have b := Int.ediv_le_ediv (show 0 < T by omega) z2
      have hz1 := Int.emod_nonneg z (show T ≠ 0 by omega)
      have hz2 := Int.emod_lt_of_pos z (show 0 < T by omega)
      have hzz := Int.emod_add_ediv_mul z T
      rcases (show z / T = L / T ∨ z / T = L / T + 1 from by omega) with hz | hz
      · rw [hz] at hzz; left; omega
      · rw [hz, e1] at hzz; right; omega
    · rintro (⟨a, b⟩ | ⟨a, b⟩)
      · exact ⟨y + L / T * T, by omega, by omega, key _ _ (by omega) (by omega)⟩
      · exact ⟨y + (L / T + 1) * T, by rw [e1]; omega, by rw [e1]; omega, key _ _ a (by omega)⟩
end Go.Proofs.Ytgmkchkaceciiaa.Pa
