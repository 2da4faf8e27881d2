/- Windows told by numbers: how many there are, the one with a number. No function of the program is named here. -/
import Derived.Test.YtiddgfcoankpjaaGreatDoorK18
import Derived.Test.YtiddgfcoankpjaaGreatDoorK24
namespace Go.Proofs.YtiddgfcoankpjaaGreatDoor.Tf
set_option maxRecDepth 100000
open Go.Proofs.YtiddgfcoankpjaaGreatDoor.Sp Go.Proofs.YtiddgfcoankpjaaGreatDoor.Pa Go.Proofs.YtiddgfcoankpjaaGreatDoor.Te Go.Proofs.YtiddgfcoankpjaaGreatDoor.Sh Go.Proofs.YtiddgfcoankpjaaGreatDoor.Fi

/-- The window with a number, the last symbol's number counting first, and what is left of the number. -/
def winL : List (List Int) → Nat → List Int × Nat
  | [], k => ([], k)
  | a :: r, k => (a.getD ((winL r k).2 % a.length) 0 :: (winL r k).1, (winL r k).2 / a.length)
def prodL : List (List Int) → Nat
  | [] => 1
  | a :: r => a.length * prodL r
theorem winL_len : ∀ (r : List (List Int)) (k : Nat), (winL r k).1.length = r.length
  | [], _ => rfl
  | _ :: r, k => by simp [winL, winL_len r k]
theorem winL_all : ∀ (r : List (List Int)) (xs : List Int), xs.length = r.length → (∀ (i : Nat) (h : i < r.length) (h' : i < xs.length), xs[i] ∈ r[i]) → ∃ j, j < prodL r ∧ ∀ q, winL r (j + prodL r * q) = (xs, q)
  | [], xs, hl, _ => by
    obtain rfl := List.eq_nil_of_length_eq_zero (show xs.length = 0 from hl)
    exact ⟨0, Nat.one_pos, fun q => by simp [winL, prodL]⟩
  | a :: r, [], hl, _ => by simp at hl
  | a :: r, x :: xs, hl, h => by
    obtain ⟨j, hj, hw⟩ := winL_all r xs (by simpa using hl) (fun i h1 h2 => h (i + 1) (by simp; omega) (by simp; omega))
    obtain ⟨i, hi, he⟩ := List.getElem_of_mem (show x ∈ a from h 0 (by simp) (by simp))
    refine ⟨j + prodL r * i, ?_, fun q => ?_⟩
    · have h1 : prodL r * i + prodL r ≤ prodL r * a.length := by
        have := Nat.mul_le_mul_left (prodL r) (show i + 1 ≤ a.length from hi)
        rw [Nat.mul_add, Nat.mul_one] at this
        exact this
      show j + prodL r * i < a.length * prodL r
      rw [Nat.mul_comm a.length]
      omega
    · have e : j + prodL r * i + prodL (a :: r) * q = j + prodL r * (i + a.length * q) := by
        show j + prodL r * i + a.length * prodL r * q = _
        rw [Nat.mul_add, Nat.mul_comm a.length (prodL r), Nat.mul_assoc]
        omega
      rw [e]
      show (_, _) = _
      rw [hw]
      have e1 : (i + a.length * q) % a.length = i := by rw [Nat.add_mul_mod_self_left, Nat.mod_eq_of_lt hi]
      have e2 : (i + a.length * q) / a.length = q := by rw [Nat.add_mul_div_left _ _ (by omega), Nat.div_eq_of_lt hi, Nat.zero_add]
      simp only [e1, e2]
      rw [List.getD_eq_getElem?_getD, List.getElem?_eq_getElem hi, he]
      rfl
theorem winL_mem : ∀ (r : List (List Int)), (∀ a ∈ r, a ≠ []) → ∀ k (i : Nat) (h : i < r.length) (h' : i < (winL r k).1.length), (winL r k).1[i] ∈ r[i]
  | [], _, _, i, h, _ => by simp at h
  | a :: r, hne, k, 0, _, _ => by
    have ha : 0 < a.length := List.length_pos_iff.2 (hne a (List.mem_cons_self ..))
    show a.getD _ 0 ∈ a
    rw [List.getD_eq_getElem?_getD, List.getElem?_eq_getElem (Nat.mod_lt _ ha)]
    exact List.getElem_mem _
  | a :: r, hne, k, i + 1, h, h' => by
    have := winL_mem r (fun b hb => hne b (List.mem_cons_of_mem _ hb)) k i (by simpa using h) (by rw [winL_len]; simpa using h)
    simpa [winL] using this
theorem prodL_pos : ∀ (r : List (List Int)) , 0 < prodL r → ∀ a ∈ r, a ≠ []
  | [], _, a, h => by cases h
  | b :: r, hp, a, h => by
    have h1 : 0 < b.length * prodL r := hp
    rcases List.mem_cons.1 h with rfl | h
    · intro e; subst e; simp at h1
    · exact prodL_pos r (Nat.pos_of_ne_zero fun e => by rw [e] at h1; simp at h1) a h
/-- The numbers of each list. -/
def numsA (L : List (List Span)) : List (List Int) := L.map numsL
theorem numsA_len (L : List (List Span)) : (numsA L).length = L.length := by simp [numsA]
/-- By all windows, told one by one. -/
theorem win_each {gs L : List (List Span)} (hl : L.length = gs.length) (hp : ∀ (i : Nat) (h : i < gs.length) (h' : i < L.length), Is L[i] fun x => mem gs[i] x ∧ Sy x) (Q : List Int → Prop) :
    (∀ xs, WinS gs xs → (∀ x ∈ xs, Sy x) → Q xs) ↔ ∀ k, k < prodL (numsA L) → Q (winL (numsA L) k).1 := by
  constructor
  · intro h k hk
    have hne := prodL_pos _ (show 0 < prodL (numsA L) by omega)
    have hlen := winL_len (numsA L) k
    rw [numsA_len, hl] at hlen
    have key : ∀ (i : Nat) (h1 : i < gs.length) (h2 : i < (winL (numsA L) k).1.length), mem gs[i] (winL (numsA L) k).1[i] ∧ Sy (winL (numsA L) k).1[i] := fun i h1 h2 => by
      have hi : i < L.length := by omega
      have h3 := winL_mem (numsA L) hne k i (by rw [numsA_len]; exact hi) h2
      have h4 : (numsA L)[i]'(by rw [numsA_len]; exact hi) = numsL L[i] := by simp [numsA]
      rw [h4] at h3
      have h5 := hp i h1 hi
      exact (h5.2 _).1 ((numsL_mem _ h5.1 _).1 h3)
    refine h _ ⟨hlen, fun i h1 h2 => (key i h1 h2).1⟩ fun x hx => ?_
    obtain ⟨i, h2, rfl⟩ := List.getElem_of_mem hx
    exact (key i (by omega) h2).2
  · intro h xs hw hs
    obtain ⟨j, hj, hx⟩ := winL_all (numsA L) xs (by rw [numsA_len, hl]; exact hw.1) (fun i h1 h2 => by
      rw [numsA_len] at h1
      have h4 : (numsA L)[i]'(by rw [numsA_len]; exact h1) = numsL L[i] := by simp [numsA]
      rw [h4]
      have h5 := hp i (by omega) h1
      exact (numsL_mem _ h5.1 _).2 ((h5.2 _).2 ⟨hw.2 i (by omega) h2, hs _ (List.getElem_mem h2)⟩))
    have h1 := hx 0
    rw [Nat.mul_zero, Nat.add_zero] at h1
    have h2 := h j hj
    rw [h1] at h2
    exact h2
/-- How many there are, no more than a bound is told. -/
def prodC : List (List Span) → Int
  | [] => 1
  | p :: r => cnt p * prodC r
theorem prodC_nonneg : ∀ {L : List (List Span)}, (∀ p ∈ L, Plain p) → 0 ≤ prodC L
  | [], _ => by decide
  | p :: r, h => Int.mul_nonneg (cnt_nonneg (h p (List.mem_cons_self ..))) (prodC_nonneg fun q hq => h q (List.mem_cons_of_mem _ hq))
theorem prodC_snoc (L : List (List Span)) (p : List Span) : prodC (L ++ [p]) = prodC L * cnt p := by
  induction L with
  | nil => show cnt p * 1 = 1 * cnt p; omega
  | cons q r ih => show cnt q * prodC (r ++ [p]) = cnt q * prodC r * cnt p; rw [ih, Int.mul_assoc]
theorem prodC_L : ∀ {L : List (List Span)}, (∀ p ∈ L, Plain p) → prodC L = (prodL (numsA L) : Int)
  | [], _ => rfl
  | p :: r, h => by
    have h1 := prodC_L (L := r) fun q hq => h q (List.mem_cons_of_mem _ hq)
    have h2 := numsL_length p (h p (List.mem_cons_self ..))
    show cnt p * prodC r = (((numsL p).length * prodL (numsA r) : Nat) : Int)
    rw [Int.natCast_mul, h1, h2]
def capZ (b P : Int) : Int := if P ≤ b then P else b + 1
theorem cap_bounds {b P : Int} (hb : 0 ≤ b) (hP : 0 ≤ P) : 0 ≤ capZ b P ∧ capZ b P ≤ b + 1 := by
  unfold capZ
  split <;> omega
theorem cap_mul {b P c : Int} (hb : 0 ≤ b) (hP : 0 ≤ P) (hc : 0 ≤ c) : capZ b (capZ b P * capZ b c) = capZ b (P * c) := by
  have key : ∀ x y : Int, 0 ≤ x → 1 ≤ y → x ≤ x * y := fun x y hx hy => by
    have := Int.mul_le_mul_of_nonneg_left hy hx
    rw [Int.mul_one] at this
    exact this
  rcases Int.lt_or_le 0 c with h0 | h0
  · rcases Int.lt_or_le 0 P with h1 | h1
    · by_cases p1 : P ≤ b
      · by_cases c1 : c ≤ b
        · rw [show capZ b P = P from if_pos p1, show capZ b c = c from if_pos c1]
        · have e1 := key c P hc (by omega)
          have e2 := key (b + 1) P (by omega) (by omega)
          rw [Int.mul_comm] at e1 e2
          rw [show capZ b P = P from if_pos p1, show capZ b c = b + 1 from if_neg c1]
          unfold capZ
          rw [if_neg (by omega), if_neg (by omega)]
      · have e1 := key P c hP (by omega)
        have hcc : 1 ≤ capZ b c := by unfold capZ; split <;> omega
        have e2 := key (b + 1) (capZ b c) (by omega) hcc
        rw [show capZ b P = b + 1 from if_neg p1]
        have h3 : capZ b ((b + 1) * capZ b c) = b + 1 := if_neg (by omega)
        have h4 : capZ b (P * c) = b + 1 := if_neg (by omega)
        rw [h3, h4]
    · obtain rfl : P = 0 := by omega
      have e : capZ b 0 = 0 := if_pos hb
      rw [e, Int.zero_mul, Int.zero_mul]
  · obtain rfl : c = 0 := by omega
    have e : capZ b 0 = 0 := if_pos hb
    rw [e, Int.mul_zero, Int.mul_zero]
theorem cap_snoc {b : Int} (hb : 0 ≤ b) {L : List (List Span)} (h : ∀ p ∈ L, Plain p) {p : List Span} (hp : Plain p) : capZ b (prodC (L ++ [p])) = capZ b (capZ b (prodC L) * capZ b (cnt p)) := by
  rw [prodC_snoc, cap_mul hb (prodC_nonneg h) (cnt_nonneg hp)]
end Go.Proofs.YtiddgfcoankpjaaGreatDoor.Tf
