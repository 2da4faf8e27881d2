/- Plain mathematics: what stands behind valid bytes, and behind an ASCII letter, is repaired as if it stood alone. -/
import Derived.Test.YtjhgboncipnkeaaDoorUtMath
namespace Go.Proofs.YtjhgboncipnkeaaDoor.Ut
open Go Go.RowKit Go.Proofs.YtjhgboncipnkeaaDoor.Wo

theorem rep_join {a b : List Int} (ha : ByteL a) (hb : ByteL b) (h : okL a = true) : repL (a ++ b) = repL a ++ repL b := by
  obtain ⟨h1, h2⟩ := ok_enc _ a ha (Nat.le_refl _) h
  have := rep_encL (repL a) b h1 hb
  rw [h2] at this
  exact this.1
theorem stop1 (a b c d c' d' : Int) (hb : ¬ (128 ≤ b ∧ b ≤ 191)) : scan4 a b c d = scan4 a 256 c' d' := by
  unfold scan4
  by_cases q1 : a ≤ 127
  · rw [if_pos q1, if_pos q1]
  rw [if_neg q1, if_neg q1]
  by_cases q2 : a ≤ 193
  · rw [if_pos q2, if_pos q2]
  rw [if_neg q2, if_neg q2]
  by_cases q3 : a ≤ 223
  · rw [if_pos q3, if_pos q3, if_neg hb, if_neg (by omega)]
  rw [if_neg q3, if_neg q3]
  by_cases q4 : a ≤ 239
  · rw [if_pos q4, if_pos q4, if_neg (by split <;> split <;> omega), if_neg (by split <;> split <;> omega)]
  rw [if_neg q4, if_neg q4]
  by_cases q5 : a ≤ 244
  · rw [if_pos q5, if_pos q5, if_neg (by split <;> split <;> omega), if_neg (by split <;> split <;> omega)]
  · rw [if_neg q5, if_neg q5]
theorem stop2 (a b c d d' : Int) (hc : ¬ (128 ≤ c ∧ c ≤ 191)) : scan4 a b c d = scan4 a b 256 d' := by
  unfold scan4
  rw [if_neg (c := 128 ≤ c ∧ c ≤ 191) hc, if_neg (c := (128 : Int) ≤ 256 ∧ (256 : Int) ≤ 191) (by omega), if_neg (c := 128 ≤ c ∧ c ≤ 191) hc, if_neg (c := (128 : Int) ≤ 256 ∧ (256 : Int) ≤ 191) (by omega)]
theorem stop3 (a b c d : Int) (hd : ¬ (128 ≤ d ∧ d ≤ 191)) : scan4 a b c d = scan4 a b c 256 := by
  unfold scan4
  rw [if_neg (c := 128 ≤ d ∧ d ≤ 191) hd, if_neg (c := (128 : Int) ≤ 256 ∧ (256 : Int) ≤ 191) (by omega)]
theorem scan_stop (a : List Int) (c : Int) (t : List Int) (hne : a ≠ []) (hc : c ≤ 127) : scanL (a ++ c :: t) = scanL a := by
  unfold scanL
  match a, hne with
  | [x], _ => exact stop1 _ _ _ _ _ _ (by simp; omega)
  | [x, y], _ => exact stop2 _ _ _ _ _ (by simp; omega)
  | [x, y, z], _ => exact stop3 _ _ _ _ (by simp; omega)
  | x :: y :: z :: u :: r, _ => rfl
theorem rep_ascii : ∀ (n : Nat) (a : List Int) (c : Int) (t : List Int), a.length ≤ n → ByteL a → ByteL t → 0 ≤ c → c ≤ 127 → repL (a ++ c :: t) = repL a ++ c :: repL t := by
  intro n
  induction n with
  | zero =>
    intro a c t h ha ht h0 h1
    obtain rfl := List.eq_nil_of_length_eq_zero (by omega : a.length = 0)
    have hb : ByteL (c :: t) := fun x hx => (List.mem_cons.1 hx).elim (fun e => by omega) (ht x)
    have e := (repL_cons hb (by simp)).1
    have hs : scanL (c :: t) = (c, 1, true) := by
      unfold scanL scan4
      simp only [List.getD_cons_zero]
      rw [if_pos h1]
    rw [hs] at e
    exact e
  | succ n ih =>
    intro a c t h ha ht h0 h1
    by_cases hne : a = []
    · subst hne; exact ih [] c t (by simp) ha ht h0 h1
    · have hb : ByteL (a ++ c :: t) := fun x hx => (List.mem_append.1 hx).elim (ha x) (fun q => (List.mem_cons.1 q).elim (fun e => by omega) (ht x))
      have e1 := (repL_cons hb (by simp)).1
      have e2 := (repL_cons ha hne).1
      have hp : 0 < a.length := List.length_pos_iff.2 hne
      have hs := scan_pos ha hne
      rw [scan_stop a c t hne h1] at e1
      rw [e1, e2, List.drop_append_of_le_length (by omega), ih _ c t (by rw [List.length_drop]; omega) (ha.drop _) ht h0 h1]
      rfl
end Go.Proofs.YtjhgboncipnkeaaDoor.Ut
