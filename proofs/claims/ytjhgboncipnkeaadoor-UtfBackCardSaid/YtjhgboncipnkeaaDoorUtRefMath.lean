/- Plain mathematics of the reference's scan: what begins a sequence, and what is one. No function of the program is walked here. -/
import Derived.Test.YtjhgboncipnkeaaDoorUtMath
namespace Go.Proofs.YtjhgboncipnkeaaDoor.Ut
open Go Go.RowKit Go.Proofs.YtjhgboncipnkeaaDoor.Wo

def leadN : Nat → Int
  | 2 => 192
  | 3 => 224
  | 4 => 240
  | _ => 0
def leastN : Nat → Int
  | 2 => 128
  | 3 => 2048
  | 4 => 65536
  | _ => 0
def wideN : Nat → Int
  | 2 => 32
  | 3 => 16
  | 4 => 8
  | _ => 0
/-- The bounds of the scalars whose sequences begin so: j places are gone through, d are still to come. -/
def begGo (l : List Int) : Nat → Nat → Int → Int → Option (Int × Int)
  | 0, _, f, t => some (f, t)
  | d + 1, j, f, t => if j < l.length then (if l.getD j 256 - 128 < 0 ∨ 63 < l.getD j 256 - 128 then none else begGo l d (j + 1) (f * 64 + (l.getD j 256 - 128)) (t * 64 + (l.getD j 256 - 128))) else begGo l d (j + 1) (f * 64) (t * 64 + 63)
def begEnd (n : Nat) : Option (Int × Int) → Bool
  | none => false
  | some (f, t) => (decide (max f (leastN n) < 55296) && decide (max f (leastN n) ≤ min t 1114111)) || (decide (57343 < min t 1114111) && decide (max f (leastN n) ≤ min t 1114111))
/-- Does some scalar's sequence of n bytes begin with these? -/
def begB (l : List Int) (n : Nat) : Bool := if l.getD 0 256 - leadN n < 0 ∨ wideN n ≤ l.getD 0 256 - leadN n then false else begEnd n (begGo l (n - 1) 1 (l.getD 0 256 - leadN n) (l.getD 0 256 - leadN n))
theorem beg23 (a b : Int) : begB [a, b] 3 = true ↔ 224 ≤ a ∧ a ≤ 239 ∧ 128 ≤ b ∧ b ≤ 191 ∧ (a = 224 → 160 ≤ b) ∧ (a = 237 → b ≤ 159) := by
  unfold begB
  simp only [begGo, List.getD_cons_zero, List.getD_cons_succ, List.length_cons, List.length_nil, leadN, wideN, Nat.add_one_sub_one, Nat.reduceAdd, Nat.reduceLT, if_true, if_false]
  by_cases h : a - 224 < 0 ∨ 16 ≤ a - 224
  · rw [if_pos h]; simp; omega
  · rw [if_neg h]
    by_cases h2 : b - 128 < 0 ∨ 63 < b - 128
    · rw [if_pos h2]; simp [begEnd]; omega
    · rw [if_neg h2]
      simp only [begEnd, leastN, Bool.or_eq_true, Bool.and_eq_true, decide_eq_true_eq]
      omega
theorem beg24 (a b : Int) : begB [a, b] 4 = true ↔ 240 ≤ a ∧ a ≤ 244 ∧ 128 ≤ b ∧ b ≤ 191 ∧ (a = 240 → 144 ≤ b) ∧ (a = 244 → b ≤ 143) := by
  unfold begB
  simp only [begGo, List.getD_cons_zero, List.getD_cons_succ, List.length_cons, List.length_nil, leadN, wideN, Nat.add_one_sub_one, Nat.reduceAdd, Nat.reduceLT, if_true, if_false]
  by_cases h : a - 240 < 0 ∨ 8 ≤ a - 240
  · rw [if_pos h]; simp; omega
  · rw [if_neg h]
    by_cases h2 : b - 128 < 0 ∨ 63 < b - 128
    · rw [if_pos h2]; simp [begEnd]; omega
    · rw [if_neg h2]
      simp only [begEnd, leastN, Bool.or_eq_true, Bool.and_eq_true, decide_eq_true_eq]
      omega
theorem beg34 (a b c : Int) : begB [a, b, c] 4 = true ↔ 240 ≤ a ∧ a ≤ 244 ∧ 128 ≤ b ∧ b ≤ 191 ∧ (a = 240 → 144 ≤ b) ∧ (a = 244 → b ≤ 143) ∧ 128 ≤ c ∧ c ≤ 191 := by
  unfold begB
  simp only [begGo, List.getD_cons_zero, List.getD_cons_succ, List.length_cons, List.length_nil, leadN, wideN, Nat.add_one_sub_one, Nat.reduceAdd, Nat.reduceLT, if_true, if_false]
  by_cases h : a - 240 < 0 ∨ 8 ≤ a - 240
  · rw [if_pos h]; simp; omega
  · rw [if_neg h]
    by_cases h2 : b - 128 < 0 ∨ 63 < b - 128
    · rw [if_pos h2]; simp [begEnd]; omega
    · rw [if_neg h2]
      by_cases h3 : c - 128 < 0 ∨ 63 < c - 128
      · rw [if_pos h3]; simp [begEnd]; omega
      · rw [if_neg h3]
        simp only [begEnd, leastN, Bool.or_eq_true, Bool.and_eq_true, decide_eq_true_eq]
        omega
/-- The longest part, as the reference looks for it. -/
def m2 (l : List Int) : Int := if 2 ≤ l.length ∧ (begB (l.take 2) 3 = true ∨ begB (l.take 2) 4 = true) then 2 else 1
def m3 (l : List Int) : Int := if 3 ≤ l.length ∧ begB (l.take 3) 4 = true then 3 else m2 l
theorem scan_part {l : List Int} (hl : ByteL l) (hne : l ≠ []) {x n : Int} (h : scanL l = (x, n, false)) : x = 65533 ∧ n = m3 l := by
  have h0 := hl.getD 0
  have h1 := hl.getD 1
  have h2 := hl.getD 2
  have hp : 0 < l.length := List.length_pos_iff.2 hne
  have t2 := take2 (l := l)
  have t3 := take3 (l := l)
  unfold scanL at h
  unfold m3 m2
  generalize l.getD 0 256 = a at *
  generalize l.getD 1 256 = b at *
  generalize l.getD 2 256 = c at *
  generalize l.getD 3 256 = d at *
  have k2 : (2 ≤ l.length ∧ (begB (l.take 2) 3 = true ∨ begB (l.take 2) 4 = true)) ↔ (2 ≤ l.length ∧ ((224 ≤ a ∧ a ≤ 239 ∧ 128 ≤ b ∧ b ≤ 191 ∧ (a = 224 → 160 ≤ b) ∧ (a = 237 → b ≤ 159)) ∨ (240 ≤ a ∧ a ≤ 244 ∧ 128 ≤ b ∧ b ≤ 191 ∧ (a = 240 → 144 ≤ b) ∧ (a = 244 → b ≤ 143)))) := by
    constructor
    · rintro ⟨q, r⟩
      rw [t2 (by omega), beg23, beg24] at r
      exact ⟨q, r⟩
    · rintro ⟨q, r⟩
      rw [t2 (by omega), beg23, beg24]
      exact ⟨q, r⟩
  have k3 : (3 ≤ l.length ∧ begB (l.take 3) 4 = true) ↔ (3 ≤ l.length ∧ (240 ≤ a ∧ a ≤ 244 ∧ 128 ≤ b ∧ b ≤ 191 ∧ (a = 240 → 144 ≤ b) ∧ (a = 244 → b ≤ 143) ∧ 128 ≤ c ∧ c ≤ 191)) := by
    constructor
    · rintro ⟨q, r⟩
      rw [t3 (by omega), beg34] at r
      exact ⟨q, r⟩
    · rintro ⟨q, r⟩
      rw [t3 (by omega), beg34]
      exact ⟨q, r⟩
  rcases scan4_cases a b c d with ⟨q, e⟩ | ⟨q1, q2, q3, q4, e⟩ | ⟨q1, q2, q3, q4, q5, q6, q7, q8, e⟩ | ⟨q1, q2, q3, q4, q5, q6, q7, q8, q9, q10, e⟩ | ⟨e, q⟩ | ⟨e, q, q'⟩ | ⟨e, q1, q2, q3, q4, q5, q6, q7, q8, q9⟩
  · rw [e] at h; cases h
  · rw [e] at h; cases h
  · rw [e] at h; cases h
  · rw [e] at h; cases h
  · rw [e] at h
    simp only [Prod.mk.injEq, and_true] at h
    refine ⟨h.1.symm, h.2.symm.trans ?_⟩
    rw [if_neg (fun r => by have := k3.1 r; omega), if_neg (fun r => by have := k2.1 r; omega)]
  · rw [e] at h
    simp only [Prod.mk.injEq, and_true] at h
    refine ⟨h.1.symm, h.2.symm.trans ?_⟩
    rw [if_neg (fun r => by have := k3.1 r; omega), if_pos (k2.2 (by omega))]
  · rw [e] at h
    simp only [Prod.mk.injEq, and_true] at h
    refine ⟨h.1.symm, h.2.symm.trans ?_⟩
    rw [if_pos (k3.2 (by omega))]

/-- The number that a sequence's bytes make, whatever they are. -/
def scGo (l : List Int) : Nat → Nat → Int → Int
  | 0, _, x => x
  | d + 1, j, x => scGo l d (j + 1) (x * 64 + l.getD j 256 - 128)
def scX (l : List Int) : Int := scGo l (l.length - 1) 1 (l.getD 0 256 - leadN l.length)
theorem scX_enc {x : Int} (h : inS 2 x = true) : scX (encB x) = x := by
  have hx := (inS2 x).1 h
  unfold scX
  rw [encB_of h]
  by_cases h1 : x ≤ 127
  · rw [Lib.encodeRuneZ_one (by omega) h1]
    simp only [List.length_cons, List.length_nil, List.getD_cons_zero, leadN]
    show x - 0 = x
    omega
  by_cases h2 : x ≤ 2047
  · rw [Lib.encodeRuneZ_two (by omega) h2]
    simp only [List.length_cons, List.length_nil, Nat.zero_add, Nat.reduceAdd, Nat.add_one_sub_one, scGo, List.getD_cons_zero, List.getD_cons_succ, leadN]
    omega
  by_cases h3 : x ≤ 65535
  · rw [Lib.encodeRuneZ_three (by omega)]
    simp only [List.length_cons, List.length_nil, Nat.zero_add, Nat.reduceAdd, Nat.add_one_sub_one, scGo, List.getD_cons_zero, List.getD_cons_succ, leadN]
    omega
  · rw [Lib.encodeRuneZ_four (by omega) (by omega)]
    simp only [List.length_cons, List.length_nil, Nat.zero_add, Nat.reduceAdd, Nat.add_one_sub_one, scGo, List.getD_cons_zero, List.getD_cons_succ, leadN]
    omega
/-- Is this list a scalar's sequence? -/
def isSeq (l : List Int) : Prop := inS 2 (scX l) = true ∧ encB (scX l) = l
theorem seq_scan {l : List Int} (n : Nat) (hn : n ≤ l.length) (h : isSeq (l.take n)) : scanL l = (scX (l.take n), (n : Int), true) := by
  have e : l.take n ++ l.drop n = l := List.take_append_drop n l
  have := scan_enc h.1 (l.drop n)
  rw [h.2, e] at this
  rw [this, List.length_take, Nat.min_eq_left hn]
theorem scan_seq {l : List Int} (hl : ByteL l) (hne : l ≠ []) {x n : Int} (h : scanL l = (x, n, true)) : isSeq (l.take n.toNat) ∧ scX (l.take n.toNat) = x ∧ n.toNat ≤ l.length ∧ 1 ≤ n ∧ n ≤ 4 := by
  obtain ⟨h1, h2, h3, h4⟩ := scan_true hl hne h
  have h5 := encB_len h1
  have h6 := congrArg List.length h2
  rw [List.length_take] at h6
  rw [h2]
  exact ⟨⟨by rw [scX_enc h1]; exact h1, by rw [scX_enc h1]⟩, scX_enc h1, h3, h4, by omega⟩
end Go.Proofs.YtjhgboncipnkeaaDoor.Ut
