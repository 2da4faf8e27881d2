/- The plain mathematics of how a term goes on from a symbol. No walk. -/
import Derived.Test.YtmcgapejebceoaaTeMath
namespace Go.Proofs.Ytmcgapejebceoaa.Te
open Go Go.RowKit Go.Proofs.Ytmcgapejebceoaa.Sp Go.Proofs.Ytmcgapejebceoaa.Pa

def orM (x k : Int) : Int := x / pw k * pw k + (pw k - 1)
theorem or_low (a k : Nat) : a ||| (2 ^ k - 1) = 2 ^ k * (a / 2 ^ k) + (2 ^ k - 1) := by
  apply Nat.eq_of_testBit_eq
  intro i
  have hlt : 2 ^ k - 1 < 2 ^ k := by have := Nat.one_le_two_pow (n := k); omega
  rw [Nat.testBit_two_pow_mul_add _ hlt, Nat.testBit_or, Nat.testBit_two_pow_sub_one]
  by_cases h : i < k
  · simp [h]
  · simp only [h, decide_false, Bool.or_false, if_false]
    rw [Nat.testBit_div_two_pow]
    congr 1
    omega
theorem bits_or (z t : Int) (h0 : 0 ≤ z) (h1 : z ≤ 2097151) (ht : t ≤ 21) : bits .or .i64 z (pw t - 1) = orM z t := by
  have hp := pw_pos t
  have hp2 := pw_le ht pw21
  obtain ⟨a, rfl⟩ := Int.eq_ofNat_of_zero_le h0
  have h2 : (1 : Nat) ≤ 2 ^ t.toNat := Nat.one_le_two_pow
  have ep : pw t = ((2 ^ t.toNat : Nat) : Int) := by unfold pw; simp
  have e : pw t - 1 = ((2 ^ t.toNat - 1 : Nat) : Int) := by rw [ep, Int.ofNat_sub h2]; simp
  have e2 : orM (a : Int) t = ((2 ^ t.toNat * (a / 2 ^ t.toNat) + (2 ^ t.toNat - 1) : Nat) : Int) := by
    unfold orM
    rw [e, ep]
    simp only [Int.natCast_add, Int.natCast_mul, Int.natCast_ediv]
    rw [Int.mul_comm]
  have hq : 2 ^ t.toNat * (a / 2 ^ t.toNat) ≤ a := Nat.mul_div_le _ _
  have hc : 2 ^ t.toNat ≤ 2097152 := by rw [ep] at hp2; omega
  rw [e2, ← or_low, e]
  have hlt : a ||| (2 ^ t.toNat - 1) < 9223372036854775808 := by rw [or_low]; omega
  generalize 2 ^ t.toNat - 1 = c at *
  have hb : a < 18446744073709551616 := by omega
  have hcc : c < 18446744073709551616 := by omega
  have ea : (BitVec.ofInt 64 (a : Int)).toNat = a := by rw [BitVec.toNat_ofInt]; omega
  have ec : (BitVec.ofInt 64 (c : Int)).toNat = c := by rw [BitVec.toNat_ofInt]; omega
  show IntKind.i64.wrap ((BitVec.ofInt 64 (a : Int) ||| BitVec.ofInt 64 (c : Int)).toNat : Int) = _
  rw [BitVec.toNat_or, ea, ec]
  exact IntWalk.i64_in _ (by omega)
theorem or_ge (x k : Int) : x ≤ orM x k := by
  have h := mod_lt x k
  have := Int.mul_ediv_add_emod x (pw k)
  unfold orM
  rw [Int.mul_comm]
  omega
theorem or_lt {x k : Int} (h0 : 0 ≤ x) (h1 : x ≤ 2097151) (hk : k ≤ 21) : orM x k ≤ 4194303 := by
  have h := mod_lt x k
  have hp := pw_pos k
  have hp2 := pw_le hk pw21
  have := Int.mul_ediv_add_emod x (pw k)
  unfold orM
  rw [Int.mul_comm]
  omega
theorem or_same {x y k : Int} (h1 : x ≤ y) (h2 : y ≤ orM x k) : y / pw k = x / pw k ∧ y % pw k = x % pw k + (y - x) := by
  have hp := pw_pos k
  have hm := mod_lt x k
  have e := Int.mul_ediv_add_emod x (pw k)
  unfold orM at h2
  rw [Int.mul_comm] at h2
  have hy : y = pw k * (x / pw k) + (x % pw k + (y - x)) := by omega
  have hr0 : 0 ≤ x % pw k + (y - x) := by omega
  have hr1 : x % pw k + (y - x) < pw k := by omega
  constructor
  · rw [hy, Int.add_comm, Int.add_mul_ediv_left _ _ (by omega), Int.ediv_eq_zero_of_lt hr0 hr1]
    omega
  · have : y % pw k = (x % pw k + (y - x)) % pw k := by
      conv => lhs; rw [hy]
      rw [Int.add_comm, Int.add_mul_emod_self_left]
    rw [this, Int.emod_eq_of_lt hr0 hr1]
def growP (d u : Int) : Int := if 0 < d then 0 else pw u
def lastP (d t x : Int) : Int := if 0 < d then orM x d else orM x t
theorem lastP_ge (d t x : Int) : x ≤ lastP d t x := by unfold lastP; split <;> exact or_ge _ _
theorem lastP_lt {d t u x : Int} (h : Bits d t u) (h0 : 0 ≤ x) (h1 : x ≤ 2097151) : lastP d t x ≤ 4194303 := by
  obtain ⟨_, h2, _, h4, _⟩ := h
  unfold lastP
  split
  · exact or_lt h0 h1 (by omega)
  · exact or_lt h0 h1 h4
theorem growP_bound {d t u : Int} (h : Bits d t u) : 0 ≤ growP d u ∧ growP d u ≤ 1048576 := by
  obtain ⟨_, _, _, _, h5, h6, _⟩ := h
  have hp := pw_pos u
  have := pw_le h6 pw20
  unfold growP
  split <;> omega
theorem val_step {d t u x y : Int} (hB : Bits d t u) (h1 : x ≤ y) (h2 : y ≤ lastP d t x) : valI d t u y = valI d t u x + growP d u * (y - x) := by
  unfold lastP at h2
  unfold growP
  unfold valI
  by_cases hd : 0 < d
  · rw [if_pos hd] at h2 ⊢
    rw [(or_same h1 h2).1]
    omega
  · have : d = 0 := by have := hB.1; omega
    subst this
    rw [if_neg hd] at h2 ⊢
    rw [pw_zero, Int.ediv_one, Int.ediv_one, (or_same h1 h2).2, Int.add_mul, Int.mul_comm (y - x)]
theorem val_rise {d t u x y : Int} (hB : Bits d t u) (_h0 : 0 ≤ x) (h1 : x ≤ y) (h2 : y ≤ lastP d t x) : growP d u * (y - x) ≤ 66060288 := by
  have hs := val_step hB h1 h2
  have a := valI_bound hB x
  have b := valI_bound hB y
  omega
def growS : List PT → Int
  | [] => 0
  | q :: l => growP q.2.1 q.2.2.2 + growS l
def lastF (x L : Int) (l : List PT) : Int := l.foldl (fun a q => min a (lastP q.2.1 q.2.2.1 x)) L
theorem lastF_le (x : Int) (l : List PT) : ∀ L, lastF x L l ≤ L ∧ ∀ q ∈ l, lastF x L l ≤ lastP q.2.1 q.2.2.1 x := by
  induction l with
  | nil => exact fun L => ⟨Int.le_refl _, fun q hq => by cases hq⟩
  | cons p l ih =>
    intro L
    have h := ih (min L (lastP p.2.1 p.2.2.1 x))
    have e : lastF x L (p :: l) = lastF x (min L (lastP p.2.1 p.2.2.1 x)) l := rfl
    rw [e]
    refine ⟨by omega, fun q hq => ?_⟩
    rcases List.mem_cons.1 hq with rfl | hq
    · omega
    · exact h.2 q hq
theorem lastF_ge {x : Int} (l : List PT) : ∀ L, x ≤ L → x ≤ lastF x L l := by
  induction l with
  | nil => exact fun L h => h
  | cons p l ih =>
    intro L h
    have e : lastF x L (p :: l) = lastF x (min L (lastP p.2.1 p.2.2.1 x)) l := rfl
    rw [e]
    exact ih _ (by have := lastP_ge p.2.1 p.2.2.1 x; omega)
def RightP (l : List PT) : Prop := ∀ q ∈ l, q.1 = 0 ∧ Bits q.2.1 q.2.2.1 q.2.2.2
theorem growS_bound {l : List PT} (h : RightP l) : 0 ≤ growS l ∧ growS l ≤ l.length * 1048576 := by
  induction l with
  | nil => exact ⟨Int.le_refl _, Int.le_refl _⟩
  | cons p l ih =>
    have a := growP_bound (h p (List.mem_cons_self ..)).2
    have b := ih (fun q hq => h q (List.mem_cons_of_mem _ hq))
    simp only [growS, List.length_cons]
    omega
theorem sum_step {x y : Int} {l : List PT} (hR : RightP l) (h1 : x ≤ y) (h2 : ∀ q ∈ l, y ≤ lastP q.2.1 q.2.2.1 x) : sumT [y] l = sumT [x] l + growS l * (y - x) := by
  induction l with
  | nil => simp [sumT, growS]
  | cons p l ih =>
    have a := hR p (List.mem_cons_self ..)
    have b := val_step a.2 h1 (h2 p (List.mem_cons_self ..))
    have c := ih (fun q hq => hR q (List.mem_cons_of_mem _ hq)) (fun q hq => h2 q (List.mem_cons_of_mem _ hq))
    simp only [sumT, growS, a.1]
    have e : ∀ z : Int, atI [z] 0 = z := fun z => rfl
    rw [e, e, b, c, Int.add_mul]
    omega
theorem right_P {l : List PT} (h : partsB 1 l = true) : RightP l := by
  intro q hq
  have := List.all_eq_true.1 h q hq
  simp only [rightB, decide_eq_true_eq] at this
  exact ⟨by omega, this.2.2⟩
def lastsV (n grow from_ bound : Int) : Int := if grow = 0 ∨ bound < from_ then n else min n ((bound - from_) / grow)
theorem lasts_all {n grow from_ bound : Int} (h : ¬ (grow = 0 ∨ bound < from_)) (hg : 0 ≤ grow) (hn : 0 ≤ n) : 0 ≤ lastsV n grow from_ bound ∧ lastsV n grow from_ bound ≤ n ∧ ∀ k, 0 ≤ k → k ≤ lastsV n grow from_ bound → from_ + grow * k ≤ bound := by
  unfold lastsV
  rw [if_neg h]
  have h0 : 0 ≤ (bound - from_) / grow := Int.ediv_nonneg (by omega) hg
  refine ⟨by omega, by omega, fun k _ hk => ?_⟩
  have hk2 : k ≤ (bound - from_) / grow := by omega
  have := (Int.le_ediv_iff_mul_le (show 0 < grow by omega)).1 hk2
  rw [Int.mul_comm]
  omega
theorem lasts_bound {n g f bd : Int} (hg : 0 ≤ g) (hn : 0 ≤ n) (_ : f ≤ bd) : 0 ≤ lastsV n g f bd ∧ lastsV n g f bd ≤ n := by
  by_cases h : g = 0 ∨ bd < f
  · unfold lastsV
    rw [if_pos h]
    omega
  · have := lasts_all h hg hn
    exact ⟨this.1, this.2.1⟩
theorem lasts_bound0 {n g f bd : Int} (hg : 0 ≤ g) (hn : 0 ≤ n) : 0 ≤ lastsV n g f bd ∧ lastsV n g f bd ≤ n := by
  by_cases h : g = 0 ∨ bd < f
  · unfold lastsV
    rw [if_pos h]
    omega
  · have := lasts_all h hg hn
    exact ⟨this.1, this.2.1⟩
structure St where
  last : Int
  has : Bool
  value : Int
  grow : Int
def alongT (b d t u s : Int) (l : List PT) (x : Int) : St :=
  if (wholeT b d t u (innerT [x] s l)).2 = true then ⟨x + lastsV (lastF x 1114111 l - x) (growS l) (innerT [x] s l) (min (lastP d t (innerT [x] s l)) 1114111), true, (wholeT b d t u (innerT [x] s l)).1, growS l * growP d u⟩
  else ⟨x + lastsV (lastF x 1114111 l - x) (growS l) (innerT [x] s l) (-1), false, 0, 0⟩
theorem mul_le {a b c : Int} (ha : 0 ≤ a) (h : b ≤ c) : a * b ≤ a * c := Int.mul_le_mul_of_nonneg_left h ha
theorem along_ok {b d t u s : Int} {l : List PT} {x : Int} (hs : R64 s) (hl : l.length ≤ 20) (hp : partsB 1 l = true) (hB : Bits d t u) (hx : Sy x) :
    x ≤ (alongT b d t u s l x).last ∧ (alongT b d t u s l x).last ≤ 1114111 ∧ 0 ≤ (alongT b d t u s l x).grow ∧ (alongT b d t u s l x).grow ≤ 21990232555520 ∧ R64 (alongT b d t u s l x).value ∧
    (∀ y, x ≤ y → y ≤ (alongT b d t u s l x).last → (alongT b d t u s l x).grow * (y - x) ≤ 66060288 ∧
      valueT b d t u s l [y] = if (alongT b d t u s l x).has = true then (wrap64 ((alongT b d t u s l x).value + (alongT b d t u s l x).grow * (y - x)), true) else (0, false)) := by
  have hR := right_P hp
  have hG := growS_bound hR
  have hg := growP_bound hB
  have hLle := lastF_le x l 1114111
  have hLge := lastF_ge l 1114111 (show x ≤ 1114111 from hx.2)
  have hG2 : growS l ≤ 20971520 := by omega
  have hgg := mul_bound hG.1 hG2 hg.1 hg.2
  -- the inner value at y
  have hin : ∀ y, x ≤ y → y ≤ lastF x 1114111 l → innerT [y] s l = wrap64 (innerT [x] s l + growS l * (y - x)) := fun y h1 h2 => by
    rw [inner_sum _ _ _ hs, inner_sum _ _ _ hs, sum_step hR h1 (fun q hq => by have := hLle.2 q hq; omega)]
    unfold wrap64
    omega
  have hval : ∀ y, Sy y → valueT b d t u s l [y] = wholeT b d t u (innerT [y] s l) := fun y hy => by
    unfold valueT
    rw [if_pos ⟨symB_iff.2 (fun z hz => by rw [List.mem_singleton] at hz; subst hz; exact hy), hp⟩]
  obtain ⟨I, hI⟩ : ∃ I, innerT [x] s l = I := ⟨_, rfl⟩
  have hIR : R64 I := by rw [← hI, inner_sum _ _ _ hs]; exact wrap_R _
  unfold alongT
  rw [hI] at hin ⊢
  obtain ⟨n, hn⟩ : ∃ n, lastF x 1114111 l - x = n := ⟨_, rfl⟩
  rw [hn]
  have hn0 : 0 ≤ n := by omega
  have hD : ∀ y, x ≤ y → y ≤ 1114111 → 0 ≤ growS l * (y - x) ∧ growS l * (y - x) ≤ 23364622090240 := fun y h1 h2 => by
    have := mul_bound hG.1 hG2 (show 0 ≤ y - x by omega) (show y - x ≤ 1114112 by have := hx.1; omega)
    omega
  by_cases hS : Sy I
  · have hw : wholeT b d t u I = (wrap64 (b + valI d t u I), true) := if_pos ⟨hS, hB⟩
    rw [hw]
    simp only [if_true]
    have hbd : I ≤ min (lastP d t I) 1114111 := by have := lastP_ge d t I; have := hS.2; omega
    obtain ⟨bd, hbdE⟩ : ∃ q, min (lastP d t I) 1114111 = q := ⟨_, rfl⟩
    rw [hbdE] at hbd ⊢
    -- what the steps keep
    have key : 0 ≤ lastsV n (growS l) I bd ∧ lastsV n (growS l) I bd ≤ n ∧ ∀ k, 0 ≤ k → k ≤ lastsV n (growS l) I bd → I + growS l * k ≤ bd := by
      by_cases h : growS l = 0 ∨ bd < I
      · rcases h with h | h
        · unfold lastsV
          rw [if_pos (.inl h)]
          refine ⟨hn0, Int.le_refl _, fun k _ _ => ?_⟩
          rw [h, Int.zero_mul]
          omega
        · omega
      · exact lasts_all h hG.1 hn0
    obtain ⟨N, hN⟩ : ∃ N, lastsV n (growS l) I bd = N := ⟨_, rfl⟩
    rw [hN] at key ⊢
    obtain ⟨k0, k1, k2⟩ := key
    refine ⟨by omega, by have := hLle.1; omega, hgg.1, by omega, wrap_R _, fun y h1 h2 => ?_⟩
    have hy1 : y ≤ lastF x 1114111 l := by omega
    have hyS : Sy y := ⟨by have := hx.1; omega, by have := hLle.1; omega⟩
    have hk := k2 (y - x) (by omega) (by omega)
    have hd := hD y h1 hyS.2
    have hi := hin y h1 hy1
    rw [IntWalk.wrap64_in _ (by have := hS.1; omega)] at hi
    have hJ : Sy (I + growS l * (y - x)) := ⟨by have := hS.1; omega, by omega⟩
    have hst := val_step (x := I) (y := I + growS l * (y - x)) hB (by omega) (by omega)
    have hrs := val_rise (x := I) (y := I + growS l * (y - x)) hB hS.1 (by omega) (by omega)
    have em : growS l * growP d u * (y - x) = growP d u * (I + growS l * (y - x) - I) := by
      rw [show I + growS l * (y - x) - I = growS l * (y - x) from by omega, Int.mul_comm (growS l), Int.mul_assoc]
    rw [em]
    refine ⟨hrs, ?_⟩
    rw [hval y hyS, hi]
    unfold wholeT
    rw [if_pos ⟨hJ, hB⟩, hst]
    congr 1
    unfold wrap64
    omega
  · have hw : wholeT b d t u I = (0, false) := if_neg (fun h => hS h.1)
    rw [hw]
    simp only [Bool.false_eq_true, if_false]
    have key : 0 ≤ lastsV n (growS l) I (-1) ∧ lastsV n (growS l) I (-1) ≤ n ∧ ∀ k, 0 ≤ k → k ≤ lastsV n (growS l) I (-1) → I < 0 → I + growS l * k ≤ -1 := by
      by_cases h : growS l = 0 ∨ -1 < I
      · unfold lastsV
        rw [if_pos h]
        refine ⟨hn0, Int.le_refl _, fun k _ _ hneg => ?_⟩
        rcases h with h | h
        · rw [h, Int.zero_mul]
          omega
        · omega
      · have := lasts_all h hG.1 hn0
        exact ⟨this.1, this.2.1, fun k a b _ => this.2.2 k a b⟩
    obtain ⟨N, hN⟩ : ∃ N, lastsV n (growS l) I (-1) = N := ⟨_, rfl⟩
    rw [hN] at key ⊢
    obtain ⟨k0, k1, k2⟩ := key
    refine ⟨by omega, by have := hLle.1; omega, Int.le_refl _, by omega, by unfold R64; omega, fun y h1 h2 => ⟨by omega, ?_⟩⟩
    have hy1 : y ≤ lastF x 1114111 l := by omega
    have hyS : Sy y := ⟨by have := hx.1; omega, by have := hLle.1; omega⟩
    have hd := hD y h1 hyS.2
    rw [hval y hyS, hin y h1 hy1]
    have hnot : ¬ Sy (wrap64 (I + growS l * (y - x))) := by
      intro hq
      unfold Sy at hS hq
      unfold R64 at hIR
      by_cases hneg : I < 0
      · have hk := k2 (y - x) (by omega) (by omega) hneg
        rw [IntWalk.wrap64_in _ (by omega)] at hq
        omega
      · have : 1114111 < I := by omega
        unfold wrap64 at hq
        omega
    unfold wholeT
    rw [if_neg (fun h => hnot h.1)]
end Go.Proofs.Ytmcgapejebceoaa.Te
