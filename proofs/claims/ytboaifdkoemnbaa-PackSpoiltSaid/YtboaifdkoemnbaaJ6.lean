/- The check of pack (FNV-1a over 32 bits), as numbers: one byte that is another one is always told. -/
import Derived.Below
namespace Go.Proofs.Ytboaifdkoemnbaa.Pk
/-- One step of the check. -/
def step (h b : Nat) : Nat := ((h ^^^ b) * 16777619) % 4294967296
def sumL (bs : List Nat) : Nat := bs.foldl step 2166136261
theorem step_lt (h b : Nat) : step h b < 4294967296 := Nat.mod_lt _ (by decide)
theorem mul_inj {x y : Nat} (hx : x < 4294967296) (hy : y < 4294967296) (h : (x * 16777619) % 4294967296 = (y * 16777619) % 4294967296) : x = y := by
  have key : ∀ z, z < 4294967296 → ((z * 16777619) % 4294967296 * 899433627) % 4294967296 = z := by
    intro z hz
    rw [Nat.mod_mul_mod, Nat.mul_assoc]
    rw [show (16777619 * 899433627 : Nat) = 1 + 4294967296 * 3513497 from rfl, Nat.mul_add, Nat.mul_one, Nat.mul_left_comm, Nat.add_mul_mod_self_left, Nat.mod_eq_of_lt hz]
  rw [← key x hx, ← key y hy, h]
theorem xor_lt {h b : Nat} (hh : h < 4294967296) (hb : b < 256) : h ^^^ b < 4294967296 := Nat.xor_lt_two_pow (n := 32) hh (Nat.lt_of_lt_of_le hb (by decide))
theorem xor_cancel {a b c : Nat} (h : a ^^^ c = b ^^^ c) : a = b := by
  have := congrArg (· ^^^ c) h
  simpa only [Nat.xor_assoc, Nat.xor_self, Nat.xor_zero] using this
theorem step_inj {h h' b : Nat} (hh : h < 4294967296) (hh' : h' < 4294967296) (hb : b < 256) (e : step h b = step h' b) : h = h' :=
  xor_cancel (mul_inj (xor_lt hh hb) (xor_lt hh' hb) e)
theorem step_byte {h b b' : Nat} (hh : h < 4294967296) (hb : b < 256) (hb' : b' < 256) (e : step h b = step h b') : b = b' := by
  have := mul_inj (xor_lt hh hb) (xor_lt hh hb') e
  rw [Nat.xor_comm h b, Nat.xor_comm h b'] at this
  exact xor_cancel this
theorem foldl_lt {l : List Nat} {h : Nat} (hh : h < 4294967296) : l.foldl step h < 4294967296 := by
  induction l generalizing h with
  | nil => exact hh
  | cons a l ih => exact ih (step_lt _ _)
theorem foldl_inj {l : List Nat} (hl : ∀ b ∈ l, b < 256) : ∀ {h h' : Nat}, h < 4294967296 → h' < 4294967296 → l.foldl step h = l.foldl step h' → h = h' := by
  induction l with
  | nil => intro h h' _ _ e; exact e
  | cons a l ih =>
    intro h h' hh hh' e
    exact step_inj hh hh' (hl a (List.mem_cons_self)) (ih (fun b hb => hl b (List.mem_cons_of_mem _ hb)) (step_lt _ _) (step_lt _ _) e)
theorem sumL_lt (l : List Nat) : sumL l < 4294967296 := foldl_lt (by decide)
/-- A byte that is another one: another check. -/
theorem sumL_one {l r : List Nat} {a b : Nat} (hr : ∀ x ∈ r, x < 256) (ha : a < 256) (hb : b < 256) (e : sumL (l ++ a :: r) = sumL (l ++ b :: r)) : a = b := by
  unfold sumL at e
  rw [List.foldl_append, List.foldl_append] at e
  exact step_byte (foldl_lt (by decide)) ha hb (foldl_inj hr (step_lt _ _) (step_lt _ _) e)
example : sumL [] = 0x811C9DC5 := by decide
example : sumL [0x61] = 0xE40C292C := by decide
/-- A number of 32 bits as four bytes, the highest first. -/
def num4 (n : Nat) : List Nat := [n / 16777216 % 256, n / 65536 % 256, n / 256 % 256, n % 256]
theorem num4_length (n : Nat) : (num4 n).length = 4 := rfl
theorem num4_lt {n x : Nat} (h : x ∈ num4 n) : x < 256 := by
  simp only [num4, List.mem_cons, List.not_mem_nil, or_false] at h
  omega
theorem num4_inj {a b : Nat} (ha : a < 4294967296) (hb : b < 4294967296) (h : num4 a = num4 b) : a = b := by
  simp only [num4, List.cons.injEq, and_true] at h
  omega
/-- Bytes that end with the check of those ahead. -/
def Checks (bs : List Nat) : Prop := ∃ c, bs = c ++ num4 (sumL c)
/-- Of bytes that differ at one place only one row ends with its check. -/
theorem checks_one {l r : List Nat} {a b : Nat} (hr : ∀ x ∈ r, x < 256) (ha : a < 256) (hb : b < 256) (h : Checks (l ++ a :: r)) (h' : Checks (l ++ b :: r)) : a = b := by
  obtain ⟨c, hc⟩ := h
  obtain ⟨c', hc'⟩ := h'
  have hn : c.length = c'.length := by
    have h1 := congrArg List.length hc
    have h2 := congrArg List.length hc'
    simp only [List.length_append, List.length_cons, num4_length] at h1 h2
    omega
  rcases List.append_eq_append_iff.1 hc with ⟨u, e1, e2⟩ | ⟨u, e1, e2⟩ <;> rcases List.append_eq_append_iff.1 hc' with ⟨u', f1, f2⟩ | ⟨u', f1, f2⟩
  · have hu : u.length = u'.length := by
      have h1 := congrArg List.length e1
      have h2 := congrArg List.length f1
      simp only [List.length_append] at h1 h2
      omega
    cases u with
    | nil =>
      obtain rfl : u' = [] := List.length_eq_zero_iff.1 (by simpa using hu.symm)
      rw [List.append_nil] at e1 f1
      subst e1 f1
      rw [List.nil_append] at e2 f2
      rw [← f2] at e2
      exact (List.cons.inj e2).1
    | cons x u =>
      cases u' with
      | nil => simp at hu
      | cons x' u' =>
        obtain ⟨rfl, e3⟩ := List.cons.inj e2
        obtain ⟨rfl, f3⟩ := List.cons.inj f2
        obtain ⟨rfl, hs⟩ := List.append_inj (e3.symm.trans f3) (by simpa using hu)
        subst e1 f1
        exact sumL_one (fun y hy => hr y (by rw [e3]; exact List.mem_append_left _ hy)) ha hb (num4_inj (sumL_lt _) (sumL_lt _) hs)
  all_goals
    have h1 := congrArg List.length e1
    have h2 := congrArg List.length f1
    simp only [List.length_append] at h1 h2
  · obtain rfl : u = [] := List.length_eq_zero_iff.1 (by omega)
    obtain rfl : u' = [] := List.length_eq_zero_iff.1 (by omega)
    rw [List.append_nil] at e1 f1
    subst e1 f1
    rw [List.nil_append] at e2 f2
    exact (List.cons.inj (e2.trans f2)).1
  · obtain rfl : u = [] := List.length_eq_zero_iff.1 (by omega)
    obtain rfl : u' = [] := List.length_eq_zero_iff.1 (by omega)
    rw [List.append_nil] at e1 f1
    subst e1 f1
    rw [List.nil_append] at e2 f2
    exact (List.cons.inj (f2.trans e2)).1.symm
  · have e4 : c = c' := (List.append_inj (e1.symm.trans f1) hn).1
    have e5 : u = u' := (List.append_inj (e1.symm.trans f1) hn).2
    subst e4 e5
    exact (List.cons.inj (List.append_cancel_left (e2.symm.trans f2))).1
/-- A number as a number of 32 bits (two's complement). -/
def bits (x : Int) : Nat := (x % 4294967296).toNat
def sgn (n : Nat) : Int := if n < 2147483648 then n else (n : Int) - 4294967296
def In32 (x : Int) : Prop := -2147483648 ≤ x ∧ x ≤ 2147483647
theorem bits_lt (x : Int) : bits x < 4294967296 := by unfold bits; omega
theorem sgn_bits {x : Int} (h : In32 x) : sgn (bits x) = x := by
  unfold In32 at h
  unfold sgn bits
  split <;> omega
theorem sgn_in {n : Nat} (h : n < 4294967296) : In32 (sgn n) := by
  unfold In32 sgn
  split <;> omega
theorem bits_sgn {n : Nat} (h : n < 4294967296) : bits (sgn n) = n := by
  unfold bits sgn
  split <;> omega
/-- Just a number of 32 bits comes back. -/
theorem in32_iff {x : Int} : In32 x ↔ sgn (bits x) = x := ⟨sgn_bits, fun h => h ▸ sgn_in (bits_lt x)⟩
/-- Numbers as bytes. -/
def numsB (xs : List Int) : List Nat := xs.flatMap (fun x => num4 (bits x))
theorem numsB_nil : numsB [] = [] := rfl
theorem numsB_cons (x : Int) (xs : List Int) : numsB (x :: xs) = num4 (bits x) ++ numsB xs := rfl
theorem numsB_append (xs ys : List Int) : numsB (xs ++ ys) = numsB xs ++ numsB ys := List.flatMap_append
theorem numsB_length (xs : List Int) : (numsB xs).length = 4 * xs.length := by
  induction xs with
  | nil => rfl
  | cons x xs ih => rw [numsB_cons, List.length_append, ih, num4_length, List.length_cons]; omega
theorem numsB_lt {xs : List Int} {y : Nat} (h : y ∈ numsB xs) : y < 256 := by
  obtain ⟨x, _, hx⟩ := List.mem_flatMap.1 h
  exact num4_lt hx
/-- What four bytes say. -/
def val4 (a b c d : Nat) : Nat := ((a * 256 + b) * 256 + c) * 256 + d
theorem val4_lt {a b c d : Nat} (ha : a < 256) (hb : b < 256) (hc : c < 256) (hd : d < 256) : val4 a b c d < 4294967296 := by unfold val4; omega
theorem num4_val {a b c d : Nat} (ha : a < 256) (hb : b < 256) (hc : c < 256) (hd : d < 256) : num4 (val4 a b c d) = [a, b, c, d] := by
  unfold num4 val4
  simp only [List.cons.injEq, and_true]
  omega
theorem val4_num {n : Nat} (h : n < 4294967296) : val4 (n / 16777216 % 256) (n / 65536 % 256) (n / 256 % 256) (n % 256) = n := by unfold val4; omega
/-- Reading a number off bytes. -/
def rdN : List Nat → Option (Int × List Nat)
  | a :: b :: c :: d :: l => some (sgn (val4 a b c d), l)
  | _ => none
theorem rdN_num {x : Int} (h : In32 x) (l : List Nat) : rdN (num4 (bits x) ++ l) = some (x, l) := by
  show some (sgn (val4 _ _ _ _), l) = some (x, l)
  rw [val4_num (bits_lt x), sgn_bits h]
theorem rdN_some {l r : List Nat} {x : Int} (hl : ∀ y ∈ l, y < 256) (h : rdN l = some (x, r)) : In32 x ∧ l = num4 (bits x) ++ r := by
  match l, h with
  | a :: b :: c :: d :: l, h =>
    obtain ⟨rfl, rfl⟩ := Prod.mk.inj (Option.some.inj h)
    have ha := hl a (by simp)
    have hb := hl b (by simp)
    have hc := hl c (by simp)
    have hd := hl d (by simp)
    refine ⟨sgn_in (val4_lt ha hb hc hd), ?_⟩
    rw [bits_sgn (val4_lt ha hb hc hd), num4_val ha hb hc hd]
    rfl
theorem rdN_none {l : List Nat} : rdN l = none ↔ l.length < 4 := by
  match l with
  | [] => simp [rdN]
  | [_] => simp [rdN]
  | [_, _] => simp [rdN]
  | [_, _, _] => simp [rdN]
  | _ :: _ :: _ :: _ :: l =>
    refine ⟨fun h => (by cases h), fun h => ?_⟩
    simp only [List.length_cons] at h
    omega
/-- Reading so many numbers off bytes. -/
def rdNs : Nat → List Nat → Option (List Int × List Nat)
  | 0, l => some ([], l)
  | n + 1, l => match rdN l with
    | none => none
    | some (x, r) => match rdNs n r with
      | none => none
      | some (xs, q) => some (x :: xs, q)
theorem rdNs_nums {xs : List Int} (h : ∀ x ∈ xs, In32 x) (l : List Nat) : rdNs xs.length (numsB xs ++ l) = some (xs, l) := by
  induction xs with
  | nil => rfl
  | cons x xs ih =>
    rw [numsB_cons, List.append_assoc, List.length_cons, rdNs, rdN_num (h x List.mem_cons_self)]
    simp only
    rw [ih (fun y hy => h y (List.mem_cons_of_mem _ hy))]
theorem numsB_inj {xs ys : List Int} (hx : ∀ x ∈ xs, In32 x) (hy : ∀ y ∈ ys, In32 y) {l r : List Nat} (hn : xs.length = ys.length) (h : numsB xs ++ l = numsB ys ++ r) : xs = ys ∧ l = r := by
  have h1 := rdNs_nums hx l
  rw [h, hn, rdNs_nums hy r] at h1
  obtain ⟨rfl, rfl⟩ := Prod.mk.inj (Option.some.inj h1)
  exact ⟨rfl, rfl⟩
end Go.Proofs.Ytboaifdkoemnbaa.Pk
