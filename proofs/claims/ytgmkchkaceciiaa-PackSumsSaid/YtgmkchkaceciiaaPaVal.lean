/- The walks of part.most, part.Value, and of the document's Two, Bits, Right, Value. -/
import Derived.Test.YtgmkchkaceciiaaPaFun
import Derived.Test.YtgmkchkaceciiaaSpAsk
namespace Go.Proofs.Ytgmkchkaceciiaa.Pa
set_option maxRecDepth 100000
open Go Go.RowKit Go.Proofs.Ytgmkchkaceciiaa.Sp

def RetN (v : Int) (w : World) (e : Ending) (w' : World) : Prop := e = .returned (.int .i64 v) ∧ Below w.heap.size w w'
theorem ret_i {a b : Int} (h : a = b) : Ending.returned (.int .i64 a) = .returned (.int .i64 b) := by rw [h]
theorem pw_fold (n : Int) : (2 : Int) ^ n.toNat = pw n := rfl
theorem land_low (a k : Nat) : a &&& (2 ^ k - 1) = a % 2 ^ k := Nat.and_two_pow_sub_one_eq_mod a k
theorem bits_low (z t : Int) (h0 : 0 ≤ z) (h1 : z ≤ 9223372036854775807) (ht : t ≤ 62) : bits .and .i64 z (pw t - 1) = z % pw t := by
  have hp := pw_pos t
  have hp2 := pw_mono t 62 ht
  have e62 : pw 62 = 4611686018427387904 := by decide
  have hm := mod_lt z t
  obtain ⟨a, rfl⟩ := Int.eq_ofNat_of_zero_le h0
  have e : pw t - 1 = ((2 ^ t.toNat - 1 : Nat) : Int) := by
    have : (1 : Nat) ≤ 2 ^ t.toNat := Nat.one_le_two_pow
    unfold pw; rw [Int.ofNat_sub this]; simp
  have e2 : ((a : Int) % pw t) = ((a % 2 ^ t.toNat : Nat) : Int) := by unfold pw; simp
  have hlt : a % 2 ^ t.toNat < 9223372036854775808 := by omega
  have hb : a < 18446744073709551616 := by omega
  have hc : 2 ^ t.toNat - 1 < 18446744073709551616 := by omega
  rw [e2, ← land_low, e]
  rw [← land_low] at hlt
  generalize 2 ^ t.toNat - 1 = c at *
  have ea : (BitVec.ofInt 64 (a : Int)).toNat = a := by rw [BitVec.toNat_ofInt]; omega
  have ec : (BitVec.ofInt 64 (c : Int)).toNat = c := by rw [BitVec.toNat_ofInt]; omega
  show IntKind.i64.wrap ((BitVec.ofInt 64 (a : Int) &&& BitVec.ofInt 64 (c : Int)).toNat : Int) = _
  rw [BitVec.toNat_and, ea, ec]
  exact IntWalk.i64_in _ (by omega)

theorem boxed4 {w w1 : World} {x y z v : Value} {t : TypeId} (hb : Below (w.alloc (.cells #[x, y, z, v] t)).heap.size (w.alloc (.cells #[x, y, z, v] t)) w1) :
    w1.cell? ⟨w.heap.size, 0, none⟩ = some x ∧ w1.cell? ⟨w.heap.size, 1, none⟩ = some y ∧ w1.cell? ⟨w.heap.size, 2, none⟩ = some z ∧ w1.cell? ⟨w.heap.size, 3, none⟩ = some v := by
  have key : ∀ i, w1.cell? ⟨w.heap.size, i, none⟩ = (w.alloc (.cells #[x, y, z, v] t)).cell? ⟨w.heap.size, i, none⟩ := fun i => hb.cell (p := ⟨w.heap.size, i, none⟩) (by simp)
  rw [key, key, key, key]
  refine ⟨?_, ?_, ?_, ?_⟩ <;> simp
attribute [local go_sem] pw_fold
def TwoRel (n : Int) (x i : Value) : Prop := ∃ k : Nat, (k : Int) ≤ n ∧ i = .int .i64 k ∧ x = .int .i64 (pw k)
set_option maxHeartbeats 1000000 in
theorem rbits_any (a d t u : Int) (w : World) : Calls Try.prog 135 #[prt a d t u] w (RetB (decide (Bits d t u)) w) := by
  have fin : ∀ b : Bool, decide (Bits d t u) = b → ∀ {e : Ending} {w' : World}, e = .returned (.bool b) → Below w.heap.size w w' → RetB (decide (Bits d t u)) w e w' := fun b h e w' h1 h2 => ⟨by rw [h]; exact h1, h2⟩
  have FIN := Lib.hid fin
  clear fin
  have neg : ¬ Bits d t u → decide (Bits d t u) = false := fun h => decide_eq_false h
  have pos : Bits d t u → decide (Bits d t u) = true := fun h => decide_eq_true h
  by_cases h1 : d < 0
  · have HE := Lib.hid (neg (by unfold Bits; omega)); clear pos neg
    go_enter Try.func135, Try.ntmps135
    go_wp2_with (fail)
    go_ret
    exact FIN.out _ HE.out rfl ((Below.refl _ _).alloc (Nat.le_refl _) _)
  by_cases h2 : 20 < d
  · have HE := Lib.hid (neg (by unfold Bits; omega)); clear pos neg
    go_enter Try.func135, Try.ntmps135
    go_wp2_with (fail)
    go_ret
    exact FIN.out _ HE.out rfl ((Below.refl _ _).alloc (Nat.le_refl _) _)
  by_cases h3 : t < 1
  · have HE := Lib.hid (neg (by unfold Bits; omega)); clear pos neg
    go_enter Try.func135, Try.ntmps135
    go_wp2_with (fail)
    go_ret
    exact FIN.out _ HE.out rfl ((Below.refl _ _).alloc (Nat.le_refl _) _)
  by_cases h4 : 21 < t
  · have HE := Lib.hid (neg (by unfold Bits; omega)); clear pos neg
    go_enter Try.func135, Try.ntmps135
    go_wp2_with (fail)
    go_ret
    exact FIN.out _ HE.out rfl ((Below.refl _ _).alloc (Nat.le_refl _) _)
  by_cases h5 : u < 0
  · have HE := Lib.hid (neg (by unfold Bits; omega)); clear pos neg
    go_enter Try.func135, Try.ntmps135
    go_wp2_with (fail)
    go_ret
    exact FIN.out _ HE.out rfl ((Below.refl _ _).alloc (Nat.le_refl _) _)
  by_cases h6 : 20 < u
  · have HE := Lib.hid (neg (by unfold Bits; omega)); clear pos neg
    go_enter Try.func135, Try.ntmps135
    go_wp2_with (fail)
    go_ret
    exact FIN.out _ HE.out rfl ((Below.refl _ _).alloc (Nat.le_refl _) _)
  by_cases h7 : u = 0
  · subst h7
    have HE := Lib.hid (pos (by unfold Bits; omega)); clear pos neg
    go_enter Try.func135, Try.ntmps135
    go_wp2_with (fail)
    go_ret
    exact FIN.out _ HE.out rfl ((Below.refl _ _).alloc (Nat.le_refl _) _)
  have h8 : (u == 0) = false := by simpa using h7
  by_cases h9 : t ≤ 6
  · have HE := Lib.hid (pos (by unfold Bits; omega)); clear pos neg h7
    have h9' : decide (t ≤ 6) = true := by simpa using h9
    go_enter Try.func135, Try.ntmps135
    go_wp2_with (fail)
    go_ret
    exact FIN.out _ HE.out rfl ((Below.refl _ _).alloc (Nat.le_refl _) _)
  · have HE := Lib.hid (neg (by unfold Bits; omega)); clear pos neg h7
    have h9' : decide (t ≤ 6) = false := by simpa using h9
    go_enter Try.func135, Try.ntmps135
    go_wp2_with (fail)
    go_ret
    exact FIN.out _ HE.out rfl ((Below.refl _ _).alloc (Nat.le_refl _) _)

set_option maxHeartbeats 1000000 in
theorem rright_any (a d t u n : Int) (w : World) : Calls Try.prog 122 #[prt a d t u, .int .i64 n] w (RetB (rightB a d t u n) w) := by
  have HB := Lib.hid (rbits_any a d t u)
  by_cases h0 : Bits d t u
  · rw [decide_eq_true h0] at HB
    by_cases h1 : 0 ≤ a
    · by_cases h2 : a < n
      · have HE := Lib.hid (show rightB a d t u n = true by unfold rightB; simp [h1, h2, h0])
        have h2' : decide (a < n) = true := by simpa using h2
        clear h0
        go_enter Try.func122, Try.ntmps122
        go_wp2_with (fail)
        refine (HB.out _).mono ?_
        rintro e w1 ⟨rfl, hb1⟩
        have q := boxed4 hb1
        go_wp2_with (fail)
        go_ret
        exact ⟨ret_bool HE.out.symm, ((Below.refl _ _).alloc (Nat.le_refl _) _).trans (hb1.mono (by simp))⟩
      · have HE := Lib.hid (show rightB a d t u n = false by unfold rightB; simp [h2])
        have h2' : decide (a < n) = false := by simpa using h2
        clear h0
        go_enter Try.func122, Try.ntmps122
        go_wp2_with (fail)
        refine (HB.out _).mono ?_
        rintro e w1 ⟨rfl, hb1⟩
        have q := boxed4 hb1
        go_wp2_with (fail)
        go_ret
        exact ⟨ret_bool HE.out.symm, ((Below.refl _ _).alloc (Nat.le_refl _) _).trans (hb1.mono (by simp))⟩
    · have HE := Lib.hid (show rightB a d t u n = false by unfold rightB; simp [h1])
      clear h0
      go_enter Try.func122, Try.ntmps122
      go_wp2_with (fail)
      refine (HB.out _).mono ?_
      rintro e w1 ⟨rfl, hb1⟩
      have q := boxed4 hb1
      go_wp2_with (fail)
      go_ret
      exact ⟨ret_bool HE.out.symm, ((Below.refl _ _).alloc (Nat.le_refl _) _).trans (hb1.mono (by simp))⟩
  · rw [decide_eq_false h0] at HB
    have HE := Lib.hid (show rightB a d t u n = false by unfold rightB; simp [h0])
    clear h0
    go_enter Try.func122, Try.ntmps122
    go_wp2_with (fail)
    refine (HB.out _).mono ?_
    rintro e w1 ⟨rfl, hb1⟩
    go_wp2_with (fail)
    go_ret
    exact ⟨ret_bool HE.out.symm, ((Below.refl _ _).alloc (Nat.le_refl _) _).trans (hb1.mono (by simp))⟩

/-- What part.Value answers. -/
def RetV (v : Int × Bool) (w : World) (e : Ending) (w' : World) : Prop := e = .returned (.tuple #[.int .i64 v.1, .bool v.2]) ∧ Below w.heap.size w w'
theorem ret_v {a : Int} {b : Bool} {v : Int × Bool} (h : v = (a, b)) : Ending.returned (.tuple #[.int .i64 a, .bool b]) = .returned (.tuple #[.int .i64 v.1, .bool v.2]) := by rw [h]
theorem value_none {d t u x : Int} (h : ¬ HasV d t u x) : valP d t u x = (0, false) := if_neg h
theorem quiet_two {P : Program} {f : FuncId} {args : Array Value} {w : World} {n : Nat} {v : Value} (h : Calls P f args (w.drewN n) (RetW v (w.drewN n))) : Calls P f args (w.drewN n) fun e w'' => e = .returned v ∧ ∃ m, w'' = w.drewN m :=
  h.mono fun _ _ ⟨he, hm⟩ => ⟨he, n, hm.symm⟩
end Go.Proofs.Ytgmkchkaceciiaa.Pa
