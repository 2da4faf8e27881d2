/- Texts of this proof, joined: PaFun, PaVal, TeBase, TeFun, TeVal, TeRight, TeCopies, TeConst, TePut, TeClone, TePuts, TeMath, TeStr, TeHitMath, TeAlike, TeSeen. -/
import Derived.Test.YtplpafoflibnlaaProg
import Derived.Test.YtplpafoflibnlaaM1
import Derived.Test.YtplpafoflibnlaaM3
import Derived.WalkArith
import Derived.IntWalk
import Derived.Deep.RegionHeld3
import Derived.Lib.SliceRun
import Derived.OwnWalk
import Derived.BigQuiet
/- The walks of part.bitsRight, Right, Whole, most, Value, and of the document's Two, Bits, Right, Value. -/
namespace Go.Proofs.Ytplpafoflibnlaa.Pa
set_option maxRecDepth 100000
open Go Go.RowKit Go.Proofs.Ytplpafoflibnlaa.Sp

/-- A part, as a value. -/
abbrev prt (a d t u : Int) : Value := .agg #[.int .i64 a, .int .i64 d, .int .i64 t, .int .i64 u]

set_option maxHeartbeats 1000000 in
theorem bits_any (a d t u : Int) (w : World) : Calls Try.prog 86 #[prt a d t u] w (RetB (decide (Bits d t u)) w) := by
  by_cases hb : Bits d t u
  · rw [decide_eq_true hb]
    obtain ⟨h1, h2, h3, h4, h5, h6, h7⟩ := hb
    by_cases h8 : u = 0
    · subst h8
      go_enter Try.func86, Try.ntmps86
      go_wp2_with (fail)
      go_ret
      exact ⟨rfl, (Below.refl _ _).alloc (Nat.le_refl _) _⟩
    · have h7' : t ≤ 6 := by omega
      have h8' : (u == 0) = false := by simpa using h8
      clear h7 h8
      go_enter Try.func86, Try.ntmps86
      go_wp2_with (fail)
      go_ret
      exact ⟨rfl, (Below.refl _ _).alloc (Nat.le_refl _) _⟩
  · rw [decide_eq_false hb]
    by_cases h1 : 0 ≤ d
    · by_cases h2 : d ≤ 20
      · by_cases h3 : 1 ≤ t
        · by_cases h4 : t ≤ 21
          · by_cases h5 : 0 ≤ u
            · by_cases h6 : u ≤ 20
              · have h7 : 6 < t := by unfold Bits at hb; omega
                have h8 : (u == 0) = false := by unfold Bits at hb; simp; omega
                clear hb
                go_enter Try.func86, Try.ntmps86
                go_wp2_with (fail)
                go_ret
                exact ⟨ret_bool (by simp; omega), (Below.refl _ _).alloc (Nat.le_refl _) _⟩
              · clear hb
                go_enter Try.func86, Try.ntmps86
                go_wp2_with (fail)
                go_ret
                exact ⟨rfl, (Below.refl _ _).alloc (Nat.le_refl _) _⟩
            · clear hb
              go_enter Try.func86, Try.ntmps86
              go_wp2_with (fail)
              go_ret
              exact ⟨rfl, (Below.refl _ _).alloc (Nat.le_refl _) _⟩
          · clear hb
            go_enter Try.func86, Try.ntmps86
            go_wp2_with (fail)
            go_ret
            exact ⟨rfl, (Below.refl _ _).alloc (Nat.le_refl _) _⟩
        · clear hb
          go_enter Try.func86, Try.ntmps86
          go_wp2_with (fail)
          go_ret
          exact ⟨rfl, (Below.refl _ _).alloc (Nat.le_refl _) _⟩
      · clear hb
        go_enter Try.func86, Try.ntmps86
        go_wp2_with (fail)
        go_ret
        exact ⟨rfl, (Below.refl _ _).alloc (Nat.le_refl _) _⟩
    · clear hb
      go_enter Try.func86, Try.ntmps86
      go_wp2_with (fail)
      go_ret
      exact ⟨rfl, (Below.refl _ _).alloc (Nat.le_refl _) _⟩

def rightB (a d t u n : Int) : Bool := decide (0 ≤ a ∧ a < n ∧ Bits d t u)
set_option maxHeartbeats 1000000 in
theorem right_any (a d t u n : Int) (w : World) : Calls Try.prog 74 #[prt a d t u, .int .i64 n] w (RetB (rightB a d t u n) w) := by
  by_cases h1 : 0 ≤ a
  · by_cases h2 : a < n
    · have e : rightB a d t u n = decide (Bits d t u) := by unfold rightB; simp [h1, h2]
      have HE := Lib.hid e
      have HB := Lib.hid (bits_any a d t u)
      clear e
      go_enter Try.func74, Try.ntmps74
      go_wp2_with (fail)
      refine (HB.out _).mono ?_
      rintro e w1 ⟨rfl, hb1⟩
      go_wp2_with (fail)
      go_ret
      exact ⟨ret_bool HE.out.symm, ((Below.refl _ _).alloc (Nat.le_refl _) _).trans (hb1.mono (by simp))⟩
    · have HE := Lib.hid (show rightB a d t u n = false by unfold rightB; simp [h2])
      go_enter Try.func74, Try.ntmps74
      go_wp2_with (fail)
      go_ret
      exact ⟨ret_bool HE.out.symm, (Below.refl _ _).alloc (Nat.le_refl _) _⟩
  · have HE := Lib.hid (show rightB a d t u n = false by unfold rightB; simp [h1])
    go_enter Try.func74, Try.ntmps74
    go_wp2_with (fail)
    go_ret
    exact ⟨ret_bool HE.out.symm, (Below.refl _ _).alloc (Nat.le_refl _) _⟩

def RetP (a d t u : Int) (w : World) (e : Ending) (w' : World) : Prop := e = .returned (prt a d t u) ∧ Below w.heap.size w w'
theorem whole_any (a : Int) (w : World) : Calls Try.prog 67 #[.int .i64 a] w (RetP a 0 21 0 w) := by
  go_enter Try.func67, Try.ntmps67
  go_wp2_with (fail)
  exact bodyPost_ret (v := prt a 0 21 0) (by simp [results, Try.results67, go_sem]) rfl ⟨rfl, (Below.refl _ _).alloc (Nat.le_refl _) _⟩
end Go.Proofs.Ytplpafoflibnlaa.Pa
/- The walks of part.most, part.Value, and of the document's Two, Bits, Right, Value. -/
namespace Go.Proofs.Ytplpafoflibnlaa.Pa
set_option maxRecDepth 100000
open Go Go.RowKit Go.Proofs.Ytplpafoflibnlaa.Sp

def RetN (v : Int) (w : World) (e : Ending) (w' : World) : Prop := e = .returned (.int .i64 v) ∧ Below w.heap.size w w'
theorem ret_i {a b : Int} (h : a = b) : Ending.returned (.int .i64 a) = .returned (.int .i64 b) := by rw [h]
theorem pw_fold (n : Int) : (2 : Int) ^ n.toNat = pw n := rfl
theorem land_low (a k : Nat) : a &&& (2 ^ k - 1) = a % 2 ^ k := Nat.and_two_pow_sub_one_eq_mod a k
theorem bits_low (z t : Int) (h0 : 0 ≤ z) (h1 : z ≤ 9223372036854775807) (ht : t ≤ 62) : bits .and .i64 z (pw t - 1) = z % pw t := by
  have hp := pw_pos t
  have hp2 := pw_mono t 62 ht
  have e62 : pw 62 = 4611686018427387904 := by decide
  have hm := mod_lt z t
  obtain ⟨a, rfl⟩ := Int.eq_ofNat_of_zero_le h0
  have e : pw t - 1 = ((2 ^ t.toNat - 1 : Nat) : Int) := by
    have : (1 : Nat) ≤ 2 ^ t.toNat := Nat.one_le_two_pow
    unfold pw; rw [Int.ofNat_sub this]; simp
  have e2 : ((a : Int) % pw t) = ((a % 2 ^ t.toNat : Nat) : Int) := by unfold pw; simp
  have hlt : a % 2 ^ t.toNat < 9223372036854775808 := by omega
  have hb : a < 18446744073709551616 := by omega
  have hc : 2 ^ t.toNat - 1 < 18446744073709551616 := by omega
  rw [e2, ← land_low, e]
  rw [← land_low] at hlt
  generalize 2 ^ t.toNat - 1 = c at *
  have ea : (BitVec.ofInt 64 (a : Int)).toNat = a := by rw [BitVec.toNat_ofInt]; omega
  have ec : (BitVec.ofInt 64 (c : Int)).toNat = c := by rw [BitVec.toNat_ofInt]; omega
  show IntKind.i64.wrap ((BitVec.ofInt 64 (a : Int) &&& BitVec.ofInt 64 (c : Int)).toNat : Int) = _
  rw [BitVec.toNat_and, ea, ec]
  exact IntWalk.i64_in _ (by omega)

theorem boxed4 {w w1 : World} {x y z v : Value} {t : TypeId} (hb : Below (w.alloc (.cells #[x, y, z, v] t)).heap.size (w.alloc (.cells #[x, y, z, v] t)) w1) :
    w1.cell? ⟨w.heap.size, 0, none⟩ = some x ∧ w1.cell? ⟨w.heap.size, 1, none⟩ = some y ∧ w1.cell? ⟨w.heap.size, 2, none⟩ = some z ∧ w1.cell? ⟨w.heap.size, 3, none⟩ = some v := by
  have key : ∀ i, w1.cell? ⟨w.heap.size, i, none⟩ = (w.alloc (.cells #[x, y, z, v] t)).cell? ⟨w.heap.size, i, none⟩ := fun i => hb.cell (p := ⟨w.heap.size, i, none⟩) (by simp)
  rw [key, key, key, key]
  refine ⟨?_, ?_, ?_, ?_⟩ <;> simp
attribute [local go_sem] pw_fold
set_option maxHeartbeats 400000 in
theorem most_any (a d t u : Int) (h1 : 1 ≤ t) (h2 : t ≤ 21) (w : World) : Calls Try.prog 87 #[prt a d t u] w (RetN (pw t - 1) w) := by
  have hp := pw_pos t
  have hq := pw_le h2 pw21
  have h3 : 0 ≤ t := by omega
  have h4 : t ≤ 64 := by omega
  go_enter Try.func87, Try.ntmps87
  go_wp2_with (fail)
  go_ret
  exact ⟨rfl, (Below.refl _ _).alloc (Nat.le_refl _) _⟩

def TwoRel (n : Int) (x i : Value) : Prop := ∃ k : Nat, (k : Int) ≤ n ∧ i = .int .i64 k ∧ x = .int .i64 (pw k)
set_option maxHeartbeats 400000 in
theorem two_any (n : Int) (h0 : 0 ≤ n) (h1 : n ≤ 60) (w : World) : Calls Try.prog 102 #[.int .i64 n] w (RetW (.int .i64 (pw n)) w) := by
  go_enter Try.func102, Try.ntmps102
  go_wp2_with (fail)
  go_loop [3, 4] (fun x i => TwoRel n x i) (fun _ i => (n - intOf i).toNat)
  case atStart => exact ⟨0, by omega, rfl, rfl⟩
  case round =>
    obtain ⟨k, hk, rfl, rfl⟩ := hrel
    by_cases hlt : (k : Int) < n
    · have hp := pw_pos k
      have hq := pw_le (n := k) (k := 60) (m := 1152921504606846976) (by omega) (by decide)
      have HS := Lib.hid (pw_succ k (by omega))
      go_wp2_with (fail)
      go_round
      case rel => exact ⟨k + 1, by omega, by go_num, by rw [show ((k + 1 : Nat) : Int) = (k : Int) + 1 from rfl, HS.out]⟩
      case measure => simp [intOf]; omega
    · have HE := Lib.hid (show pw k = pw n by rw [show (k : Int) = n from by omega])
      go_wp2_with (fail)
      go_ret
      exact ⟨ret_i HE.out, rfl⟩

set_option maxHeartbeats 1000000 in
theorem rbits_any (a d t u : Int) (w : World) : Calls Try.prog 101 #[prt a d t u] w (RetB (decide (Bits d t u)) w) := by
  have fin : ∀ b : Bool, decide (Bits d t u) = b → ∀ {e : Ending} {w' : World}, e = .returned (.bool b) → Below w.heap.size w w' → RetB (decide (Bits d t u)) w e w' := fun b h e w' h1 h2 => ⟨by rw [h]; exact h1, h2⟩
  have FIN := Lib.hid fin
  clear fin
  have neg : ¬ Bits d t u → decide (Bits d t u) = false := fun h => decide_eq_false h
  have pos : Bits d t u → decide (Bits d t u) = true := fun h => decide_eq_true h
  by_cases h1 : d < 0
  · have HE := Lib.hid (neg (by unfold Bits; omega)); clear pos neg
    go_enter Try.func101, Try.ntmps101
    go_wp2_with (fail)
    go_ret
    exact FIN.out _ HE.out rfl ((Below.refl _ _).alloc (Nat.le_refl _) _)
  by_cases h2 : 20 < d
  · have HE := Lib.hid (neg (by unfold Bits; omega)); clear pos neg
    go_enter Try.func101, Try.ntmps101
    go_wp2_with (fail)
    go_ret
    exact FIN.out _ HE.out rfl ((Below.refl _ _).alloc (Nat.le_refl _) _)
  by_cases h3 : t < 1
  · have HE := Lib.hid (neg (by unfold Bits; omega)); clear pos neg
    go_enter Try.func101, Try.ntmps101
    go_wp2_with (fail)
    go_ret
    exact FIN.out _ HE.out rfl ((Below.refl _ _).alloc (Nat.le_refl _) _)
  by_cases h4 : 21 < t
  · have HE := Lib.hid (neg (by unfold Bits; omega)); clear pos neg
    go_enter Try.func101, Try.ntmps101
    go_wp2_with (fail)
    go_ret
    exact FIN.out _ HE.out rfl ((Below.refl _ _).alloc (Nat.le_refl _) _)
  by_cases h5 : u < 0
  · have HE := Lib.hid (neg (by unfold Bits; omega)); clear pos neg
    go_enter Try.func101, Try.ntmps101
    go_wp2_with (fail)
    go_ret
    exact FIN.out _ HE.out rfl ((Below.refl _ _).alloc (Nat.le_refl _) _)
  by_cases h6 : 20 < u
  · have HE := Lib.hid (neg (by unfold Bits; omega)); clear pos neg
    go_enter Try.func101, Try.ntmps101
    go_wp2_with (fail)
    go_ret
    exact FIN.out _ HE.out rfl ((Below.refl _ _).alloc (Nat.le_refl _) _)
  by_cases h7 : u = 0
  · subst h7
    have HE := Lib.hid (pos (by unfold Bits; omega)); clear pos neg
    go_enter Try.func101, Try.ntmps101
    go_wp2_with (fail)
    go_ret
    exact FIN.out _ HE.out rfl ((Below.refl _ _).alloc (Nat.le_refl _) _)
  have h8 : (u == 0) = false := by simpa using h7
  by_cases h9 : t ≤ 6
  · have HE := Lib.hid (pos (by unfold Bits; omega)); clear pos neg h7
    have h9' : decide (t ≤ 6) = true := by simpa using h9
    go_enter Try.func101, Try.ntmps101
    go_wp2_with (fail)
    go_ret
    exact FIN.out _ HE.out rfl ((Below.refl _ _).alloc (Nat.le_refl _) _)
  · have HE := Lib.hid (neg (by unfold Bits; omega)); clear pos neg h7
    have h9' : decide (t ≤ 6) = false := by simpa using h9
    go_enter Try.func101, Try.ntmps101
    go_wp2_with (fail)
    go_ret
    exact FIN.out _ HE.out rfl ((Below.refl _ _).alloc (Nat.le_refl _) _)

set_option maxHeartbeats 1000000 in
theorem rright_any (a d t u n : Int) (w : World) : Calls Try.prog 83 #[prt a d t u, .int .i64 n] w (RetB (rightB a d t u n) w) := by
  have HB := Lib.hid (rbits_any a d t u)
  by_cases h0 : Bits d t u
  · rw [decide_eq_true h0] at HB
    by_cases h1 : 0 ≤ a
    · by_cases h2 : a < n
      · have HE := Lib.hid (show rightB a d t u n = true by unfold rightB; simp [h1, h2, h0])
        have h2' : decide (a < n) = true := by simpa using h2
        clear h0
        go_enter Try.func83, Try.ntmps83
        go_wp2_with (fail)
        refine (HB.out _).mono ?_
        rintro e w1 ⟨rfl, hb1⟩
        have q := boxed4 hb1
        go_wp2_with (fail)
        go_ret
        exact ⟨ret_bool HE.out.symm, ((Below.refl _ _).alloc (Nat.le_refl _) _).trans (hb1.mono (by simp))⟩
      · have HE := Lib.hid (show rightB a d t u n = false by unfold rightB; simp [h2])
        have h2' : decide (a < n) = false := by simpa using h2
        clear h0
        go_enter Try.func83, Try.ntmps83
        go_wp2_with (fail)
        refine (HB.out _).mono ?_
        rintro e w1 ⟨rfl, hb1⟩
        have q := boxed4 hb1
        go_wp2_with (fail)
        go_ret
        exact ⟨ret_bool HE.out.symm, ((Below.refl _ _).alloc (Nat.le_refl _) _).trans (hb1.mono (by simp))⟩
    · have HE := Lib.hid (show rightB a d t u n = false by unfold rightB; simp [h1])
      clear h0
      go_enter Try.func83, Try.ntmps83
      go_wp2_with (fail)
      refine (HB.out _).mono ?_
      rintro e w1 ⟨rfl, hb1⟩
      have q := boxed4 hb1
      go_wp2_with (fail)
      go_ret
      exact ⟨ret_bool HE.out.symm, ((Below.refl _ _).alloc (Nat.le_refl _) _).trans (hb1.mono (by simp))⟩
  · rw [decide_eq_false h0] at HB
    have HE := Lib.hid (show rightB a d t u n = false by unfold rightB; simp [h0])
    clear h0
    go_enter Try.func83, Try.ntmps83
    go_wp2_with (fail)
    refine (HB.out _).mono ?_
    rintro e w1 ⟨rfl, hb1⟩
    go_wp2_with (fail)
    go_ret
    exact ⟨ret_bool HE.out.symm, ((Below.refl _ _).alloc (Nat.le_refl _) _).trans (hb1.mono (by simp))⟩

/-- What part.Value answers. -/
def RetV (v : Int × Bool) (w : World) (e : Ending) (w' : World) : Prop := e = .returned (.tuple #[.int .i64 v.1, .bool v.2]) ∧ Below w.heap.size w w'
theorem ret_v {a : Int} {b : Bool} {v : Int × Bool} (h : v = (a, b)) : Ending.returned (.tuple #[.int .i64 a, .bool b]) = .returned (.tuple #[.int .i64 v.1, .bool v.2]) := by rw [h]
theorem value_none {d t u x : Int} (h : ¬ HasV d t u x) : valP d t u x = (0, false) := if_neg h
set_option maxHeartbeats 1000000 in
theorem value_any (a d t u x : Int) (w : World) (hx : x ≤ 9223372036854775807) : Calls Try.prog 52 #[prt a d t u, .int .i64 x] w (RetV (valP d t u x) w) := by
  have HB := Lib.hid (bits_any a d t u)
  by_cases h0 : Bits d t u
  · rw [decide_eq_true h0] at HB
    by_cases h1 : x < 0
    · have HE := Lib.hid (value_none (show ¬ HasV d t u x by unfold HasV; omega))
      clear h0
      go_enter Try.func52, Try.ntmps52
      go_wp2_with (fail)
      refine (HB.out _).mono ?_
      rintro e w1 ⟨rfl, hb1⟩
      go_wp2_with (fail)
      go_ret2
      exact ⟨ret_v HE.out, ((Below.refl _ _).alloc (Nat.le_refl _) _).trans (hb1.mono (by simp))⟩
    · by_cases h2 : 2097151 < x
      · have HE := Lib.hid (value_none (show ¬ HasV d t u x by unfold HasV; omega))
        clear h0
        go_enter Try.func52, Try.ntmps52
        go_wp2_with (fail)
        refine (HB.out _).mono ?_
        rintro e w1 ⟨rfl, hb1⟩
        go_wp2_with (fail)
        go_ret2
        exact ⟨ret_v HE.out, ((Below.refl _ _).alloc (Nat.le_refl _) _).trans (hb1.mono (by simp))⟩
      · have HE := Lib.hid (show valP d t u x = (valI d t u x, true) from if_pos ⟨h0, by omega, by omega⟩)
        have hv := valI_bound h0 x
        unfold valI at hv
        obtain ⟨b1, b2, b3, b4, b5, b6, b7⟩ := h0
        have lo := lo_bound (d := d) (x := x) (by omega)
        have HL := Lib.hid (bits_low (x / pw d) t lo.1 (by omega) (by omega))
        have HM := Lib.hid (most_any a d t u b3 b4)
        have hm := mod_lt (x / pw d) t
        have c1 : d ≤ 64 := by omega
        have c2 : u ≤ 64 := by omega
        clear b7
        go_enter Try.func52, Try.ntmps52
        go_wp2_with (fail)
        refine (HB.out _).mono ?_
        rintro e w1 ⟨rfl, hb1⟩
        have q := boxed4 hb1
        have hz : w.heap.size + 1 ≤ w1.heap.size := by have := hb1.size; simp at this; omega
        go_wp2_with (fail)
        go_region_held3 (fun w' => w'.cell? ⟨w.heap.size, 0, none⟩ = some (.int .i64 a) ∧ w'.cell? ⟨w.heap.size, 1, none⟩ = some (.int .i64 d) ∧ w'.cell? ⟨w.heap.size, 2, none⟩ = some (.int .i64 t) ∧ w'.cell? ⟨w.heap.size, 3, none⟩ = some (.int .i64 u))
          (first | go_keep | (go_split_ands; refine ⟨?_, ?_, ?_, ?_⟩; all_goals (rw [hb2.cell (by simp; omega)]; assumption)))
          (first | (go_at_call 87; refine (HM.out _).mono ?_; rintro e w2 ⟨rfl, hb2⟩))
        have HW : IntKind.i64.wrap (bits BinOp.and IntKind.i64 (x / pw d) (pw t - 1) * pw u) = valI d t u x := by
          rw [HL.out, IntWalk.i64_in _ (by omega)]; rfl
        rw [HW]
        have HB2 := Lib.hid (hb1.drew.trans (hb2.mono (by simp; omega)))
        clear HW hb2 hb1
        go_wp2_with (fail)
        go_ret2
        exact ⟨ret_v HE.out, ((Below.refl _ _).alloc (Nat.le_refl _) _).trans (HB2.out.mono (by simp))⟩
  · rw [decide_eq_false h0] at HB
    have HE := Lib.hid (value_none (show ¬ HasV d t u x from fun h => h0 h.1))
    clear h0
    go_enter Try.func52, Try.ntmps52
    go_wp2_with (fail)
    refine (HB.out _).mono ?_
    rintro e w1 ⟨rfl, hb1⟩
    go_wp2_with (fail)
    go_ret2
    exact ⟨ret_v HE.out, ((Below.refl _ _).alloc (Nat.le_refl _) _).trans (hb1.mono (by simp))⟩

theorem quiet_two {P : Program} {f : FuncId} {args : Array Value} {w : World} {n : Nat} {v : Value} (h : Calls P f args (w.drewN n) (RetW v (w.drewN n))) : Calls P f args (w.drewN n) fun e w'' => e = .returned v ∧ ∃ m, w'' = w.drewN m :=
  h.mono fun _ _ ⟨he, hm⟩ => ⟨he, n, hm.symm⟩
set_option maxHeartbeats 1000000 in
theorem rvalue_any (a d t u x : Int) (w : World) (hx : x ≤ 9223372036854775807) : Calls Try.prog 84 #[prt a d t u, .int .i64 x] w (RetV (valP d t u x) w) := by
  have HB := Lib.hid (rbits_any a d t u)
  by_cases h0 : Bits d t u
  · rw [decide_eq_true h0] at HB
    by_cases h1 : x < 0
    · have HE := Lib.hid (value_none (show ¬ HasV d t u x by unfold HasV; omega))
      clear h0
      go_enter Try.func84, Try.ntmps84
      go_wp2_with (fail)
      refine (HB.out _).mono ?_
      rintro e w1 ⟨rfl, hb1⟩
      go_wp2_with (fail)
      go_ret2
      exact ⟨ret_v HE.out, ((Below.refl _ _).alloc (Nat.le_refl _) _).trans (hb1.mono (by simp))⟩
    · by_cases h2 : 2097152 ≤ x
      · have HE := Lib.hid (value_none (show ¬ HasV d t u x by unfold HasV; omega))
        clear h0
        go_enter Try.func84, Try.ntmps84
        go_wp2_with (fail)
        refine (HB.out _).mono ?_
        rintro e w1 ⟨rfl, hb1⟩
        go_wp2_with (fail)
        go_ret2
        exact ⟨ret_v HE.out, ((Below.refl _ _).alloc (Nat.le_refl _) _).trans (hb1.mono (by simp))⟩
      · have HE := Lib.hid (show valP d t u x = (valI d t u x, true) from if_pos ⟨h0, by omega, by omega⟩)
        have hv := valI_bound h0 x
        unfold valI at hv
        obtain ⟨b1, b2, b3, b4, b5, b6, b7⟩ := h0
        have HW : IntKind.i64.wrap (x / pw d % pw t * pw u) = valI d t u x := by rw [IntWalk.i64_in _ (by omega)]; rfl
        have HWH := Lib.hid HW
        have lo := lo_bound (d := d) (x := x) (by omega)
        have hm := mod_lt (x / pw d) t
        have p1 := pw_pos d
        have p2 := pw_pos t
        have p3 := pw_pos u
        have e1 : (pw d == 0) = false := by simp; omega
        have e2 : (pw t == 0) = false := by simp; omega
        clear b7
        go_enter Try.func84, Try.ntmps84
        go_wp2_with (fail)
        refine (HB.out _).mono ?_
        rintro e w1 ⟨rfl, hb1⟩
        have q := boxed4 hb1
        go_wp2_with (fail)
        go_quiet ((go_at_call 102; exact quiet_two (two_any _ (by omega) (by omega) _)))
        go_wp2_with (fail)
        go_ret2
        exact ⟨ret_v HE.out, below_drewN (((Below.refl _ _).alloc (Nat.le_refl _) _).trans (hb1.mono (by simp))) _⟩
  · rw [decide_eq_false h0] at HB
    have HE := Lib.hid (value_none (show ¬ HasV d t u x from fun h => h0 h.1))
    clear h0
    go_enter Try.func84, Try.ntmps84
    go_wp2_with (fail)
    refine (HB.out _).mono ?_
    rintro e w1 ⟨rfl, hb1⟩
    go_wp2_with (fail)
    go_ret2
    exact ⟨ret_v HE.out, ((Below.refl _ _).alloc (Nat.le_refl _) _).trans (hb1.mono (by simp))⟩
end Go.Proofs.Ytplpafoflibnlaa.Pa
/- Words for terms: a slice value that reads as a list of parts (four cells each); a term, as a value; its box; parts held against each other. -/
namespace Go.Proofs.Ytplpafoflibnlaa.Te
set_option maxRecDepth 100000
open Go Go.RowKit Go.Proofs.Ytplpafoflibnlaa.Sp Go.Proofs.Ytplpafoflibnlaa.Pa

/-- A part: At, Drop, Take, Up. -/
abbrev PT := Int × Int × Int × Int
/-- The slice value with address A and length n reads as the parts l, and lies below block B. -/
def RP (w : World) (B : Nat) (A : Option Addr) (n : Nat) (l : List PT) : Prop :=
  l.length = n ∧ (0 < n → ∃ b off, A = some ⟨b, off, none⟩ ∧ b < B ∧ ∀ (j : Nat) (h : j < l.length), w.cell? ⟨b, off + j * 4, none⟩ = some (.int .i64 l[j].1) ∧ w.cell? ⟨b, off + j * 4 + 1, none⟩ = some (.int .i64 l[j].2.1) ∧ w.cell? ⟨b, off + j * 4 + 2, none⟩ = some (.int .i64 l[j].2.2.1) ∧ w.cell? ⟨b, off + j * 4 + 3, none⟩ = some (.int .i64 l[j].2.2.2))
section
variable {w w' : World} {B B' n : Nat} {A : Option Addr} {l : List PT}
theorem RP.nil_ (w : World) (B : Nat) (A : Option Addr) : RP w B A 0 [] := ⟨rfl, fun h => absurd h (by omega)⟩
theorem RP.at_ {k : Nat} (h : RP w B A n l) (hk : k < n) : ∃ b off, ∃ a d t u : Int, A = some ⟨b, off, none⟩ ∧ b < B ∧ (∃ hl : k < l.length, l[k] = (a, d, t, u)) ∧ w.cell? ⟨b, off + k * 4, none⟩ = some (.int .i64 a) ∧ w.cell? ⟨b, off + k * 4 + 1, none⟩ = some (.int .i64 d) ∧ w.cell? ⟨b, off + k * 4 + 2, none⟩ = some (.int .i64 t) ∧ w.cell? ⟨b, off + k * 4 + 3, none⟩ = some (.int .i64 u) := by
  obtain ⟨b, off, e, hb, hc⟩ := h.2 (by omega)
  have hl : k < l.length := by have := h.1; omega
  exact ⟨b, off, l[k].1, l[k].2.1, l[k].2.2.1, l[k].2.2.2, e, hb, ⟨hl, rfl⟩, hc k hl⟩
theorem RP.keep (h : RP w B A n l) (hk : ∀ p : Addr, p.block < B → w'.cell? p = w.cell? p) : RP w' B A n l :=
  ⟨h.1, fun hn => by
    obtain ⟨b, off, e, hb, hc⟩ := h.2 hn
    exact ⟨b, off, e, hb, fun j hj => ⟨(hk _ hb).trans (hc j hj).1, (hk _ hb).trans (hc j hj).2.1, (hk _ hb).trans (hc j hj).2.2.1, (hk _ hb).trans (hc j hj).2.2.2⟩⟩⟩
theorem RP.more (h : RP w B A n l) (hB : B ≤ B') : RP w B' A n l :=
  ⟨h.1, fun hn => by
    obtain ⟨b, off, e, hb, hc⟩ := h.2 hn
    exact ⟨b, off, e, by omega, hc⟩⟩
theorem RP.below (h : RP w B A n l) (hb : Below B w w') : RP w' B A n l := h.keep fun _ hp => hb.cell hp
theorem RP.belowM (h : RP w w.heap.size A n l) (hb : Below w.heap.size w w') : RP w' w'.heap.size A n l := (h.below hb).more hb.size
end

/-- A term, as a value. -/
abbrev trm (b d t u s : Int) (A : Option Addr) (n c : Nat) : Value := .agg #[.int .i64 b, .int .i64 d, .int .i64 t, .int .i64 u, .int .i64 s, .slice A n c]
abbrev tcells (b d t u s : Int) (A : Option Addr) (n c : Nat) : Array Value := #[.int .i64 b, .int .i64 d, .int .i64 t, .int .i64 u, .int .i64 s, .slice A n c]
/-- The cells of a boxed term, in a world. -/
def Boxed6 (W : World) (g : Nat) (b d t u s : Int) (A : Option Addr) (n c : Nat) : Prop :=
  W.cell? ⟨g, 0, none⟩ = some (.int .i64 b) ∧ W.cell? ⟨g, 1, none⟩ = some (.int .i64 d) ∧ W.cell? ⟨g, 2, none⟩ = some (.int .i64 t) ∧ W.cell? ⟨g, 3, none⟩ = some (.int .i64 u) ∧ W.cell? ⟨g, 4, none⟩ = some (.int .i64 s) ∧ W.cell? ⟨g, 5, none⟩ = some (.slice A n c)
theorem boxed6 {w w1 : World} {b d t u s : Int} {A : Option Addr} {n c : Nat} {ty : TypeId} (hb : Below (w.alloc (.cells (tcells b d t u s A n c) ty)).heap.size (w.alloc (.cells (tcells b d t u s A n c) ty)) w1) : Boxed6 w1 w.heap.size b d t u s A n c := by
  have key : ∀ i, w1.cell? ⟨w.heap.size, i, none⟩ = (w.alloc (.cells (tcells b d t u s A n c) ty)).cell? ⟨w.heap.size, i, none⟩ := fun i => hb.cell (p := ⟨w.heap.size, i, none⟩) (by simp)
  unfold Boxed6
  rw [key, key, key, key, key, key]
  refine ⟨?_, ?_, ?_, ?_, ?_, ?_⟩ <;> simp [tcells]

theorem part_guardType : Try.prog.eqGuardType Try.prog.depth 64 = false := by kernel_rfl
theorem part_guard (w : World) (op : BinOp) (x y : Operand) (xs ys : Array Value) : (eqGuard op 64 x y (.agg xs) (.agg ys)).run Try.prog w = .ok () w := run_eqGuard_agg w op _ x y xs ys part_guardType
theorem part_eq (w : World) (a b c e a' b' c' e' : Int) : (Op.equalIn 10000 64 (prt a b c e) (prt a' b' c' e')).run Try.prog w = .ok (a == a' && (b == b' && (c == c' && e == e'))) w := by
  have u3 := Try.underlying3
  have a3 := Try.isAgg3
  have z3 := Try.sizeOf3
  have hS : Try.prog.underlying 64 = some (.struct (Try.prog.fieldsOf 64)) := by kernel_rfl
  have hp : Try.prog.stoodInHeld 64 = false := by kernel_rfl
  rw [show (10000 : Nat) = 9999 + 1 from rfl, run_equalIn_agg w 9999 64 _ _ hS hp]
  simp only [Program.fieldsOf, Try.underlying64]
  go_simp
  by_cases h1 : a = a' <;> by_cases h2 : b = b' <;> by_cases h3 : c = c' <;> by_cases h4 : e = e' <;> simp [h1, h2, h3, h4]

/-- Two parts held against each other, behind a name: so a walk doesn't part its cases. -/
def pEq (a b c e a' b' c' e' : Int) : Bool := a == a' && (b == b' && (c == c' && e == e'))
theorem part_eqN (w : World) (a b c e a' b' c' e' : Int) : (Op.equalIn 10000 64 (prt a b c e) (prt a' b' c' e')).run Try.prog w = .ok (pEq a b c e a' b' c' e') w := part_eq w a b c e a' b' c' e'
def Sm (x : Int) : Prop := -1114111 ≤ x ∧ x ≤ 1114111
instance (x : Int) : Decidable (Sm x) := by unfold Sm; infer_instance
def takesAll (p : PT) : Bool := p.2.1 == 0 && (p.2.2.1 == 21 && p.2.2.2 == 0)
def plainT (b d t u : Int) : Bool := b == 0 && (d == 0 && (t == 21 && u == 0))
end Go.Proofs.Ytplpafoflibnlaa.Te
/- The walks of the small functions of terms, the program's and the document's: small, known, symbol, outer, plain, all. -/
namespace Go.Proofs.Ytplpafoflibnlaa.Te
set_option maxRecDepth 100000
open Go Go.RowKit Go.Proofs.Ytplpafoflibnlaa.Sp Go.Proofs.Ytplpafoflibnlaa.Pa

attribute [local go_sem] part_guard part_eq
theorem small_any (x : Int) (w : World) : Calls Try.prog 97 #[.int .i64 x] w (RetW (.bool (decide (Sm x))) w) := by
  by_cases h1 : -1114111 ≤ x
  · by_cases h2 : x ≤ 1114111
    · rw [decide_eq_true (show Sm x from ⟨h1, h2⟩)]
      go_enter Try.func97, Try.ntmps97
      go_wp2_with (fail)
      go_ret
      exact ⟨rfl, rfl⟩
    · rw [decide_eq_false (show ¬ Sm x from fun h => h2 h.2)]
      go_enter Try.func97, Try.ntmps97
      go_wp2_with (fail)
      go_ret
      exact ⟨rfl, rfl⟩
  · rw [decide_eq_false (show ¬ Sm x from fun h => h1 h.1)]
    go_enter Try.func97, Try.ntmps97
    go_wp2_with (fail)
    go_ret
    exact ⟨rfl, rfl⟩
theorem outer_any (b d t u s : Int) (A : Option Addr) (n c : Nat) (w : World) : Calls Try.prog 75 #[trm b d t u s A n c] w (RetP 0 d t u w) := by
  go_enter Try.func75, Try.ntmps75
  go_wp2_with (fail)
  exact bodyPost_ret (v := prt 0 d t u) (by simp [results, Try.results75, go_sem]) rfl ⟨rfl, (((Below.refl _ _).alloc (Nat.le_refl _) _).alloc (by simp) _)⟩
theorem router_any (b d t u s : Int) (A : Option Addr) (n c : Nat) (w : World) : Calls Try.prog 85 #[trm b d t u s A n c] w (RetP 0 d t u w) := by
  go_enter Try.func85, Try.ntmps85
  go_wp2_with (fail)
  exact bodyPost_ret (v := prt 0 d t u) (by simp [results, Try.results85, go_sem]) rfl ⟨rfl, (((Below.refl _ _).alloc (Nat.le_refl _) _).alloc (by simp) _)⟩
theorem known_any (x : Int) (w : World) : Calls Try.prog 71 #[.int .i64 x] w (RetW (.bool (decide (x = 1 ∨ x = 2))) w) := by
  by_cases h1 : x = 1
  · subst h1
    rw [decide_eq_true (by omega)]
    go_enter Try.func71, Try.ntmps71
    go_wp2_with (fail)
    go_ret
    exact ⟨rfl, rfl⟩
  · have h1' : (x == 1) = false := by simpa using h1
    by_cases h2 : x = 2
    · subst h2
      rw [decide_eq_true (by omega)]
      go_enter Try.func71, Try.ntmps71
      go_wp2_with (fail)
      go_ret
      exact ⟨rfl, rfl⟩
    · have h2' : (x == 2) = false := by simpa using h2
      rw [decide_eq_false (by omega)]
      go_enter Try.func71, Try.ntmps71
      go_wp2_with (fail)
      go_ret
      exact ⟨rfl, rfl⟩
theorem tplain_any (b d t u s : Int) (A : Option Addr) (n c : Nat) (w : World) : Calls Try.prog 68 #[trm b d t u s A n c] w (RetB (plainT b d t u) w) := by
  have HO := Lib.hid (outer_any b d t u s A n c)
  have HW := Lib.hid (whole_any 0)
  unfold plainT
  by_cases h1 : b = 0
  · subst h1
    go_enter Try.func68, Try.ntmps68
    go_wp2_with (fail)
    refine (HO.out _).mono ?_
    rintro e w1 ⟨rfl, hb1⟩
    go_wp2_with (fail)
    refine (HW.out _).mono ?_
    rintro e w2 ⟨rfl, hb2⟩
    go_wp2_with (fail)
    all_goals go_ret
    all_goals exact ⟨ret_bool (by simp_all), ((Below.refl _ _).alloc (Nat.le_refl _) _).trans ((hb1.trans (hb2.mono hb1.size)).mono (by simp))⟩
  · have h1' : (b == 0) = false := by simpa using h1
    go_enter Try.func68, Try.ntmps68
    go_wp2_with (fail)
    go_ret
    exact ⟨ret_bool (by simp [h1]), (Below.refl _ _).alloc (Nat.le_refl _) _⟩
/-- The loop over the parts: as far as k all are right. -/
def AllR (n : Int) (l : List PT) (k : Nat) : Prop := ∀ q ∈ l.take k, rightB q.1 q.2.1 q.2.2.1 q.2.2.2 n = true
theorem allR_next {n : Int} {l : List PT} {k : Nat} {a d t u : Int} (h : AllR n l k) (hk : ∃ hl : k < l.length, l[k] = (a, d, t, u)) (hr : rightB a d t u n = true) : AllR n l (k + 1) := by
  obtain ⟨hl, e⟩ := hk
  intro q hq
  rw [List.take_succ_eq_append_getElem hl, List.mem_append] at hq
  rcases hq with hq | hq
  · exact h q hq
  · rw [List.mem_singleton, e] at hq
    subst hq
    exact hr
def partsB (n : Int) (l : List PT) : Bool := l.all fun q => rightB q.1 q.2.1 q.2.2.1 q.2.2.2 n
theorem partsB_true {n : Int} {l : List PT} (h : AllR n l l.length) : partsB n l = true := by
  unfold partsB
  rw [List.all_eq_true]
  intro q hq
  exact h q (by rw [List.take_length]; exact hq)
theorem partsB_false {n : Int} {l : List PT} {k : Nat} {a d t u : Int} (hk : ∃ hl : k < l.length, l[k] = (a, d, t, u)) (hr : rightB a d t u n = false) : partsB n l = false := by
  obtain ⟨hl, e⟩ := hk
  unfold partsB
  rw [Bool.eq_false_iff]
  intro h
  have := (List.all_eq_true.1 h) l[k] (List.getElem_mem hl)
  rw [e] at this
  simp only at this
  rw [hr] at this
  cases this
def PRel (n : Int) (l : List PT) (B : Nat) (w2 : World) (i : Value) (wr : World) : Prop :=
  ∃ k : Nat, k ≤ l.length ∧ i = .int .i64 k ∧ AllR n l k ∧ Below B w2 wr
set_option maxHeartbeats 2000000 in
theorem tparts_any (b d t u s : Int) (A : Option Addr) (n c : Nat) (l : List PT) (m : Int) (w : World) (h : RP w w.heap.size A n l) (hn : n ≤ maxLen) :
    Calls Try.prog 51 #[trm b d t u s A n c, .int .i64 m] w (RetB (partsB m l) w) := by
  unfold maxLen at hn
  have hlen := h.1
  subst hlen
  have hbw : Below w.heap.size w (w.alloc (.cells (tcells b d t u s A l.length c) 24)) := (Below.refl _ w).alloc (Nat.le_refl _) _
  obtain ⟨w0, hw0⟩ : ∃ w0, w.alloc (.cells (tcells b d t u s A l.length c) 24) = w0 := ⟨_, rfl⟩
  have X6 := Lib.hid (fun W (hb : Below w0.heap.size w0 W) => show Boxed6 W w.heap.size b d t u s A l.length c from by rw [← hw0] at hb; exact boxed6 hb)
  rw [hw0] at hbw
  have HW := Lib.hid hbw
  have H := Lib.hid (h.belowM hbw)
  obtain ⟨r0, r1, r2, r3, r4, r5⟩ := X6.out w0 (Below.refl _ _)
  clear h hbw
  go_enter Try.func51, Try.ntmps51
  go_wp2_with (fail)
  go_loopw [10] (fun i wr => PRel m l w0.heap.size w0 i wr) (fun i _ => l.length - (intOf i).toNat)
  case atStart => exact ⟨0, Nat.zero_le _, rfl, fun q hq => by simp at hq, Below.refl _ _⟩
  case round =>
    obtain ⟨k, hk, rfl, hA, hb⟩ := hrel
    have HA := Lib.hid hA
    have HB := Lib.hid hb
    have hz := hb.size
    by_cases hlt : k < l.length
    · obtain ⟨bb, off, a', d', t', u', hA', hbB, hlk, c1, c2, c3, c4⟩ := (H.out.below hb).at_ hlt
      have HLK := Lib.hid hlk
      have HR := Lib.hid (right_any a' d' t' u' m)
      subst hA'
      clear hA hb hlk r0 r1 r2 r3 r4 r5
      rcases hr : rightB a' d' t' u' m with _ | _
      · rw [hr] at HR
        have HRR := Lib.hid hr
        clear hr
        go_wp2_with (fail)
        refine (HR.out _).mono ?_
        rintro e w2 ⟨rfl, hb2⟩
        go_wp2_with (fail)
        go_ret
        exact ⟨ret_bool (partsB_false HLK.out HRR.out).symm, HW.out.trans ((HB.out.trans (((Below.refl _ _).alloc (Nat.le_refl _) _ |>.trans (hb2.mono (by simp))).mono hz)).mono HW.out.size)⟩
      · rw [hr] at HR
        have HRR := Lib.hid hr
        clear hr
        go_wp2_with (fail)
        refine (HR.out _).mono ?_
        rintro e w2 ⟨rfl, hb2⟩
        go_wp2_with (fail)
        go_roundw
        case rel => exact ⟨k + 1, by omega, by go_num, allR_next HA.out HLK.out HRR.out, HB.out.trans (((Below.refl _ _).alloc (Nat.le_refl _) _ |>.trans (hb2.mono (by simp))).mono hz)⟩
        case measure => simp [intOf]; omega
    · have hkl : k = l.length := by omega
      subst hkl
      go_wp2_with (fail)
      go_ret
      exact ⟨ret_bool (partsB_true HA.out).symm, HW.out.trans (HB.out.mono HW.out.size)⟩
end Go.Proofs.Ytplpafoflibnlaa.Te
/- The walks of term.symbol, whole, Value. -/
namespace Go.Proofs.Ytplpafoflibnlaa.Te
set_option maxRecDepth 100000
open Go Go.RowKit Go.Proofs.Ytplpafoflibnlaa.Sp Go.Proofs.Ytplpafoflibnlaa.Pa

def Sy (x : Int) : Prop := 0 ≤ x ∧ x ≤ 1114111
instance (x : Int) : Decidable (Sy x) := by unfold Sy; infer_instance
theorem symbol_any (x : Int) (w : World) : Calls Try.prog 50 #[.int .i64 x] w (RetW (.bool (decide (Sy x))) w) := by
  by_cases h1 : 0 ≤ x
  · by_cases h2 : x ≤ 1114111
    · rw [decide_eq_true (show Sy x from ⟨h1, h2⟩)]
      go_enter Try.func50, Try.ntmps50
      go_wp2_with (fail)
      go_ret
      exact ⟨rfl, rfl⟩
    · rw [decide_eq_false (show ¬ Sy x from fun h => h2 h.2)]
      go_enter Try.func50, Try.ntmps50
      go_wp2_with (fail)
      go_ret
      exact ⟨rfl, rfl⟩
  · rw [decide_eq_false (show ¬ Sy x from fun h => h1 h.1)]
    go_enter Try.func50, Try.ntmps50
    go_wp2_with (fail)
    go_ret
    exact ⟨rfl, rfl⟩
/-- A term's value, where the inner one is x. Sums wrap round. -/
def wholeT (b d t u x : Int) : Int × Bool := if Sy x ∧ Bits d t u then (wrap64 (b + valI d t u x), true) else (0, false)
theorem twhole_any (b d t u s : Int) (A : Option Addr) (n c : Nat) (x : Int) (w : World) : Calls Try.prog 53 #[trm b d t u s A n c, .int .i64 x] w (RetV (wholeT b d t u x) w) := by
  have HS := Lib.hid (symbol_any x)
  have HO := Lib.hid (outer_any b d t u s A n c)
  by_cases h1 : Sy x
  case neg =>
    rw [decide_eq_false h1] at HS
    have HV := Lib.hid (show wholeT b d t u x = (0, false) from if_neg (fun h => h1 h.1))
    go_enter Try.func53, Try.ntmps53
    go_wp2_with (fail)
    refine (HS.out _).mono ?_
    rintro e w1 ⟨rfl, rfl⟩
    go_wp2_with (fail)
    go_ret2
    exact ⟨ret_v HV.out, (Below.refl _ _).alloc (Nat.le_refl _) _⟩
  rw [decide_eq_true h1] at HS
  have HX := Lib.hid (value_any 0 d t u x)
  by_cases h2 : Bits d t u
  case neg =>
    have hp : valP d t u x = (0, false) := if_neg (fun h => h2 h.1)
    rw [hp] at HX
    have HV := Lib.hid (show wholeT b d t u x = (0, false) from if_neg (fun h => h2 h.2))
    have hx : x ≤ 9223372036854775807 := by have := h1.2; omega
    clear hp
    go_enter Try.func53, Try.ntmps53
    go_wp2_with (fail)
    refine (HS.out _).mono ?_
    rintro e w1 ⟨rfl, rfl⟩
    go_wp2_with (fail)
    refine (HO.out _).mono ?_
    rintro e w2 ⟨rfl, hb2⟩
    go_wp2_with (fail)
    refine (HX.out _ hx).mono ?_
    rintro e w3 ⟨rfl, hb3⟩
    go_wp2_with (fail)
    go_ret2
    exact ⟨ret_v HV.out, ((Below.refl _ w).alloc (Nat.le_refl _) _).trans ((hb2.trans (hb3.mono hb2.size)).mono (by simp))⟩
  have hp : valP d t u x = (valI d t u x, true) := if_pos ⟨h2, h1.1, by have := h1.2; omega⟩
  rw [hp] at HX
  have HV := Lib.hid (show wholeT b d t u x = (wrap64 (b + valI d t u x), true) from if_pos ⟨h1, h2⟩)
  have hx : x ≤ 9223372036854775807 := by have := h1.2; omega
  generalize valI d t u x = v at *
  clear hp h1 h2
  go_enter Try.func53, Try.ntmps53
  go_wp2_with (fail)
  refine (HS.out _).mono ?_
  rintro e w1 ⟨rfl, rfl⟩
  go_wp2_with (fail)
  refine (HO.out _).mono ?_
  rintro e w2 ⟨rfl, hb2⟩
  go_wp2_with (fail)
  refine (HX.out _ hx).mono ?_
  rintro e w3 ⟨rfl, hb3⟩
  obtain ⟨r0, r1, r2, r3, r4, r5⟩ := boxed6 (hb2.trans (hb3.mono hb2.size))
  go_wp2_with (fail)
  go_ret2
  exact ⟨ret_v HV.out, ((Below.refl _ w).alloc (Nat.le_refl _) _).trans ((hb2.trans (hb3.mono hb2.size)).mono (by simp))⟩
/-- The slice value with address A and length n reads as the symbols xs, and lies below block B. -/
def RR (w : World) (B : Nat) (A : Option Addr) (n : Nat) (xs : List Int) : Prop :=
  xs.length = n ∧ (∀ x ∈ xs, -2147483648 ≤ x ∧ x ≤ 2147483647) ∧ (0 < n → ∃ b off, A = some ⟨b, off, none⟩ ∧ b < B ∧ ∀ (j : Nat) (h : j < xs.length), w.cell? ⟨b, off + j, none⟩ = some (.int .i32 xs[j]))
section
variable {w w' : World} {B B' n : Nat} {A : Option Addr} {l : List Int}
theorem RR.nil_ (w : World) (B : Nat) (A : Option Addr) : RR w B A 0 [] := ⟨rfl, fun x h => absurd h (List.not_mem_nil), fun h => absurd h (by omega)⟩
theorem RR.at_ {k : Nat} (h : RR w B A n l) (hk : k < n) : ∃ b off, ∃ x : Int, A = some ⟨b, off, none⟩ ∧ b < B ∧ (∃ hl : k < l.length, l[k] = x) ∧ w.cell? ⟨b, off + k, none⟩ = some (.int .i32 x) ∧ -2147483648 ≤ x ∧ x ≤ 2147483647 := by
  obtain ⟨b, off, e, hb, hc⟩ := h.2.2 (by omega)
  have hl : k < l.length := by have := h.1; omega
  exact ⟨b, off, l[k], e, hb, ⟨hl, rfl⟩, hc k hl, h.2.1 _ (List.getElem_mem hl)⟩
theorem RR.keep (h : RR w B A n l) (hk : ∀ p : Addr, p.block < B → w'.cell? p = w.cell? p) : RR w' B A n l :=
  ⟨h.1, h.2.1, fun hn => by
    obtain ⟨b, off, e, hb, hc⟩ := h.2.2 hn
    exact ⟨b, off, e, hb, fun j hj => (hk _ hb).trans (hc j hj)⟩⟩
theorem RR.more (h : RR w B A n l) (hB : B ≤ B') : RR w B' A n l :=
  ⟨h.1, h.2.1, fun hn => by
    obtain ⟨b, off, e, hb, hc⟩ := h.2.2 hn
    exact ⟨b, off, e, by omega, hc⟩⟩
theorem RR.below (h : RR w B A n l) (hb : Below B w w') : RR w' B A n l := h.keep fun _ hp => hb.cell hp
theorem RR.belowM (h : RR w w.heap.size A n l) (hb : Below w.heap.size w w') : RR w' w'.heap.size A n l := (h.below hb).more hb.size
end

def atI (xs : List Int) (a : Int) : Int := xs.getD a.toNat 0
theorem atI_get {xs : List Int} {a x : Int} {k : Nat} (ha : a = k) (h : ∃ hl : k < xs.length, xs[k] = x) : atI xs a = x := by
  obtain ⟨hl, e⟩ := h
  unfold atI
  rw [ha, Int.toNat_natCast]
  simp [hl, e]
/-- The inner value: the sum of the parts' values, that wraps round. -/
def innerT (xs : List Int) (s : Int) (l : List PT) : Int := l.foldl (fun acc q => wrap64 (acc + valI q.2.1 q.2.2.1 q.2.2.2 (atI xs q.1))) s
def AllS (xs : List Int) (k : Nat) : Prop := ∀ x ∈ xs.take k, Sy x
noncomputable def symB (xs : List Int) : Bool := @decide (∀ x ∈ xs, Sy x) (Classical.propDecidable _)
theorem symB_true {xs : List Int} (h : AllS xs xs.length) : symB xs = true := by
  unfold symB
  have : ∀ x ∈ xs, Sy x := fun x hx => h x (by rw [List.take_length]; exact hx)
  simpa using this
theorem symB_false {xs : List Int} {k : Nat} {x : Int} (hk : ∃ hl : k < xs.length, xs[k] = x) (hx : ¬ Sy x) : symB xs = false := by
  obtain ⟨hl, e⟩ := hk
  unfold symB
  have : ¬ ∀ x ∈ xs, Sy x := fun h => hx (e ▸ h _ (List.getElem_mem hl))
  simpa using this
theorem allS_next {xs : List Int} {k : Nat} {x : Int} (h : AllS xs k) (hk : ∃ hl : k < xs.length, xs[k] = x) (hx : Sy x) : AllS xs (k + 1) := by
  obtain ⟨hl, e⟩ := hk
  intro y hy
  rw [List.take_succ_eq_append_getElem hl, List.mem_append] at hy
  rcases hy with hy | hy
  · exact h y hy
  · rw [List.mem_singleton, e] at hy
    subst hy
    exact hx
noncomputable def valueT (b d t u s : Int) (l : List PT) (xs : List Int) : Int × Bool := if symB xs = true ∧ partsB xs.length l = true then wholeT b d t u (innerT xs s l) else (0, false)
def VRel1 (xs : List Int) (B : Nat) (w2 : World) (iv : Value) (wr : World) : Prop := ∃ k : Nat, k ≤ xs.length ∧ iv = .int .i64 k ∧ AllS xs k ∧ Below B w2 wr
def VRel2 (xs : List Int) (s : Int) (l : List PT) (B : Nat) (w2 : World) (sv iv : Value) (wr : World) : Prop := ∃ k : Nat, k ≤ l.length ∧ iv = .int .i64 k ∧ sv = .int .i64 (innerT xs s (l.take k)) ∧ Below B w2 wr
theorem inner_next {xs : List Int} {s : Int} {l : List PT} {k : Nat} {a d t u : Int} (hk : ∃ hl : k < l.length, l[k] = (a, d, t, u)) : innerT xs s (l.take (k + 1)) = wrap64 (innerT xs s (l.take k) + valI d t u (atI xs a)) := by
  obtain ⟨hl, e⟩ := hk
  unfold innerT
  rw [List.take_succ_eq_append_getElem hl, List.foldl_append, e]
  rfl
set_option maxHeartbeats 8000000 in
theorem tvalue_any (b d t u s : Int) (A B : Option Addr) (n c m e : Nat) (l : List PT) (xs : List Int) (w : World) (h : RP w w.heap.size A n l) (hn : n ≤ maxLen) (h' : RR w w.heap.size B m xs) (hm : m ≤ maxLen) :
    Calls Try.prog 21 #[trm b d t u s A n c, .slice B m e] w (RetV (valueT b d t u s l xs) w) := by
  have HP := Lib.hid (fun W (hW : RP W W.heap.size A n l) => tparts_any b d t u s A n c l m W hW hn)
  unfold maxLen at hn hm
  have hlen := h.1
  have hlen' := h'.1
  subst hlen hlen'
  have hbw : Below w.heap.size w (w.alloc (.cells (tcells b d t u s A l.length c) 24)) := (Below.refl _ w).alloc (Nat.le_refl _) _
  obtain ⟨w0, hw0⟩ : ∃ w0, w.alloc (.cells (tcells b d t u s A l.length c) 24) = w0 := ⟨_, rfl⟩
  have X6 := Lib.hid (fun W (hb : Below w0.heap.size w0 W) => show Boxed6 W w.heap.size b d t u s A l.length c from by rw [← hw0] at hb; exact boxed6 hb)
  rw [hw0] at hbw
  have HW := Lib.hid hbw
  have H := Lib.hid (h.belowM hbw)
  have H' := Lib.hid (h'.belowM hbw)
  clear h h' hbw
  go_enter Try.func21, Try.ntmps21
  go_wp2_with (fail)
  go_loopw [15] (fun i wr => VRel1 xs w0.heap.size w0 i wr) (fun i _ => xs.length - (intOf i).toNat)
  case atStart => exact ⟨0, Nat.zero_le _, rfl, fun q hq => by simp at hq, Below.refl _ _⟩
  case round =>
    obtain ⟨k, hk, rfl, hA, hb⟩ := hrel
    have HA := Lib.hid hA
    have HB := Lib.hid hb
    have hz := hb.size
    by_cases hlt : k < xs.length
    · obtain ⟨bb, off, x, hA', hbB, hlk, c1, x1, x2⟩ := (H'.out.below hb).at_ hlt
      have HLK := Lib.hid hlk
      have HS := Lib.hid (symbol_any x)
      subst hA'
      clear hA hb hlk
      by_cases hx : Sy x
      · rw [decide_eq_true hx] at HS
        have HX := Lib.hid hx
        clear hx
        go_wp2_with (fail)
        refine (HS.out _).mono ?_
        rintro e w2 ⟨rfl, rfl⟩
        go_wp2_with (fail)
        go_roundw
        case rel => exact ⟨k + 1, by omega, by go_num, allS_next HA.out HLK.out HX.out, HB.out⟩
        case measure => simp [intOf]; omega
      · rw [decide_eq_false hx] at HS
        have HV := Lib.hid (show valueT b d t u s l xs = (0, false) from if_neg (fun h => by rw [symB_false HLK.out hx] at h; exact absurd h.1 (by decide)))
        clear hx
        go_wp2_with (fail)
        refine (HS.out _).mono ?_
        rintro e w2 ⟨rfl, rfl⟩
        go_wp2_with (fail)
        go_ret2
        exact ⟨ret_v HV.out, HW.out.trans (HB.out.mono HW.out.size)⟩
    · have hkl : k = xs.length := by omega
      subst hkl
      have HS := Lib.hid (symB_true hA)
      obtain ⟨r0, r1, r2, r3, r4, r5⟩ := X6.out wr hb
      clear hA hb
      rcases hr : partsB xs.length l with _ | _
      · rw [hr] at HP
        have HV := Lib.hid (show valueT b d t u s l xs = (0, false) from if_neg (fun h => by rw [hr] at h; exact absurd h.2 (by decide)))
        clear hr
        go_wp2_with (fail)
        refine (HP.out _ (H.out.belowM HB.out)).mono ?_
        rintro e w2 ⟨rfl, hb2⟩
        go_wp2_with (fail)
        go_ret2
        exact ⟨ret_v HV.out, HW.out.trans ((HB.out.trans (hb2.mono hz)).mono HW.out.size)⟩
      · rw [hr] at HP
        have HV := Lib.hid (show valueT b d t u s l xs = wholeT b d t u (innerT xs s l) from if_pos ⟨HS.out, hr⟩)
        have HR := Lib.hid hr
        clear hr
        go_wp2_with (fail)
        refine (HP.out _ (H.out.belowM HB.out)).mono ?_
        rintro e w2 ⟨rfl, hb2⟩
        have hbx := HB.out.trans (hb2.mono hz)
        obtain ⟨q0, q1, q2, q3, q4, q5⟩ := X6.out w2 hbx
        have HBX := Lib.hid hbx
        clear hbx hb2 r0 r1 r2 r3 r4 r5
        go_wp2_with (fail)
        obtain ⟨w3, hw3⟩ : ∃ w3, w3 = w2 := ⟨_, rfl⟩
        subst hw3
        have hz3 := HBX.out.size
        go_loopw [8, 34] (fun sv iv wr => VRel2 xs s l w3.heap.size w3 sv iv wr) (fun _ i _ => l.length - (intOf i).toNat)
        case atStart => exact ⟨0, Nat.zero_le _, rfl, rfl, Below.refl _ _⟩
        case round =>
          obtain ⟨k, hk, rfl, rfl, hb⟩ := hrel
          have hbx := HBX.out.trans (hb.mono hz3)
          obtain ⟨r0, r1, r2, r3, r4, r5⟩ := X6.out wr hbx
          have HB2 := Lib.hid hbx
          have hz4 := hbx.size
          obtain ⟨acc, hacc⟩ : ∃ acc, innerT xs s (l.take k) = acc := ⟨_, rfl⟩
          rw [hacc]
          by_cases hlt : k < l.length
          · obtain ⟨bb, off, a', d', t', u', hA', hbB, hlk, c1, c2, c3, c4⟩ := (H.out.below hbx).at_ hlt
            have HLK := Lib.hid hlk
            have hrt : rightB a' d' t' u' xs.length = true := by
              have := List.all_eq_true.1 HR.out l[k] (List.getElem_mem hlt)
              obtain ⟨_, e1⟩ := hlk
              rw [e1] at this
              exact this
            unfold rightB at hrt
            obtain ⟨ra, rb, rc⟩ := of_decide_eq_true hrt
            obtain ⟨j, hj⟩ := Int.eq_ofNat_of_zero_le ra
            subst hj
            have hjl : j < xs.length := by omega
            obtain ⟨b2, off2, x, hB', hbB2, hxk, y1, x1, x2⟩ := (H'.out.below hbx).at_ hjl
            subst hA' hB'
            have hsy : Sy x := by
              obtain ⟨_, e1⟩ := hxk
              rw [← e1]
              have := HA.out
              rw [AllS, List.take_length] at this
              exact this _ (List.getElem_mem _)
            have HI := Lib.hid (show innerT xs s (l.take (k + 1)) = wrap64 (acc + valI d' t' u' x) from by rw [inner_next HLK.out, hacc, atI_get rfl hxk])
            have hx9 : x ≤ 9223372036854775807 := by omega
            have HX := Lib.hid (show ∀ W, Calls Try.prog 52 #[prt j d' t' u', .int .i64 (IntKind.i64.wrap x)] W (RetV (valP d' t' u' x) W) from fun W => by rw [IntWalk.i64_in x (by omega)]; exact value_any j d' t' u' x W hx9)
            have hp : valP d' t' u' x = (valI d' t' u' x, true) := if_pos ⟨rc, hsy.1, by have := hsy.2; omega⟩
            rw [hp] at HX
            have hvb := valI_bound rc x
            generalize valI d' t' u' x = v at *
            have HC := Lib.hid (show ∀ W, Below wr.heap.size wr W → W.cell? ⟨b2, off2 + j, none⟩ = some (.int .i32 x) from fun W hW => (hW.cell (by simp only; omega)).trans y1)
            have HBR := Lib.hid hb
            obtain ⟨w5, hw5⟩ : ∃ w5, wr.alloc (.cells #[.int .i64 j, .int .i64 d', .int .i64 t', .int .i64 u'] 64) = w5 := ⟨_, rfl⟩
            have h45 : Below wr.heap.size wr w5 := by rw [← hw5]; exact (Below.refl _ _).alloc (Nat.le_refl _) _
            have Q5 := Lib.hid (show ∀ W, Below w5.heap.size w5 W → W.cell? ⟨wr.heap.size, 0, none⟩ = some (.int .i64 j) ∧ W.cell? ⟨wr.heap.size, 1, none⟩ = some (.int .i64 d') ∧ W.cell? ⟨wr.heap.size, 2, none⟩ = some (.int .i64 t') ∧ W.cell? ⟨wr.heap.size, 3, none⟩ = some (.int .i64 u') ∧ W.cell? ⟨b2, off2 + j, none⟩ = some (.int .i32 x) from fun W hW => by
              have hc := HC.out W (h45.trans (hW.mono h45.size))
              rw [← hw5] at hW
              obtain ⟨z0, z1, z2, z3⟩ := boxed4 hW
              exact ⟨z0, z1, z2, z3, hc⟩)
            have H45 := Lib.hid h45
            obtain ⟨z0, z1, z2, z3, z4⟩ := Q5.out w5 (Below.refl _ _)
            clear hrt hp rc hxk hlk hacc hb hbx hsy q0 q1 q2 q3 q4 q5 h45 HC
            go_wp2_with (fail)
            go_region_held3 (fun w' => w'.cell? ⟨wr.heap.size, 0, none⟩ = some (.int .i64 j) ∧ w'.cell? ⟨wr.heap.size, 1, none⟩ = some (.int .i64 d') ∧ w'.cell? ⟨wr.heap.size, 2, none⟩ = some (.int .i64 t') ∧ w'.cell? ⟨wr.heap.size, 3, none⟩ = some (.int .i64 u') ∧ w'.cell? ⟨b2, off2 + j, none⟩ = some (.int .i32 x))
              (first | go_keep | exact Q5.out _ (Below.refl _ _).drew | exact Q5.out _ hB4)
              (first
                | (go_at_call 52; (with_reducible refine (HX.out _).mono ?_); rintro q4 w4 ⟨rfl, hb4⟩; have hB4 : Below w5.heap.size w5 w4 := (Below.refl _ w5).drew.trans (hb4.mono (by simp))))
            have HB4 := Lib.hid (HBR.out.trans ((H45.out.trans (hB4.mono H45.out.size)).mono HBR.out.size))
            clear hb4 hB4
            go_wp2_with (fail)
            go_roundw
            case rel => exact ⟨k + 1, by omega, by go_num, by rw [HI.out], HB4.out⟩
            case measure => simp [intOf]; omega
          · have hkl : k = l.length := by omega
            subst hkl
            have HI := Lib.hid (show innerT xs s l = acc from by rw [← hacc, List.take_length])
            have HT := Lib.hid (twhole_any b d t u s A l.length c acc)
            clear hacc hb hbx
            go_wp2_with (fail)
            refine (HT.out _).mono ?_
            rintro e w4 ⟨rfl, hb4⟩
            go_wp2_with (fail)
            go_ret2
            exact ⟨ret_v (by rw [HV.out, HI.out]), HW.out.trans ((HB2.out.trans (hb4.mono hz4)).mono HW.out.size)⟩
end Go.Proofs.Ytplpafoflibnlaa.Te
/- The walks of term.copies, numbersRight, Right, and of the document's Numbers, Right. -/
namespace Go.Proofs.Ytplpafoflibnlaa.Te
set_option maxRecDepth 100000
open Go Go.RowKit Go.Proofs.Ytplpafoflibnlaa.Sp Go.Proofs.Ytplpafoflibnlaa.Pa
attribute [local go_sem] part_guard part_eq

def copyB : List PT → Bool
  | [] => true
  | [p] => takesAll p
  | _ => false
/-- Each part's Up is above the one's ahead of it. -/
def RiseTo (l : List PT) (k : Nat) : Prop := ∀ i, (h : i + 1 < l.length) → i + 1 < k → l[i].2.2.2 < l[i + 1].2.2.2
noncomputable def riseB (l : List PT) : Bool := @decide (RiseTo l l.length) (Classical.propDecidable _)
theorem riseB_true {l : List PT} {k : Nat} (h : RiseTo l k) (hk : l.length ≤ k) : riseB l = true := by
  unfold riseB
  have : RiseTo l l.length := fun i h1 h2 => h i h1 (by omega)
  simpa using this
theorem riseB_false {l : List PT} {i : Nat} {a d t u a' d' t' u' : Int} (h0 : ∃ hl : i < l.length, l[i] = (a, d, t, u)) (h1 : ∃ hl : i + 1 < l.length, l[i + 1] = (a', d', t', u')) (hu : u' ≤ u) : riseB l = false := by
  obtain ⟨l0, e0⟩ := h0
  obtain ⟨l1, e1⟩ := h1
  unfold riseB
  have : ¬ RiseTo l l.length := fun h => by
    have := h i l1 l1
    rw [e0, e1] at this
    simp only at this
    omega
  simpa using this
theorem rise_next {l : List PT} {i : Nat} {a d t u a' d' t' u' : Int} (h : RiseTo l (i + 1)) (h0 : ∃ hl : i < l.length, l[i] = (a, d, t, u)) (h1 : ∃ hl : i + 1 < l.length, l[i + 1] = (a', d', t', u')) (hu : u < u') : RiseTo l (i + 2) := by
  obtain ⟨l0, e0⟩ := h0
  obtain ⟨l1, e1⟩ := h1
  intro j hj hk
  by_cases e : j = i
  · subst e
    rw [e0, e1]
    exact hu
  · exact h j hj (by omega)
noncomputable def numB (b d t u s : Int) (l : List PT) : Bool := decide (Sm b) && (decide (Sm s) && (decide (Bits d t u) && (decide (l.length ≤ 4) && riseB l)))
def NRel (l : List PT) (B : Nat) (w2 : World) (i : Value) (wr : World) : Prop :=
  ∃ k : Nat, (k + 1 ≤ l.length ∨ k = 0) ∧ i = .int .i64 ((k + 1 : Nat) : Int) ∧ RiseTo l (k + 1) ∧ Below B w2 wr
set_option maxHeartbeats 4000000 in
theorem tnum_any (b d t u s : Int) (A : Option Addr) (n c : Nat) (l : List PT) (w : World) (h : RP w w.heap.size A n l) (hn : n ≤ maxLen) :
    Calls Try.prog 72 #[trm b d t u s A n c] w (RetB (numB b d t u s l) w) := by
  unfold maxLen at hn
  have hlen := h.1
  subst hlen
  have hbw : Below w.heap.size w (w.alloc (.cells (tcells b d t u s A l.length c) 24)) := (Below.refl _ w).alloc (Nat.le_refl _) _
  obtain ⟨w0, hw0⟩ : ∃ w0, w.alloc (.cells (tcells b d t u s A l.length c) 24) = w0 := ⟨_, rfl⟩
  have X6 := Lib.hid (fun W (hb : Below w0.heap.size w0 W) => show Boxed6 W w.heap.size b d t u s A l.length c from by rw [← hw0] at hb; exact boxed6 hb)
  rw [hw0] at hbw
  have hz0 : w.heap.size < w0.heap.size := by rw [← hw0]; simp
  have HW := Lib.hid hbw
  have H := Lib.hid (h.belowM hbw)
  have HB0 := Lib.hid (Below.refl w0.heap.size w0)
  obtain ⟨r0, r1, r2, r3, r4, r5⟩ := X6.out w0 (Below.refl _ _)
  clear h hbw
  have HS := Lib.hid (small_any b)
  have HS2 := Lib.hid (small_any s)
  have HO := Lib.hid (outer_any b d t u s A l.length c)
  have HR := Lib.hid (right_any 0 d t u 1)
  by_cases h1 : Sm b
  case neg =>
    rw [decide_eq_false h1] at HS
    go_enter Try.func72, Try.ntmps72
    go_wp2_with (fail)
    refine (HS.out _).mono ?_
    rintro e w1 ⟨rfl, rfl⟩
    go_wp2_with (fail)
    go_ret
    exact ⟨ret_bool (by simp [numB, h1]), HW.out⟩
  rw [decide_eq_true h1] at HS
  by_cases h2 : Sm s
  case neg =>
    rw [decide_eq_false h2] at HS2
    go_enter Try.func72, Try.ntmps72
    go_wp2_with (fail)
    refine (HS.out _).mono ?_
    rintro e w1 ⟨rfl, rfl⟩
    go_wp2_with (fail)
    refine (HS2.out _).mono ?_
    rintro e w1 ⟨rfl, rfl⟩
    go_wp2_with (fail)
    go_ret
    exact ⟨ret_bool (by simp [numB, h2]), HW.out⟩
  rw [decide_eq_true h2] at HS2
  by_cases h3 : Bits d t u
  case neg =>
    rw [show rightB 0 d t u 1 = false from (by simp [rightB, h3])] at HR
    go_enter Try.func72, Try.ntmps72
    go_wp2_with (fail)
    refine (HS.out _).mono ?_
    rintro e w1 ⟨rfl, rfl⟩
    go_wp2_with (fail)
    refine (HS2.out _).mono ?_
    rintro e w1 ⟨rfl, rfl⟩
    go_wp2_with (fail)
    refine (HO.out _).mono ?_
    rintro e w1 ⟨rfl, hb1⟩
    go_wp2_with (fail)
    refine (HR.out _).mono ?_
    rintro e w2 ⟨rfl, hb2⟩
    go_wp2_with (fail)
    go_ret
    exact ⟨ret_bool (by simp [numB, h3]), HW.out.trans ((hb1.trans (hb2.mono hb1.size)).mono HW.out.size)⟩
  rw [show rightB 0 d t u 1 = true from (by simp [rightB, h3])] at HR
  by_cases h4 : l.length ≤ 4
  case neg =>
    go_enter Try.func72, Try.ntmps72
    go_wp2_with (fail)
    refine (HS.out _).mono ?_
    rintro e w1 ⟨rfl, rfl⟩
    go_wp2_with (fail)
    refine (HS2.out _).mono ?_
    rintro e w1 ⟨rfl, rfl⟩
    go_wp2_with (fail)
    refine (HO.out _).mono ?_
    rintro e w1 ⟨rfl, hb1⟩
    go_wp2_with (fail)
    refine (HR.out _).mono ?_
    rintro e w2 ⟨rfl, hb2⟩
    have hb := hb1.trans (hb2.mono hb1.size)
    obtain ⟨q0, q1, q2, q3, q4, q5⟩ := X6.out w2 hb
    have HBB := Lib.hid hb
    clear hb hb1 hb2 r0 r1 r2 r3 r4 r5
    go_wp2_with (fail)
    go_ret
    exact ⟨ret_bool (by simp [numB, h4]), HW.out.trans (HBB.out.mono HW.out.size)⟩
  have HN := Lib.hid (show numB b d t u s l = riseB l from by simp [numB, h1, h2, h3, h4])
  clear h1 h2 h3
  go_enter Try.func72, Try.ntmps72
  go_wp2_with (fail)
  refine (HS.out _).mono ?_
  rintro e w1 ⟨rfl, rfl⟩
  go_wp2_with (fail)
  refine (HS2.out _).mono ?_
  rintro e w1 ⟨rfl, rfl⟩
  go_wp2_with (fail)
  refine (HO.out _).mono ?_
  rintro e w1 ⟨rfl, hb1⟩
  go_wp2_with (fail)
  refine (HR.out _).mono ?_
  rintro e w2 ⟨rfl, hb2⟩
  have hb := hb1.trans (hb2.mono hb1.size)
  obtain ⟨q0, q1, q2, q3, q4, q5⟩ := X6.out w2 hb
  have HBB := Lib.hid hb
  clear hb hb1 hb2 r0 r1 r2 r3 r4 r5
  go_wp2_with (fail)
  go_loopw [3] (fun i wr => NRel l w0.heap.size w0 i wr) (fun i _ => l.length + 1 - (intOf i).toNat)
  case atStart => exact ⟨0, .inr rfl, rfl, fun i _ hi => by omega, HBB.out⟩
  case round =>
    obtain ⟨k, hk, rfl, hA, hb⟩ := hrel
    have HA := Lib.hid hA
    have HB := Lib.hid hb
    have hz := hb.size
    obtain ⟨r0, r1, r2, r3, r4, r5⟩ := X6.out wr hb
    by_cases hlt : k + 1 < l.length
    · obtain ⟨bb, off, a', d', t', u', hA', hbB, hlk, c1, c2, c3, c4⟩ := (H.out.below hb).at_ hlt
      obtain ⟨bb', off', a'', d'', t'', u'', hA'', hbB', hlk', c1', c2', c3', c4'⟩ := (H.out.below hb).at_ (k := k) (by omega)
      subst hA'
      injection hA'' with hA''
      injection hA'' with e1 e2 _
      subst e1 e2
      have HLK := Lib.hid hlk
      have HLK' := Lib.hid hlk'
      clear hA hb hlk hlk' q0 q1 q2 q3 q4 q5 hk
      by_cases a4 : u' ≤ u''
      · go_wp2_with (fail)
        go_quiet (fail)
        go_wp2_with (fail)
        go_ret
        exact ⟨ret_bool (HN.out.trans (riseB_false HLK'.out HLK.out a4)).symm, HW.out.trans ((below_drewN HB.out _).mono HW.out.size)⟩
      · go_wp2_with (fail)
        go_quiet (fail)
        go_wp2_with (fail)
        go_roundw
        case rel => exact ⟨k + 1, by omega, by go_num, rise_next HA.out HLK'.out HLK.out (by omega), below_drewN HB.out _⟩
        case measure => simp [intOf]; omega
    · have HT := Lib.hid (riseB_true hA (by omega))
      clear hA hb
      go_wp2_with (fail)
      go_ret
      exact ⟨ret_bool (HN.out.trans HT.out).symm, HW.out.trans (HB.out.mono HW.out.size)⟩
end Go.Proofs.Ytplpafoflibnlaa.Te
/- The walk of term.copies. -/
namespace Go.Proofs.Ytplpafoflibnlaa.Te
set_option maxRecDepth 100000
open Go Go.RowKit Go.Proofs.Ytplpafoflibnlaa.Sp Go.Proofs.Ytplpafoflibnlaa.Pa
attribute [local go_sem] part_guard part_eqN
set_option maxHeartbeats 2000000 in
theorem copies_any (b d t u s : Int) (A : Option Addr) (n c : Nat) (l : List PT) (w : World) (h : RP w w.heap.size A n l) (hn : n ≤ maxLen) :
    Calls Try.prog 73 #[trm b d t u s A n c] w (RetB (copyB l) w) := by
  by_cases n0 : n = 0
  · subst n0
    unfold maxLen at hn
    have hlen := h.1
    have hbw : Below w.heap.size w (w.alloc (.cells (tcells b d t u s A 0 c) 24)) := (Below.refl _ w).alloc (Nat.le_refl _) _
    obtain ⟨w0, hw0⟩ : ∃ w0, w.alloc (.cells (tcells b d t u s A 0 c) 24) = w0 := ⟨_, rfl⟩
    have X6 := Lib.hid (fun W (hb : Below w0.heap.size w0 W) => show Boxed6 W w.heap.size b d t u s A 0 c from by rw [← hw0] at hb; exact boxed6 hb)
    rw [hw0] at hbw
    have hz0 : w.heap.size < w0.heap.size := by rw [← hw0]; simp
    have HW := Lib.hid hbw
    have H := Lib.hid (h.belowM hbw)
    have HB0 := Lib.hid (Below.refl w0.heap.size w0)
    obtain ⟨r0, r1, r2, r3, r4, r5⟩ := X6.out w0 (Below.refl _ _)
    clear h hbw
    obtain rfl := List.eq_nil_of_length_eq_zero hlen
    go_enter Try.func73, Try.ntmps73
    go_wp2_with (fail)
    go_quiet (fail)
    go_wp2_with (fail)
    go_ret
    exact ⟨rfl, HW.out.trans ((below_drewN (Below.refl _ w0) _).mono HW.out.size)⟩
  by_cases n1 : n = 1
  · subst n1
    unfold maxLen at hn
    have hlen := h.1
    have hbw : Below w.heap.size w (w.alloc (.cells (tcells b d t u s A 1 c) 24)) := (Below.refl _ w).alloc (Nat.le_refl _) _
    obtain ⟨w0, hw0⟩ : ∃ w0, w.alloc (.cells (tcells b d t u s A 1 c) 24) = w0 := ⟨_, rfl⟩
    have X6 := Lib.hid (fun W (hb : Below w0.heap.size w0 W) => show Boxed6 W w.heap.size b d t u s A 1 c from by rw [← hw0] at hb; exact boxed6 hb)
    rw [hw0] at hbw
    have hz0 : w.heap.size < w0.heap.size := by rw [← hw0]; simp
    have HW := Lib.hid hbw
    have H := Lib.hid (h.belowM hbw)
    have HB0 := Lib.hid (Below.refl w0.heap.size w0)
    obtain ⟨r0, r1, r2, r3, r4, r5⟩ := X6.out w0 (Below.refl _ _)
    clear h hbw
    obtain ⟨bb, off, a', d', t', u', hA', hbB, hlk, c1, c2, c3, c4⟩ := H.out.at_ (k := 0) (by omega)
    subst hA'
    simp only [Nat.zero_mul, Nat.add_zero] at c1 c2 c3 c4
    have HC := Lib.hid (show copyB l = takesAll (a', d', t', u') from by
      obtain ⟨hl, e⟩ := hlk
      match l, hlen with
      | [p], _ => simp only [List.getElem_cons_zero] at e; subst e; rfl)
    have Q := Lib.hid (show ∀ W, Below w0.heap.size w0 W → W.cell? ⟨w.heap.size, 5, none⟩ = some (.slice (some ⟨bb, off, none⟩) 1 c) ∧ W.cell? ⟨bb, off, none⟩ = some (.int .i64 a') ∧ W.cell? ⟨bb, off + 1, none⟩ = some (.int .i64 d') ∧ W.cell? ⟨bb, off + 2, none⟩ = some (.int .i64 t') ∧ W.cell? ⟨bb, off + 3, none⟩ = some (.int .i64 u') from fun W hW => ⟨(X6.out W hW).2.2.2.2.2, (hW.cell hbB).trans c1, (hW.cell hbB).trans c2, (hW.cell hbB).trans c3, (hW.cell hbB).trans c4⟩)
    clear hlk
    by_cases z1 : d' = 0
    · by_cases z2 : t' = 21
      · by_cases z3 : u' = 0
        · subst z1 z2 z3
          go_enter Try.func73, Try.ntmps73
          go_wp2_with (fail)
          go_region_held3 (fun w' => w'.cell? ⟨w.heap.size, 5, none⟩ = some (.slice (some ⟨bb, off, none⟩) 1 c) ∧ w'.cell? ⟨bb, off, none⟩ = some (.int .i64 a') ∧ w'.cell? ⟨bb, off + 1, none⟩ = some (.int .i64 0) ∧ w'.cell? ⟨bb, off + 2, none⟩ = some (.int .i64 21) ∧ w'.cell? ⟨bb, off + 3, none⟩ = some (.int .i64 0))
            (first | exact Q.out _ (Below.refl _ _).drew | exact Q.out _ (Below.refl _ _) | exact Q.out _ hB2 | go_keep)
            (first
              | (go_at_call 67; (with_reducible refine (whole_any _ _).mono ?_); rintro q2 w2 ⟨rfl, hb2⟩; have hB2 : Below w0.heap.size w0 w2 := (Below.refl _ w0).drew.trans (hb2.mono (by simp))))
          go_wp2_with (fail)
          go_ret
          exact ⟨ret_bool (by rw [HC.out]; rfl), HW.out.trans (hB2.mono HW.out.size)⟩
        · have z3' : (u' == 0) = false := by simpa using z3
          subst z1 z2
          go_enter Try.func73, Try.ntmps73
          go_wp2_with (fail)
          go_region_held3 (fun w' => w'.cell? ⟨w.heap.size, 5, none⟩ = some (.slice (some ⟨bb, off, none⟩) 1 c) ∧ w'.cell? ⟨bb, off, none⟩ = some (.int .i64 a') ∧ w'.cell? ⟨bb, off + 1, none⟩ = some (.int .i64 0) ∧ w'.cell? ⟨bb, off + 2, none⟩ = some (.int .i64 21) ∧ w'.cell? ⟨bb, off + 3, none⟩ = some (.int .i64 u'))
            (first | exact Q.out _ (Below.refl _ _).drew | exact Q.out _ (Below.refl _ _) | exact Q.out _ hB2 | go_keep)
            (first
              | (go_at_call 67; (with_reducible refine (whole_any _ _).mono ?_); rintro q2 w2 ⟨rfl, hb2⟩; have hB2 : Below w0.heap.size w0 w2 := (Below.refl _ w0).drew.trans (hb2.mono (by simp))))
          go_wp2_with (fail)
          go_ret
          exact ⟨ret_bool (by rw [HC.out]; simp [takesAll, z3]), HW.out.trans (hB2.mono HW.out.size)⟩
      · have z2' : (t' == 21) = false := by simpa using z2
        subst z1
        go_enter Try.func73, Try.ntmps73
        go_wp2_with (fail)
        go_region_held3 (fun w' => w'.cell? ⟨w.heap.size, 5, none⟩ = some (.slice (some ⟨bb, off, none⟩) 1 c) ∧ w'.cell? ⟨bb, off, none⟩ = some (.int .i64 a') ∧ w'.cell? ⟨bb, off + 1, none⟩ = some (.int .i64 0) ∧ w'.cell? ⟨bb, off + 2, none⟩ = some (.int .i64 t') ∧ w'.cell? ⟨bb, off + 3, none⟩ = some (.int .i64 u'))
          (first | exact Q.out _ (Below.refl _ _).drew | exact Q.out _ (Below.refl _ _) | exact Q.out _ hB2 | go_keep)
          (first
            | (go_at_call 67; (with_reducible refine (whole_any _ _).mono ?_); rintro q2 w2 ⟨rfl, hb2⟩; have hB2 : Below w0.heap.size w0 w2 := (Below.refl _ w0).drew.trans (hb2.mono (by simp))))
        go_wp2_with (fail)
        go_ret
        exact ⟨ret_bool (by rw [HC.out]; simp [takesAll, z2]), HW.out.trans (hB2.mono HW.out.size)⟩
    · have z1' : (d' == 0) = false := by simpa using z1
      go_enter Try.func73, Try.ntmps73
      go_wp2_with (fail)
      go_region_held3 (fun w' => w'.cell? ⟨w.heap.size, 5, none⟩ = some (.slice (some ⟨bb, off, none⟩) 1 c) ∧ w'.cell? ⟨bb, off, none⟩ = some (.int .i64 a') ∧ w'.cell? ⟨bb, off + 1, none⟩ = some (.int .i64 d') ∧ w'.cell? ⟨bb, off + 2, none⟩ = some (.int .i64 t') ∧ w'.cell? ⟨bb, off + 3, none⟩ = some (.int .i64 u'))
        (first | exact Q.out _ (Below.refl _ _).drew | exact Q.out _ (Below.refl _ _) | exact Q.out _ hB2 | go_keep)
        (first
          | (go_at_call 67; (with_reducible refine (whole_any _ _).mono ?_); rintro q2 w2 ⟨rfl, hb2⟩; have hB2 : Below w0.heap.size w0 w2 := (Below.refl _ w0).drew.trans (hb2.mono (by simp))))
      go_wp2_with (fail)
      go_ret
      exact ⟨ret_bool (by rw [HC.out]; simp [takesAll, z1]), HW.out.trans (hB2.mono HW.out.size)⟩
  unfold maxLen at hn
  have hlen := h.1
  have hbw : Below w.heap.size w (w.alloc (.cells (tcells b d t u s A n c) 24)) := (Below.refl _ w).alloc (Nat.le_refl _) _
  obtain ⟨w0, hw0⟩ : ∃ w0, w.alloc (.cells (tcells b d t u s A n c) 24) = w0 := ⟨_, rfl⟩
  have X6 := Lib.hid (fun W (hb : Below w0.heap.size w0 W) => show Boxed6 W w.heap.size b d t u s A n c from by rw [← hw0] at hb; exact boxed6 hb)
  rw [hw0] at hbw
  have hz0 : w.heap.size < w0.heap.size := by rw [← hw0]; simp
  have HW := Lib.hid hbw
  have H := Lib.hid (h.belowM hbw)
  have HB0 := Lib.hid (Below.refl w0.heap.size w0)
  obtain ⟨r0, r1, r2, r3, r4, r5⟩ := X6.out w0 (Below.refl _ _)
  clear h hbw
  have hd0 : ((n : Int) == 0) = false := by simp; omega
  have hd1 : ((n : Int) == 1) = false := by simp; omega
  have HC := Lib.hid (show copyB l = false from by
    match l, hlen with
    | [], e => exact absurd e.symm n0
    | [_], e => exact absurd e.symm n1
    | _ :: _ :: _, _ => rfl)
  go_enter Try.func73, Try.ntmps73
  go_wp2_with (fail)
  go_quiet (fail)
  go_wp2_with (fail)
  go_ret
  exact ⟨ret_bool HC.out.symm, HW.out.trans ((below_drewN (Below.refl _ w0) _).mono HW.out.size)⟩
end Go.Proofs.Ytplpafoflibnlaa.Te
/- The walks of term.Const, term.Copy, the document's Same (of two terms that are the same), the law's great. -/
namespace Go.Proofs.Ytplpafoflibnlaa.Te
set_option maxRecDepth 100000
open Go Go.RowKit Go.Proofs.Ytplpafoflibnlaa.Sp Go.Proofs.Ytplpafoflibnlaa.Pa

/-- A term is returned, whose parts are l. -/
def RetT (b d t u s : Int) (l : List PT) (w : World) (e : Ending) (w' : World) : Prop :=
  ∃ A c, e = .returned (trm b d t u s A l.length c) ∧ RP w' w'.heap.size A l.length l ∧ l.length ≤ c ∧ Below w.heap.size w w'

def RetN0 (b d t u s : Int) (w : World) (e : Ending) (w' : World) : Prop := e = .returned (trm b d t u s none 0 0) ∧ Below w.heap.size w w'
theorem const_nil (x : Int) (h1 : -2147483648 ≤ x) (h2 : x ≤ 2147483647) (w : World) : Calls Try.prog 40 #[.int .i32 x] w (RetN0 0 0 21 0 x w) := by
  go_enter Try.func40, Try.ntmps40
  go_wp2_with (fail)
  exact bodyPost_ret (v := trm 0 0 21 0 x none 0 0) (by simp [results, Try.results40, go_sem]) rfl ⟨rfl, (Below.refl _ _).alloc (Nat.le_refl _) _⟩

theorem copy_any (a x : Int) (w : World) : Calls Try.prog 39 #[.int .i64 a, .int .i64 x] w (RetT 0 0 21 0 x [(a, 0, 21, 0)] w) := by
  have HW := Lib.hid (whole_any a)
  go_enter Try.func39, Try.ntmps39
  go_wp2_with (fail)
  refine (HW.out _).mono ?_
  rintro e w1 ⟨rfl, hb1⟩
  obtain ⟨r0, r1, r2, r3, r4, r5⟩ := boxed6 hb1
  have hlt : w.heap.size < w1.heap.size := by have := hb1.size; simp at this; omega
  have fz : ∀ i, i < 6 → w1.frozen? ⟨w.heap.size, i, none⟩ = false := fun i hi => by
    rw [hb1.frozen (p := ⟨w.heap.size, i, none⟩) (by simp)]
    simp
  have f0 := fz 0 (by omega)
  have f1 := fz 1 (by omega)
  have f2 := fz 2 (by omega)
  have f3 := fz 3 (by omega)
  have f4 := fz 4 (by omega)
  have f5 := fz 5 (by omega)
  have HB := Lib.hid (((Below.refl _ w).alloc (Nat.le_refl _) _).trans (hb1.mono (by simp)))
  clear fz hb1
  go_wp2_with (fail)
  refine bodyPost_ret (v := trm 0 0 21 0 x (some ⟨w1.heap.size, 0, none⟩) 1 1) (by simp [results, Try.results39, go_sem, r0, r1, r2, r3, r4, r5, hlt]) rfl ⟨some ⟨w1.heap.size, 0, none⟩, 1, rfl, ?_, Nat.le_refl _, ?_⟩
  · refine ⟨rfl, fun _ => ⟨w1.heap.size, 0, rfl, by simp, fun j hj => ?_⟩⟩
    obtain rfl : j = 0 := by simp at hj; omega
    refine ⟨?_, ?_, ?_, ?_⟩ <;> (rw [World.cell?_alloc_at (hn := by simp)]; simp)
  · exact ((((((HB.out.setCell (Nat.le_refl _) _).setCell (Nat.le_refl _) _).setCell (Nat.le_refl _) _).setCell (Nat.le_refl _) _).setCell (Nat.le_refl _) _).setCell (Nat.le_refl _) _).alloc (by simp; omega) _

attribute [local go_sem] part_guard part_eqN
end Go.Proofs.Ytplpafoflibnlaa.Te
/- The walks of term.add, and of term.Put at the law's example. -/
namespace Go.Proofs.Ytplpafoflibnlaa.Te
set_option maxRecDepth 100000
open Go Go.RowKit Go.Proofs.Ytplpafoflibnlaa.Sp Go.Proofs.Ytplpafoflibnlaa.Pa

def addT (a b : Int) : Int × Bool := if Sm a ∧ Sm b ∧ Sm (a + b) then (a + b, true) else (0, false)
theorem tadd_any (a b : Int) (w : World) : Calls Try.prog 69 #[.int .i64 a, .int .i64 b] w (RetW (.tuple #[.int .i64 (addT a b).1, .bool (addT a b).2]) w) := by
  have HA := Lib.hid (small_any a)
  have HB := Lib.hid (small_any b)
  by_cases h1 : Sm a
  case neg =>
    rw [decide_eq_false h1] at HA
    have HE := Lib.hid (show addT a b = (0, false) from if_neg (fun h => h1 h.1))
    go_enter Try.func69, Try.ntmps69
    go_wp2_with (fail)
    refine (HA.out _).mono ?_
    rintro e w1 ⟨rfl, rfl⟩
    go_wp2_with (fail)
    go_ret2
    exact ⟨ret_v HE.out, rfl⟩
  rw [decide_eq_true h1] at HA
  by_cases h2 : Sm b
  case neg =>
    rw [decide_eq_false h2] at HB
    have HE := Lib.hid (show addT a b = (0, false) from if_neg (fun h => h2 h.2.1))
    go_enter Try.func69, Try.ntmps69
    go_wp2_with (fail)
    refine (HA.out _).mono ?_
    rintro e w1 ⟨rfl, rfl⟩
    go_wp2_with (fail)
    refine (HB.out _).mono ?_
    rintro e w1 ⟨rfl, rfl⟩
    go_wp2_with (fail)
    go_ret2
    exact ⟨ret_v HE.out, rfl⟩
  rw [decide_eq_true h2] at HB
  have HC := Lib.hid (small_any (a + b))
  unfold Sm at h1 h2
  obtain ⟨a1, a2⟩ := h1
  obtain ⟨b1, b2⟩ := h2
  by_cases h3 : Sm (a + b)
  case neg =>
    rw [decide_eq_false h3] at HC
    have HE := Lib.hid (show addT a b = (0, false) from if_neg (fun h => h3 h.2.2))
    clear h3
    go_enter Try.func69, Try.ntmps69
    go_wp2_with (fail)
    refine (HA.out _).mono ?_
    rintro e w1 ⟨rfl, rfl⟩
    go_wp2_with (fail)
    refine (HB.out _).mono ?_
    rintro e w1 ⟨rfl, rfl⟩
    go_wp2_with (fail)
    refine (HC.out _).mono ?_
    rintro e w1 ⟨rfl, rfl⟩
    go_wp2_with (fail)
    go_ret2
    exact ⟨ret_v HE.out, rfl⟩
  rw [decide_eq_true h3] at HC
  have HE := Lib.hid (show addT a b = (a + b, true) from if_pos ⟨⟨a1, a2⟩, ⟨b1, b2⟩, h3⟩)
  clear h3
  go_enter Try.func69, Try.ntmps69
  go_wp2_with (fail)
  refine (HA.out _).mono ?_
  rintro e w1 ⟨rfl, rfl⟩
  go_wp2_with (fail)
  refine (HB.out _).mono ?_
  rintro e w1 ⟨rfl, rfl⟩
  go_wp2_with (fail)
  refine (HC.out _).mono ?_
  rintro e w1 ⟨rfl, rfl⟩
  go_wp2_with (fail)
  go_ret2
  exact ⟨ret_v HE.out, rfl⟩
theorem part_nil : ∀ (w : World) (a : Option Addr) (n c n' c' : Nat), (binOp .eql 22 (.slice a n c) (.slice none n' c')).run Try.prog w = .ok (.bool a.isNone) w := fun w a n c n' c' => Lib.run_eql_slice_nil w _ _ a n c n' c' Try.underlying22
theorem clone_nil (w : World) : Calls Try.prog 70 #[.slice none 0 0] w (RetW (.slice none 0 0) w) := by
  have q := part_nil
  go_enter Try.func70, Try.ntmps70
  go_wp2_with (fail)
  go_ret
  exact ⟨rfl, rfl⟩
def RetTB (b d t u s : Int) (ok : Bool) (w : World) (e : Ending) (w' : World) : Prop := e = .returned (.tuple #[trm b d t u s none 0 0, .bool ok]) ∧ Below w.heap.size w w'
attribute [local go_sem] part_guard part_eqN
set_option maxHeartbeats 4000000 in
theorem put_ex (A : Option Addr) (c : Nat) (w : World) (h : RP w w.heap.size A 1 [(0, 0, 21, 0)]) :
    Calls Try.prog 38 #[trm 0 0 21 0 1 A 1 c, trm 0 0 21 0 97 none 0 0] w (RetTB 0 0 21 0 98 true w) := by
  obtain ⟨bb, off, a', d', t', u', hA', hbB, ⟨_, hlk⟩, c1, c2, c3, c4⟩ := h.at_ (k := 0) (by omega)
  simp only [List.getElem_cons_zero, Prod.mk.injEq] at hlk
  obtain ⟨rfl, rfl, rfl, rfl⟩ := hlk
  subst hA'
  simp only [Nat.zero_mul, Nat.add_zero] at c1 c2 c3 c4
  obtain ⟨w0, hw0⟩ : ∃ w0, ((w.alloc (.cells (tcells 0 0 21 0 1 (some ⟨bb, off, none⟩) 1 c) 24)).alloc (.cells (tcells 0 0 21 0 97 none 0 0) 24)).alloc (.cells (tcells 0 0 0 0 0 none 0 0) 24) = w0 := ⟨_, rfl⟩
  have hs0 : w0.heap.size = w.heap.size + 1 + 1 + 1 := by rw [← hw0]; simp
  have hb0 : Below w.heap.size w w0 := by rw [← hw0]; exact (((Below.refl _ _).alloc (Nat.le_refl _) _).alloc (by simp) _).alloc (by simp only [World.size_alloc]; omega) _
  have XU := Lib.hid (fun W (hb : Below w0.heap.size w0 W) => show Boxed6 W w.heap.size 0 0 21 0 1 (some ⟨bb, off, none⟩) 1 c from by
    rw [← hw0] at hb
    exact boxed6 (((((Below.refl _ _).alloc (Nat.le_refl _) _).alloc (by simp) _).trans (hb.mono (by simp)))))
  have XT := Lib.hid (fun W (hb : Below w0.heap.size w0 W) => show Boxed6 W (w.heap.size + 1) 0 0 21 0 97 none 0 0 from by
    rw [← hw0] at hb
    have := boxed6 (w := w.alloc (.cells (tcells 0 0 21 0 1 (some ⟨bb, off, none⟩) 1 c) 24)) (((Below.refl _ _).alloc (Nat.le_refl _) _).trans (hb.mono (by simp)))
    simpa using this)
  have XR := Lib.hid (fun W (hb : Below w0.heap.size w0 W) => show Boxed6 W (w.heap.size + 1 + 1) 0 0 0 0 0 none 0 0 from by
    rw [← hw0] at hb
    have := boxed6 (w := (w.alloc (.cells (tcells 0 0 21 0 1 (some ⟨bb, off, none⟩) 1 c) 24)).alloc (.cells (tcells 0 0 21 0 97 none 0 0) 24)) hb
    simpa using this)
  have HC := Lib.hid (show ∀ W, Below w0.heap.size w0 W → W.cell? ⟨w.heap.size, 5, none⟩ = some (.slice (some ⟨bb, off, none⟩) 1 c) ∧ W.cell? ⟨bb, off, none⟩ = some (.int .i64 0) ∧ W.cell? ⟨bb, off + 1, none⟩ = some (.int .i64 0) ∧ W.cell? ⟨bb, off + 2, none⟩ = some (.int .i64 21) ∧ W.cell? ⟨bb, off + 3, none⟩ = some (.int .i64 0) from fun W hW => by
    have hw := hb0.trans (hW.mono hb0.size)
    exact ⟨(XU.out W hW).2.2.2.2.2, (hw.cell hbB).trans c1, (hw.cell hbB).trans c2, (hw.cell hbB).trans c3, (hw.cell hbB).trans c4⟩)
  have HFZ := Lib.hid (show ∀ W, Below w0.heap.size w0 W → ∀ i, i < 6 → W.frozen? ⟨w.heap.size + 1 + 1, i, none⟩ = false from fun W hW i hi => by
    rw [hW.frozen (by simp only; omega), ← hw0]
    have q : ∀ (w' : World) (cs : Array Value), (w'.alloc (.cells cs 24)).frozen? ⟨w'.heap.size, i, none⟩ = false := fun w' cs => by simp
    have q1 := q ((w.alloc (.cells (tcells 0 0 21 0 1 (some ⟨bb, off, none⟩) 1 c) 24)).alloc (.cells (tcells 0 0 21 0 97 none 0 0) 24)) (tcells 0 0 0 0 0 none 0 0)
    rw [World.size_alloc, World.size_alloc] at q1
    exact q1)
  have HB0 := Lib.hid hb0
  have HL := Lib.hid (fun W => tplain_any 0 0 21 0 97 none 0 0 W)
  have HA := Lib.hid (fun W => tadd_any 1 97 W)
  rw [show plainT 0 0 21 0 = true from rfl] at HL
  rw [show addT 1 97 = (98, true) from rfl] at HA
  have HN := Lib.hid clone_nil
  obtain ⟨p0, p1, p2, p3, p4⟩ := HC.out w0 (Below.refl _ _)
  clear c1 c2 c3 c4 hb0 h
  go_enter Try.func38, Try.ntmps38
  go_wp2_with (fail)
  go_region_held3 (fun w' => w'.cell? ⟨w.heap.size, 5, none⟩ = some (.slice (some ⟨bb, off, none⟩) 1 c) ∧ w'.cell? ⟨bb, off, none⟩ = some (.int .i64 0) ∧ w'.cell? ⟨bb, off + 1, none⟩ = some (.int .i64 0) ∧ w'.cell? ⟨bb, off + 2, none⟩ = some (.int .i64 21) ∧ w'.cell? ⟨bb, off + 3, none⟩ = some (.int .i64 0))
    (first | go_keep | exact HC.out _ (Below.refl _ _).drew | exact HC.out _ hB2)
    (first
      | (go_at_call 67; (with_reducible refine (whole_any _ _).mono ?_); rintro q2 w2 ⟨rfl, hb2⟩; have hB2 : Below w0.heap.size w0 w2 := (Below.refl _ w0).drew.trans (hb2.mono (by simp))))
  have HB2 := Lib.hid hB2
  clear hB2 hb2 p0 p1 p2 p3 p4
  have hz2 := HB2.out.size
  obtain ⟨w3, hw3⟩ : ∃ w3, w2.alloc (.cells (tcells 0 0 0 0 0 none 0 0) 24) = w3 := ⟨_, rfl⟩
  have h23 : Below w2.heap.size w2 w3 := by rw [← hw3]; exact (Below.refl _ _).alloc (Nat.le_refl _) _
  have h03 := HB2.out.trans (h23.mono hz2)
  obtain ⟨t0, t1, t2, t3, t4, t5⟩ := XT.out _ h03
  go_wp2_with (fail)
  refine (HL.out _).mono ?_
  rintro e w4 ⟨rfl, hb4⟩
  have XG : Boxed6 w4 w2.heap.size 0 0 0 0 0 none 0 0 := by rw [← hw3] at hb4; exact boxed6 hb4
  obtain ⟨g0, g1, g2, g3, g4, g5⟩ := XG
  have h34 := h03.trans (hb4.mono h03.size)
  obtain ⟨u0, u1, u2, u3, u4, u5⟩ := XU.out _ h34
  obtain ⟨s0, s1, s2, s3, s4, s5⟩ := XT.out _ h34
  obtain ⟨r0, r1, r2, r3, r4, r5⟩ := XR.out _ h34
  have fz : ∀ i, i < 6 → w4.frozen? ⟨w2.heap.size, i, none⟩ = false := fun i hi => by
    rw [← hw3] at hb4
    rw [hb4.frozen (p := ⟨w2.heap.size, i, none⟩) (by simp)]
    simp
  have f0 := fz 0 (by omega)
  have f1 := fz 1 (by omega)
  have f2 := fz 2 (by omega)
  have f3 := fz 3 (by omega)
  have f4 := fz 4 (by omega)
  have f5 := fz 5 (by omega)
  have k0 := HFZ.out _ h34 0 (by omega)
  have k1 := HFZ.out _ h34 1 (by omega)
  have k2 := HFZ.out _ h34 2 (by omega)
  have k3 := HFZ.out _ h34 3 (by omega)
  have k4 := HFZ.out _ h34 4 (by omega)
  have k5 := HFZ.out _ h34 5 (by omega)
  have hlt : w.heap.size + 1 + 1 < w2.heap.size := by omega
  have hlt2 : w2.heap.size < w4.heap.size := by have := hb4.size; rw [← hw3] at this; simp at this; omega
  have ne1 : ¬ (w.heap.size = w2.heap.size) := by omega
  have ne2 : ¬ (w.heap.size + 1 = w2.heap.size) := by omega
  have ne3 : ¬ (w.heap.size + 1 + 1 = w2.heap.size) := by omega
  have H34 := Lib.hid h34
  clear fz h34 h03 h23 hb4 t0 t1 t2 t3 t4 t5
  go_wp2_with (fail)
  obtain ⟨w5, hw5⟩ : ∃ w5, ((((((w4.setCell ⟨w2.heap.size, 0, none⟩ (.int .i64 0)).setCell ⟨w2.heap.size, 1, none⟩ (.int .i64 0)).setCell ⟨w2.heap.size, 2, none⟩ (.int .i64 21)).setCell ⟨w2.heap.size, 3, none⟩ (.int .i64 0)).setCell ⟨w2.heap.size, 4, none⟩ (.int .i64 1)).setCell ⟨w2.heap.size, 5, none⟩ (.slice (some ⟨bb, off, none⟩) 1 c)) = w5 := ⟨_, rfl⟩
  rw [hw5]
  have hB5 : Below w0.heap.size w4 w5 := by
    rw [← hw5]
    exact (((((((Below.refl _ _).setCell (by simp only; omega) _).setCell (by simp only; omega) _).setCell (by simp only; omega) _).setCell (by simp only; omega) _).setCell (by simp only; omega) _).setCell (by simp only; omega) _)
  have G5 : Boxed6 w5 w2.heap.size 0 0 21 0 1 (some ⟨bb, off, none⟩) 1 c := by
    rw [← hw5]
    refine ⟨?_, ?_, ?_, ?_, ?_, ?_⟩ <;> simp [go_sem, g0, g1, g2, g3, g4, g5]
  have F5 : ∀ i, i < 6 → w5.frozen? ⟨w2.heap.size, i, none⟩ = false := fun i hi => by
    rw [← hw5]
    have : w4.frozen? ⟨w2.heap.size, i, none⟩ = false := by
      rcases (show i = 0 ∨ i = 1 ∨ i = 2 ∨ i = 3 ∨ i = 4 ∨ i = 5 from by omega) with rfl | rfl | rfl | rfl | rfl | rfl <;> assumption
    simpa using this
  have h05 := H34.out.trans hB5
  clear g0 g1 g2 g3 g4 g5 u0 u1 u2 u3 u4 u5 s0 s1 s2 s3 s4 s5 r0 r1 r2 r3 r4 r5 f0 f1 f2 f3 f4 f5 k0 k1 k2 k3 k4 k5 hw5 hB5 hlt2
  obtain ⟨s0, s1, s2, s3, s4, s5⟩ := XT.out _ h05
  obtain ⟨g0, g1, g2, g3, g4, g5⟩ := G5
  have f4 := F5 4 (by omega)
  have f5 := F5 5 (by omega)
  have H05 := Lib.hid h05
  clear h05
  refine (HA.out _).mono ?_
  rintro e w9 ⟨rfl, rfl⟩
  go_wp2_with (fail)
  refine (HN.out _).mono ?_
  rintro e w9 ⟨rfl, rfl⟩
  obtain ⟨w6, hw6⟩ : ∃ w6, w5.setCell ⟨w2.heap.size, 4, none⟩ (.int .i64 98) = w6 := ⟨_, rfl⟩
  rw [hw6]
  have hB6 : Below w0.heap.size w5 w6 := by rw [← hw6]; exact (Below.refl _ _).setCell (by simp only; omega) _
  have G6 : Boxed6 w6 w2.heap.size 0 0 21 0 98 (some ⟨bb, off, none⟩) 1 c := by
    rw [← hw6]
    refine ⟨?_, ?_, ?_, ?_, ?_, ?_⟩ <;> simp [go_sem, g0, g1, g2, g3, g4, g5]
  have f6 : w6.frozen? ⟨w2.heap.size, 5, none⟩ = false := by rw [← hw6]; simpa using f5
  have h06 := H05.out.trans hB6
  clear g0 g1 g2 g3 g4 g5 f4 f5 F5 hw6 hB6 s0 s1 s2 s3 s4 s5
  obtain ⟨r0, r1, r2, r3, r4, r5⟩ := XR.out _ h06
  obtain ⟨g0, g1, g2, g3, g4, g5⟩ := G6
  have k0 := HFZ.out _ h06 0 (by omega)
  have k1 := HFZ.out _ h06 1 (by omega)
  have k2 := HFZ.out _ h06 2 (by omega)
  have k3 := HFZ.out _ h06 3 (by omega)
  have k4 := HFZ.out _ h06 4 (by omega)
  have k5 := HFZ.out _ h06 5 (by omega)
  have H06 := Lib.hid h06
  clear h06
  go_wp2_with (fail)
  have hb9 := HB0.out.trans (H06.out.mono HB0.out.size)
  refine bodyPost_ret (v := .tuple #[trm 0 0 21 0 98 none 0 0, .bool true]) (by simp [results, Try.results38, go_sem, r0, r1, r2, r3, r4, r5]) rfl ⟨rfl, ?_⟩
  exact (((((((hb9.setCell (by simp only; omega) _).setCell (by simp only; omega) _).setCell (by simp only; omega) _).setCell (by simp only; omega) _).setCell (by simp only; omega) _).setCell (by simp only; omega) _).setCell (by simp only; omega) _)
end Go.Proofs.Ytplpafoflibnlaa.Te
/- slices.Clone of parts; the box of a term that is stored into, with what may be written there. -/
namespace Go.Proofs.Ytplpafoflibnlaa.Te
set_option maxRecDepth 100000
open Go Go.RowKit Go.Proofs.Ytplpafoflibnlaa.Sp Go.Proofs.Ytplpafoflibnlaa.Pa

theorem below_next {w W W' : World} (h1 : Below w.heap.size w W) (h2 : Below W.heap.size W W') : Below w.heap.size w W' := h1.trans (h2.mono h1.size)
theorem below_al {w W : World} (h1 : Below w.heap.size w W) (o : Obj) : Below w.heap.size w (W.alloc o) := h1.alloc h1.size o

/-- Written was to block g alone. -/
def FarB (W W' : World) (g : Nat) : Prop := (∀ p : Addr, p.block ≠ g → W'.cell? p = W.cell? p ∧ W'.frozen? p = W.frozen? p) ∧ W'.heap.size = W.heap.size
theorem FarB.refl (W : World) (g : Nat) : FarB W W g := ⟨fun _ _ => ⟨rfl, rfl⟩, rfl⟩
theorem FarB.set {W W' : World} {g i : Nat} (h : FarB W W' g) (v : Value) : FarB W (W'.setCell ⟨g, i, none⟩ v) g :=
  ⟨fun p hp => ⟨(World.cell?_setCell_far _ _ _ _ (Ne.symm hp)).trans (h.1 p hp).1, (by simp : _ = W'.frozen? p).trans (h.1 p hp).2⟩, (by simp : _ = W'.heap.size).trans h.2⟩
theorem RP.far {W W' : World} {B n g : Nat} {A : Option Addr} {l : List PT} (h : RP W B A n l) (hf : FarB W W' g) (hA : ∀ b off, A = some ⟨b, off, none⟩ → b ≠ g) : RP W' B A n l :=
  ⟨h.1, fun hn => by
    obtain ⟨b, off, e, hb, hc⟩ := h.2 hn
    have k : ∀ i, W'.cell? ⟨b, i, none⟩ = W.cell? ⟨b, i, none⟩ := fun i => (hf.1 ⟨b, i, none⟩ (hA b off e)).1
    exact ⟨b, off, e, hb, fun j hj => ⟨(k _).trans (hc j hj).1, (k _).trans (hc j hj).2.1, (k _).trans (hc j hj).2.2.1, (k _).trans (hc j hj).2.2.2⟩⟩⟩
/-- A box of a term, that may be written. -/
def BoxF (W : World) (g : Nat) (b d t u s : Int) (A : Option Addr) (n c : Nat) : Prop := Boxed6 W g b d t u s A n c ∧ ∀ i, i < 6 → W.frozen? ⟨g, i, none⟩ = false
section
variable {W W' w : World} {g B : Nat} {b d t u s : Int} {A : Option Addr} {n c : Nat} {ty : TypeId}
theorem BoxF.new (w : World) (b d t u s : Int) (A : Option Addr) (n c : Nat) (ty : TypeId) : BoxF (w.alloc (.cells (tcells b d t u s A n c) ty)) w.heap.size b d t u s A n c := ⟨boxed6 (Below.refl _ _), fun i hi => by simp⟩
theorem BoxF.keep (h : BoxF W g b d t u s A n c) (hb : Below B W W') (hg : g < B) : BoxF W' g b d t u s A n c := by
  obtain ⟨⟨h0, h1, h2, h3, h4, h5⟩, hf⟩ := h
  exact ⟨⟨(hb.cell hg).trans h0, (hb.cell hg).trans h1, (hb.cell hg).trans h2, (hb.cell hg).trans h3, (hb.cell hg).trans h4, (hb.cell hg).trans h5⟩, fun i hi => (hb.frozen (p := ⟨g, i, none⟩) hg).trans (hf i hi)⟩
theorem set_frozen (W : World) (p a : Addr) (v : Value) : (W.setCell p v).frozen? a = W.frozen? a := by simp
theorem BoxF.store0 (h : BoxF W g b d t u s A n c) (b' : Int) : ∃ w5, W.setCell ⟨g, 0, none⟩ (.int .i64 b') = w5 ∧ BoxF w5 g b' d t u s A n c ∧ (∀ B, B ≤ g → Below B W w5) ∧ FarB W w5 g := by
  obtain ⟨⟨g0, g1, g2, g3, g4, g5⟩, hf⟩ := h
  refine ⟨_, rfl, ⟨⟨?_, ?_, ?_, ?_, ?_, ?_⟩, fun i hi => ?_⟩, fun B hB => (Below.refl _ _).setCell (by simpa using hB) _, (FarB.refl _ _).set _⟩
  case refine_7 => simp only [set_frozen]; exact hf i hi
  all_goals simp [go_sem, g0, g1, g2, g3, g4, g5]
/-- A store into one box leaves another one as it is. -/
theorem BoxF.far (h : BoxF W g b d t u s A n c) {g' : Nat} (hw : FarB W W' g') (hne : g ≠ g') : BoxF W' g b d t u s A n c := by
  obtain ⟨⟨h0, h1, h2, h3, h4, h5⟩, hf⟩ := h
  have k := fun i => hw.1 ⟨g, i, none⟩ hne
  exact ⟨⟨(k 0).1.trans h0, (k 1).1.trans h1, (k 2).1.trans h2, (k 3).1.trans h3, (k 4).1.trans h4, (k 5).1.trans h5⟩, fun i hi => (k i).2.trans (hf i hi)⟩
end
end Go.Proofs.Ytplpafoflibnlaa.Te
/- The walk of term.Put, of any two terms of at most 20 parts. -/
namespace Go.Proofs.Ytplpafoflibnlaa.Te
set_option maxRecDepth 100000
open Go Go.RowKit Go.Proofs.Ytplpafoflibnlaa.Sp Go.Proofs.Ytplpafoflibnlaa.Pa
attribute [local go_sem] part_guard part_eqN

structure TB where
  b : Int
  d : Int
  t : Int
  u : Int
  s : Int
  l : List PT
  ok : Bool
def PutOut (r : TB) (w : World) (e : Ending) (w' : World) : Prop := ∃ A c, e = .returned (.tuple #[trm r.b r.d r.t r.u r.s A r.l.length c, .bool r.ok]) ∧ RP w' w'.heap.size A r.l.length r.l ∧ Below w.heap.size w w'
end Go.Proofs.Ytplpafoflibnlaa.Te
/- The plain mathematics of P4.6: what Put and Bind make has the value that was told. No walk. -/
namespace Go.Proofs.Ytplpafoflibnlaa.Te
set_option maxRecDepth 100000
open Go Go.RowKit Go.Proofs.Ytplpafoflibnlaa.Sp Go.Proofs.Ytplpafoflibnlaa.Pa

def R64 (x : Int) : Prop := -9223372036854775808 ≤ x ∧ x ≤ 9223372036854775807
theorem wrap_R (x : Int) : R64 (wrap64 x) := by unfold R64 wrap64; omega
def sumT (xs : List Int) : List PT → Int
  | [] => 0
  | q :: l => valI q.2.1 q.2.2.1 q.2.2.2 (atI xs q.1) + sumT xs l
theorem inner_sum (xs : List Int) (l : List PT) : ∀ s, R64 s → innerT xs s l = wrap64 (s + sumT xs l) := by
  induction l with
  | nil =>
    intro s hs
    show s = wrap64 (s + 0)
    rw [Int.add_zero, IntWalk.wrap64_in _ hs]
  | cons q l ih =>
    intro s hs
    show innerT xs (wrap64 (s + valI q.2.1 q.2.2.1 q.2.2.2 (atI xs q.1))) l = wrap64 (s + (valI q.2.1 q.2.2.1 q.2.2.2 (atI xs q.1) + sumT xs l))
    rw [ih _ (wrap_R _)]
    unfold wrap64
    omega
theorem whole_true {b d t u x v : Int} (h : wholeT b d t u x = (v, true)) : Sy x ∧ Bits d t u ∧ v = wrap64 (b + valI d t u x) := by
  unfold wholeT at h
  split at h
  · rename_i hc
    injection h with h1 _
    exact ⟨hc.1, hc.2, h1.symm⟩
  · injection h with _ h2
    cases h2
theorem value_true {b d t u s v : Int} {l : List PT} {xs : List Int} (h : valueT b d t u s l xs = (v, true)) : symB xs = true ∧ partsB xs.length l = true ∧ wholeT b d t u (innerT xs s l) = (v, true) := by
  unfold valueT at h
  split at h
  · rename_i hc
    exact ⟨hc.1, hc.2, h⟩
  · injection h with _ h2
    cases h2
theorem symB_iff {xs : List Int} : symB xs = true ↔ ∀ x ∈ xs, Sy x := by
  unfold symB
  simp
end Go.Proofs.Ytplpafoflibnlaa.Te
/- The plain mathematics of how a term goes on from a symbol. No walk. -/
namespace Go.Proofs.Ytplpafoflibnlaa.Te
set_option maxRecDepth 100000
open Go Go.RowKit Go.Proofs.Ytplpafoflibnlaa.Sp Go.Proofs.Ytplpafoflibnlaa.Pa

def orM (x k : Int) : Int := x / pw k * pw k + (pw k - 1)
theorem or_low (a k : Nat) : a ||| (2 ^ k - 1) = 2 ^ k * (a / 2 ^ k) + (2 ^ k - 1) := by
  apply Nat.eq_of_testBit_eq
  intro i
  have hlt : 2 ^ k - 1 < 2 ^ k := by have := Nat.one_le_two_pow (n := k); omega
  rw [Nat.testBit_two_pow_mul_add _ hlt, Nat.testBit_or, Nat.testBit_two_pow_sub_one]
  by_cases h : i < k
  · simp [h]
  · simp only [h, decide_false, Bool.or_false, if_false]
    rw [Nat.testBit_div_two_pow]
    congr 1
    omega
theorem bits_or (z t : Int) (h0 : 0 ≤ z) (h1 : z ≤ 2097151) (ht : t ≤ 21) : bits .or .i64 z (pw t - 1) = orM z t := by
  have hp := pw_pos t
  have hp2 := pw_le ht pw21
  obtain ⟨a, rfl⟩ := Int.eq_ofNat_of_zero_le h0
  have h2 : (1 : Nat) ≤ 2 ^ t.toNat := Nat.one_le_two_pow
  have ep : pw t = ((2 ^ t.toNat : Nat) : Int) := by unfold pw; simp
  have e : pw t - 1 = ((2 ^ t.toNat - 1 : Nat) : Int) := by rw [ep, Int.ofNat_sub h2]; simp
  have e2 : orM (a : Int) t = ((2 ^ t.toNat * (a / 2 ^ t.toNat) + (2 ^ t.toNat - 1) : Nat) : Int) := by
    unfold orM
    rw [e, ep]
    simp only [Int.natCast_add, Int.natCast_mul, Int.natCast_ediv]
    rw [Int.mul_comm]
  have hq : 2 ^ t.toNat * (a / 2 ^ t.toNat) ≤ a := Nat.mul_div_le _ _
  have hc : 2 ^ t.toNat ≤ 2097152 := by rw [ep] at hp2; omega
  rw [e2, ← or_low, e]
  have hlt : a ||| (2 ^ t.toNat - 1) < 9223372036854775808 := by rw [or_low]; omega
  generalize 2 ^ t.toNat - 1 = c at *
  have hb : a < 18446744073709551616 := by omega
  have hcc : c < 18446744073709551616 := by omega
  have ea : (BitVec.ofInt 64 (a : Int)).toNat = a := by rw [BitVec.toNat_ofInt]; omega
  have ec : (BitVec.ofInt 64 (c : Int)).toNat = c := by rw [BitVec.toNat_ofInt]; omega
  show IntKind.i64.wrap ((BitVec.ofInt 64 (a : Int) ||| BitVec.ofInt 64 (c : Int)).toNat : Int) = _
  rw [BitVec.toNat_or, ea, ec]
  exact IntWalk.i64_in _ (by omega)
theorem or_ge (x k : Int) : x ≤ orM x k := by
  have h := mod_lt x k
  have := Int.mul_ediv_add_emod x (pw k)
  unfold orM
  rw [Int.mul_comm]
  omega
theorem or_lt {x k : Int} (h0 : 0 ≤ x) (h1 : x ≤ 2097151) (hk : k ≤ 21) : orM x k ≤ 4194303 := by
  have h := mod_lt x k
  have hp := pw_pos k
  have hp2 := pw_le hk pw21
  have := Int.mul_ediv_add_emod x (pw k)
  unfold orM
  rw [Int.mul_comm]
  omega
theorem or_same {x y k : Int} (h1 : x ≤ y) (h2 : y ≤ orM x k) : y / pw k = x / pw k ∧ y % pw k = x % pw k + (y - x) := by
  have hp := pw_pos k
  have hm := mod_lt x k
  have e := Int.mul_ediv_add_emod x (pw k)
  unfold orM at h2
  rw [Int.mul_comm] at h2
  have hy : y = pw k * (x / pw k) + (x % pw k + (y - x)) := by omega
  have hr0 : 0 ≤ x % pw k + (y - x) := by omega
  have hr1 : x % pw k + (y - x) < pw k := by omega
  constructor
  · rw [hy, Int.add_comm, Int.add_mul_ediv_left _ _ (by omega), Int.ediv_eq_zero_of_lt hr0 hr1]
    omega
  · have : y % pw k = (x % pw k + (y - x)) % pw k := by
      conv => lhs; rw [hy]
      rw [Int.add_comm, Int.add_mul_emod_self_left]
    rw [this, Int.emod_eq_of_lt hr0 hr1]
def growP (d u : Int) : Int := if 0 < d then 0 else pw u
def lastP (d t x : Int) : Int := if 0 < d then orM x d else orM x t
theorem lastP_ge (d t x : Int) : x ≤ lastP d t x := by unfold lastP; split <;> exact or_ge _ _
theorem lastP_lt {d t u x : Int} (h : Bits d t u) (h0 : 0 ≤ x) (h1 : x ≤ 2097151) : lastP d t x ≤ 4194303 := by
  obtain ⟨_, h2, _, h4, _⟩ := h
  unfold lastP
  split
  · exact or_lt h0 h1 (by omega)
  · exact or_lt h0 h1 h4
theorem growP_bound {d t u : Int} (h : Bits d t u) : 0 ≤ growP d u ∧ growP d u ≤ 1048576 := by
  obtain ⟨_, _, _, _, h5, h6, _⟩ := h
  have hp := pw_pos u
  have := pw_le h6 pw20
  unfold growP
  split <;> omega
theorem val_step {d t u x y : Int} (hB : Bits d t u) (h1 : x ≤ y) (h2 : y ≤ lastP d t x) : valI d t u y = valI d t u x + growP d u * (y - x) := by
  unfold lastP at h2
  unfold growP
  unfold valI
  by_cases hd : 0 < d
  · rw [if_pos hd] at h2 ⊢
    rw [(or_same h1 h2).1]
    omega
  · have : d = 0 := by have := hB.1; omega
    subst this
    rw [if_neg hd] at h2 ⊢
    rw [pw_zero, Int.ediv_one, Int.ediv_one, (or_same h1 h2).2, Int.add_mul, Int.mul_comm (y - x)]
theorem val_rise {d t u x y : Int} (hB : Bits d t u) (_h0 : 0 ≤ x) (h1 : x ≤ y) (h2 : y ≤ lastP d t x) : growP d u * (y - x) ≤ 66060288 := by
  have hs := val_step hB h1 h2
  have a := valI_bound hB x
  have b := valI_bound hB y
  omega
def growS : List PT → Int
  | [] => 0
  | q :: l => growP q.2.1 q.2.2.2 + growS l
def lastF (x L : Int) (l : List PT) : Int := l.foldl (fun a q => min a (lastP q.2.1 q.2.2.1 x)) L
theorem lastF_le (x : Int) (l : List PT) : ∀ L, lastF x L l ≤ L ∧ ∀ q ∈ l, lastF x L l ≤ lastP q.2.1 q.2.2.1 x := by
  induction l with
  | nil => exact fun L => ⟨Int.le_refl _, fun q hq => by cases hq⟩
  | cons p l ih =>
    intro L
    have h := ih (min L (lastP p.2.1 p.2.2.1 x))
    have e : lastF x L (p :: l) = lastF x (min L (lastP p.2.1 p.2.2.1 x)) l := rfl
    rw [e]
    refine ⟨by omega, fun q hq => ?_⟩
    rcases List.mem_cons.1 hq with rfl | hq
    · omega
    · exact h.2 q hq
theorem lastF_ge {x : Int} (l : List PT) : ∀ L, x ≤ L → x ≤ lastF x L l := by
  induction l with
  | nil => exact fun L h => h
  | cons p l ih =>
    intro L h
    have e : lastF x L (p :: l) = lastF x (min L (lastP p.2.1 p.2.2.1 x)) l := rfl
    rw [e]
    exact ih _ (by have := lastP_ge p.2.1 p.2.2.1 x; omega)
def RightP (l : List PT) : Prop := ∀ q ∈ l, q.1 = 0 ∧ Bits q.2.1 q.2.2.1 q.2.2.2
theorem growS_bound {l : List PT} (h : RightP l) : 0 ≤ growS l ∧ growS l ≤ l.length * 1048576 := by
  induction l with
  | nil => exact ⟨Int.le_refl _, Int.le_refl _⟩
  | cons p l ih =>
    have a := growP_bound (h p (List.mem_cons_self ..)).2
    have b := ih (fun q hq => h q (List.mem_cons_of_mem _ hq))
    simp only [growS, List.length_cons]
    omega
theorem sum_step {x y : Int} {l : List PT} (hR : RightP l) (h1 : x ≤ y) (h2 : ∀ q ∈ l, y ≤ lastP q.2.1 q.2.2.1 x) : sumT [y] l = sumT [x] l + growS l * (y - x) := by
  induction l with
  | nil => simp [sumT, growS]
  | cons p l ih =>
    have a := hR p (List.mem_cons_self ..)
    have b := val_step a.2 h1 (h2 p (List.mem_cons_self ..))
    have c := ih (fun q hq => hR q (List.mem_cons_of_mem _ hq)) (fun q hq => h2 q (List.mem_cons_of_mem _ hq))
    simp only [sumT, growS, a.1]
    have e : ∀ z : Int, atI [z] 0 = z := fun z => rfl
    rw [e, e, b, c, Int.add_mul]
    omega
theorem right_P {l : List PT} (h : partsB 1 l = true) : RightP l := by
  intro q hq
  have := List.all_eq_true.1 h q hq
  simp only [rightB, decide_eq_true_eq] at this
  exact ⟨by omega, this.2.2⟩
def lastsV (n grow from_ bound : Int) : Int := if grow = 0 ∨ bound < from_ then n else min n ((bound - from_) / grow)
theorem lasts_all {n grow from_ bound : Int} (h : ¬ (grow = 0 ∨ bound < from_)) (hg : 0 ≤ grow) (hn : 0 ≤ n) : 0 ≤ lastsV n grow from_ bound ∧ lastsV n grow from_ bound ≤ n ∧ ∀ k, 0 ≤ k → k ≤ lastsV n grow from_ bound → from_ + grow * k ≤ bound := by
  unfold lastsV
  rw [if_neg h]
  have h0 : 0 ≤ (bound - from_) / grow := Int.ediv_nonneg (by omega) hg
  refine ⟨by omega, by omega, fun k _ hk => ?_⟩
  have hk2 : k ≤ (bound - from_) / grow := by omega
  have := (Int.le_ediv_iff_mul_le (show 0 < grow by omega)).1 hk2
  rw [Int.mul_comm]
  omega
theorem lasts_bound {n g f bd : Int} (hg : 0 ≤ g) (hn : 0 ≤ n) (_ : f ≤ bd) : 0 ≤ lastsV n g f bd ∧ lastsV n g f bd ≤ n := by
  by_cases h : g = 0 ∨ bd < f
  · unfold lastsV
    rw [if_pos h]
    omega
  · have := lasts_all h hg hn
    exact ⟨this.1, this.2.1⟩
theorem lasts_bound0 {n g f bd : Int} (hg : 0 ≤ g) (hn : 0 ≤ n) : 0 ≤ lastsV n g f bd ∧ lastsV n g f bd ≤ n := by
  by_cases h : g = 0 ∨ bd < f
  · unfold lastsV
    rw [if_pos h]
    omega
  · have := lasts_all h hg hn
    exact ⟨this.1, this.2.1⟩
structure St where
  last : Int
  has : Bool
  value : Int
  grow : Int
def alongT (b d t u s : Int) (l : List PT) (x : Int) : St :=
  if (wholeT b d t u (innerT [x] s l)).2 = true then ⟨x + lastsV (lastF x 1114111 l - x) (growS l) (innerT [x] s l) (min (lastP d t (innerT [x] s l)) 1114111), true, (wholeT b d t u (innerT [x] s l)).1, growS l * growP d u⟩
  else ⟨x + lastsV (lastF x 1114111 l - x) (growS l) (innerT [x] s l) (-1), false, 0, 0⟩
theorem along_ok {b d t u s : Int} {l : List PT} {x : Int} (hs : R64 s) (hl : l.length ≤ 20) (hp : partsB 1 l = true) (hB : Bits d t u) (hx : Sy x) :
    x ≤ (alongT b d t u s l x).last ∧ (alongT b d t u s l x).last ≤ 1114111 ∧ 0 ≤ (alongT b d t u s l x).grow ∧ (alongT b d t u s l x).grow ≤ 21990232555520 ∧ R64 (alongT b d t u s l x).value ∧
    (∀ y, x ≤ y → y ≤ (alongT b d t u s l x).last → (alongT b d t u s l x).grow * (y - x) ≤ 66060288 ∧
      valueT b d t u s l [y] = if (alongT b d t u s l x).has = true then (wrap64 ((alongT b d t u s l x).value + (alongT b d t u s l x).grow * (y - x)), true) else (0, false)) := by
  have hR := right_P hp
  have hG := growS_bound hR
  have hg := growP_bound hB
  have hLle := lastF_le x l 1114111
  have hLge := lastF_ge l 1114111 (show x ≤ 1114111 from hx.2)
  have hG2 : growS l ≤ 20971520 := by omega
  have hgg := mul_bound hG.1 hG2 hg.1 hg.2
  -- the inner value at y
  have hin : ∀ y, x ≤ y → y ≤ lastF x 1114111 l → innerT [y] s l = wrap64 (innerT [x] s l + growS l * (y - x)) := fun y h1 h2 => by
    rw [inner_sum _ _ _ hs, inner_sum _ _ _ hs, sum_step hR h1 (fun q hq => by have := hLle.2 q hq; omega)]
    unfold wrap64
    omega
  have hval : ∀ y, Sy y → valueT b d t u s l [y] = wholeT b d t u (innerT [y] s l) := fun y hy => by
    unfold valueT
    rw [if_pos ⟨symB_iff.2 (fun z hz => by rw [List.mem_singleton] at hz; subst hz; exact hy), hp⟩]
  obtain ⟨I, hI⟩ : ∃ I, innerT [x] s l = I := ⟨_, rfl⟩
  have hIR : R64 I := by rw [← hI, inner_sum _ _ _ hs]; exact wrap_R _
  unfold alongT
  rw [hI] at hin ⊢
  obtain ⟨n, hn⟩ : ∃ n, lastF x 1114111 l - x = n := ⟨_, rfl⟩
  rw [hn]
  have hn0 : 0 ≤ n := by omega
  have hD : ∀ y, x ≤ y → y ≤ 1114111 → 0 ≤ growS l * (y - x) ∧ growS l * (y - x) ≤ 23364622090240 := fun y h1 h2 => by
    have := mul_bound hG.1 hG2 (show 0 ≤ y - x by omega) (show y - x ≤ 1114112 by have := hx.1; omega)
    omega
  by_cases hS : Sy I
  · have hw : wholeT b d t u I = (wrap64 (b + valI d t u I), true) := if_pos ⟨hS, hB⟩
    rw [hw]
    simp only [if_true]
    have hbd : I ≤ min (lastP d t I) 1114111 := by have := lastP_ge d t I; have := hS.2; omega
    obtain ⟨bd, hbdE⟩ : ∃ q, min (lastP d t I) 1114111 = q := ⟨_, rfl⟩
    rw [hbdE] at hbd ⊢
    -- what the steps keep
    have key : 0 ≤ lastsV n (growS l) I bd ∧ lastsV n (growS l) I bd ≤ n ∧ ∀ k, 0 ≤ k → k ≤ lastsV n (growS l) I bd → I + growS l * k ≤ bd := by
      by_cases h : growS l = 0 ∨ bd < I
      · rcases h with h | h
        · unfold lastsV
          rw [if_pos (.inl h)]
          refine ⟨hn0, Int.le_refl _, fun k _ _ => ?_⟩
          rw [h, Int.zero_mul]
          omega
        · omega
      · exact lasts_all h hG.1 hn0
    obtain ⟨N, hN⟩ : ∃ N, lastsV n (growS l) I bd = N := ⟨_, rfl⟩
    rw [hN] at key ⊢
    obtain ⟨k0, k1, k2⟩ := key
    refine ⟨by omega, by have := hLle.1; omega, hgg.1, by omega, wrap_R _, fun y h1 h2 => ?_⟩
    have hy1 : y ≤ lastF x 1114111 l := by omega
    have hyS : Sy y := ⟨by have := hx.1; omega, by have := hLle.1; omega⟩
    have hk := k2 (y - x) (by omega) (by omega)
    have hd := hD y h1 hyS.2
    have hi := hin y h1 hy1
    rw [IntWalk.wrap64_in _ (by have := hS.1; omega)] at hi
    have hJ : Sy (I + growS l * (y - x)) := ⟨by have := hS.1; omega, by omega⟩
    have hst := val_step (x := I) (y := I + growS l * (y - x)) hB (by omega) (by omega)
    have hrs := val_rise (x := I) (y := I + growS l * (y - x)) hB hS.1 (by omega) (by omega)
    have em : growS l * growP d u * (y - x) = growP d u * (I + growS l * (y - x) - I) := by
      rw [show I + growS l * (y - x) - I = growS l * (y - x) from by omega, Int.mul_comm (growS l), Int.mul_assoc]
    rw [em]
    refine ⟨hrs, ?_⟩
    rw [hval y hyS, hi]
    unfold wholeT
    rw [if_pos ⟨hJ, hB⟩, hst]
    congr 1
    unfold wrap64
    omega
  · have hw : wholeT b d t u I = (0, false) := if_neg (fun h => hS h.1)
    rw [hw]
    simp only [Bool.false_eq_true, if_false]
    have key : 0 ≤ lastsV n (growS l) I (-1) ∧ lastsV n (growS l) I (-1) ≤ n ∧ ∀ k, 0 ≤ k → k ≤ lastsV n (growS l) I (-1) → I < 0 → I + growS l * k ≤ -1 := by
      by_cases h : growS l = 0 ∨ -1 < I
      · unfold lastsV
        rw [if_pos h]
        refine ⟨hn0, Int.le_refl _, fun k _ _ hneg => ?_⟩
        rcases h with h | h
        · rw [h, Int.zero_mul]
          omega
        · omega
      · have := lasts_all h hG.1 hn0
        exact ⟨this.1, this.2.1, fun k a b _ => this.2.2 k a b⟩
    obtain ⟨N, hN⟩ : ∃ N, lastsV n (growS l) I (-1) = N := ⟨_, rfl⟩
    rw [hN] at key ⊢
    obtain ⟨k0, k1, k2⟩ := key
    refine ⟨by omega, by have := hLle.1; omega, Int.le_refl _, by omega, by unfold R64; omega, fun y h1 h2 => ⟨by omega, ?_⟩⟩
    have hy1 : y ≤ lastF x 1114111 l := by omega
    have hyS : Sy y := ⟨by have := hx.1; omega, by have := hLle.1; omega⟩
    have hd := hD y h1 hyS.2
    rw [hval y hyS, hin y h1 hy1]
    have hnot : ¬ Sy (wrap64 (I + growS l * (y - x))) := by
      intro hq
      unfold Sy at hS hq
      unfold R64 at hIR
      by_cases hneg : I < 0
      · have hk := k2 (y - x) (by omega) (by omega) hneg
        rw [IntWalk.wrap64_in _ (by omega)] at hq
        omega
      · have : 1114111 < I := by omega
        unfold wrap64 at hq
        omega
    unfold wholeT
    rw [if_neg (fun h => hnot h.1)]
end Go.Proofs.Ytplpafoflibnlaa.Te
/- The plain mathematics of the symbols of a stretch whose values are in a set. No walk. -/
namespace Go.Proofs.Ytplpafoflibnlaa.Te
set_option maxRecDepth 100000
open Go Go.RowKit Go.Proofs.Ytplpafoflibnlaa.Sp Go.Proofs.Ytplpafoflibnlaa.Pa

/-- Not more spans than a list has that tells the set piece by piece. -/
theorem cnt_le : ∀ (out L : List Span), Plain out → (∀ x, mem out x → ∃ p ∈ L, p.1 ≤ x ∧ x ≤ p.2) → (∀ p ∈ L, ∀ x y z, p.1 ≤ x → x ≤ y → y ≤ z → z ≤ p.2 → mem out x → mem out z → mem out y) → out.length ≤ L.length
  | [], _, _, _, _ => Nat.zero_le _
  | q :: out, L, hp, h1, h2 => by
    obtain ⟨hq, hp', hgap⟩ := hp.cons
    have hq1 : mem (q :: out) q.1 := ⟨by have := hq.2.1; have := hq.2.2; have := hq.1; unfold Rng; omega, q, List.mem_cons_self .., Int.le_refl _, hq.1⟩
    obtain ⟨p, hpL, hp1, hp2⟩ := h1 _ hq1
    have hno : ¬ mem (q :: out) (q.2 + 1) := by
      rintro ⟨_, r, hr, hr1, hr2⟩
      rcases List.mem_cons.1 hr with rfl | hr
      · omega
      · have := hgap r hr; omega
    have hge : ∀ x, mem out x → q.2 + 1 < x := fun x ⟨_, r, hr, hr1, _⟩ => by have := hgap r hr; omega
    have hfar : ∀ x, mem out x → ¬ (p.1 ≤ x ∧ x ≤ p.2) := fun x hx hc => by
      have hx' : mem (q :: out) x := ⟨hx.1, by obtain ⟨_, r, hr, hh⟩ := hx; exact ⟨r, List.mem_cons_of_mem _ hr, hh⟩⟩
      exact hno (h2 p hpL q.1 (q.2 + 1) x hp1 (by have := hq.1; omega) (by have := hge x hx; omega) hc.2 hq1 hx')
    have := cnt_le out (L.erase p) hp' (fun x hx => by
      obtain ⟨p', hp'L, hh⟩ := h1 x ⟨hx.1, by obtain ⟨_, r, hr, hh⟩ := hx; exact ⟨r, List.mem_cons_of_mem _ hr, hh⟩⟩
      have hne : p' ≠ p := fun e => hfar x hx (by rw [← e]; exact hh)
      exact ⟨p', (List.mem_erase_of_ne hne).2 hp'L, hh⟩) (fun p' hp'L x y z a1 a2 a3 a4 hx hz => by
      have hx' : mem (q :: out) x := ⟨hx.1, by obtain ⟨_, r, hr, hh⟩ := hx; exact ⟨r, List.mem_cons_of_mem _ hr, hh⟩⟩
      have hz' : mem (q :: out) z := ⟨hz.1, by obtain ⟨_, r, hr, hh⟩ := hz; exact ⟨r, List.mem_cons_of_mem _ hr, hh⟩⟩
      have hy := h2 p' (List.mem_of_mem_erase hp'L) x y z a1 a2 a3 a4 hx' hz'
      obtain ⟨hr, r, hr0, hr1, hr2⟩ := hy
      rcases List.mem_cons.1 hr0 with rfl | hr0
      · have := hge x hx; omega
      · exact ⟨hr, r, hr0, hr1, hr2⟩)
    rw [List.length_erase_of_mem hpL] at this
    have hpos : 0 < L.length := List.length_pos_of_mem hpL
    simp only [List.length_cons]
    omega
theorem norm_few {W g : List Span} (h : Is W (mem g)) : W.length ≤ g.length :=
  cnt_le W g h.1 (fun x hx => ((h.2 x).1 hx).2) (fun p hp x y z a1 a2 a3 a4 hx hz => (h.2 y).2 ⟨by have := hx.1; have := hz.1; unfold Rng at *; omega, p, hp, by omega, by omega⟩)
theorem meet_few {m W : List Span} {v hi : Int} (h : Is m (fun z => mem W z ∧ mem [(v, hi)] z)) : m.length ≤ W.length :=
  cnt_le m W h.1 (fun x hx => ((h.2 x).1 hx).1.2) (fun p hp x y z a1 a2 a3 a4 hx hz => (h.2 y).2 (by
    obtain ⟨x1, x2⟩ := (h.2 x).1 hx
    obtain ⟨z1, z2⟩ := (h.2 z).1 hz
    have hy : Rng y := by have := x1.1; have := z1.1; unfold Rng at *; omega
    obtain ⟨_, q, hq, q1, q2⟩ := x2
    obtain ⟨_, r, hr, r1, r2⟩ := z2
    rw [List.mem_singleton] at hq hr
    subst hq hr
    exact ⟨⟨hy, p, hp, by omega, by omega⟩, hy, _, List.mem_singleton.2 rfl, by omega, by omega⟩))
def inL (l : List Span) (y : Int) : Prop := ∃ p ∈ l, p.1 ≤ y ∧ y ≤ p.2
theorem inL_append {l r : List Span} {y : Int} : inL (l ++ r) y ↔ inL l y ∨ inL r y := by
  unfold inL
  constructor
  · rintro ⟨p, hp, h⟩
    rcases List.mem_append.1 hp with hp | hp
    · exact .inl ⟨p, hp, h⟩
    · exact .inr ⟨p, hp, h⟩
  · rintro (⟨p, hp, h⟩ | ⟨p, hp, h⟩)
    · exact ⟨p, List.mem_append_left _ hp, h⟩
    · exact ⟨p, List.mem_append_right _ hp, h⟩
theorem inL_nil {y : Int} : ¬ inL [] y := fun ⟨_, h, _⟩ => by cases h
theorem inL_one {a b y : Int} : inL [(a, b)] y ↔ a ≤ y ∧ y ≤ b := by
  unfold inL
  simp
def HitSpec (g : List Span) (last : Int) (has : Bool) (v gr x : Int) (new : List Span) : Prop := ∀ y, inL new y ↔ (x ≤ y ∧ y ≤ last ∧ has = true ∧ mem g (wrap64 (v + gr * (y - x))))
theorem hit_no {g : List Span} {last v gr x : Int} : HitSpec g last false v gr x [] := fun y => ⟨fun h => absurd h inL_nil, fun h => by have := h.2.2.1; cases this⟩
theorem hit_flat {g : List Span} {last v x : Int} (hv : R64 v) (hm : mem g v) : HitSpec g last true v 0 x [(x, last)] := fun y => by
  rw [inL_one, Int.zero_mul, Int.add_zero, IntWalk.wrap64_in _ hv]
  exact ⟨fun h => ⟨h.1, h.2, rfl, hm⟩, fun h => ⟨h.1, h.2.1⟩⟩
theorem hit_flat0 {g : List Span} {last v x : Int} (hv : R64 v) (hm : ¬ mem g v) : HitSpec g last true v 0 x [] := fun y => by
  rw [Int.zero_mul, Int.add_zero, IntWalk.wrap64_in _ hv]
  exact ⟨fun h => absurd h inL_nil, fun h => absurd h.2.2.2 hm⟩
def hitF (v gr x : Int) (p : Span) : Span := (x + (p.1 - v + gr - 1) / gr, x + (p.2 - v) / gr)
theorem hitF_in {v gr x y : Int} {p : Span} (hg : 0 < gr) : ((hitF v gr x p).1 ≤ y ∧ y ≤ (hitF v gr x p).2) ↔ (p.1 ≤ v + gr * (y - x) ∧ v + gr * (y - x) ≤ p.2) := by
  unfold hitF
  have e1 : (p.1 - v + gr - 1) / gr < y - x + 1 ↔ p.1 - v + gr - 1 < (y - x + 1) * gr := Int.ediv_lt_iff_lt_mul hg
  have e2 : y - x ≤ (p.2 - v) / gr ↔ (y - x) * gr ≤ p.2 - v := Int.le_ediv_iff_mul_le hg
  rw [Int.add_mul, Int.one_mul, Int.mul_comm] at e1
  rw [Int.mul_comm] at e2
  dsimp only
  omega
theorem hit_grow {g W m : List Span} {last v gr x : Int} (hW : Is W (mem g)) (hm : Is m (fun z => mem W z ∧ mem [(v, wrap64 (v + gr * (last - x)))] z)) (hg : 0 < gr) (hv : R64 v) (hx : x ≤ last) (hP : gr * (last - x) ≤ 66060288) : HitSpec g last true v gr x (m.map (hitF v gr x)) := by
  have hP0 : 0 ≤ gr * (last - x) := Int.mul_nonneg (by omega) (by omega)
  intro y
  have key : inL (m.map (hitF v gr x)) y ↔ mem m (v + gr * (y - x)) := by
    constructor
    · rintro ⟨q, hq, h⟩
      obtain ⟨p, hp, rfl⟩ := List.mem_map.1 hq
      have h2 := (hitF_in hg).1 h
      have hok := hm.1.2 p hp
      exact ⟨by have := hok.2.1; have := hok.2.2; unfold Rng; omega, p, hp, h2.1, h2.2⟩
    · rintro ⟨_, p, hp, h⟩
      exact ⟨hitF v gr x p, List.mem_map.2 ⟨p, hp, rfl⟩, (hitF_in hg).2 h⟩
  rw [key, hm.2]
  dsimp only
  have hone : ∀ z, mem [(v, wrap64 (v + gr * (last - x)))] z ↔ Rng z ∧ v ≤ z ∧ z ≤ wrap64 (v + gr * (last - x)) := fun z => by
    unfold mem
    simp
  rw [hone, hW.2]
  unfold R64 at hv
  -- the step's product against the whole's
  have hmono : (x ≤ y ∧ y ≤ last) ↔ (0 ≤ gr * (y - x) ∧ gr * (y - x) ≤ gr * (last - x)) := by
    constructor
    · rintro ⟨a, b⟩
      exact ⟨Int.mul_nonneg (by omega) (by omega), Int.mul_le_mul_of_nonneg_left (by omega) (by omega)⟩
    · rintro ⟨a, b⟩
      constructor
      · have := Int.nonneg_of_mul_nonneg_right (a := gr) (b := y - x) a hg
        omega
      · have := Int.le_of_mul_le_mul_left b hg
        omega
  generalize gr * (last - x) = P at *
  generalize gr * (y - x) = K at *
  by_cases hov : v + P ≤ 9223372036854775807
  · rw [IntWalk.wrap64_in (v + P) (by omega)]
    constructor
    · rintro ⟨h1, h2, h3, h4⟩
      have hr := h1.1
      unfold Rng at hr
      have := hmono.2 ⟨by omega, by omega⟩
      refine ⟨this.1, this.2, rfl, ?_⟩
      rw [IntWalk.wrap64_in (v + K) (by omega)]
      exact h1
    · rintro ⟨h1, h2, _, h4⟩
      have := hmono.1 ⟨h1, h2⟩
      rw [IntWalk.wrap64_in (v + K) (by omega)] at h4
      exact ⟨h4, h4.1, by omega, by omega⟩
  · constructor
    · rintro ⟨h1, h2, h3, h4⟩
      have hr := h1.1
      unfold Rng at hr
      unfold wrap64 at h4
      omega
    · rintro ⟨h1, h2, _, h4⟩
      have := hmono.1 ⟨h1, h2⟩
      have hr := h4.1
      unfold Rng wrap64 at hr
      omega
/-- What a piece of the meeting lies in. -/
theorem meet_piece {W m : List Span} {v hi : Int} {p : Span} (hm : Is m (fun z => mem W z ∧ mem [(v, hi)] z)) (hp : p ∈ m) : v ≤ p.1 ∧ p.1 ≤ p.2 ∧ p.2 ≤ hi ∧ -1073741824 ≤ p.1 ∧ p.2 ≤ 1073741824 := by
  have hok := hm.1.2 p hp
  obtain ⟨h1, h2, h3⟩ := hok
  have a := ((hm.2 p.1).1 ⟨by unfold Rng; omega, p, hp, Int.le_refl _, h1⟩).2
  have b := ((hm.2 p.2).1 ⟨by unfold Rng; omega, p, hp, h1, Int.le_refl _⟩).2
  have e : ∀ z, mem [(v, hi)] z → v ≤ z ∧ z ≤ hi := fun z hz => by
    obtain ⟨_, q, hq, q1, q2⟩ := hz
    rw [List.mem_singleton] at hq
    subst hq
    exact ⟨q1, q2⟩
  have a' := e _ a
  have b' := e _ b
  omega
end Go.Proofs.Ytplpafoflibnlaa.Te
/- The walks of term.alike, lasts, symbols. -/
namespace Go.Proofs.Ytplpafoflibnlaa.Te
set_option maxRecDepth 100000
open Go Go.RowKit Go.Proofs.Ytplpafoflibnlaa.Sp Go.Proofs.Ytplpafoflibnlaa.Pa

attribute [local go_sem] pw_fold
theorem bits_orB (z t : Int) (h0 : 0 ≤ z) (h1 : z ≤ 2097151) (ht : t ≤ 21) : bits .or .i64 z (IntKind.i64.wrap (pw t - 1)) = orM z t := by
  have hp := pw_pos t
  have hq := pw_le ht pw21
  rw [IntWalk.i64_in _ (by omega)]
  exact bits_or z t h0 h1 ht
def RetII (a b : Int) (w : World) (e : Ending) (w' : World) : Prop := e = .returned (.tuple #[.int .i64 a, .int .i64 b]) ∧ Below w.heap.size w w'
theorem ret_ii {a b a' b' : Int} (h1 : a' = a) (h2 : b' = b) : Ending.returned (.tuple #[.int .i64 a, .int .i64 b]) = .returned (.tuple #[.int .i64 a', .int .i64 b']) := by rw [h1, h2]
set_option maxHeartbeats 1000000 in
theorem alike_any (a d t u x : Int) (hB : Bits d t u) (h0 : 0 ≤ x) (h1 : x ≤ 2097151) (w : World) : Calls Try.prog 81 #[prt a d t u, .int .i64 x] w (RetII (lastP d t x) (growP d u) w) := by
  obtain ⟨b1, b2, b3, b4, b5, b6, _⟩ := hB
  have hb5 : u ≤ 64 := by omega
  by_cases hd : 0 < d
  · have HL := Lib.hid (show lastP d t x = orM x d from if_pos hd)
    have HG := Lib.hid (show growP d u = 0 from if_pos hd)
    have hp := pw_pos d
    have hq := pw_le (show d ≤ 21 by omega) pw21
    have hd0 : 0 ≤ d := by omega
    have hd4 : d ≤ 64 := by omega
    have hor := bits_or x d h0 h1 (by omega)
    have horb := bits_orB x d h0 h1 (by omega)
    have hw1 : IntKind.i64.wrap (pw d) = pw d := IntWalk.i64_in _ (by omega)
    have hw2 : IntKind.i64.wrap (pw d - 1) = pw d - 1 := IntWalk.i64_in _ (by omega)
    go_enter Try.func81, Try.ntmps81
    go_wp2_with (fail)
    go_ret2
    exact ⟨ret_ii HL.out HG.out, (Below.refl _ _).alloc (Nat.le_refl _) _⟩
  · have HL := Lib.hid (show lastP d t x = orM x t from if_neg hd)
    have HG := Lib.hid (show growP d u = pw u from if_neg hd)
    have hp := pw_pos t
    have hq := pw_le b4 pw21
    have hpu := pw_pos u
    have hqu := pw_le b6 pw20
    have ht0 : 0 ≤ t := by omega
    have ht4 : t ≤ 64 := by omega
    have hor := bits_or x t h0 h1 b4
    have horb := bits_orB x t h0 h1 b4
    have hw1 : IntKind.i64.wrap (pw t) = pw t := IntWalk.i64_in _ (by omega)
    have hw2 : IntKind.i64.wrap (pw t - 1) = pw t - 1 := IntWalk.i64_in _ (by omega)
    have hw3 : IntKind.i64.wrap (pw u) = pw u := IntWalk.i64_in _ (by omega)
    have hd1 : decide (0 < d) = false := decide_eq_false hd
    go_enter Try.func81, Try.ntmps81
    go_wp2_with (fail)
    go_quiet (fail)
    go_wp2_with (fail)
    go_ret2
    exact ⟨ret_ii HL.out HG.out, below_drewN ((Below.refl _ _).alloc (Nat.le_refl _) _) _⟩
set_option maxHeartbeats 1000000 in
theorem lasts_any (n g f b : Int) (hg : 0 ≤ g) (_hg2 : g ≤ 9223372036854775807) (hbf : b - f ≤ 9223372036854775807) (w : World) : Calls Try.prog 82 #[.int .i64 n, .int .i64 g, .int .i64 f, .int .i64 b] w (RetW (.int .i64 (lastsV n g f b)) w) := by
  by_cases h1 : g = 0
  · subst h1
    have HL := Lib.hid (show lastsV n 0 f b = n from if_pos (.inl rfl))
    go_enter Try.func82, Try.ntmps82
    go_wp2_with (fail)
    go_ret
    exact ⟨ret_i HL.out.symm, rfl⟩
  have h1' : (g == 0) = false := by simpa using h1
  by_cases h2 : b < f
  · have HL := Lib.hid (show lastsV n g f b = n from if_pos (.inr h2))
    go_enter Try.func82, Try.ntmps82
    go_wp2_with (fail)
    go_ret
    exact ⟨ret_i HL.out.symm, rfl⟩
  have h3 : decide (b < f) = false := decide_eq_false h2

  have hw1 : IntKind.i64.wrap (b - f) = b - f := IntWalk.i64_in _ (by omega)
  have hq0 : 0 ≤ (b - f) / g := Int.ediv_nonneg (by omega) hg
  have hq1 : (b - f) / g ≤ b - f := Int.ediv_le_self _ (by omega)
  have htd : (b - f).tdiv g = (b - f) / g := Int.tdiv_eq_ediv_of_nonneg (by omega)
  have hw2 : IntKind.i64.wrap ((b - f) / g) = (b - f) / g := IntWalk.i64_in _ (by omega)
  have hw3 : IntKind.i64.wrap ((b - f).tdiv g) = (b - f) / g := by rw [htd]; exact hw2
  have HL := Lib.hid (show lastsV n g f b = (if (b - f) / g < n then (b - f) / g else n) from by
    unfold lastsV
    rw [if_neg (by omega)]
    split <;> omega)
  generalize (b - f) / g = q at *
  obtain ⟨M, hM⟩ : ∃ M, (if q < n then q else n) = M := ⟨_, rfl⟩
  rw [hM] at HL
  go_enter Try.func82, Try.ntmps82
  go_wp2_with (fail)
  go_ret
  exact ⟨ret_i HL.out.symm, rfl⟩
def SymOut (w : World) (e : Ending) (w' : World) : Prop := ∃ A, e = .returned (.slice A 1 1) ∧ RS w' w'.heap.size A 1 [(0, 1114111)] ∧ Below w.heap.size w w'
theorem symbols_any (w : World) : Calls Try.prog 76 #[] w (SymOut w) := by
  go_enter Try.func76, Try.ntmps76
  go_wp2_with (fail)
  go_ret
  refine ⟨some ⟨w.heap.size, 0, none⟩, rfl, ⟨rfl, fun _ => ⟨w.heap.size, 0, rfl, by simp, fun j hj => ?_⟩⟩, (Below.refl _ _).alloc (Nat.le_refl _) _⟩
  obtain rfl : j = 0 := by simp at hj; omega
  constructor <;> simp
end Go.Proofs.Ytplpafoflibnlaa.Te
/- The walk of term.seen; own rows of parts, as a walk goes on. -/
namespace Go.Proofs.Ytplpafoflibnlaa.Te
set_option maxRecDepth 100000
open Go Go.RowKit Go.Proofs.Ytplpafoflibnlaa.Sp Go.Proofs.Ytplpafoflibnlaa.Pa

theorem BoxF.grown {W W' : World} {g : Nat} {b d t u s : Int} {A : Option Addr} {n c : Nat} {row : Option Nat} (h : BoxF W g b d t u s A n c) (hg : W.grownBy W' row) (hlt : g < W.heap.size) (hne : some g ≠ row) : BoxF W' g b d t u s A n c := by
  obtain ⟨⟨h0, h1, h2, h3, h4, h5⟩, hf⟩ := h
  have k := hg.block g hlt hne
  have kc : ∀ i, W'.cell? ⟨g, i, none⟩ = W.cell? ⟨g, i, none⟩ := fun i => World.cell?_of_block k
  have kf : ∀ i, W'.frozen? ⟨g, i, none⟩ = W.frozen? ⟨g, i, none⟩ := fun i => World.frozen?_of_block k
  exact ⟨⟨(kc 0).trans h0, (kc 1).trans h1, (kc 2).trans h2, (kc 3).trans h3, (kc 4).trans h4, (kc 5).trans h5⟩, fun i hi => (kf i).trans (hf i hi)⟩
end Go.Proofs.Ytplpafoflibnlaa.Te
