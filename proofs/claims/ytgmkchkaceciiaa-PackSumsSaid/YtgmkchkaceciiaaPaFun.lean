/- The walks of part.bitsRight, Right, Whole, most, Value, and of the document's Two, Bits, Right, Value. -/
import Derived.Test.YtgmkchkaceciiaaProg
import Derived.Test.YtgmkchkaceciiaaSpCheck
import Derived.Test.YtgmkchkaceciiaaPaMath
import Derived.WalkArith
import Derived.IntWalk
import Derived.Deep.RegionHeld3
namespace Go.Proofs.Ytgmkchkaceciiaa.Pa
set_option maxRecDepth 100000
open Go Go.RowKit Go.Proofs.Ytgmkchkaceciiaa.Sp

/-- A part, as a value. -/
abbrev prt (a d t u : Int) : Value := .agg #[.int .i64 a, .int .i64 d, .int .i64 t, .int .i64 u]

set_option maxHeartbeats 1000000 in
theorem bits_any (a d t u : Int) (w : World) : Calls Try.prog 142 #[prt a d t u] w (RetB (decide (Bits d t u)) w) := by
  by_cases hb : Bits d t u
  · rw [decide_eq_true hb]
    obtain ⟨h1, h2, h3, h4, h5, h6, h7⟩ := hb
    by_cases h8 : u = 0
    · subst h8
      go_enter Try.func142, Try.ntmps142
      go_wp2_with (fail)
      go_ret
      exact ⟨rfl, (Below.refl _ _).alloc (Nat.le_refl _) _⟩
    · have h7' : t ≤ 6 := by omega
      have h8' : (u == 0) = false := by simpa using h8
      clear h7 h8
      go_enter Try.func142, Try.ntmps142
      go_wp2_with (fail)
      go_ret
      exact ⟨rfl, (Below.refl _ _).alloc (Nat.le_refl _) _⟩
  · rw [decide_eq_false hb]
    by_cases h1 : 0 ≤ d
    · by_cases h2 : d ≤ 20
      · by_cases h3 : 1 ≤ t
        · by_cases h4 : t ≤ 21
          · by_cases h5 : 0 ≤ u
            · by_cases h6 : u ≤ 20
              · have h7 : 6 < t := by unfold Bits at hb; omega
                have h8 : (u == 0) = false := by unfold Bits at hb; simp; omega
                clear hb
                go_enter Try.func142, Try.ntmps142
                go_wp2_with (fail)
                go_ret
                exact ⟨ret_bool (by simp; omega), (Below.refl _ _).alloc (Nat.le_refl _) _⟩
              · clear hb
                go_enter Try.func142, Try.ntmps142
                go_wp2_with (fail)
                go_ret
                exact ⟨rfl, (Below.refl _ _).alloc (Nat.le_refl _) _⟩
            · clear hb
              go_enter Try.func142, Try.ntmps142
              go_wp2_with (fail)
              go_ret
              exact ⟨rfl, (Below.refl _ _).alloc (Nat.le_refl _) _⟩
          · clear hb
            go_enter Try.func142, Try.ntmps142
            go_wp2_with (fail)
            go_ret
            exact ⟨rfl, (Below.refl _ _).alloc (Nat.le_refl _) _⟩
        · clear hb
          go_enter Try.func142, Try.ntmps142
          go_wp2_with (fail)
          go_ret
          exact ⟨rfl, (Below.refl _ _).alloc (Nat.le_refl _) _⟩
      · clear hb
        go_enter Try.func142, Try.ntmps142
        go_wp2_with (fail)
        go_ret
        exact ⟨rfl, (Below.refl _ _).alloc (Nat.le_refl _) _⟩
    · clear hb
      go_enter Try.func142, Try.ntmps142
      go_wp2_with (fail)
      go_ret
      exact ⟨rfl, (Below.refl _ _).alloc (Nat.le_refl _) _⟩

def rightB (a d t u n : Int) : Bool := decide (0 ≤ a ∧ a < n ∧ Bits d t u)
set_option maxHeartbeats 1000000 in
theorem right_any (a d t u n : Int) (w : World) : Calls Try.prog 138 #[prt a d t u, .int .i64 n] w (RetB (rightB a d t u n) w) := by
  by_cases h1 : 0 ≤ a
  · by_cases h2 : a < n
    · have e : rightB a d t u n = decide (Bits d t u) := by unfold rightB; simp [h1, h2]
      have HE := Lib.hid e
      have HB := Lib.hid (bits_any a d t u)
      clear e
      go_enter Try.func138, Try.ntmps138
      go_wp2_with (fail)
      refine (HB.out _).mono ?_
      rintro e w1 ⟨rfl, hb1⟩
      go_wp2_with (fail)
      go_ret
      exact ⟨ret_bool HE.out.symm, ((Below.refl _ _).alloc (Nat.le_refl _) _).trans (hb1.mono (by simp))⟩
    · have HE := Lib.hid (show rightB a d t u n = false by unfold rightB; simp [h2])
      go_enter Try.func138, Try.ntmps138
      go_wp2_with (fail)
      go_ret
      exact ⟨ret_bool HE.out.symm, (Below.refl _ _).alloc (Nat.le_refl _) _⟩
  · have HE := Lib.hid (show rightB a d t u n = false by unfold rightB; simp [h1])
    go_enter Try.func138, Try.ntmps138
    go_wp2_with (fail)
    go_ret
    exact ⟨ret_bool HE.out.symm, (Below.refl _ _).alloc (Nat.le_refl _) _⟩

def RetP (a d t u : Int) (w : World) (e : Ending) (w' : World) : Prop := e = .returned (prt a d t u) ∧ Below w.heap.size w w'
theorem whole_any (a : Int) (w : World) : Calls Try.prog 140 #[.int .i64 a] w (RetP a 0 21 0 w) := by
  go_enter Try.func140, Try.ntmps140
  go_wp2_with (fail)
  exact bodyPost_ret (v := prt a 0 21 0) (by simp [results, Try.results140, go_sem]) rfl ⟨rfl, (Below.refl _ _).alloc (Nat.le_refl _) _⟩
end Go.Proofs.Ytgmkchkaceciiaa.Pa
