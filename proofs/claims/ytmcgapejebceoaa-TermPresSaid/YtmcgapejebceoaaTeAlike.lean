/- The walks of term.alike, lasts, symbols. -/
import Derived.Test.YtmcgapejebceoaaTeStr
import Derived.BigQuiet
namespace Go.Proofs.Ytmcgapejebceoaa.Te
set_option maxRecDepth 100000
open Go Go.RowKit Go.Proofs.Ytmcgapejebceoaa.Sp Go.Proofs.Ytmcgapejebceoaa.Pa

attribute [local go_sem] pw_fold
theorem bits_orB (z t : Int) (h0 : 0 ≤ z) (h1 : z ≤ 2097151) (ht : t ≤ 21) : bits .or .i64 z (IntKind.i64.wrap (pw t - 1)) = orM z t := by
  have hp := pw_pos t
  have hq := pw_le ht pw21
  rw [IntWalk.i64_in _ (by omega)]
  exact bits_or z t h0 h1 ht
def RetII (a b : Int) (w : World) (e : Ending) (w' : World) : Prop := e = .returned (.tuple #[.int .i64 a, .int .i64 b]) ∧ Below w.heap.size w w'
theorem ret_ii {a b a' b' : Int} (h1 : a' = a) (h2 : b' = b) : Ending.returned (.tuple #[.int .i64 a, .int .i64 b]) = .returned (.tuple #[.int .i64 a', .int .i64 b']) := by rw [h1, h2]
set_option maxHeartbeats 1000000 in
theorem alike_any (a d t u x : Int) (hB : Bits d t u) (h0 : 0 ≤ x) (h1 : x ≤ 2097151) (w : World) : Calls Try.prog 74 #[prt a d t u, .int .i64 x] w (RetII (lastP d t x) (growP d u) w) := by
  obtain ⟨b1, b2, b3, b4, b5, b6, _⟩ := hB
  have hb5 : u ≤ 64 := by omega
  by_cases hd : 0 < d
  · have HL := Lib.hid (show lastP d t x = orM x d from if_pos hd)
    have HG := Lib.hid (show growP d u = 0 from if_pos hd)
    have hp := pw_pos d
    have hq := pw_le (show d ≤ 21 by omega) pw21
    have hd0 : 0 ≤ d := by omega
    have hd4 : d ≤ 64 := by omega
    have hor := bits_or x d h0 h1 (by omega)
    have horb := bits_orB x d h0 h1 (by omega)
    have hw1 : IntKind.i64.wrap (pw d) = pw d := IntWalk.i64_in _ (by omega)
    have hw2 : IntKind.i64.wrap (pw d - 1) = pw d - 1 := IntWalk.i64_in _ (by omega)
    go_enter Try.func74, Try.ntmps74
    go_wp2_with (fail)
    go_ret2
    exact ⟨ret_ii HL.out HG.out, (Below.refl _ _).alloc (Nat.le_refl _) _⟩
  · have HL := Lib.hid (show lastP d t x = orM x t from if_neg hd)
    have HG := Lib.hid (show growP d u = pw u from if_neg hd)
    have hp := pw_pos t
    have hq := pw_le b4 pw21
    have hpu := pw_pos u
    have hqu := pw_le b6 pw20
    have ht0 : 0 ≤ t := by omega
    have ht4 : t ≤ 64 := by omega
    have hor := bits_or x t h0 h1 b4
    have horb := bits_orB x t h0 h1 b4
    have hw1 : IntKind.i64.wrap (pw t) = pw t := IntWalk.i64_in _ (by omega)
    have hw2 : IntKind.i64.wrap (pw t - 1) = pw t - 1 := IntWalk.i64_in _ (by omega)
    have hw3 : IntKind.i64.wrap (pw u) = pw u := IntWalk.i64_in _ (by omega)
    have hd1 : decide (0 < d) = false := decide_eq_false hd
    go_enter Try.func74, Try.ntmps74
    go_wp2_with (fail)
    go_quiet (fail)
    go_wp2_with (fail)
    go_ret2
    exact ⟨ret_ii HL.out HG.out, below_drewN ((Below.refl _ _).alloc (Nat.le_refl _) _) _⟩
theorem tdiv_div {a b : Int} (h : 0 ≤ a) : a.tdiv b = a / b := Int.tdiv_eq_ediv_of_nonneg h
set_option maxHeartbeats 1000000 in
theorem lasts_any (n g f b : Int) (hg : 0 ≤ g) (_hg2 : g ≤ 9223372036854775807) (hbf : b - f ≤ 9223372036854775807) (w : World) : Calls Try.prog 75 #[.int .i64 n, .int .i64 g, .int .i64 f, .int .i64 b] w (RetW (.int .i64 (lastsV n g f b)) w) := by
  by_cases h1 : g = 0
  · subst h1
    have HL := Lib.hid (show lastsV n 0 f b = n from if_pos (.inl rfl))
    go_enter Try.func75, Try.ntmps75
    go_wp2_with (fail)
    go_ret
    exact ⟨ret_i HL.out.symm, rfl⟩
  have h1' : (g == 0) = false := by simpa using h1
  by_cases h2 : b < f
  · have HL := Lib.hid (show lastsV n g f b = n from if_pos (.inr h2))
    go_enter Try.func75, Try.ntmps75
    go_wp2_with (fail)
    go_ret
    exact ⟨ret_i HL.out.symm, rfl⟩
  have h3 : decide (b < f) = false := decide_eq_false h2

  have hw1 : IntKind.i64.wrap (b - f) = b - f := IntWalk.i64_in _ (by omega)
  have hq0 : 0 ≤ (b - f) / g := Int.ediv_nonneg (by omega) hg
  have hq1 : (b - f) / g ≤ b - f := Int.ediv_le_self _ (by omega)
  have htd : (b - f).tdiv g = (b - f) / g := Int.tdiv_eq_ediv_of_nonneg (by omega)
  have hw2 : IntKind.i64.wrap ((b - f) / g) = (b - f) / g := IntWalk.i64_in _ (by omega)
  have hw3 : IntKind.i64.wrap ((b - f).tdiv g) = (b - f) / g := by rw [htd]; exact hw2
  have HL := Lib.hid (show lastsV n g f b = (if (b - f) / g < n then (b - f) / g else n) from by
    unfold lastsV
    rw [if_neg (by omega)]
    split <;> omega)
  generalize (b - f) / g = q at *
  obtain ⟨M, hM⟩ : ∃ M, (if q < n then q else n) = M := ⟨_, rfl⟩
  rw [hM] at HL
  go_enter Try.func75, Try.ntmps75
  go_wp2_with (fail)
  go_ret
  exact ⟨ret_i HL.out.symm, rfl⟩
def SymOut (w : World) (e : Ending) (w' : World) : Prop := ∃ A, e = .returned (.slice A 1 1) ∧ RS w' w'.heap.size A 1 [(0, 1114111)] ∧ Below w.heap.size w w'
theorem symbols_any (w : World) : Calls Try.prog 68 #[] w (SymOut w) := by
  go_enter Try.func68, Try.ntmps68
  go_wp2_with (fail)
  go_ret
  refine ⟨some ⟨w.heap.size, 0, none⟩, rfl, ⟨rfl, fun _ => ⟨w.heap.size, 0, rfl, by simp, fun j hj => ?_⟩⟩, (Below.refl _ _).alloc (Nat.le_refl _) _⟩
  obtain rfl : j = 0 := by simp at hj; omega
  constructor <;> simp
end Go.Proofs.Ytmcgapejebceoaa.Te
