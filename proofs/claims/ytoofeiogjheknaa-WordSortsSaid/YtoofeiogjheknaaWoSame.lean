/- The walk of ref.Same at a translation that holds no other function of layer 1. -/
import Derived.Test.YtoofeiogjheknaaProg
import Derived.Test.YtoofeiogjheknaaSpWords
import Derived.WalkKit
import Derived.WalkSpells
import Derived.WalkLawsBesides
import Derived.BigQuiet
import Derived.Deep.QuietTactic
import Derived.Lib.Hide
namespace Go.Proofs.Ytoofeiogjheknaa.Sp
open Go Go.RowKit

theorem below_drewN {B : Nat} {a w : World} (h : Below B a w) (n : Nat) : Below B a (w.drewN n) := ⟨h.os, h.tape, h.output, h.size, h.block⟩
theorem ret_bool {a b : Bool} (h : a = b) : Ending.returned (.bool a) = .returned (.bool b) := by rw [h]
def RetB (b : Bool) (w : World) (e : Ending) (w' : World) : Prop := e = .returned (.bool b) ∧ Below w.heap.size w w'
theorem span_guardType : Try.prog.eqGuardType Try.prog.depth 52 = false := by kernel_rfl
theorem span_guard (w : World) (op : BinOp) (x y : Operand) (xs ys : Array Value) : (eqGuard op 52 x y (.agg xs) (.agg ys)).run Try.prog w = .ok () w := run_eqGuard_agg w op _ x y xs ys span_guardType
theorem span_eq (w : World) (p q r s : Int) : (Op.equalIn 10000 52 (.agg #[.int .i64 p, .int .i64 q]) (.agg #[.int .i64 r, .int .i64 s])).run Try.prog w = .ok (p == r && q == s) w := by
  have u3 := Try.underlying3
  have a3 := Try.isAgg3
  have z3 := Try.sizeOf3
  have hS : Try.prog.underlying 52 = some (.struct (Try.prog.fieldsOf 52)) := by kernel_rfl
  have hp : Try.prog.stoodInHeld 52 = false := by kernel_rfl
  rw [show (10000 : Nat) = 9999 + 1 from rfl, run_equalIn_agg w 9999 52 _ _ hS hp]
  simp only [Program.fieldsOf, Try.underlying52]
  go_simp
  by_cases h1 : p = r <;> by_cases h2 : q = s <;> simp [h1, h2]
attribute [local go_sem] span_guard span_eq

def SameRel (l r : List Span) (n : Nat) (w : World) (i : Value) (wr : World) : Prop := ∃ k : Nat, k ≤ n ∧ i = .int .i64 k ∧ l.take k = r.take k ∧ Below w.heap.size w wr
theorem same_not {l r : List Span} {k : Nat} {p q : Int × Int} (hk : ∃ hl : k < l.length, l[k] = p) (hk' : ∃ hl : k < r.length, r[k] = q) (h : p ≠ q) : false = decide (l = r) := by
  obtain ⟨hl, e⟩ := hk
  obtain ⟨hr, e'⟩ := hk'
  refine (decide_eq_false fun he => ?_).symm
  subst he
  exact h (e.symm.trans e')
theorem same_next {l r : List Span} {k : Nat} {p q : Int × Int} (hk : ∃ hl : k < l.length, l[k] = p) (hk' : ∃ hl : k < r.length, r[k] = q) (h : p = q) (ht : l.take k = r.take k) : l.take (k + 1) = r.take (k + 1) := by
  obtain ⟨hl, e⟩ := hk
  obtain ⟨hr, e'⟩ := hk'
  rw [List.take_succ_eq_append_getElem hl, List.take_succ_eq_append_getElem hr, ht, e, e', h]

set_option maxHeartbeats 400000 in
theorem same_any (A A' : Option Addr) (n n' c c' : Nat) (l r : List Span) (w : World) (h : RS w w.heap.size A n l) (h' : RS w w.heap.size A' n' r) (hn : n ≤ 1099511627776) (hn' : n' ≤ 1099511627776) :
    Calls Try.prog 18 #[.slice A n c, .slice A' n' c'] w (RetB (decide (l = r)) w) := by
  by_cases e : n = n'
  · subst e
    go_enter Try.func18, Try.ntmps18
    go_wp2_with (fail)
    go_loopw [5] (fun i wr => SameRel l r n w i wr) (fun i _ => n - (intOf i).toNat)
    case atStart => exact ⟨0, Nat.zero_le _, rfl, rfl, Below.refl _ _⟩
    case round =>
      obtain ⟨k, hk, rfl, hp, hb⟩ := hrel
      have HP := Lib.hid hp; clear hp
      by_cases hlt : k < n
      · obtain ⟨b, off, lo, hi, hA, hbB, hlk, hc1, hc2⟩ := (h.below hb).at_ hlt
        obtain ⟨b', off', lo', hi', hA', hbB', hlk', hc1', hc2'⟩ := (h'.below hb).at_ hlt
        have HL := Lib.hid hlk; clear hlk
        have HL' := Lib.hid hlk'; clear hlk'
        subst hA hA'
        by_cases e1 : lo = lo'
        · by_cases e2 : hi = hi'
          · subst e1 e2
            go_wp2_with (fail)
            go_quiet (fail)
            go_wp2_with (fail)
            go_roundw
            case rel => exact ⟨k + 1, by omega, by go_num, same_next HL.out HL'.out rfl HP.out, below_drewN hb _⟩
            case measure => simp [intOf]; omega
          · have hd : (hi == hi') = false := by simpa using e2
            have HD := Lib.hid (show (lo, hi) ≠ (lo', hi') from fun h => e2 (congrArg Prod.snd h))
            clear e2
            go_wp2_with (fail)
            go_quiet (fail)
            go_wp2_with (fail)
            go_ret
            exact ⟨ret_bool (same_not HL.out HL'.out HD.out), below_drewN hb _⟩
        · have hd : (lo == lo') = false := by simpa using e1
          have HD := Lib.hid (show (lo, hi) ≠ (lo', hi') from fun h => e1 (congrArg Prod.fst h))
          clear e1
          go_wp2_with (fail)
          go_quiet (fail)
          go_wp2_with (fail)
          go_ret
          exact ⟨ret_bool (same_not HL.out HL'.out HD.out), below_drewN hb _⟩
      · have hm : l = r := by have := HP.out; rwa [List.take_of_length_le (by have := h.1; omega), List.take_of_length_le (by have := h'.1; omega)] at this
        have HB := Lib.hid (decide_eq_true hm)
        clear hm
        go_wp2_with (fail)
        go_ret
        exact ⟨ret_bool HB.out.symm, hb⟩
  · have hl : ¬ l = r := fun e' => e (by rw [← h.1, ← h'.1, e'])
    have HB := Lib.hid (decide_eq_false hl)
    have hne : ((n : Int) != (n' : Int)) = true := by rw [bne_iff_ne]; omega
    clear hl
    go_enter Try.func18, Try.ntmps18
    go_wp2_with (fail)
    go_ret
    exact ⟨ret_bool HB.out.symm, Below.refl _ _⟩
end Go.Proofs.Ytoofeiogjheknaa.Sp
