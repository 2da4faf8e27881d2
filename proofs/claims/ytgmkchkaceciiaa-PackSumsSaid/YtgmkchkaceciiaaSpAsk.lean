/- The walks of ref.Has, span.Has and ref.Same: whether a number is in a set; whether two lists are the same. -/
import Derived.Test.YtgmkchkaceciiaaSpCheck
namespace Go.Proofs.Ytgmkchkaceciiaa.Sp
set_option maxRecDepth 100000
open Go Go.RowKit

noncomputable def memB (l : List Span) (x : Int) : Bool := @decide (mem l x) (Classical.propDecidable _)
theorem memB_true {l : List Span} {x : Int} (h : mem l x) : memB l x = true := by unfold memB; simpa using h
theorem memB_false {l : List Span} {x : Int} (h : ¬ mem l x) : memB l x = false := by unfold memB; simpa using h
theorem memB_iff {l : List Span} {x : Int} : memB l x = true ↔ mem l x := by unfold memB; simp
theorem mem_take_next {l : List Span} {k : Nat} {lo hi x : Int} (hk : ∃ hl : k < l.length, l[k] = (lo, hi)) : mem (l.take (k + 1)) x ↔ mem (l.take k) x ∨ (Rng x ∧ lo ≤ x ∧ x ≤ hi) := by
  obtain ⟨hl, e⟩ := hk
  rw [mem_take_succ hl, e]
theorem mem_here {l : List Span} {k : Nat} {lo hi x : Int} (hk : ∃ hl : k < l.length, l[k] = (lo, hi)) (hx : Rng x) (h1 : lo ≤ x) (h2 : x ≤ hi) : true = memB l x := by
  obtain ⟨hl, e⟩ := hk
  exact (memB_true ⟨hx, _, List.getElem_mem hl, by rw [e]; exact h1, by rw [e]; exact h2⟩).symm
theorem mem_on {l : List Span} {k : Nat} {lo hi x : Int} (hk : ∃ hl : k < l.length, l[k] = (lo, hi)) (hn : ¬ mem (l.take k) x) (h : lo ≤ x → x ≤ hi → ¬ Rng x) : ¬ mem (l.take (k + 1)) x := by
  rw [mem_take_next hk]
  rintro (h1 | ⟨h1, h2, h3⟩)
  · exact hn h1
  · exact h h2 h3 h1
theorem mem_out {l : List Span} {x : Int} (h : ¬ Rng x) : false = memB l x := (memB_false fun hm => h hm.1).symm

def RetW (v : Value) (w : World) (e : Ending) (w' : World) : Prop := e = .returned v ∧ w = w'
def HasRel (l : List Span) (x : Int) (n : Nat) (i : Value) : Prop := ∃ k : Nat, k ≤ n ∧ i = .int .i64 k ∧ ¬ mem (l.take k) x

set_option maxHeartbeats 400000 in
theorem rhas_any (A : Option Addr) (n c : Nat) (l : List Span) (x : Int) (w : World) (h : RS w w.heap.size A n l) (hn : n ≤ 1099511627776) :
    Calls Try.prog 40 #[.slice A n c, .int .i64 x] w (RetW (.bool (memB l x)) w) := by
  go_enter Try.func40, Try.ntmps40
  go_wp2_with (fail)
  go_loop [5] (fun i => HasRel l x n i) (fun i => n - (intOf i).toNat)
  case atStart => exact ⟨0, Nat.zero_le _, rfl, by simpa using mem_nil x⟩
  case round =>
    obtain ⟨k, hk, rfl, hp⟩ := hrel
    have HP := Lib.hid hp; clear hp
    by_cases hlt : k < n
    · obtain ⟨b, off, lo, hi, hA, hbB, hlk, hc1, hc2⟩ := h.at_ hlt
      have HL := Lib.hid hlk; clear hlk
      subst hA
      by_cases a1 : lo ≤ x
      · by_cases a2 : x ≤ hi
        · by_cases a3 : -1073741824 ≤ x
          · by_cases a4 : x ≤ 1073741824
            · go_wp2_with (fail)
              go_ret
              exact ⟨ret_bool (mem_here HL.out ⟨by omega, by omega⟩ (by omega) (by omega)), rfl⟩
            · go_wp2_with (fail)
              go_round
              case rel => exact ⟨k + 1, by omega, by go_num, mem_on HL.out HP.out (fun _ _ h => by unfold Rng at h; omega)⟩
              case measure => simp [intOf]; omega
          · go_wp2_with (fail)
            go_round
            case rel => exact ⟨k + 1, by omega, by go_num, mem_on HL.out HP.out (fun _ _ h => by unfold Rng at h; omega)⟩
            case measure => simp [intOf]; omega
        · go_wp2_with (fail)
          go_round
          case rel => exact ⟨k + 1, by omega, by go_num, mem_on HL.out HP.out (fun _ _ _ => by omega)⟩
          case measure => simp [intOf]; omega
      · go_wp2_with (fail)
        go_round
        case rel => exact ⟨k + 1, by omega, by go_num, mem_on HL.out HP.out (fun _ _ _ => by omega)⟩
        case measure => simp [intOf]; omega
    · have hm : ¬ mem l x := by have := HP.out; rwa [List.take_of_length_le (by have := h.1; omega)] at this
      have HB := Lib.hid (memB_false hm)
      clear hm
      go_wp2_with (fail)
      go_ret
      exact ⟨ret_bool HB.out.symm, rfl⟩

def HasRelW (l : List Span) (x : Int) (n : Nat) (w : World) (i : Value) (wr : World) : Prop := ∃ k : Nat, k ≤ n ∧ i = .int .i64 k ∧ ¬ mem (l.take k) x ∧ Below w.heap.size w wr

set_option maxHeartbeats 400000 in
theorem has_any (A : Option Addr) (n c : Nat) (l : List Span) (x : Int) (w : World) (h : RS w w.heap.size A n l) (hn : n ≤ 1099511627776) :
    Calls Try.prog 23 #[.slice A n c, .int .i64 x] w (RetB (memB l x) w) := by
  by_cases a3 : x < -1073741824
  · go_enter Try.func23, Try.ntmps23
    go_wp2_with (fail)
    go_ret
    exact ⟨ret_bool (mem_out (fun h => by unfold Rng at h; omega)), Below.refl _ _⟩
  by_cases a4 : 1073741824 < x
  · go_enter Try.func23, Try.ntmps23
    go_wp2_with (fail)
    go_ret
    exact ⟨ret_bool (mem_out (fun h => by unfold Rng at h; omega)), Below.refl _ _⟩
  go_enter Try.func23, Try.ntmps23
  go_wp2_with (fail)
  go_loopw [15] (fun i wr => HasRelW l x n w i wr) (fun i _ => n - (intOf i).toNat)
  case atStart => exact ⟨0, Nat.zero_le _, rfl, by simpa using mem_nil x, Below.refl _ _⟩
  case round =>
    obtain ⟨k, hk, rfl, hp, hb⟩ := hrel
    have HP := Lib.hid hp; clear hp
    by_cases hlt : k < n
    · obtain ⟨b, off, lo, hi, hA, hbB, hlk, hc1, hc2⟩ := (h.below hb).at_ hlt
      have hbs : b < wr.heap.size := by have := hb.size; omega
      have HL := Lib.hid hlk; clear hlk
      subst hA
      by_cases a1 : lo ≤ x
      · by_cases a2 : x ≤ hi
        · go_wp2_with (fail)
          go_ret
          exact ⟨ret_bool (mem_here HL.out ⟨by omega, by omega⟩ (by omega) (by omega)), hb.alloc hb.size _⟩
        · go_wp2_with (fail)
          go_roundw
          case rel => exact ⟨k + 1, by omega, by go_num, mem_on HL.out HP.out (fun _ _ _ => by omega), hb.alloc hb.size _⟩
          case measure => simp [intOf]; omega
      · go_wp2_with (fail)
        go_roundw
        case rel => exact ⟨k + 1, by omega, by go_num, mem_on HL.out HP.out (fun _ _ _ => by omega), hb.alloc hb.size _⟩
        case measure => simp [intOf]; omega
    · have hm : ¬ mem l x := by have := HP.out; rwa [List.take_of_length_le (by have := h.1; omega)] at this
      have HB := Lib.hid (memB_false hm)
      clear hm
      go_wp2_with (fail)
      go_ret
      exact ⟨ret_bool HB.out.symm, hb⟩

theorem span_guardType : Try.prog.eqGuardType Try.prog.depth 61 = false := by kernel_rfl
theorem span_guard (w : World) (op : BinOp) (x y : Operand) (xs ys : Array Value) : (eqGuard op 61 x y (.agg xs) (.agg ys)).run Try.prog w = .ok () w := run_eqGuard_agg w op _ x y xs ys span_guardType
theorem span_eq (w : World) (p q r s : Int) : (Op.equalIn 10000 61 (.agg #[.int .i64 p, .int .i64 q]) (.agg #[.int .i64 r, .int .i64 s])).run Try.prog w = .ok (p == r && q == s) w := by
  have u3 := Try.underlying3
  have a3 := Try.isAgg3
  have z3 := Try.sizeOf3
  have hS : Try.prog.underlying 61 = some (.struct (Try.prog.fieldsOf 61)) := by kernel_rfl
  have hp : Try.prog.stoodInHeld 61 = false := by kernel_rfl
  rw [show (10000 : Nat) = 9999 + 1 from rfl, run_equalIn_agg w 9999 61 _ _ hS hp]
  simp only [Program.fieldsOf, Try.underlying61]
  go_simp
  by_cases h1 : p = r <;> by_cases h2 : q = s <;> simp [h1, h2]
attribute [local go_sem] span_guard span_eq

def SameRel (l r : List Span) (n : Nat) (w : World) (i : Value) (wr : World) : Prop := ∃ k : Nat, k ≤ n ∧ i = .int .i64 k ∧ l.take k = r.take k ∧ Below w.heap.size w wr
theorem same_not {l r : List Span} {k : Nat} {p q : Int × Int} (hk : ∃ hl : k < l.length, l[k] = p) (hk' : ∃ hl : k < r.length, r[k] = q) (h : p ≠ q) : false = decide (l = r) := by
  obtain ⟨hl, e⟩ := hk
  obtain ⟨hr, e'⟩ := hk'
  refine (decide_eq_false fun he => ?_).symm
  subst he
  exact h (e.symm.trans e')
theorem same_next {l r : List Span} {k : Nat} {p q : Int × Int} (hk : ∃ hl : k < l.length, l[k] = p) (hk' : ∃ hl : k < r.length, r[k] = q) (h : p = q) (ht : l.take k = r.take k) : l.take (k + 1) = r.take (k + 1) := by
  obtain ⟨hl, e⟩ := hk
  obtain ⟨hr, e'⟩ := hk'
  rw [List.take_succ_eq_append_getElem hl, List.take_succ_eq_append_getElem hr, ht, e, e', h]

set_option maxHeartbeats 400000 in
theorem same_any (A A' : Option Addr) (n n' c c' : Nat) (l r : List Span) (w : World) (h : RS w w.heap.size A n l) (h' : RS w w.heap.size A' n' r) (hn : n ≤ 1099511627776) (hn' : n' ≤ 1099511627776) :
    Calls Try.prog 15 #[.slice A n c, .slice A' n' c'] w (RetB (decide (l = r)) w) := by
  by_cases e : n = n'
  · subst e
    go_enter Try.func15, Try.ntmps15
    go_wp2_with (fail)
    go_loopw [5] (fun i wr => SameRel l r n w i wr) (fun i _ => n - (intOf i).toNat)
    case atStart => exact ⟨0, Nat.zero_le _, rfl, rfl, Below.refl _ _⟩
    case round =>
      obtain ⟨k, hk, rfl, hp, hb⟩ := hrel
      have HP := Lib.hid hp; clear hp
      by_cases hlt : k < n
      · obtain ⟨b, off, lo, hi, hA, hbB, hlk, hc1, hc2⟩ := (h.below hb).at_ hlt
        obtain ⟨b', off', lo', hi', hA', hbB', hlk', hc1', hc2'⟩ := (h'.below hb).at_ hlt
        have HL := Lib.hid hlk; clear hlk
        have HL' := Lib.hid hlk'; clear hlk'
        subst hA hA'
        by_cases e1 : lo = lo'
        · by_cases e2 : hi = hi'
          · subst e1 e2
            go_wp2_with (fail)
            go_quiet (fail)
            go_wp2_with (fail)
            go_roundw
            case rel => exact ⟨k + 1, by omega, by go_num, same_next HL.out HL'.out rfl HP.out, below_drewN hb _⟩
            case measure => simp [intOf]; omega
          · have hd : (hi == hi') = false := by simpa using e2
            have HD := Lib.hid (show (lo, hi) ≠ (lo', hi') from fun h => e2 (congrArg Prod.snd h))
            clear e2
            go_wp2_with (fail)
            go_quiet (fail)
            go_wp2_with (fail)
            go_ret
            exact ⟨ret_bool (same_not HL.out HL'.out HD.out), below_drewN hb _⟩
        · have hd : (lo == lo') = false := by simpa using e1
          have HD := Lib.hid (show (lo, hi) ≠ (lo', hi') from fun h => e1 (congrArg Prod.fst h))
          clear e1
          go_wp2_with (fail)
          go_quiet (fail)
          go_wp2_with (fail)
          go_ret
          exact ⟨ret_bool (same_not HL.out HL'.out HD.out), below_drewN hb _⟩
      · have hm : l = r := by have := HP.out; rwa [List.take_of_length_le (by have := h.1; omega), List.take_of_length_le (by have := h'.1; omega)] at this
        have HB := Lib.hid (decide_eq_true hm)
        clear hm
        go_wp2_with (fail)
        go_ret
        exact ⟨ret_bool HB.out.symm, hb⟩
  · have hl : ¬ l = r := fun e' => e (by rw [← h.1, ← h'.1, e'])
    have HB := Lib.hid (decide_eq_false hl)
    have hne : ((n : Int) != (n' : Int)) = true := by rw [bne_iff_ne]; omega
    clear hl
    go_enter Try.func15, Try.ntmps15
    go_wp2_with (fail)
    go_ret
    exact ⟨ret_bool HB.out.symm, Below.refl _ _⟩
end Go.Proofs.Ytgmkchkaceciiaa.Sp
