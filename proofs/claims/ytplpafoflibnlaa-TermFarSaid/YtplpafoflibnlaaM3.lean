/- Texts of this proof, joined: SpCheck, SpAsk, SpPut, SpCut. -/
import Derived.Test.YtplpafoflibnlaaProg
import Derived.Test.YtplpafoflibnlaaM2
import Derived.WalkKit
import Derived.WalkSpells
import Derived.WalkLawsBesides
import Derived.BigQuiet
import Derived.Deep.QuietTactic
import Derived.Lib.Hide
import Derived.WalkSmall
import Derived.Deep.DeepMust
import Derived.Maps.AppendAt
/- The walk of span.Check: it answers whether the list is plain. -/
namespace Go.Proofs.Ytplpafoflibnlaa.Sp
set_option maxRecDepth 100000
open Go Go.RowKit

theorem below_drewN {B : Nat} {a w : World} (h : Below B a w) (n : Nat) : Below B a (w.drewN n) := ⟨h.os, h.tape, h.output, h.size, h.block⟩
theorem ret_bool {a b : Bool} (h : a = b) : Ending.returned (.bool a) = .returned (.bool b) := by rw [h]

def RetB (b : Bool) (w : World) (e : Ending) (w' : World) : Prop := e = .returned (.bool b) ∧ Below w.heap.size w w'
noncomputable def plainB (l : List Span) : Bool := @decide (Plain l) (Classical.propDecidable _)
theorem plainB_true {l : List Span} (h : Plain l) : plainB l = true := by unfold plainB; simpa using h
theorem plainB_false {l : List Span} (h : ¬ Plain l) : plainB l = false := by unfold plainB; simpa using h
theorem not_plain_ok {l : List Span} {k : Nat} {lo hi : Int} (hk : ∃ hl : k < l.length, l[k] = (lo, hi)) (h : hi < lo ∨ lo < -1073741824 ∨ 1073741824 < hi) : false = plainB l := by
  obtain ⟨hl, e⟩ := hk
  refine (plainB_false fun hp => ?_).symm
  have := (hp.at_ hl).1
  rw [e] at this
  unfold Ok at this
  simp only at this
  omega
theorem not_plain_next {l : List Span} {k : Nat} {lo hi lo' hi' : Int} (hk' : ∃ hl : k < l.length, l[k] = (lo', hi')) (hk : ∃ hl : k + 1 < l.length, l[k + 1] = (lo, hi)) (h : lo ≤ hi' + 1) : false = plainB l := by
  obtain ⟨hl, e⟩ := hk
  obtain ⟨hl', e'⟩ := hk'
  refine (plainB_false fun hp => ?_).symm
  have := (hp.at_ hl').2 _ (drop_head hl)
  rw [e, e'] at this
  simp only at this
  omega
theorem plain_take_zero {l : List Span} {lo hi : Int} (hk : ∃ hl : 0 < l.length, l[0] = (lo, hi)) (h1 : ¬ hi < lo) (h2 : ¬ lo < -1073741824) (h3 : ¬ 1073741824 < hi) : Plain (l.take (0 + 1)) := by
  obtain ⟨hl, e⟩ := hk
  rw [List.take_succ_eq_append_getElem hl, e]
  exact Plain.nil.snoc ⟨by simp only; omega, by simp only; omega, by simp only; omega⟩ (fun q hq => by simp at hq)
theorem plain_take_next {l : List Span} {k : Nat} {lo hi lo' hi' : Int} (hp : Plain (l.take (k + 1))) (hk' : ∃ hl : k < l.length, l[k] = (lo', hi')) (hk : ∃ hl : k + 1 < l.length, l[k + 1] = (lo, hi)) (h1 : ¬ hi < lo) (h2 : ¬ lo < -1073741824) (h3 : ¬ 1073741824 < hi) (h : hi' + 1 < lo) :
    Plain (l.take (k + 1 + 1)) := by
  obtain ⟨hl, e⟩ := hk
  obtain ⟨hl', e'⟩ := hk'
  rw [List.take_succ_eq_append_getElem hl, e]
  refine hp.snoc ⟨by simp only; omega, by simp only; omega, by simp only; omega⟩ (fun q hq => ?_)
  rw [List.take_succ_eq_append_getElem hl', e'] at hp hq
  rcases List.mem_append.1 hq with hq | hq
  · have h4 := hp.append.2.2 q hq _ (List.mem_singleton.2 rfl)
    have h5 := hp.2 (lo', hi') (by simp)
    unfold Ok at h5
    simp only at *
    omega
  · obtain rfl := List.mem_singleton.1 hq
    simp only; omega
theorem plain_last {l : List Span} {k : Nat} {lo hi : Int} (hp : Plain (l.take (k + 1))) (hk : ∃ hl : k < l.length, l[k] = (lo, hi)) : -1073741824 ≤ hi ∧ hi ≤ 1073741824 := by
  obtain ⟨hl, e⟩ := hk
  rw [List.take_succ_eq_append_getElem hl, e] at hp
  have h5 := hp.2 (lo, hi) (by simp)
  unfold Ok at h5
  simp only at h5
  omega

def ChkRel (l : List Span) (n : Nat) (w : World) (i : Value) (wr : World) : Prop := ∃ k : Nat, k ≤ n ∧ i = .int .i64 k ∧ Plain (l.take k) ∧ Below w.heap.size w wr

set_option maxHeartbeats 400000 in
theorem check_any (A : Option Addr) (n c : Nat) (l : List Span) (w : World) (h : RS w w.heap.size A n l) (hn : n ≤ 1099511627776) :
    Calls Try.prog 91 #[.slice A n c] w (RetB (plainB l) w) := by
  go_enter Try.func91, Try.ntmps91
  go_wp2_with (fail)
  go_loopw [7] (fun i wr => ChkRel l n w i wr) (fun i _ => n - (intOf i).toNat)
  case atStart => exact ⟨0, Nat.zero_le _, rfl, Plain.nil, Below.refl _ _⟩
  case round =>
    obtain ⟨k, hk, rfl, hp, hb⟩ := hrel
    have HP := Lib.hid hp; clear hp
    by_cases hlt : k < n
    · have hr := h.below hb
      obtain ⟨b, off, lo, hi, hA, hbB, hlk, hc1, hc2⟩ := hr.at_ hlt
      have hbs : b < wr.heap.size := by have := hb.size; omega
      have HL := Lib.hid hlk; clear hlk
      subst hA
      by_cases a1 : hi < lo
      · go_wp2_with (fail)
        go_ret
        exact ⟨ret_bool (not_plain_ok HL.out (by omega)), hb.alloc hb.size _⟩
      · by_cases a2 : lo < -1073741824
        · go_wp2_with (fail)
          go_ret
          exact ⟨ret_bool (not_plain_ok HL.out (by omega)), hb.alloc hb.size _⟩
        · by_cases a3 : 1073741824 < hi
          · go_wp2_with (fail)
            go_ret
            exact ⟨ret_bool (not_plain_ok HL.out (by omega)), hb.alloc hb.size _⟩
          · rcases k with _ | m
            · have hd : decide ((0 : Int) < ((0 : Nat) : Int)) = false := by simp
              simp only [Nat.zero_mul, Nat.add_zero] at hc1 hc2
              go_wp2_with (fail)
              go_quiet (fail)
              go_wp2_with (fail)
              go_roundw
              case rel => exact ⟨0 + 1, by omega, by go_num, plain_take_zero HL.out (by omega) (by omega) (by omega), below_drewN (hb.alloc hb.size _) _⟩
              case measure => simp [intOf]; omega
            · obtain ⟨b', off', lo', hi', hA, _, hlk', hc1', hc2'⟩ := hr.at_ (k := m) (by omega)
              injection hA with hA
              injection hA with e1 e2 _
              subst e1 e2
              have hi1 := plain_last HP.out hlk'
              have HL' := Lib.hid hlk'; clear hlk'
              have hd : decide ((0 : Int) < ((m + 1 : Nat) : Int)) = true := by simp
              by_cases a4 : lo ≤ hi' + 1
              · go_wp2_with (fail)
                go_quiet (fail)
                go_wp2_with (fail)
                go_ret
                exact ⟨ret_bool (not_plain_next HL'.out HL.out a4), below_drewN (hb.alloc hb.size _) _⟩
              · go_wp2_with (fail)
                go_quiet (fail)
                go_wp2_with (fail)
                go_roundw
                case rel => exact ⟨m + 1 + 1, by omega, by go_num, plain_take_next HP.out HL'.out HL.out (by omega) (by omega) (by omega) (by omega), below_drewN (hb.alloc hb.size _) _⟩
                case measure => simp [intOf]; omega
    · have hkn : k = n := by omega
      have hl : Plain l := by have := HP.out; rwa [List.take_of_length_le (by have := h.1; omega)] at this
      have HB := Lib.hid (plainB_true hl)
      clear hkn hl
      go_wp2_with (fail)
      go_ret
      exact ⟨ret_bool HB.out.symm, hb⟩
end Go.Proofs.Ytplpafoflibnlaa.Sp
/- The walks of ref.Has, span.Has and ref.Same: whether a number is in a set; whether two lists are the same. -/
namespace Go.Proofs.Ytplpafoflibnlaa.Sp
set_option maxRecDepth 100000
open Go Go.RowKit

noncomputable def memB (l : List Span) (x : Int) : Bool := @decide (mem l x) (Classical.propDecidable _)
theorem memB_true {l : List Span} {x : Int} (h : mem l x) : memB l x = true := by unfold memB; simpa using h
theorem memB_false {l : List Span} {x : Int} (h : ¬ mem l x) : memB l x = false := by unfold memB; simpa using h
theorem memB_iff {l : List Span} {x : Int} : memB l x = true ↔ mem l x := by unfold memB; simp
theorem mem_take_next {l : List Span} {k : Nat} {lo hi x : Int} (hk : ∃ hl : k < l.length, l[k] = (lo, hi)) : mem (l.take (k + 1)) x ↔ mem (l.take k) x ∨ (Rng x ∧ lo ≤ x ∧ x ≤ hi) := by
  obtain ⟨hl, e⟩ := hk
  rw [mem_take_succ hl, e]
theorem mem_here {l : List Span} {k : Nat} {lo hi x : Int} (hk : ∃ hl : k < l.length, l[k] = (lo, hi)) (hx : Rng x) (h1 : lo ≤ x) (h2 : x ≤ hi) : true = memB l x := by
  obtain ⟨hl, e⟩ := hk
  exact (memB_true ⟨hx, _, List.getElem_mem hl, by rw [e]; exact h1, by rw [e]; exact h2⟩).symm
theorem mem_on {l : List Span} {k : Nat} {lo hi x : Int} (hk : ∃ hl : k < l.length, l[k] = (lo, hi)) (hn : ¬ mem (l.take k) x) (h : lo ≤ x → x ≤ hi → ¬ Rng x) : ¬ mem (l.take (k + 1)) x := by
  rw [mem_take_next hk]
  rintro (h1 | ⟨h1, h2, h3⟩)
  · exact hn h1
  · exact h h2 h3 h1
theorem mem_out {l : List Span} {x : Int} (h : ¬ Rng x) : false = memB l x := (memB_false fun hm => h hm.1).symm

def RetW (v : Value) (w : World) (e : Ending) (w' : World) : Prop := e = .returned v ∧ w = w'
def HasRel (l : List Span) (x : Int) (n : Nat) (i : Value) : Prop := ∃ k : Nat, k ≤ n ∧ i = .int .i64 k ∧ ¬ mem (l.take k) x

set_option maxHeartbeats 400000 in
theorem rhas_any (A : Option Addr) (n c : Nat) (l : List Span) (x : Int) (w : World) (h : RS w w.heap.size A n l) (hn : n ≤ 1099511627776) :
    Calls Try.prog 47 #[.slice A n c, .int .i64 x] w (RetW (.bool (memB l x)) w) := by
  go_enter Try.func47, Try.ntmps47
  go_wp2_with (fail)
  go_loop [5] (fun i => HasRel l x n i) (fun i => n - (intOf i).toNat)
  case atStart => exact ⟨0, Nat.zero_le _, rfl, by simpa using mem_nil x⟩
  case round =>
    obtain ⟨k, hk, rfl, hp⟩ := hrel
    have HP := Lib.hid hp; clear hp
    by_cases hlt : k < n
    · obtain ⟨b, off, lo, hi, hA, hbB, hlk, hc1, hc2⟩ := h.at_ hlt
      have HL := Lib.hid hlk; clear hlk
      subst hA
      by_cases a1 : lo ≤ x
      · by_cases a2 : x ≤ hi
        · by_cases a3 : -1073741824 ≤ x
          · by_cases a4 : x ≤ 1073741824
            · go_wp2_with (fail)
              go_ret
              exact ⟨ret_bool (mem_here HL.out ⟨by omega, by omega⟩ (by omega) (by omega)), rfl⟩
            · go_wp2_with (fail)
              go_round
              case rel => exact ⟨k + 1, by omega, by go_num, mem_on HL.out HP.out (fun _ _ h => by unfold Rng at h; omega)⟩
              case measure => simp [intOf]; omega
          · go_wp2_with (fail)
            go_round
            case rel => exact ⟨k + 1, by omega, by go_num, mem_on HL.out HP.out (fun _ _ h => by unfold Rng at h; omega)⟩
            case measure => simp [intOf]; omega
        · go_wp2_with (fail)
          go_round
          case rel => exact ⟨k + 1, by omega, by go_num, mem_on HL.out HP.out (fun _ _ _ => by omega)⟩
          case measure => simp [intOf]; omega
      · go_wp2_with (fail)
        go_round
        case rel => exact ⟨k + 1, by omega, by go_num, mem_on HL.out HP.out (fun _ _ _ => by omega)⟩
        case measure => simp [intOf]; omega
    · have hm : ¬ mem l x := by have := HP.out; rwa [List.take_of_length_le (by have := h.1; omega)] at this
      have HB := Lib.hid (memB_false hm)
      clear hm
      go_wp2_with (fail)
      go_ret
      exact ⟨ret_bool HB.out.symm, rfl⟩

def HasRelW (l : List Span) (x : Int) (n : Nat) (w : World) (i : Value) (wr : World) : Prop := ∃ k : Nat, k ≤ n ∧ i = .int .i64 k ∧ ¬ mem (l.take k) x ∧ Below w.heap.size w wr

set_option maxHeartbeats 400000 in
theorem has_any (A : Option Addr) (n c : Nat) (l : List Span) (x : Int) (w : World) (h : RS w w.heap.size A n l) (hn : n ≤ 1099511627776) :
    Calls Try.prog 22 #[.slice A n c, .int .i64 x] w (RetB (memB l x) w) := by
  by_cases a3 : x < -1073741824
  · go_enter Try.func22, Try.ntmps22
    go_wp2_with (fail)
    go_ret
    exact ⟨ret_bool (mem_out (fun h => by unfold Rng at h; omega)), Below.refl _ _⟩
  by_cases a4 : 1073741824 < x
  · go_enter Try.func22, Try.ntmps22
    go_wp2_with (fail)
    go_ret
    exact ⟨ret_bool (mem_out (fun h => by unfold Rng at h; omega)), Below.refl _ _⟩
  go_enter Try.func22, Try.ntmps22
  go_wp2_with (fail)
  go_loopw [15] (fun i wr => HasRelW l x n w i wr) (fun i _ => n - (intOf i).toNat)
  case atStart => exact ⟨0, Nat.zero_le _, rfl, by simpa using mem_nil x, Below.refl _ _⟩
  case round =>
    obtain ⟨k, hk, rfl, hp, hb⟩ := hrel
    have HP := Lib.hid hp; clear hp
    by_cases hlt : k < n
    · obtain ⟨b, off, lo, hi, hA, hbB, hlk, hc1, hc2⟩ := (h.below hb).at_ hlt
      have hbs : b < wr.heap.size := by have := hb.size; omega
      have HL := Lib.hid hlk; clear hlk
      subst hA
      by_cases a1 : lo ≤ x
      · by_cases a2 : x ≤ hi
        · go_wp2_with (fail)
          go_ret
          exact ⟨ret_bool (mem_here HL.out ⟨by omega, by omega⟩ (by omega) (by omega)), hb.alloc hb.size _⟩
        · go_wp2_with (fail)
          go_roundw
          case rel => exact ⟨k + 1, by omega, by go_num, mem_on HL.out HP.out (fun _ _ _ => by omega), hb.alloc hb.size _⟩
          case measure => simp [intOf]; omega
      · go_wp2_with (fail)
        go_roundw
        case rel => exact ⟨k + 1, by omega, by go_num, mem_on HL.out HP.out (fun _ _ _ => by omega), hb.alloc hb.size _⟩
        case measure => simp [intOf]; omega
    · have hm : ¬ mem l x := by have := HP.out; rwa [List.take_of_length_le (by have := h.1; omega)] at this
      have HB := Lib.hid (memB_false hm)
      clear hm
      go_wp2_with (fail)
      go_ret
      exact ⟨ret_bool HB.out.symm, hb⟩

theorem span_guardType : Try.prog.eqGuardType Try.prog.depth 60 = false := by kernel_rfl
theorem span_guard (w : World) (op : BinOp) (x y : Operand) (xs ys : Array Value) : (eqGuard op 60 x y (.agg xs) (.agg ys)).run Try.prog w = .ok () w := run_eqGuard_agg w op _ x y xs ys span_guardType
theorem span_eq (w : World) (p q r s : Int) : (Op.equalIn 10000 60 (.agg #[.int .i64 p, .int .i64 q]) (.agg #[.int .i64 r, .int .i64 s])).run Try.prog w = .ok (p == r && q == s) w := by
  have u3 := Try.underlying3
  have a3 := Try.isAgg3
  have z3 := Try.sizeOf3
  have hS : Try.prog.underlying 60 = some (.struct (Try.prog.fieldsOf 60)) := by kernel_rfl
  have hp : Try.prog.stoodInHeld 60 = false := by kernel_rfl
  rw [show (10000 : Nat) = 9999 + 1 from rfl, run_equalIn_agg w 9999 60 _ _ hS hp]
  simp only [Program.fieldsOf, Try.underlying60]
  go_simp
  by_cases h1 : p = r <;> by_cases h2 : q = s <;> simp [h1, h2]
attribute [local go_sem] span_guard span_eq

def SameRel (l r : List Span) (n : Nat) (w : World) (i : Value) (wr : World) : Prop := ∃ k : Nat, k ≤ n ∧ i = .int .i64 k ∧ l.take k = r.take k ∧ Below w.heap.size w wr
theorem same_not {l r : List Span} {k : Nat} {p q : Int × Int} (hk : ∃ hl : k < l.length, l[k] = p) (hk' : ∃ hl : k < r.length, r[k] = q) (h : p ≠ q) : false = decide (l = r) := by
  obtain ⟨hl, e⟩ := hk
  obtain ⟨hr, e'⟩ := hk'
  refine (decide_eq_false fun he => ?_).symm
  subst he
  exact h (e.symm.trans e')
theorem same_next {l r : List Span} {k : Nat} {p q : Int × Int} (hk : ∃ hl : k < l.length, l[k] = p) (hk' : ∃ hl : k < r.length, r[k] = q) (h : p = q) (ht : l.take k = r.take k) : l.take (k + 1) = r.take (k + 1) := by
  obtain ⟨hl, e⟩ := hk
  obtain ⟨hr, e'⟩ := hk'
  rw [List.take_succ_eq_append_getElem hl, List.take_succ_eq_append_getElem hr, ht, e, e', h]

set_option maxHeartbeats 400000 in
theorem same_any (A A' : Option Addr) (n n' c c' : Nat) (l r : List Span) (w : World) (h : RS w w.heap.size A n l) (h' : RS w w.heap.size A' n' r) (hn : n ≤ 1099511627776) (hn' : n' ≤ 1099511627776) :
    Calls Try.prog 16 #[.slice A n c, .slice A' n' c'] w (RetB (decide (l = r)) w) := by
  by_cases e : n = n'
  · subst e
    go_enter Try.func16, Try.ntmps16
    go_wp2_with (fail)
    go_loopw [5] (fun i wr => SameRel l r n w i wr) (fun i _ => n - (intOf i).toNat)
    case atStart => exact ⟨0, Nat.zero_le _, rfl, rfl, Below.refl _ _⟩
    case round =>
      obtain ⟨k, hk, rfl, hp, hb⟩ := hrel
      have HP := Lib.hid hp; clear hp
      by_cases hlt : k < n
      · obtain ⟨b, off, lo, hi, hA, hbB, hlk, hc1, hc2⟩ := (h.below hb).at_ hlt
        obtain ⟨b', off', lo', hi', hA', hbB', hlk', hc1', hc2'⟩ := (h'.below hb).at_ hlt
        have HL := Lib.hid hlk; clear hlk
        have HL' := Lib.hid hlk'; clear hlk'
        subst hA hA'
        by_cases e1 : lo = lo'
        · by_cases e2 : hi = hi'
          · subst e1 e2
            go_wp2_with (fail)
            go_quiet (fail)
            go_wp2_with (fail)
            go_roundw
            case rel => exact ⟨k + 1, by omega, by go_num, same_next HL.out HL'.out rfl HP.out, below_drewN hb _⟩
            case measure => simp [intOf]; omega
          · have hd : (hi == hi') = false := by simpa using e2
            have HD := Lib.hid (show (lo, hi) ≠ (lo', hi') from fun h => e2 (congrArg Prod.snd h))
            clear e2
            go_wp2_with (fail)
            go_quiet (fail)
            go_wp2_with (fail)
            go_ret
            exact ⟨ret_bool (same_not HL.out HL'.out HD.out), below_drewN hb _⟩
        · have hd : (lo == lo') = false := by simpa using e1
          have HD := Lib.hid (show (lo, hi) ≠ (lo', hi') from fun h => e1 (congrArg Prod.fst h))
          clear e1
          go_wp2_with (fail)
          go_quiet (fail)
          go_wp2_with (fail)
          go_ret
          exact ⟨ret_bool (same_not HL.out HL'.out HD.out), below_drewN hb _⟩
      · have hm : l = r := by have := HP.out; rwa [List.take_of_length_le (by have := h.1; omega), List.take_of_length_le (by have := h'.1; omega)] at this
        have HB := Lib.hid (decide_eq_true hm)
        clear hm
        go_wp2_with (fail)
        go_ret
        exact ⟨ret_bool HB.out.symm, hb⟩
  · have hl : ¬ l = r := fun e' => e (by rw [← h.1, ← h'.1, e'])
    have HB := Lib.hid (decide_eq_false hl)
    have hne : ((n : Int) != (n' : Int)) = true := by rw [bne_iff_ne]; omega
    clear hl
    go_enter Try.func16, Try.ntmps16
    go_wp2_with (fail)
    go_ret
    exact ⟨ret_bool HB.out.symm, Below.refl _ _⟩
end Go.Proofs.Ytplpafoflibnlaa.Sp
/- The walk of span.put: it lays what the numbers have of a span behind a list that the caller owns. -/
namespace Go.Proofs.Ytplpafoflibnlaa.Sp
set_option maxRecDepth 100000
open Go Go.RowKit

/-- The call's own slice v holds the spans xs, in a row that lies from block 'base' on. -/
def OwnsL (w : World) (base : Nat) (v : Value) (xs : List Span) : Prop := w.ownsRow base 60 2 v xs.length (flat xs)
theorem infoSpan : (Try.prog.info? 60).map (fun i => (i.zero, i.size, i.bytes)) = some (some (.agg #[.int .i64 0, .int .i64 0]), 2, 16) := by kernel_rfl
theorem cell_two (w : World) (x y : Value) (t : TypeId) : ∀ j u, [x, y][j]? = some u → (w.alloc (.cells #[x, y] t)).cell? ((⟨w.heap.size, 0, none⟩ : Addr).add j) = some u := by
  intro j u hj
  match j, hj with
  | 0, hj => simp at hj; subst hj; simp [Addr.add]
  | 1, hj => simp at hj; subst hj; simp [Addr.add]
  | j + 2, hj => simp at hj
theorem own_ge {w : World} {base : Nat} {v : Value} {xs : List Span} (h : OwnsL w base v xs) : ∀ k, v.ownBlock = some k → base ≤ k := fun k hk => (h.lt k hk).1

def PutOut (w : World) (base : Nat) (xs : List Span) (e : Ending) (w' : World) : Prop := ∃ v', e = .returned v' ∧ OwnsL w' base v' xs ∧ Below base w w'

/-- The same, and which row has turned: v's own, or a new one. -/
def PutS (w : World) (base : Nat) (v : Value) (xs : List Span) (e : Ending) (w' : World) : Prop :=
  ∃ v', e = .returned v' ∧ OwnsL w' base v' xs ∧ w.grownBy w' v.ownBlock ∧ (v'.ownBlock = v.ownBlock ∨ ∃ g, v'.ownBlock = some g ∧ w.heap.size ≤ g)

set_option maxHeartbeats 400000 in
theorem put_strong (base : Nat) (v : Value) (xs : List Span) (lo hi : Int) (w : World) (hown : OwnsL w base v xs) (hbase : base ≤ w.heap.size) (hlen : xs.length ≤ 1099511627776) :
    Calls Try.prog 65 #[v, .int .i64 lo, .int .i64 hi] w (PutS w base v (putL xs lo hi)) := by
  obtain ⟨L, hL⟩ : ∃ L, (if lo < -1073741824 then (-1073741824 : Int) else lo) = L := ⟨_, rfl⟩
  obtain ⟨H, hH⟩ : ∃ H, (if 1073741824 < hi then (1073741824 : Int) else hi) = H := ⟨_, rfl⟩
  have eL : max lo (-1073741824) = L := by rw [← hL]; split <;> omega
  have eH : min hi 1073741824 = H := by rw [← hH]; split <;> omega
  by_cases hc : H < L
  · have HP := Lib.hid (show putL xs lo hi = xs by unfold putL; rw [eL, eH]; exact if_pos hc)
    clear eL eH
    go_enter Try.func65, Try.ntmps65
    go_wp2_with (fail)
    go_ret
    exact ⟨v, rfl, by rw [HP.out]; exact hown, World.grownBy.refl _ _, .inl rfl⟩
  · have HP := Lib.hid (show putL xs lo hi = xs ++ [(L, H)] by unfold putL; rw [eL, eH]; exact if_neg hc)
    clear eL eH
    obtain ⟨i0, hi0, hz0, hz1, hz2⟩ := info_parts infoSpan
    have hown0 := Lib.hid hown
    clear hown
    go_enter Try.func65, Try.ntmps65
    go_wp2_with (at_builtin; go_must (refine wpList_append_own_at _ rfl _ _ 25 rfl base 60 i0 _ 2 16 Try.underlying25 hi0 hz0 hz1 hz2 rfl (by decide) v xs.length (flat xs) rfl (hown0.out.alloc _) ⟨w.heap.size, 0, none⟩ 1 1 [.int .i64 L, .int .i64 H] rfl rfl (cell_two _ _ _ _) ?c2 ?c3 ?c4 ?c5 ?_))
    case c2 => exact ⟨rfl, rfl⟩
    case c3 => simp only [maxLen]; omega
    case c4 => omega
    case c5 => omega
    intro v1 w1 hown1 hg1 _ hat
    have HAT := Lib.hid hat; clear hat
    go_wp2_with (fail)
    go_ret
    refine ⟨v1, rfl, ?_, (World.grownBy_alloc w _ _).trans hg1, ?_⟩
    · rw [HP.out]
      unfold OwnsL
      rw [flat_append, List.length_append]
      exact hown1
    · rcases HAT.out with e | e
      · exact .inl e
      · exact .inr ⟨_, e, by simp⟩
theorem put_any (base : Nat) (v : Value) (xs : List Span) (lo hi : Int) (w : World) (hown : OwnsL w base v xs) (hbase : base ≤ w.heap.size) (hlen : xs.length ≤ 1099511627776) :
    Calls Try.prog 65 #[v, .int .i64 lo, .int .i64 hi] w (PutOut w base (putL xs lo hi)) :=
  (put_strong base v xs lo hi w hown hbase hlen).mono fun _ _ ⟨v', he, ho, hg, _⟩ => ⟨v', he, ho, (Below.refl base w).grown hg hbase (own_ge hown)⟩
end Go.Proofs.Ytplpafoflibnlaa.Sp
/- The walk of span.cut: it lays what a plain list leaves of a span behind another list. -/
namespace Go.Proofs.Ytplpafoflibnlaa.Sp
set_option maxRecDepth 100000
open Go Go.RowKit

theorem ok_at {q : List Span} {k : Nat} {a b : Int} (hq : Plain q) (hk : ∃ hl : k < q.length, q[k] = (a, b)) : a ≤ b ∧ -1073741824 ≤ a ∧ b ≤ 1073741824 := by
  obtain ⟨hl, e⟩ := hk
  have := (hq.at_ hl).1
  rw [e] at this
  exact this

end Go.Proofs.Ytplpafoflibnlaa.Sp
