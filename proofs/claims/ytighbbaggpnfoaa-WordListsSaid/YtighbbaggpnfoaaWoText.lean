/- The walks of word.Text, ref.Bytes and ref.Same. -/
import Derived.Test.YtighbbaggpnfoaaWoBytes
import Derived.Test.YtighbbaggpnfoaaWoUtf
namespace Go.Proofs.Ytighbbaggpnfoaa.Wo
set_option maxRecDepth 100000
open Go Go.RowKit

/-- string(w) of a slice value that reads as symbols. -/
theorem conv_runes {w : World} {B : Nat} {A : Option Addr} {n c : Nat} {l : List Int} (h : RR w B A n l) : (convert 24 9 (.slice A n c)).run Try.prog w = .ok (.string (runesBytes l)) w := by
  obtain ⟨h1, h2⟩ := h
  by_cases hn : 0 < n
  · obtain ⟨b, off, rfl, _, hc⟩ := h2 hn
    have := run_convert_runes (P := Try.prog) w 24 9 21 ⟨b, off, none⟩ n c l (by omega) Try.underlying24 Try.underlying21 Try.underlying9 (fun i hi => by
      have hplain : (⟨b, off, none⟩ : Addr).add i = ⟨b, off + i, none⟩ := by unfold Addr.add; split <;> simp_all
      rw [hplain, hc i hi, List.getD_eq_getElem?_getD, List.getElem?_eq_getElem hi]
      rfl)
    rw [List.take_of_length_le (by omega)] at this
    exact this
  · have : l = [] := List.eq_nil_of_length_eq_zero (by omega)
    subst this
    have : n = 0 := by omega
    subst this
    rw [run_convert_runes_string w 24 9 21 A 0 c Try.underlying24 Try.underlying21 Try.underlying9]
    cases A with
    | none => rfl
    | some a =>
      rw [run_runesToString w a 0 c [] (by have := run_loadCells_list (P := Try.prog) w a [] (fun j v hj => by simp at hj); simpa using this)]

/-- What word.Text answers. -/
def textB (l : List Int) : ByteArray := if fitsS 2 l = true then textS l else ByteArray.empty
def TextOut (l : List Int) (w : World) (e : Ending) (w' : World) : Prop := e = .returned (.tuple #[.string (textB l), .bool (fitsS 2 l)]) ∧ w = w'
def ScalarOut (x : Int) (w : World) (e : Ending) (w' : World) : Prop := ∃ A c, e = .returned (.slice A (encB x).length c) ∧ RY w' w'.heap.size A (encB x).length (encB x) ∧ Below w.heap.size w w'
theorem new_RY {w : World} (l : List Int) (n : Nat) (hn : l.length = n) {o : Array Value} (ho : o = (l.map (Value.int .u8)).toArray) : RY (w.alloc (.cells o 5)) (w.alloc (.cells o 5)).heap.size (some ⟨w.heap.size, 0, none⟩) n l := by
  subst ho
  refine ⟨hn, fun _ => ⟨w.heap.size, 0, rfl, by simp, fun j hj => ?_⟩⟩
  rw [Nat.zero_add]
  rw [cell_of_row _ w.heap.size j _ 5 (0, 0) (heap_alloc_new w _)]
  simp [hj]
def SameRel (l r : List Int) (w : World) (i : Value) (wr : World) : Prop := ∃ k : Nat, k ≤ l.length ∧ i = .int .i64 k ∧ l.take k = r.take k ∧ Below w.heap.size w wr
theorem same_not {l r : List Int} {k : Nat} {p q : Int} (hk : ∃ hl : k < l.length, l[k] = p) (hk' : ∃ hl : k < r.length, r[k] = q) (h : p ≠ q) : false = decide (l = r) := by
  obtain ⟨hl, rfl⟩ := hk
  obtain ⟨hr, rfl⟩ := hk'
  refine (decide_eq_false fun e => h ?_).symm
  subst e
  rfl
theorem same_next {l r : List Int} {k : Nat} {p : Int} (hk : ∃ hl : k < l.length, l[k] = p) (hk' : ∃ hl : k < r.length, r[k] = p) (hp : l.take k = r.take k) : l.take (k + 1) = r.take (k + 1) := by
  obtain ⟨hl, e⟩ := hk
  obtain ⟨hr, e'⟩ := hk'
  rw [List.take_succ_eq_append_getElem hl, List.take_succ_eq_append_getElem hr, hp, e, e']
set_option maxHeartbeats 1000000 in
theorem wsame_any (A A' : Option Addr) (c c' : Nat) (l r : List Int) (w : World) (h : RR w w.heap.size A l.length l) (h' : RR w w.heap.size A' r.length r) (hn : l.length ≤ 1099511627776) (_hn' : r.length ≤ 1099511627776) :
    Calls Try.prog 12 #[.slice A l.length c, .slice A' r.length c'] w (RetB (decide (l = r)) w) := by
  by_cases e : l.length = r.length
  · go_enter Try.func12, Try.ntmps12
    have hne : ((l.length : Int) != (r.length : Int)) = false := by rw [e]; simp
    go_wp2_with (fail)
    go_loopw [5] (fun i wr => SameRel l r w i wr) (fun i _ => l.length - (intOf i).toNat)
    case atStart => exact ⟨0, Nat.zero_le _, rfl, rfl, Below.refl _ _⟩
    case round =>
      obtain ⟨k, hk, rfl, hp, hb⟩ := hrel
      have HP := Lib.hid hp; clear hp
      by_cases hlt : k < l.length
      · obtain ⟨b, off, x, hA, hbB, hlk, hc1⟩ := (h.below hb).at_ hlt
        obtain ⟨b', off', y, hA', hbB', hlk', hc1'⟩ := (h'.below hb).at_ (show k < r.length by omega)
        have HL := Lib.hid hlk
        have HL' := Lib.hid hlk'
        have HE := Lib.hid e
        have hlr : k < r.length := by omega
        clear hlk hlk' e hne
        rw [hA, hA']
        clear hA hA'
        by_cases q : x = y
        · subst q
          have d3 : (x != x) = false := by simp
          go_wp2_with (fail)
          go_quiet (fail)
          go_wp2_with (fail)
          go_roundw
          case rel => exact ⟨k + 1, by omega, by go_num, same_next HL.out HL'.out HP.out, below_drewN hb _⟩
          case measure => simp [intOf]; omega
        · have d3 : (x != y) = true := by simpa using q
          have HD := Lib.hid q
          clear q
          go_wp2_with (fail)
          go_quiet (fail)
          go_wp2_with (fail)
          go_ret
          exact ⟨ret_bool (same_not HL.out HL'.out HD.out), below_drewN hb _⟩
      · have hm : l = r := by have := HP.out; rwa [List.take_of_length_le (by omega), List.take_of_length_le (by omega)] at this
        have HB := Lib.hid (decide_eq_true hm)
        clear hm
        go_wp2_with (fail)
        go_ret
        exact ⟨ret_bool HB.out.symm, hb⟩
  · have hl : ¬ l = r := fun e' => e (by rw [e'])
    have HB := Lib.hid (decide_eq_false hl)
    have hne : ((l.length : Int) != (r.length : Int)) = true := by rw [bne_iff_ne]; omega
    clear hl
    go_enter Try.func12, Try.ntmps12
    go_wp2_with (fail)
    go_ret
    exact ⟨ret_bool HB.out.symm, Below.refl _ _⟩
end Go.Proofs.Ytighbbaggpnfoaa.Wo
