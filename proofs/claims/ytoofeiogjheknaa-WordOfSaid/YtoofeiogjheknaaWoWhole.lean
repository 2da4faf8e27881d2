/- The walk of the statements' helper whole, where a byte stands alone. -/
import Derived.Test.YtoofeiogjheknaaWoText
import Derived.RegionTactic
import Derived.BigRegion
import Derived.Deep.RegionWith
namespace Go.Proofs.Ytoofeiogjheknaa.Wo
open Go Go.RowKit

theorem drop_ne {s : ByteArray} {pos : Nat} (hp : pos < s.size) : s.data.toList.drop pos ≠ [] := by
  intro e
  have := List.drop_eq_nil_iff.1 e
  rw [Lib.size_eq] at hp
  omega
/-- What stands at a place, if it is a scalar's bytes, is decoded to it. -/
theorem stands {s : ByteArray} {pos n : Nat} {y : Int} (hn : 1 ≤ n) (hp : pos + n ≤ s.size) (h : encS y = s.extract pos (pos + n)) : inS 2 y = true ∧ Utf8.decode s pos = (y.toNat, n) := by
  have hd : encU y = (s.data.toList.drop pos).take n := by
    have := congrArg (fun t : ByteArray => t.data.toList) h
    simp only [encS_data] at this
    rw [this, ByteArray.data_extract, Array.toList_extract, List.extract_eq_take_drop, Nat.add_sub_cancel_left]
  have hl : ((s.data.toList.drop pos).take n).length = n := by
    rw [List.length_take, List.length_drop, ← Lib.size_eq]; omega
  have hy : inS 2 y = true := by
    cases hq : inS 2 y
    · have : encU y = [] := by unfold encU; rw [encB_not hq]; rfl
      rw [← hd, this] at hl
      simp at hl; omega
    · rfl
  refine ⟨hy, ?_⟩
  have := dec_enc hy ((s.data.toList.drop pos).drop n)
  rw [hd, List.take_append_drop, Lib.decodeL_drop, hl] at this
  exact this
/-- What was decoded stands there, but for a byte alone. -/
theorem stood {s : ByteArray} {pos : Nat} (hp : pos < s.size) (hv : ¬ ((Utf8.decode s pos).1 = 65533 ∧ (Utf8.decode s pos).2 = 1)) : encS ((Utf8.decode s pos).1 : Int) = s.extract pos (pos + (Utf8.decode s pos).2) ∧ (encB ((Utf8.decode s pos).1 : Int)).length = (Utf8.decode s pos).2 ∧ pos + (Utf8.decode s pos).2 ≤ s.size := by
  have h := enc_dec (s.data.toList.drop pos) (drop_ne hp) (by rw [Lib.decodeL_drop]; exact hv)
  have hw := Lib.decodeL_le (s.data.toList.drop pos) (drop_ne hp)
  rw [Lib.decodeL_drop] at h hw
  rw [List.length_drop, ← Lib.size_eq] at hw
  refine ⟨?_, ?_, by omega⟩
  · apply ByteArray.ext
    apply Array.toList_inj.1
    rw [encS_data, h, ByteArray.data_extract, Array.toList_extract, List.extract_eq_take_drop, Nat.add_sub_cancel_left]
  · rw [← encU_len, h, List.length_take, List.length_drop, ← Lib.size_eq]; omega
theorem alone_none {s : ByteArray} {pos : Nat} (hd : Utf8.decode s pos = (65533, 1)) (n : Nat) (hn : 2 ≤ n) (hp : pos + n ≤ s.size) (y : Int) : ((strOfNums (encB y)).toList == (s.extract pos (pos + n)).toList) = false := by
  rw [beq_eq_false_iff_ne, ByteArray.toList_eq, ByteArray.toList_eq]
  intro e
  have h := (stands (y := y) (by omega) hp (ByteArray.ext (Array.toList_inj.1 e))).2
  rw [hd] at h
  injection h with _ h
  omega
theorem alone_high {s : ByteArray} {pos : Nat} (hp : pos < s.size) (hd : Utf8.decode s pos = (65533, 1)) : 128 ≤ (s[pos]'hp).toNat := by
  rcases Nat.lt_or_ge (s[pos]'hp).toNat 128 with q | q
  · rw [decode_ascii s pos hp q] at hd
    injection hd with h _
    omega
  · exact q

theorem below_of_drew {a b : World} (h : Below a.drew.heap.size a.drew b) : Below a.heap.size a b := ⟨h.os, h.tape, h.output, h.size, h.block⟩
def ReadRel (w : World) (n : Nat) (x i : Value) (wr : World) : Prop := ∃ (k : Nat) (y : Int), 1 ≤ k ∧ k ≤ n ∧ i = .int .i64 k ∧ x = .int .i64 y ∧ wr = w
set_option maxRecDepth 100000 in
set_option maxHeartbeats 4000000 in
theorem whole_no (s : ByteArray) (pos : Nat) (w : World) (hs : s.size ≤ 2000) (hp : pos < s.size) (hd : Utf8.decode s pos = (65533, 1)) :
    Calls Try.prog 15 #[.string s, .int .i64 pos] w (RetB false w) := by
  have hc := alone_high hp hd
  have hc2 : (s[pos]'hp).toNat < 256 := (s[pos]'hp).toNat_lt
  have HN := Lib.hid (fun n h1 h2 y => alone_none hd n h1 h2 y)
  obtain ⟨c, hcc⟩ : ∃ c : Nat, (s[pos]'hp).toNat = c := ⟨_, rfl⟩
  have hix : ∀ W : World, (Instr.index 9 (.string s) (.int .i64 (pos : Int))).run Try.prog W = .ok (.int .u8 (c : Int)) W := fun W => by
    rw [run_index_string W 9 s .i64 pos Try.underlying9, dif_pos ⟨by omega, by omega⟩]
    simp only [Int.toNat_natCast]
    rw [hcc]
  rw [hcc] at hc hc2
  clear hcc hd
  have d1 : decide ((c : Int) < 128) = false := by simp; omega
  by_cases q1 : c < 192
  · go_enter Try.func15, Try.ntmps15
    go_wp2_with (fail)
    go_ret
    exact ⟨rfl, Below.refl _ _⟩
  by_cases q4 : 248 ≤ c
  · go_enter Try.func15, Try.ntmps15
    go_wp2_with (fail)
    go_ret
    exact ⟨rfl, Below.refl _ _⟩
  by_cases q2 : c < 224
  · by_cases hf : s.size < pos + 2
    · go_enter Try.func15, Try.ntmps15
      go_wp2_with (fail)
      go_ret
      exact ⟨rfl, Below.refl _ _⟩
    · have e0 : decide ((192 : Int) ≤ (c : Int)) = true := by simp; omega
      have e1 : decide ((c : Int) < 224) = true := by simp; omega
      go_enter Try.func15, Try.ntmps15
      go_wp2_with (fail)
      go_loopw [7, 8] (fun x i wr => ReadRel w 2 x i wr) (fun _ i _ => 2 - (intOf i).toNat)
      case atStart => exact ⟨1, _, by omega, by omega, rfl, rfl, rfl⟩
      case round =>
        obtain ⟨k, y, hk1, hk2, rfl, rfl, rfl⟩ := hrel
        by_cases hlt : k < 2
        · go_wp2_with (fail)
          go_roundw
          case rel => exact ⟨k + 1, _, by omega, by omega, by go_num, rfl, rfl⟩
          case measure => simp [intOf]; omega
        · have e : k = 2 := by omega
          subst e
          go_wp2_with (fail)
          obtain ⟨z, hz⟩ : ∃ z, IntKind.i32.wrap y = z := ⟨_, rfl⟩
          have hz2 : wrap32 y = z := by rw [← hz, IntKind.wrap_i32]; unfold wrap32; omega
          have HNz := HN.out 2 (by omega) (by omega) z
          have hwr : IntKind.i64.wrap ((pos : Int) + 2) = (pos : Int) + 2 := by simp [IntKind.wrap, IntKind.signed, IntKind.bits]; omega
          have hb1 : (0 : Int) ≤ (pos : Int) + 2 := by omega
          have hb2 : (pos : Int) + 2 ≤ (s.size : Int) := by omega
          have hb3 : ((pos : Int) + 2).toNat = pos + 2 := by omega
          go_region_with (go_at_call 12; refine (rbytes_any _ _).mono ?_; rintro e w2 ⟨A2, c2, rfl, hr2, hb2⟩; have hcv := conv_bytes (c := c2) hr2; have hb9 := below_of_drew hb2; clear hr2 hb2)
          all_goals
            go_wp2_with (fail)
            go_ret
            exact ⟨rfl, by assumption⟩
  by_cases q3 : c < 240
  · by_cases hf : s.size < pos + 3
    · go_enter Try.func15, Try.ntmps15
      go_wp2_with (fail)
      go_ret
      exact ⟨rfl, Below.refl _ _⟩
    · have e0 : decide ((192 : Int) ≤ (c : Int)) = true := by simp; omega
      have e1 : decide ((c : Int) < 224) = false := by simp; omega
      have e2 : decide ((224 : Int) ≤ (c : Int)) = true := by simp; omega
      have e3 : decide ((c : Int) < 240) = true := by simp; omega
      go_enter Try.func15, Try.ntmps15
      go_wp2_with (fail)
      go_loopw [7, 8] (fun x i wr => ReadRel w 3 x i wr) (fun _ i _ => 3 - (intOf i).toNat)
      case atStart => exact ⟨1, _, by omega, by omega, rfl, rfl, rfl⟩
      case round =>
        obtain ⟨k, y, hk1, hk2, rfl, rfl, rfl⟩ := hrel
        by_cases hlt : k < 3
        · go_wp2_with (fail)
          go_roundw
          case rel => exact ⟨k + 1, _, by omega, by omega, by go_num, rfl, rfl⟩
          case measure => simp [intOf]; omega
        · have e : k = 3 := by omega
          subst e
          go_wp2_with (fail)
          obtain ⟨z, hz⟩ : ∃ z, IntKind.i32.wrap y = z := ⟨_, rfl⟩
          have hz2 : wrap32 y = z := by rw [← hz, IntKind.wrap_i32]; unfold wrap32; omega
          have HNz := HN.out 3 (by omega) (by omega) z
          have hwr : IntKind.i64.wrap ((pos : Int) + 3) = (pos : Int) + 3 := by simp [IntKind.wrap, IntKind.signed, IntKind.bits]; omega
          have hb1 : (0 : Int) ≤ (pos : Int) + 3 := by omega
          have hb2 : (pos : Int) + 3 ≤ (s.size : Int) := by omega
          have hb3 : ((pos : Int) + 3).toNat = pos + 3 := by omega
          go_region_with (go_at_call 12; refine (rbytes_any _ _).mono ?_; rintro e w2 ⟨A2, c2, rfl, hr2, hb2⟩; have hcv := conv_bytes (c := c2) hr2; have hb9 := below_of_drew hb2; clear hr2 hb2)
          all_goals
            go_wp2_with (fail)
            go_ret
            exact ⟨rfl, by assumption⟩
  · by_cases hf : s.size < pos + 4
    · go_enter Try.func15, Try.ntmps15
      go_wp2_with (fail)
      go_ret
      exact ⟨rfl, Below.refl _ _⟩
    · have e0 : decide ((192 : Int) ≤ (c : Int)) = true := by simp; omega
      have e1 : decide ((c : Int) < 224) = false := by simp; omega
      have e2 : decide ((224 : Int) ≤ (c : Int)) = true := by simp; omega
      have e3 : decide ((c : Int) < 240) = false := by simp; omega
      have e4 : decide ((240 : Int) ≤ (c : Int)) = true := by simp; omega
      have e5 : decide ((c : Int) < 248) = true := by simp; omega
      go_enter Try.func15, Try.ntmps15
      go_wp2_with (fail)
      go_loopw [7, 8] (fun x i wr => ReadRel w 4 x i wr) (fun _ i _ => 4 - (intOf i).toNat)
      case atStart => exact ⟨1, _, by omega, by omega, rfl, rfl, rfl⟩
      case round =>
        obtain ⟨k, y, hk1, hk2, rfl, rfl, rfl⟩ := hrel
        by_cases hlt : k < 4
        · go_wp2_with (fail)
          go_roundw
          case rel => exact ⟨k + 1, _, by omega, by omega, by go_num, rfl, rfl⟩
          case measure => simp [intOf]; omega
        · have e : k = 4 := by omega
          subst e
          go_wp2_with (fail)
          obtain ⟨z, hz⟩ : ∃ z, IntKind.i32.wrap y = z := ⟨_, rfl⟩
          have hz2 : wrap32 y = z := by rw [← hz, IntKind.wrap_i32]; unfold wrap32; omega
          have HNz := HN.out 4 (by omega) (by omega) z
          have hwr : IntKind.i64.wrap ((pos : Int) + 4) = (pos : Int) + 4 := by simp [IntKind.wrap, IntKind.signed, IntKind.bits]; omega
          have hb1 : (0 : Int) ≤ (pos : Int) + 4 := by omega
          have hb2 : (pos : Int) + 4 ≤ (s.size : Int) := by omega
          have hb3 : ((pos : Int) + 4).toNat = pos + 4 := by omega
          go_region_with (go_at_call 12; refine (rbytes_any _ _).mono ?_; rintro e w2 ⟨A2, c2, rfl, hr2, hb2⟩; have hcv := conv_bytes (c := c2) hr2; have hb9 := below_of_drew hb2; clear hr2 hb2)
          all_goals
            go_wp2_with (fail)
            go_ret
            exact ⟨rfl, by assumption⟩
end Go.Proofs.Ytoofeiogjheknaa.Wo
