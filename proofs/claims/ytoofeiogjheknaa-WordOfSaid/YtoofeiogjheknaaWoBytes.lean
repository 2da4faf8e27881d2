/- The walks of word.Raw and word.Bytes: a slice value that reads as a list of bytes. -/
import Derived.Test.YtoofeiogjheknaaWoFun
import Derived.Deep.OwnRows
namespace Go.Proofs.Ytoofeiogjheknaa.Wo
open Go Go.RowKit

/-- The slice value with address A and length n reads as the bytes xs, and lies below block B. -/
def RY (w : World) (B : Nat) (A : Option Addr) (n : Nat) (xs : List Int) : Prop :=
  xs.length = n ∧ (0 < n → ∃ b off, A = some ⟨b, off, none⟩ ∧ b < B ∧ ∀ (j : Nat) (h : j < xs.length), w.cell? ⟨b, off + j, none⟩ = some (.int .u8 xs[j]))
section
variable {w w' : World} {B B' n : Nat} {A : Option Addr} {l : List Int}
theorem RY.nil_ (w : World) (B : Nat) (A : Option Addr) : RY w B A 0 [] := ⟨rfl, fun h => absurd h (by omega)⟩
theorem RY.at_ {k : Nat} (h : RY w B A n l) (hk : k < n) : ∃ b off, ∃ x : Int, A = some ⟨b, off, none⟩ ∧ b < B ∧ (∃ hl : k < l.length, l[k] = x) ∧ w.cell? ⟨b, off + k, none⟩ = some (.int .u8 x) := by
  obtain ⟨b, off, e, hb, hc⟩ := h.2 (by omega)
  have hl : k < l.length := by have := h.1; omega
  exact ⟨b, off, l[k], e, hb, ⟨hl, rfl⟩, hc k hl⟩
theorem RY.keep (h : RY w B A n l) (hk : ∀ p : Addr, p.block < B → w'.cell? p = w.cell? p) : RY w' B A n l :=
  ⟨h.1, fun hn => by
    obtain ⟨b, off, e, hb, hc⟩ := h.2 hn
    exact ⟨b, off, e, hb, fun j hj => (hk _ hb).trans (hc j hj)⟩⟩
theorem RY.more (h : RY w B A n l) (hB : B ≤ B') : RY w B' A n l :=
  ⟨h.1, fun hn => by
    obtain ⟨b, off, e, hb, hc⟩ := h.2 hn
    exact ⟨b, off, e, by omega, hc⟩⟩
theorem RY.below (h : RY w B A n l) (hb : Below B w w') : RY w' B A n l := h.keep fun _ hp => hb.cell hp
theorem RY.belowM (h : RY w w.heap.size A n l) (hb : Below w.heap.size w w') : RY w' w'.heap.size A n l := (h.below hb).more hb.size
end
theorem infoByte : (Try.prog.info? 5).map (fun i => (i.zero, i.size, i.bytes)) = some (some (.int .u8 0), 1, 1) := by kernel_rfl

/-- A row half filled. -/
def mix (f : Int → Value) (l : List Int) (k : Nat) : List Value := (l.take k).map f ++ List.replicate (l.length - k) (f 0)
theorem mix_zero (f : Int → Value) (l : List Int) : mix f l 0 = List.replicate l.length (f 0) := by simp [mix]
theorem mix_all (f : Int → Value) (l : List Int) : mix f l l.length = l.map f := by simp [mix]
theorem mix_set (f : Int → Value) (l : List Int) (k : Nat) (x : Int) (h : ∃ hl : k < l.length, l[k] = x) : (mix f l k).set k (f x) = mix f l (k + 1) := by
  obtain ⟨hl, rfl⟩ := h
  unfold mix
  rw [List.take_succ_eq_append_getElem hl, List.map_append]
  have h1 : ((l.take k).map f).length = k := by simp; omega
  rw [List.set_append_right k _ (by omega), h1, Nat.sub_self, show l.length - k = (l.length - (k + 1)) + 1 from by omega, List.replicate_succ, List.set_cons_zero, List.append_assoc]
  rfl
theorem mix_at (f : Int → Value) (l : List Int) (k : Nat) (h : k < l.length) : (mix f l k)[k]? = some (f 0) := by
  unfold mix
  have h1 : ((l.take k).map f).length = k := by simp; omega
  rw [List.getElem?_append_right (by omega), h1, Nat.sub_self, List.getElem?_replicate, if_pos (by omega)]
def FillRel (e : TypeId) (f : Int → Value) (l : List Int) (w : World) (i : Value) (wr : World) : Prop := ∃ k : Nat, k ≤ l.length ∧ i = .int .i64 k ∧ wr.ownsRow w.heap.size e 1 (.slice (some ⟨w.heap.size, 0, none⟩) l.length l.length) l.length (mix f l k) ∧ Below w.heap.size w wr
theorem fill_start {e : TypeId} {f : Int → Value} {l : List Int} {w w1 : World} (h : w1.ownsRow w.heap.size e 1 (.slice (some ⟨w.heap.size, 0, none⟩) l.length l.length) l.length (madeCells #[f 0] l.length).toList) (hg : w.grownBy w1 none) : FillRel e f l w (.int .i64 0) w1 := by
  refine ⟨0, Nat.zero_le _, rfl, ?_, (Below.refl _ _).grown hg (Nat.le_refl _) (fun k hk => by cases hk)⟩
  rw [mix_zero]
  rw [toList_madeCells_one] at h
  exact h
theorem fill_next {e : TypeId} {f : Int → Value} {l : List Int} {w wr : World} {k : Nat} {x : Int} (ho : wr.ownsRow w.heap.size e 1 (.slice (some ⟨w.heap.size, 0, none⟩) l.length l.length) l.length (mix f l k)) (hb : Below w.heap.size w wr) (hk : ∃ hl : k < l.length, l[k] = x) : FillRel e f l w (.int .i64 (k + 1 : Nat)) (wr.setCell ⟨w.heap.size, k, none⟩ (f x)) := by
  obtain ⟨h1, h2⟩ := ho.stored k (f x)
  refine ⟨k + 1, by obtain ⟨hl, _⟩ := hk; omega, rfl, by rw [← mix_set f l k x hk]; exact h1, hb.grown h2 hb.size (fun j hj => by injection hj with hj; omega)⟩
theorem row_cell {w : World} {base : Nat} {e : TypeId} {g n cap : Nat} {xs : List Value} (h : w.ownsRow base e 1 (.slice (some ⟨g, 0, none⟩) n cap) n xs) (j : Nat) (v : Value) (hj : xs[j]? = some v) : w.cell? ⟨g, j, none⟩ = some v := by
  have hl := h.1
  have : j < xs.length := by
    rcases Nat.lt_or_ge j xs.length with q | q
    · exact q
    · rw [List.getElem?_eq_none q] at hj; cases hj
  rw [h.cellAt j (by omega), hj]
theorem full_RR {w : World} {base : Nat} {g : Nat} {l : List Int} (h : w.ownsRow base 21 1 (.slice (some ⟨g, 0, none⟩) l.length l.length) l.length (l.map (Value.int .i32))) (hg : g < w.heap.size) : RR w w.heap.size (some ⟨g, 0, none⟩) l.length l :=
  ⟨rfl, fun _ => ⟨g, 0, rfl, hg, fun j hj => by rw [Nat.zero_add]; exact row_cell h j _ (by simp [hj])⟩⟩
theorem full_RY {w : World} {base : Nat} {g : Nat} {l : List Int} (h : w.ownsRow base 5 1 (.slice (some ⟨g, 0, none⟩) l.length l.length) l.length (l.map (Value.int .u8))) (hg : g < w.heap.size) : RY w w.heap.size (some ⟨g, 0, none⟩) l.length l :=
  ⟨rfl, fun _ => ⟨g, 0, rfl, hg, fun j hj => by rw [Nat.zero_add]; exact row_cell h j _ (by simp [hj])⟩⟩

def RawOut (l : List Int) (w : World) (e : Ending) (w' : World) : Prop := ∃ A, e = .returned (.slice A l.length l.length) ∧ RR w' w'.heap.size A l.length l ∧ Below w.heap.size w w'
theorem raw_out {l : List Int} {w wr : World} (ho : wr.ownsRow w.heap.size 21 1 (.slice (some ⟨w.heap.size, 0, none⟩) l.length l.length) l.length (mix (Value.int .i32) l l.length)) (hb : Below w.heap.size w wr) : RawOut l w (.returned (.slice (some ⟨w.heap.size, 0, none⟩) l.length l.length)) wr := by
  rw [mix_all] at ho
  refine ⟨_, rfl, full_RR ho ?_, hb⟩
  rcases ho.2 with ⟨h', _⟩ | ⟨g', cap', cur, h', _, hg, _⟩
  · simp at h'
  · simp only [Value.slice.injEq, Option.some.injEq, Addr.mk.injEq, and_true, true_and] at h'
    obtain ⟨rfl, rfl⟩ := h'
    exact (Array.getElem?_eq_some_iff.1 hg).1
set_option maxHeartbeats 1000000 in
theorem raw_any (A : Option Addr) (c : Nat) (l : List Int) (w : World) (h : RY w w.heap.size A l.length l) (hn : l.length ≤ 1099511627776) (hx : ∀ x ∈ l, 0 ≤ x ∧ x ≤ 255) :
    Calls Try.prog 16 #[.slice A l.length c] w (RawOut l w) := by
  obtain ⟨i0, hi0, hz0, hz1, hz2⟩ := info_parts infoRune
  go_enter Try.func16, Try.ntmps16
  go_wp2_with (at_make; go_must (refine wpList_make_full _ rfl _ _ 22 rfl w.heap.size 21 i0 (.int .i32 0) 1 Try.underlying22 hi0 hz0 hz1 _ _ _ _ l.length rfl rfl rfl rfl ?b1 ?b2 ?b3 ?_))
  case b1 => rw [hz2]; omega
  case b2 => simp only [maxLen]; omega
  case b3 => exact Nat.le_refl _
  intro w1 ho1 hg1
  have hst := Lib.hid (fill_start (f := Value.int .i32) (l := l) ho1 hg1)
  clear ho1 hg1
  go_wp2_with (fail)
  go_loopw [11] (fun i wr => FillRel 21 (Value.int .i32) l w i wr) (fun i _ => l.length - (intOf i).toNat)
  case atStart => exact hst.out
  case round =>
    obtain ⟨k, hk, rfl, ho, hb⟩ := hrel
    have HO := Lib.hid ho
    by_cases hlt : k < l.length
    · obtain ⟨b, off, x, hA, hbB, hlk, hc1⟩ := (h.below hb).at_ hlt
      have hxr : 0 ≤ x ∧ x ≤ 255 := by obtain ⟨hl, e⟩ := hlk; rw [← e]; exact hx _ (List.getElem_mem hl)
      have HL := Lib.hid hlk; clear hlk hx
      subst hA
      have hfz := ho.frozenAt k
      have hcl := row_cell ho k _ (mix_at (Value.int .i32) l k hlt)
      have HB := Lib.hid hb
      clear hb ho hst h
      go_wp2_with (fail)
      go_roundw
      case rel =>
        obtain ⟨k', g1, g2, g3, g4⟩ := fill_next HO.out HB.out HL.out
        exact ⟨k', g1, by rw [← g2]; go_num, g3, g4⟩
      case measure => simp [intOf]; omega
    · have e : k = l.length := by omega
      subst e
      go_wp2_with (fail)
      go_ret
      exact raw_out HO.out hb

def BytesOut (l : List Int) (w : World) (e : Ending) (w' : World) : Prop := ∃ A, e = .returned (.tuple #[.slice A l.length l.length, .bool true]) ∧ RY w' w'.heap.size A l.length l ∧ Below w.heap.size w w'
def BytesNot (w : World) (e : Ending) (w' : World) : Prop := e = .returned (.tuple #[.slice none 0 0, .bool false]) ∧ w = w'
theorem bytes_out {l : List Int} {w wr : World} (ho : wr.ownsRow w.heap.size 5 1 (.slice (some ⟨w.heap.size, 0, none⟩) l.length l.length) l.length (mix (Value.int .u8) l l.length)) (hb : Below w.heap.size w wr) : BytesOut l w (.returned (.tuple #[.slice (some ⟨w.heap.size, 0, none⟩) l.length l.length, .bool true])) wr := by
  rw [mix_all] at ho
  refine ⟨_, rfl, full_RY ho ?_, hb⟩
  rcases ho.2 with ⟨h', _⟩ | ⟨g', cap', cur, h', _, hg, _⟩
  · simp at h'
  · simp only [Value.slice.injEq, Option.some.injEq, Addr.mk.injEq, and_true, true_and] at h'
    obtain ⟨rfl, rfl⟩ := h'
    exact (Array.getElem?_eq_some_iff.1 hg).1
theorem fits_bytes {l : List Int} (h : fitsS 1 l = true) : ∀ x ∈ l, 0 ≤ x ∧ x ≤ 255 := fun x hx => by
  have := List.all_eq_true.1 h x hx
  simpa [inS] using this
theorem bytes_fits {l : List Int} (h : ∀ x ∈ l, 0 ≤ x ∧ x ≤ 255) : fitsS 1 l = true := List.all_eq_true.2 fun x hx => by
  have := h x hx
  simp [inS]; omega
set_option maxHeartbeats 1000000 in
theorem bytes_not (A : Option Addr) (c : Nat) (l : List Int) (w : World) (h : RR w w.heap.size A l.length l) (hn : l.length ≤ 1099511627776) (hf : fitsS 1 l = false) :
    Calls Try.prog 17 #[.slice A l.length c] w (BytesNot w) := by
  have HF := Lib.hid (fits_any 1 A l.length c l w h hn)
  rw [hf] at HF
  go_enter Try.func17, Try.ntmps17
  go_wp2_with (fail)
  refine HF.out.mono ?_
  rintro e w1 ⟨rfl, rfl⟩
  go_wp2_with (fail)
  go_ret2
  exact ⟨rfl, rfl⟩
set_option maxHeartbeats 1000000 in
theorem bytes_any (A : Option Addr) (c : Nat) (l : List Int) (w : World) (h : RR w w.heap.size A l.length l) (hn : l.length ≤ 1099511627776) (hf : fitsS 1 l = true) :
    Calls Try.prog 17 #[.slice A l.length c] w (BytesOut l w) := by
  have hx := fits_bytes hf
  have HF := Lib.hid (fits_any 1 A l.length c l w h hn)
  rw [hf] at HF
  clear hf
  obtain ⟨i0, hi0, hz0, hz1, hz2⟩ := info_parts infoByte
  go_enter Try.func17, Try.ntmps17
  go_wp2_with (fail)
  refine HF.out.mono ?_
  rintro e w1 ⟨rfl, rfl⟩
  go_wp2_with (at_make; go_must (refine wpList_make_full _ rfl _ _ 26 rfl w.heap.size 5 i0 (.int .u8 0) 1 Try.underlying26 hi0 hz0 hz1 _ _ _ _ l.length rfl rfl rfl rfl ?b1 ?b2 ?b3 ?_))
  case b1 => rw [hz2]; omega
  case b2 => simp only [maxLen]; omega
  case b3 => exact Nat.le_refl _
  intro w1 ho1 hg1
  have hst := Lib.hid (fill_start (f := Value.int .u8) (l := l) ho1 hg1)
  clear ho1 hg1
  go_wp2_with (fail)
  go_loopw [15] (fun i wr => FillRel 5 (Value.int .u8) l w i wr) (fun i _ => l.length - (intOf i).toNat)
  case atStart => exact hst.out
  case round =>
    obtain ⟨k, hk, rfl, ho, hb⟩ := hrel
    have HO := Lib.hid ho
    by_cases hlt : k < l.length
    · obtain ⟨b, off, x, hA, hbB, hlk, hc1⟩ := (h.below hb).at_ hlt
      have hxr : 0 ≤ x ∧ x ≤ 255 := by obtain ⟨hl, e⟩ := hlk; rw [← e]; exact hx _ (List.getElem_mem hl)
      have HL := Lib.hid hlk; clear hlk hx
      subst hA
      have hfz := ho.frozenAt k
      have hcl := row_cell ho k _ (mix_at (Value.int .u8) l k hlt)
      have HB := Lib.hid hb
      clear hb ho hst h HF
      go_wp2_with (fail)
      go_roundw
      case rel =>
        obtain ⟨k', g1, g2, g3, g4⟩ := fill_next HO.out HB.out HL.out
        exact ⟨k', g1, by rw [← g2]; go_num, g3, g4⟩
      case measure => simp [intOf]; omega
    · have e : k = l.length := by omega
      subst e
      go_wp2_with (fail)
      go_ret2
      exact bytes_out HO.out hb
end Go.Proofs.Ytoofeiogjheknaa.Wo
