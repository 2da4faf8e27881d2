/- The walks of word.Raw and word.Bytes: a slice value that reads as a list of bytes. -/
import Derived.Test.YtgmkchkaceciiaaWoFun
import Derived.Deep.OwnRows
namespace Go.Proofs.Ytgmkchkaceciiaa.Wo
set_option maxRecDepth 100000
open Go Go.RowKit

/-- The slice value with address A and length n reads as the bytes xs, and lies below block B. -/
def RY (w : World) (B : Nat) (A : Option Addr) (n : Nat) (xs : List Int) : Prop :=
  xs.length = n ∧ (0 < n → ∃ b off, A = some ⟨b, off, none⟩ ∧ b < B ∧ ∀ (j : Nat) (h : j < xs.length), w.cell? ⟨b, off + j, none⟩ = some (.int .u8 xs[j]))
section
variable {w w' : World} {B B' n : Nat} {A : Option Addr} {l : List Int}
theorem RY.nil_ (w : World) (B : Nat) (A : Option Addr) : RY w B A 0 [] := ⟨rfl, fun h => absurd h (by omega)⟩
theorem RY.at_ {k : Nat} (h : RY w B A n l) (hk : k < n) : ∃ b off, ∃ x : Int, A = some ⟨b, off, none⟩ ∧ b < B ∧ (∃ hl : k < l.length, l[k] = x) ∧ w.cell? ⟨b, off + k, none⟩ = some (.int .u8 x) := by
  obtain ⟨b, off, e, hb, hc⟩ := h.2 (by omega)
  have hl : k < l.length := by have := h.1; omega
  exact ⟨b, off, l[k], e, hb, ⟨hl, rfl⟩, hc k hl⟩
theorem RY.keep (h : RY w B A n l) (hk : ∀ p : Addr, p.block < B → w'.cell? p = w.cell? p) : RY w' B A n l :=
  ⟨h.1, fun hn => by
    obtain ⟨b, off, e, hb, hc⟩ := h.2 hn
    exact ⟨b, off, e, hb, fun j hj => (hk _ hb).trans (hc j hj)⟩⟩
theorem RY.more (h : RY w B A n l) (hB : B ≤ B') : RY w B' A n l :=
  ⟨h.1, fun hn => by
    obtain ⟨b, off, e, hb, hc⟩ := h.2 hn
    exact ⟨b, off, e, by omega, hc⟩⟩
theorem RY.below (h : RY w B A n l) (hb : Below B w w') : RY w' B A n l := h.keep fun _ hp => hb.cell hp
theorem RY.belowM (h : RY w w.heap.size A n l) (hb : Below w.heap.size w w') : RY w' w'.heap.size A n l := (h.below hb).more hb.size
end
theorem infoByte : (Try.prog.info? 5).map (fun i => (i.zero, i.size, i.bytes)) = some (some (.int .u8 0), 1, 1) := by kernel_rfl

/-- A row half filled. -/
def mix (f : Int → Value) (l : List Int) (k : Nat) : List Value := (l.take k).map f ++ List.replicate (l.length - k) (f 0)
theorem mix_zero (f : Int → Value) (l : List Int) : mix f l 0 = List.replicate l.length (f 0) := by simp [mix]
theorem mix_all (f : Int → Value) (l : List Int) : mix f l l.length = l.map f := by simp [mix]
theorem mix_set (f : Int → Value) (l : List Int) (k : Nat) (x : Int) (h : ∃ hl : k < l.length, l[k] = x) : (mix f l k).set k (f x) = mix f l (k + 1) := by
  obtain ⟨hl, rfl⟩ := h
  unfold mix
  rw [List.take_succ_eq_append_getElem hl, List.map_append]
  have h1 : ((l.take k).map f).length = k := by simp; omega
  rw [List.set_append_right k _ (by omega), h1, Nat.sub_self, show l.length - k = (l.length - (k + 1)) + 1 from by omega, List.replicate_succ, List.set_cons_zero, List.append_assoc]
  rfl
theorem mix_at (f : Int → Value) (l : List Int) (k : Nat) (h : k < l.length) : (mix f l k)[k]? = some (f 0) := by
  unfold mix
  have h1 : ((l.take k).map f).length = k := by simp; omega
  rw [List.getElem?_append_right (by omega), h1, Nat.sub_self, List.getElem?_replicate, if_pos (by omega)]
def FillRel (e : TypeId) (f : Int → Value) (l : List Int) (w : World) (i : Value) (wr : World) : Prop := ∃ k : Nat, k ≤ l.length ∧ i = .int .i64 k ∧ wr.ownsRow w.heap.size e 1 (.slice (some ⟨w.heap.size, 0, none⟩) l.length l.length) l.length (mix f l k) ∧ Below w.heap.size w wr
theorem fill_start {e : TypeId} {f : Int → Value} {l : List Int} {w w1 : World} (h : w1.ownsRow w.heap.size e 1 (.slice (some ⟨w.heap.size, 0, none⟩) l.length l.length) l.length (madeCells #[f 0] l.length).toList) (hg : w.grownBy w1 none) : FillRel e f l w (.int .i64 0) w1 := by
  refine ⟨0, Nat.zero_le _, rfl, ?_, (Below.refl _ _).grown hg (Nat.le_refl _) (fun k hk => by cases hk)⟩
  rw [mix_zero]
  rw [toList_madeCells_one] at h
  exact h
theorem fill_next {e : TypeId} {f : Int → Value} {l : List Int} {w wr : World} {k : Nat} {x : Int} (ho : wr.ownsRow w.heap.size e 1 (.slice (some ⟨w.heap.size, 0, none⟩) l.length l.length) l.length (mix f l k)) (hb : Below w.heap.size w wr) (hk : ∃ hl : k < l.length, l[k] = x) : FillRel e f l w (.int .i64 (k + 1 : Nat)) (wr.setCell ⟨w.heap.size, k, none⟩ (f x)) := by
  obtain ⟨h1, h2⟩ := ho.stored k (f x)
  refine ⟨k + 1, by obtain ⟨hl, _⟩ := hk; omega, rfl, by rw [← mix_set f l k x hk]; exact h1, hb.grown h2 hb.size (fun j hj => by injection hj with hj; omega)⟩
theorem row_cell {w : World} {base : Nat} {e : TypeId} {g n cap : Nat} {xs : List Value} (h : w.ownsRow base e 1 (.slice (some ⟨g, 0, none⟩) n cap) n xs) (j : Nat) (v : Value) (hj : xs[j]? = some v) : w.cell? ⟨g, j, none⟩ = some v := by
  have hl := h.1
  have : j < xs.length := by
    rcases Nat.lt_or_ge j xs.length with q | q
    · exact q
    · rw [List.getElem?_eq_none q] at hj; cases hj
  rw [h.cellAt j (by omega), hj]
theorem full_RR {w : World} {base : Nat} {g : Nat} {l : List Int} (h : w.ownsRow base 21 1 (.slice (some ⟨g, 0, none⟩) l.length l.length) l.length (l.map (Value.int .i32))) (hg : g < w.heap.size) : RR w w.heap.size (some ⟨g, 0, none⟩) l.length l :=
  ⟨rfl, fun _ => ⟨g, 0, rfl, hg, fun j hj => by rw [Nat.zero_add]; exact row_cell h j _ (by simp [hj])⟩⟩
theorem full_RY {w : World} {base : Nat} {g : Nat} {l : List Int} (h : w.ownsRow base 5 1 (.slice (some ⟨g, 0, none⟩) l.length l.length) l.length (l.map (Value.int .u8))) (hg : g < w.heap.size) : RY w w.heap.size (some ⟨g, 0, none⟩) l.length l :=
  ⟨rfl, fun _ => ⟨g, 0, rfl, hg, fun j hj => by rw [Nat.zero_add]; exact row_cell h j _ (by simp [hj])⟩⟩

def RawOut (l : List Int) (w : World) (e : Ending) (w' : World) : Prop := ∃ A, e = .returned (.slice A l.length l.length) ∧ RR w' w'.heap.size A l.length l ∧ Below w.heap.size w w'
theorem raw_out {l : List Int} {w wr : World} (ho : wr.ownsRow w.heap.size 21 1 (.slice (some ⟨w.heap.size, 0, none⟩) l.length l.length) l.length (mix (Value.int .i32) l l.length)) (hb : Below w.heap.size w wr) : RawOut l w (.returned (.slice (some ⟨w.heap.size, 0, none⟩) l.length l.length)) wr := by
  rw [mix_all] at ho
  refine ⟨_, rfl, full_RR ho ?_, hb⟩
  rcases ho.2 with ⟨h', _⟩ | ⟨g', cap', cur, h', _, hg, _⟩
  · simp at h'
  · simp only [Value.slice.injEq, Option.some.injEq, Addr.mk.injEq, and_true, true_and] at h'
    obtain ⟨rfl, rfl⟩ := h'
    exact (Array.getElem?_eq_some_iff.1 hg).1
def BytesOut (l : List Int) (w : World) (e : Ending) (w' : World) : Prop := ∃ A, e = .returned (.tuple #[.slice A l.length l.length, .bool true]) ∧ RY w' w'.heap.size A l.length l ∧ Below w.heap.size w w'
def BytesNot (w : World) (e : Ending) (w' : World) : Prop := e = .returned (.tuple #[.slice none 0 0, .bool false]) ∧ w = w'
theorem bytes_out {l : List Int} {w wr : World} (ho : wr.ownsRow w.heap.size 5 1 (.slice (some ⟨w.heap.size, 0, none⟩) l.length l.length) l.length (mix (Value.int .u8) l l.length)) (hb : Below w.heap.size w wr) : BytesOut l w (.returned (.tuple #[.slice (some ⟨w.heap.size, 0, none⟩) l.length l.length, .bool true])) wr := by
  rw [mix_all] at ho
  refine ⟨_, rfl, full_RY ho ?_, hb⟩
  rcases ho.2 with ⟨h', _⟩ | ⟨g', cap', cur, h', _, hg, _⟩
  · simp at h'
  · simp only [Value.slice.injEq, Option.some.injEq, Addr.mk.injEq, and_true, true_and] at h'
    obtain ⟨rfl, rfl⟩ := h'
    exact (Array.getElem?_eq_some_iff.1 hg).1
theorem fits_bytes {l : List Int} (h : fitsS 1 l = true) : ∀ x ∈ l, 0 ≤ x ∧ x ≤ 255 := fun x hx => by
  have := List.all_eq_true.1 h x hx
  simpa [inS] using this
theorem bytes_fits {l : List Int} (h : ∀ x ∈ l, 0 ≤ x ∧ x ≤ 255) : fitsS 1 l = true := List.all_eq_true.2 fun x hx => by
  have := h x hx
  simp [inS]; omega
end Go.Proofs.Ytgmkchkaceciiaa.Wo
