/- The walk of ref.borders: the numbers at which something may begin or end, rising, each once. -/
import Derived.Test.YtldpoaknddhjfaaSpRPut
namespace Go.Proofs.Ytldpoaknddhjfaa.Sp
set_option maxRecDepth 100000
open Go Go.RowKit

structure BInv (done : List Span) (ys : List Int) : Prop where
  srt : Srt ys
  rng : ∀ y ∈ ys, Rng y
  least : -1073741824 ∈ ys
  lo : ∀ p ∈ done, -1073741824 < p.1 → p.1 ≤ 1073741824 → p.1 ∈ ys
  hi : ∀ p ∈ done, -1073741824 ≤ p.2 → p.2 < 1073741824 → p.2 + 1 ∈ ys
  few : ys.length ≤ 1 + 2 * done.length
theorem BInv.start : BInv [] [-1073741824] :=
  ⟨List.pairwise_singleton _ _, fun y h => by obtain rfl := List.mem_singleton.1 h; unfold Rng; omega, List.mem_singleton.2 rfl, fun _ h => (by cases h), fun _ h => (by cases h), by simp⟩
theorem BInv.step {done : List Span} {ys zs : List Int} {lo hi : Int} (h : BInv done ys) (hs : Srt zs) (h1 : ∀ y ∈ ys, y ∈ zs) (h2 : ∀ y ∈ zs, y ∈ ys ∨ Rng y) (h3 : -1073741824 < lo → lo ≤ 1073741824 → lo ∈ zs) (h4 : -1073741824 ≤ hi → hi < 1073741824 → hi + 1 ∈ zs) (hl : zs.length ≤ ys.length + 2) : BInv (done ++ [(lo, hi)]) zs := by
  refine ⟨hs, fun y hy => ?_, h1 _ h.least, fun p hp => ?_, fun p hp => ?_, ?_⟩
  · rcases h2 y hy with h5 | h5
    · exact h.rng y h5
    · exact h5
  · rcases List.mem_append.1 hp with hp | hp
    · exact fun a b => h1 _ (h.lo p hp a b)
    · obtain rfl := List.mem_singleton.1 hp
      exact h3
  · rcases List.mem_append.1 hp with hp | hp
    · exact fun a b => h1 _ (h.hi p hp a b)
    · obtain rfl := List.mem_singleton.1 hp
      exact h4
  · have := h.few
    rw [List.length_append, List.length_singleton]
    omega
theorem BInv.pos {done : List Span} {ys : List Int} (h : BInv done ys) : 0 < ys.length := List.length_pos_of_mem h.least

def RPut2 (w : World) (base : Nat) (xs : List Int) (x : Int) (e : Ending) (w' : World) : Prop := ∃ g cap ys, e = .returned (.slice (some ⟨g, 0, none⟩) ys.length cap) ∧ OwnsI w' base (.slice (some ⟨g, 0, none⟩) ys.length cap) ys ∧ Srt ys ∧ (∀ y, y ∈ ys ↔ y = x ∨ y ∈ xs) ∧ ys.length ≤ xs.length + 1 ∧ Below base w w'
def BRel (done : List Span) (base : Nat) (w : World) (v : Value) (wr : World) : Prop := ∃ (g cap : Nat) (ys : List Int), v = .slice (some ⟨g, 0, none⟩) ys.length cap ∧ OwnsI wr base (.slice (some ⟨g, 0, none⟩) ys.length cap) ys ∧ BInv done ys ∧ Below base w wr
def BOuter (l r : List Span) (base : Nat) (w : World) (v k : Value) (wr : World) : Prop := (k = .int .i64 0 ∧ BRel [] base w v wr) ∨ (k = .int .i64 1 ∧ BRel l base w v wr) ∨ (k = .int .i64 2 ∧ BRel (l ++ r) base w v wr)
def BInner (pre s : List Span) (base : Nat) (w : World) (v i : Value) (wr : World) : Prop := ∃ j : Nat, j ≤ s.length ∧ i = .int .i64 j ∧ BRel (pre ++ s.take j) base w v wr
def BordersOut (w : World) (l r : List Span) (e : Ending) (w' : World) : Prop := ∃ g cap ys, e = .returned (.slice (some ⟨g, 0, none⟩) ys.length cap) ∧ OwnsI w' w.heap.size (.slice (some ⟨g, 0, none⟩) ys.length cap) ys ∧ BInv (l ++ r) ys ∧ Below w.heap.size w w'
theorem pre_next {pre s : List Span} {k : Nat} {lo hi : Int} (hk : ∃ hl : k < s.length, s[k] = (lo, hi)) : pre ++ s.take (k + 1) = (pre ++ s.take k) ++ [(lo, hi)] := by
  obtain ⟨hl, e⟩ := hk
  rw [List.take_succ_eq_append_getElem hl, e, List.append_assoc]
theorem own_lit (w : World) (x : Int) : OwnsI (w.alloc (.cells #[.int .i64 x] 3)) w.heap.size (.slice (some ⟨w.heap.size, 0, none⟩) [x].length 1) [x] :=
  ⟨rfl, .inr ⟨w.heap.size, 1, _, rfl, Nat.le_refl _, heap_alloc_new w _, Nat.le_refl _, by unfold maxLen; omega, rfl, rfl⟩⟩


end Go.Proofs.Ytldpoaknddhjfaa.Sp
