/- The frame of the span statements: an argument that is a slice of spans, opened; what a call gives that answers true and leaves all old memory as it was. -/
import Derived.Test.YtgmkchkaceciiaaRows
import Derived.Test.YtgmkchkaceciiaaSpHelp
import Derived.ProofKit
import Derived.OpenShut
import Derived.Deep.SlicePairs
namespace Go.Proofs.Ytgmkchkaceciiaa.Sp
set_option maxRecDepth 100000
open Go Go.RowKit Go.ChangeShapes Go.WideShapes Go.ChangeAt Go.Deep

theorem own : ownKnob Try.prog.godebug = none := by kernel_rfl
theorem laidOut : laidOutB Try.prog = true := by kernel_rfl
theorem readable22 : Try.prog.readableRec 22 = true := by kernel_rfl
theorem readable3 : Try.prog.readableRec 3 = true := by kernel_rfl
theorem row22 : 22 < Try.prog.types.size := of_decide_eq_true (by kernel_rfl)
theorem row3 : 3 < Try.prog.types.size := of_decide_eq_true (by kernel_rfl)
theorem cells40 : Try.prog.cellsOf 61 = 2 := by kernel_rfl
theorem cells3 : Try.prog.cellsOf 3 = 1 := by kernel_rfl

theorem block_of_add' (a : Addr) (n : Nat) : (a.add n).block = a.block := by unfold Addr.add; split <;> rfl
theorem open_spans {H : Type} {enc : TypeId × Value → H} {W : World} {r : Reach} {b0 : Nat} {v : Value} {d : DataW H} {p : List MemPlace} (hv : Value.okWide Try.prog W r b0 22 v) (h : DataW.Trod enc Try.prog W 0 (fun _ => true) true 22 v d p) :
    ∃ (A : Option Addr) (c : Nat) (l : List Span), v = .slice A l.length c ∧ RS W W.heap.size A l.length l ∧ l.length ≤ c ∧ l.length ≤ maxLen ∧ (A = none → l = [] ∧ c = 0) := by
  obtain ⟨a0, len0, cap0, rfl⟩ := okWide_slice Try.underlying22 hv
  obtain ⟨fuel, hf⟩ := h
  rcases open_slice_pairs Try.underlying22 Try.underlying61 cells40 rfl rfl cells3 cells3 hf with ⟨hcs, hx⟩ | ⟨a, len, cap, m, n, V0, V1, D0, D1, P0, P1, hcs, _, hl, hm, hmm, hx, hi⟩
  · simp [Value.cells] at hcs
    obtain ⟨rfl, rfl, rfl⟩ := hcs
    exact ⟨none, 0, [], rfl, RS.nil_ _ _ _, Nat.le_refl _, Nat.zero_le _, fun _ => ⟨rfl, rfl⟩⟩
  · simp [Value.cells] at hcs
    obtain ⟨rfl, rfl, rfl⟩ := hcs
    simp only [if_true] at hmm
    subst hmm
    have hV : ∀ i, i < m → V0 i = .int .i64 (intOf (V0 i)) ∧ V1 i = .int .i64 (intOf (V1 i)) := by
      intro i him
      obtain ⟨_, _, t0, t1⟩ := hi i him
      obtain ⟨q0, e0, _, _⟩ := DataW.trod_int Try.underlying3 t0
      obtain ⟨q1, e1, _, _⟩ := DataW.trod_int Try.underlying3 t1
      simp only [List.cons.injEq, and_true] at e0 e1
      rw [e0, e1]
      exact ⟨rfl, rfl⟩
    have hlen : ((List.range len0).map fun i => ((intOf (V0 i), intOf (V1 i)) : Span)).length = len0 := by simp
    refine ⟨some a, m, (List.range len0).map fun i => (intOf (V0 i), intOf (V1 i)), by rw [hlen], ⟨rfl, fun hn => ?_⟩, by rw [hlen]; exact hl, by rw [hlen]; omega, fun h => by cases h⟩
    rw [hlen] at hn
    obtain ⟨b, off, spot⟩ := a
    have hc0 := (hi 0 (by omega)).1
    have hspot : spot = none := by simpa [Addr.add] using World.cell?_spot hc0
    subst hspot
    have hb := World.block_lt_of_cell? W _ hc0
    rw [block_of_add'] at hb
    refine ⟨b, off, rfl, hb, fun j hj => ?_⟩
    rw [hlen] at hj
    obtain ⟨k0, k1, _, _⟩ := hi j (by omega)
    rw [add_plain] at k0 k1
    have hv2 := hV j (by omega)
    rw [hv2.1] at k0
    rw [hv2.2] at k1
    simp only [List.getElem_map, List.getElem_range]
    exact ⟨k0, by rw [show off + j * 2 + 1 = off + (j * 2 + 1) from by omega]; exact k1⟩

theorem kept {H : Type} {enc : TypeId × Value → H} {W W' : World} {t : TypeId} {v : Value} {d : DataW H} {p : List MemPlace} (hr : Try.prog.readableRec t = true) (ht : t < Try.prog.types.size) (h : DataW.Trod enc Try.prog W 0 (fun _ => true) true t v d p) (hb : Below W.heap.size W W') (hlt : ∀ x ∈ p, x.block < W.heap.size) :
    DataW.Trod enc Try.prog W' 0 (fun b => decide (b < W.heap.size)) true t v d p := Below.trod laidOut hr ht h hb hlt
theorem lens_one (w : World) (A : Option Addr) (n c : Nat) (t : TypeId) : Lens (w.alloc (.cells #[.slice A n c] t)) w.heap.size [n] := by
  intro j hj
  have : j = 0 := by simp at hj; exact hj
  subst this
  exact ⟨A, c, by simp⟩
theorem lens_two (w : World) (A A' : Option Addr) (n n' c c' : Nat) (t : TypeId) : Lens (w.alloc (.cells #[.slice A n c, .slice A' n' c'] t)) w.heap.size [n, n'] := by
  intro j hj
  have : j = 0 ∨ j = 1 := by simp at hj; omega
  rcases this with rfl | rfl
  · exact ⟨A, c, by simp⟩
  · exact ⟨A', c', by simp⟩
end Go.Proofs.Ytgmkchkaceciiaa.Sp
