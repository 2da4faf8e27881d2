/- The frame of the minterm statements: an argument that is a slice of slices of spans, opened. -/
import Derived.Test.YtgmkchkaceciiaaSpFrame
import Derived.Test.YtgmkchkaceciiaaMiBase
import Derived.Deep.Slices
namespace Go.Proofs.Ytgmkchkaceciiaa.Mi
set_option maxRecDepth 100000
open Go Go.RowKit Go.ChangeShapes Go.WideShapes Go.ChangeAt Go.Deep Go.Proofs.Ytgmkchkaceciiaa.Sp

theorem readable23 : Try.prog.readableRec 32 = true := by kernel_rfl
theorem row23 : 32 < Try.prog.types.size := of_decide_eq_true (by kernel_rfl)
theorem cells22 : Try.prog.cellsOf 22 = 1 := by kernel_rfl
theorem open_spans1 {H : Type} {enc : TypeId × Value → H} {W : World} {v : Value} {x : DataW H × List MemPlace} {fuel : Nat} (hf : DataW.trod enc Try.prog W 0 (fun _ => true) true fuel 22 [v] = some x) :
    ∃ (A : Option Addr) (c : Nat) (l : List Span), v = .slice A l.length c ∧ RS W W.heap.size A l.length l ∧ l.length ≤ c ∧ l.length ≤ maxLen ∧ (A = none → l = [] ∧ c = 0) := by
  rcases open_slice_pairs Try.underlying22 Try.underlying61 cells40 rfl rfl cells3 cells3 hf with ⟨hcs, hx⟩ | ⟨a, len, cap, m, n, V0, V1, D0, D1, P0, P1, hcs, _, hl, hm, hmm, hx, hi⟩
  · injection hcs with hcs
    exact ⟨none, 0, [], hcs, RS.nil_ _ _ _, Nat.le_refl _, Nat.zero_le _, fun _ => ⟨rfl, rfl⟩⟩
  · injection hcs with hcs
    subst hcs
    simp only [if_true] at hmm
    subst hmm
    have hV : ∀ i, i < m → V0 i = .int .i64 (intOf (V0 i)) ∧ V1 i = .int .i64 (intOf (V1 i)) := by
      intro i him
      obtain ⟨_, _, t0, t1⟩ := hi i him
      obtain ⟨q0, e0, _, _⟩ := DataW.trod_int Try.underlying3 t0
      obtain ⟨q1, e1, _, _⟩ := DataW.trod_int Try.underlying3 t1
      simp only [List.cons.injEq, and_true] at e0 e1
      rw [e0, e1]
      exact ⟨rfl, rfl⟩
    have hlen : ((List.range len).map fun i => ((intOf (V0 i), intOf (V1 i)) : Span)).length = len := by simp
    refine ⟨some a, m, (List.range len).map fun i => (intOf (V0 i), intOf (V1 i)), by rw [hlen], ⟨rfl, fun hn => ?_⟩, by rw [hlen]; exact hl, by rw [hlen]; omega, fun h => by cases h⟩
    rw [hlen] at hn
    obtain ⟨b, off, spot⟩ := a
    have hc0 := (hi 0 (by omega)).1
    have hspot : spot = none := by simpa [Addr.add] using World.cell?_spot hc0
    subst hspot
    have hb := World.block_lt_of_cell? W _ hc0
    rw [block_of_add'] at hb
    refine ⟨b, off, rfl, hb, fun j hj => ?_⟩
    rw [hlen] at hj
    obtain ⟨k0, k1, _, _⟩ := hi j (by omega)
    rw [add_plain] at k0 k1
    have hv2 := hV j (by omega)
    rw [hv2.1] at k0
    rw [hv2.2] at k1
    simp only [List.getElem_map, List.getElem_range]
    exact ⟨k0, by rw [show off + j * 2 + 1 = off + (j * 2 + 1) from by omega]; exact k1⟩
theorem open_rows {H : Type} {enc : TypeId × Value → H} {W : World} {r : Reach} {b0 : Nat} {v : Value} {d : DataW H} {p : List MemPlace} (hv : Value.okWide Try.prog W r b0 32 v) (h : DataW.Trod enc Try.prog W 0 (fun _ => true) true 32 v d p) :
    ∃ (A : Option Addr) (c : Nat) (fam : List (List Span)), v = .slice A fam.length c ∧ RGs W A fam.length fam ∧ fam.length ≤ c ∧ fam.length ≤ maxLen ∧ (∀ l ∈ fam, l.length ≤ maxLen) := by
  obtain ⟨a0, len0, cap0, rfl⟩ := okWide_slice Try.underlying32 hv
  obtain ⟨fuel, hf⟩ := h
  rcases open_slice1 Try.underlying32 cells22 hf with ⟨hcs, _⟩ | ⟨a, len, cap, m, n, V, D, Pl, hcs, _, hl, hm, hmm, _, hi⟩
  · simp [Value.cells] at hcs
    obtain ⟨rfl, rfl, rfl⟩ := hcs
    exact ⟨none, 0, [], rfl, RGs.nil_ _ _, Nat.le_refl _, Nat.zero_le _, fun l hl => by cases hl⟩
  · simp [Value.cells] at hcs
    obtain ⟨rfl, rfl, rfl⟩ := hcs
    simp only [if_true] at hmm
    subst hmm
    have hx : ∀ i, i < len0 → ∃ l : List Span, ∃ (A : Option Addr) (c : Nat), V i = .slice A l.length c ∧ RS W W.heap.size A l.length l ∧ l.length ≤ c ∧ l.length ≤ maxLen ∧ (A = none → l = [] ∧ c = 0) := fun i hil => by
      obtain ⟨A, c, l, h1⟩ := open_spans1 (hi i (by omega)).2
      exact ⟨l, A, c, h1⟩
    obtain ⟨f, hf2⟩ := choose_lt hx
    have hlen : ((List.range len0).map f).length = len0 := by simp
    refine ⟨some a, m, (List.range len0).map f, by rw [hlen], ⟨rfl, fun hn => ?_⟩, by rw [hlen]; exact hl, by rw [hlen]; omega, fun l hml => ?_⟩
    · rw [hlen] at hn
      obtain ⟨b, off, spot⟩ := a
      have hc0 := (hi 0 (by omega)).1
      have hspot : spot = none := by simpa [Addr.add] using World.cell?_spot hc0
      subst hspot
      have hb := World.block_lt_of_cell? W _ hc0
      rw [block_of_add'] at hb
      refine ⟨b, off, rfl, hb, fun j hj => ?_⟩
      rw [hlen] at hj
      have k0 := (hi j (by omega)).1
      rw [add_plain] at k0
      obtain ⟨A, c, h1, h2, h3, h4, h5⟩ := hf2 j hj
      simp only [List.getElem_map, List.getElem_range]
      exact ⟨A, c, by rw [k0, h1], h2, h3, h5⟩
    · obtain ⟨j, hj, rfl⟩ := List.mem_map.1 hml
      obtain ⟨A, c, _, _, _, h4, _⟩ := hf2 j (List.mem_range.1 hj)
      exact h4
end Go.Proofs.Ytgmkchkaceciiaa.Mi
