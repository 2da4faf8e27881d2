/- The frame of the word statements: arguments that are slices of symbols or of bytes, opened. -/
import Derived.Test.YtighbbaggpnfoaaRows
import Derived.Test.YtighbbaggpnfoaaWoAwake
import Derived.ProofKit
import Derived.OpenShut
namespace Go.Proofs.Ytighbbaggpnfoaa.Wo
set_option maxRecDepth 100000
open Go Go.RowKit Go.ChangeShapes Go.WideShapes Go.ChangeAt

theorem own : ownKnob Try.prog.godebug = none := by kernel_rfl
theorem laidOut : laidOutB Try.prog = true := by kernel_rfl
theorem readableR : Try.prog.readableRec 24 = true := by kernel_rfl
theorem rowR : 24 < Try.prog.types.size := of_decide_eq_true (by kernel_rfl)
theorem cellsR : Try.prog.cellsOf 21 = 1 := by kernel_rfl
theorem open_runes {H : Type} {enc : TypeId × Value → H} {W : World} {r : Reach} {b0 : Nat} {v : Value} {d : DataW H} {p : List MemPlace} (hv : Value.okWide Try.prog W r b0 24 v) (h : DataW.Trod enc Try.prog W 0 (fun _ => true) true 24 v d p) :
    ∃ (A : Option Addr) (c : Nat) (l : List Int), v = .slice A l.length c ∧ RR W W.heap.size A l.length l ∧ l.length ≤ c ∧ l.length ≤ maxLen ∧ (A = none → l = [] ∧ c = 0) ∧ (∀ x ∈ l, -2147483648 ≤ x ∧ x ≤ 2147483647) := by
  obtain ⟨a0, len0, cap0, rfl⟩ := okWide_slice Try.underlying24 hv
  obtain ⟨fuel, hf⟩ := h
  rcases open_ints Try.underlying24 Try.underlying21 cellsR hf with ⟨hcs, hx⟩ | ⟨a, len, cap, zs, hcs, _, hl, hm, hz, hx, hcell, hwz⟩
  · simp [Value.cells] at hcs
    obtain ⟨rfl, rfl, rfl⟩ := hcs
    exact ⟨none, 0, [], rfl, RR.nil_ _ _ _, Nat.le_refl _, Nat.zero_le _, fun _ => ⟨rfl, rfl⟩, fun _ h => by cases h⟩
  · simp [Value.cells] at hcs
    obtain ⟨rfl, rfl, rfl⟩ := hcs
    simp only [if_true] at hz
    have hlen : (zs.take len0).length = len0 := by rw [List.length_take]; omega
    refine ⟨some a, cap0, zs.take len0, by rw [hlen], ⟨rfl, fun hn => ?_⟩, by rw [hlen]; exact hl, by rw [hlen]; omega, (fun h => by cases h), fun x hx2 => ?_⟩
    · rw [hlen] at hn
      obtain ⟨b, off, rfl, hc⟩ := ints_at hcell (by omega)
      have hb := World.block_lt_of_cell? W _ (hc 0 (by omega))
      refine ⟨b, off, rfl, hb, fun j hj => ?_⟩
      rw [hlen] at hj
      have := hc j (by omega)
      rw [List.getD_eq_getElem?_getD, List.getElem?_eq_getElem (show j < zs.length by omega)] at this
      rw [List.getElem_take]
      exact this
    · have := hwz x (List.mem_of_mem_take hx2)
      simpa [Lit.wf, IntKind.min, IntKind.max, IntKind.signed, IntKind.bits] using this
theorem kept {H : Type} {enc : TypeId × Value → H} {W W' : World} {t : TypeId} {v : Value} {d : DataW H} {p : List MemPlace} (hr : Try.prog.readableRec t = true) (ht : t < Try.prog.types.size) (h : DataW.Trod enc Try.prog W 0 (fun _ => true) true t v d p) (hb : Below W.heap.size W W') (hlt : ∀ x ∈ p, x.block < W.heap.size) :
    DataW.Trod enc Try.prog W' 0 (fun b => decide (b < W.heap.size)) true t v d p := Below.trod laidOut hr ht h hb hlt
end Go.Proofs.Ytighbbaggpnfoaa.Wo
