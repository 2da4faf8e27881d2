/- The frame of the term statements: an argument that is a term, opened; a slice of symbols, opened. -/
import Derived.Test.YtiddgfcoankpjaaDoorRows
import Derived.Test.YtiddgfcoankpjaaDoorQ4
import Derived.ProofKit
import Derived.OpenShut
import Derived.Deep.SlicePairs
import Derived.Deep.Slices
import Derived.Deep.Fields
import Derived.Lib.SmallJoins
namespace Go.Proofs.YtiddgfcoankpjaaDoor.Te
set_option maxRecDepth 100000
open Go Go.RowKit Go.Joins Go.ChangeShapes Go.WideShapes Go.ChangeAt Go.Deep Go.Proofs.YtiddgfcoankpjaaDoor.Sp Go.Proofs.YtiddgfcoankpjaaDoor.Pa

theorem own : ownKnob Tryd.prog.godebug = none := by kernel_rfl
theorem laidOut : laidOutB Tryd.prog = true := by kernel_rfl
theorem readableTerm : Tryd.prog.readableRec 24 = true := by kernel_rfl
theorem rowTerm : 24 < Tryd.prog.types.size := of_decide_eq_true (by kernel_rfl)
theorem readableR : Tryd.prog.readableRec 26 = true := by kernel_rfl
theorem rowR : 26 < Tryd.prog.types.size := of_decide_eq_true (by kernel_rfl)
theorem cellsR : Tryd.prog.cellsOf 21 = 1 := by kernel_rfl
theorem cellsPart : Tryd.prog.cellsOf 39 = 4 := by kernel_rfl
theorem cellsTerm : Tryd.prog.cellsOf 24 = 6 := by kernel_rfl
theorem onePart : ∃ fs : Array Field, Tryd.prog.underlying 39 = some (.struct fs) ∧ oneCellFields Tryd.prog fs = true ∧ ∀ j, j < 4 → ∃ f, fs[j]? = some f ∧ f.type = 3 := ⟨_, Tryd.underlying39, by kernel_rfl, fun j hj => by
  rcases (show j = 0 ∨ j = 1 ∨ j = 2 ∨ j = 3 from by omega) with rfl | rfl | rfl | rfl <;> exact ⟨_, rfl, rfl⟩⟩
theorem oneTerm : ∃ fs : Array Field, Tryd.prog.underlying 24 = some (.struct fs) ∧ oneCellFields Tryd.prog fs = true ∧ (∀ j, j < 5 → ∃ f, fs[j]? = some f ∧ f.type = 3) ∧ ∃ f, fs[5]? = some f ∧ f.type = 22 := ⟨_, Tryd.underlying24, by kernel_rfl, fun j hj => by
  rcases (show j = 0 ∨ j = 1 ∨ j = 2 ∨ j = 3 ∨ j = 4 from by omega) with rfl | rfl | rfl | rfl | rfl <;> exact ⟨_, rfl, rfl⟩, ⟨_, rfl, rfl⟩⟩
/-- One field's value, read by itself. -/
theorem field_read {H : Type} {enc : TypeId × Value → H} {W : World} {t : TypeId} {fs : Array Field} {fuel : Nat} {cs : List Value} {x : DataW H × List MemPlace} (hs : Tryd.prog.underlying t = some (.struct fs)) (hone : oneCellFields Tryd.prog fs = true)
    (hf : DataW.trod enc Tryd.prog W 0 (fun _ => true) true fuel t cs = some x) {j : Nat} {f : Field} (hj : fs[j]? = some f) {v : Value} (hv : cs[j]? = some v) :
    ∃ (n : Nat) (y : DataW H × List MemPlace), DataW.trod enc Tryd.prog W 0 (fun _ => true) true n f.type [v] = some y := by
  obtain ⟨xs, n, _, _, _, hl, hg⟩ := DataW.trod_struct hs hf
  obtain ⟨ho, hk⟩ := hone_of hone j f hj
  have h1 := hg j f hj
  rw [ho, hk] at h1
  obtain ⟨hlt, e⟩ := List.getElem?_eq_some_iff.1 hv
  have h2 : (cs.drop j).take 1 = [v] := by rw [List.drop_eq_getElem_cons hlt, e]; rfl
  rw [h2] at h1
  have h3 : j < xs.length := by rw [hl]; exact (Array.getElem?_eq_some_iff.1 hj).1
  exact ⟨n, xs[j], h1.trans (List.getElem?_eq_getElem h3)⟩
theorem field_int {H : Type} {enc : TypeId × Value → H} {W : World} {t : TypeId} {fs : Array Field} {fuel : Nat} {cs : List Value} {x : DataW H × List MemPlace} (hs : Tryd.prog.underlying t = some (.struct fs)) (hone : oneCellFields Tryd.prog fs = true)
    (hf : DataW.trod enc Tryd.prog W 0 (fun _ => true) true fuel t cs = some x) {j : Nat} (hj : ∃ f, fs[j]? = some f ∧ f.type = 3) {v : Value} (hv : cs[j]? = some v) : ∃ q : Int, v = .int .i64 q := by
  obtain ⟨f, h1, h2⟩ := hj
  obtain ⟨n, y, ht⟩ := field_read hs hone hf h1 hv
  rw [h2] at ht
  obtain ⟨q, k, _, _⟩ := DataW.trod_int Tryd.underlying3 ht
  simp only [List.cons.injEq, and_true] at k
  exact ⟨q, k⟩
theorem open_parts {H : Type} {enc : TypeId × Value → H} {W : World} {fuel : Nat} {v : Value} {x : DataW H × List MemPlace} (hf : DataW.trod enc Tryd.prog W 0 (fun _ => true) true fuel 22 [v] = some x) :
    ∃ (A : Option Addr) (c : Nat) (l : List PT), v = .slice A l.length c ∧ RP W W.heap.size A l.length l ∧ l.length ≤ c ∧ l.length ≤ maxLen := by
  obtain ⟨fs, hs, hone, hfi⟩ := onePart
  rcases open_slice Tryd.underlying22 hf with ⟨hcs, _⟩ | ⟨a, len, cap, m, n, D, Pl, hcs, _, hl, hm, hmm, _, hi⟩
  · simp only [List.cons.injEq, and_true] at hcs
    subst hcs
    exact ⟨none, 0, [], rfl, RP.nil_ _ _ _, Nat.le_refl _, Nat.zero_le _⟩
  · simp only [List.cons.injEq, and_true] at hcs
    subst hcs
    simp only [if_true] at hmm
    subst hmm
    have key : ∀ i, ∃ p : PT, i < m → W.cell? ((a.add (i * 4)).add 0) = some (.int .i64 p.1) ∧ W.cell? ((a.add (i * 4)).add 1) = some (.int .i64 p.2.1) ∧ W.cell? ((a.add (i * 4)).add 2) = some (.int .i64 p.2.2.1) ∧ W.cell? ((a.add (i * 4)).add 3) = some (.int .i64 p.2.2.2) := by
      intro i
      by_cases him : i < m
      · obtain ⟨cs, hc, ht⟩ := hi i him
        rw [cellsPart] at hc
        obtain ⟨_, hcl, hat⟩ := World.cells?_some hc
        have hg : ∀ j, j < 4 → ∃ q : Int, W.cell? ((a.add (i * 4)).add j) = some (.int .i64 q) := fun j hj => by
          have hv : cs[j]? = some (cs[j]'(by omega)) := List.getElem?_eq_getElem (by omega)
          obtain ⟨q, e⟩ := field_int hs hone ht (hfi j hj) hv
          exact ⟨q, by rw [hat j hj, hv, e]⟩
        obtain ⟨q0, k0⟩ := hg 0 (by omega)
        obtain ⟨q1, k1⟩ := hg 1 (by omega)
        obtain ⟨q2, k2⟩ := hg 2 (by omega)
        obtain ⟨q3, k3⟩ := hg 3 (by omega)
        exact ⟨(q0, q1, q2, q3), fun _ => ⟨k0, k1, k2, k3⟩⟩
      · exact ⟨(0, 0, 0, 0), fun h => absurd h him⟩
    obtain ⟨F, hF⟩ := Classical.axiomOfChoice key
    have hlen : ((List.range len).map F).length = len := by simp
    refine ⟨some a, m, (List.range len).map F, by rw [hlen], ⟨rfl, fun hn => ?_⟩, by rw [hlen]; exact hl, by rw [hlen]; omega⟩
    rw [hlen] at hn
    obtain ⟨b, off, spot⟩ := a
    have hc0 := (hF 0 (by omega)).1
    have hspot : spot = none := by simpa [Addr.add] using World.cell?_spot hc0
    subst hspot
    have hb := World.block_lt_of_cell? W _ hc0
    simp only [add_plain] at hb
    refine ⟨b, off, rfl, hb, fun j hj => ?_⟩
    rw [hlen] at hj
    obtain ⟨k0, k1, k2, k3⟩ := hF j (by omega)
    simp only [add_plain] at k0 k1 k2 k3
    simp only [List.getElem_map, List.getElem_range]
    exact ⟨k0, k1, k2, k3⟩
theorem open_term {H : Type} {enc : TypeId × Value → H} {W : World} {r : Reach} {b0 : Nat} {v : Value} {d : DataW H} {p : List MemPlace} (hv : Value.okWide Tryd.prog W r b0 24 v) (h : DataW.Trod enc Tryd.prog W 0 (fun _ => true) true 24 v d p) :
    ∃ (b d t u s : Int) (A : Option Addr) (c : Nat) (l : List PT), v = trm b d t u s A l.length c ∧ RP W W.heap.size A l.length l ∧ l.length ≤ c ∧ l.length ≤ maxLen := by
  obtain ⟨fs, hs, hone, hfi, hf5, hj5, ht5⟩ := oneTerm
  obtain ⟨cs, rfl, hsz⟩ := okWide_struct hs hv
  rw [cellsTerm] at hsz
  obtain ⟨l⟩ := cs
  obtain ⟨fuel, hf⟩ := h
  match l, hsz with
  | [c0, c1, c2, c3, c4, c5], _ =>
    have hf' : DataW.trod enc Tryd.prog W 0 (fun _ => true) true fuel 24 [c0, c1, c2, c3, c4, c5] = some (d, p) := hf
    obtain ⟨q0, rfl⟩ := field_int hs hone hf' (hfi 0 (by omega)) rfl
    obtain ⟨q1, rfl⟩ := field_int hs hone hf' (hfi 1 (by omega)) rfl
    obtain ⟨q2, rfl⟩ := field_int hs hone hf' (hfi 2 (by omega)) rfl
    obtain ⟨q3, rfl⟩ := field_int hs hone hf' (hfi 3 (by omega)) rfl
    obtain ⟨q4, rfl⟩ := field_int hs hone hf' (hfi 4 (by omega)) rfl
    obtain ⟨n, y, ht⟩ := field_read hs hone hf' hj5 rfl
    rw [ht5] at ht
    obtain ⟨A, c, l, rfl, hr, hc, hm⟩ := open_parts ht
    exact ⟨q0, q1, q2, q3, q4, A, c, l, rfl, hr, hc, hm⟩
theorem open_runes {H : Type} {enc : TypeId × Value → H} {W : World} {r : Reach} {b0 : Nat} {v : Value} {d : DataW H} {p : List MemPlace} (hv : Value.okWide Tryd.prog W r b0 26 v) (h : DataW.Trod enc Tryd.prog W 0 (fun _ => true) true 26 v d p) :
    ∃ (A : Option Addr) (c : Nat) (l : List Int), v = .slice A l.length c ∧ RR W W.heap.size A l.length l ∧ l.length ≤ c ∧ l.length ≤ maxLen := by
  obtain ⟨a0, len0, cap0, rfl⟩ := okWide_slice Tryd.underlying26 hv
  obtain ⟨fuel, hf⟩ := h
  rcases open_ints Tryd.underlying26 Tryd.underlying21 cellsR hf with ⟨hcs, hx⟩ | ⟨a, len, cap, zs, hcs, _, hl, hm, hz, hx, hcell, hwz⟩
  · simp [Value.cells] at hcs
    obtain ⟨rfl, rfl, rfl⟩ := hcs
    exact ⟨none, 0, [], rfl, RR.nil_ _ _ _, Nat.le_refl _, Nat.zero_le _⟩
  · simp [Value.cells] at hcs
    obtain ⟨rfl, rfl, rfl⟩ := hcs
    simp only [if_true] at hz
    have hlen : (zs.take len0).length = len0 := by rw [List.length_take]; omega
    refine ⟨some a, cap0, zs.take len0, by rw [hlen], ⟨rfl, fun x hx2 => ?_, fun hn => ?_⟩, by rw [hlen]; exact hl, by rw [hlen]; omega⟩
    · have := hwz x (List.mem_of_mem_take hx2)
      simpa [Lit.wf, IntKind.min, IntKind.max, IntKind.signed, IntKind.bits] using this
    · rw [hlen] at hn
      obtain ⟨b, off, rfl, hc⟩ := ints_at hcell (by omega)
      have hb := World.block_lt_of_cell? W _ (hc 0 (by omega))
      refine ⟨b, off, rfl, hb, fun j hj => ?_⟩
      rw [hlen] at hj
      have := hc j (by omega)
      rw [List.getD_eq_getElem?_getD, List.getElem?_eq_getElem (show j < zs.length by omega)] at this
      rw [List.getElem_take]
      exact this
theorem kept {H : Type} {enc : TypeId × Value → H} {W W' : World} {t : TypeId} {v : Value} {d : DataW H} {p : List MemPlace} (hr : Tryd.prog.readableRec t = true) (ht : t < Tryd.prog.types.size) (h : DataW.Trod enc Tryd.prog W 0 (fun _ => true) true t v d p) (hb : Below W.heap.size W W') (hlt : ∀ x ∈ p, x.block < W.heap.size) :
    DataW.Trod enc Tryd.prog W' 0 (fun b => decide (b < W.heap.size)) true t v d p := Below.trod laidOut hr ht h hb hlt
end Go.Proofs.YtiddgfcoankpjaaDoor.Te
