/- The law's tiny table. -/
import Derived.Test.YtgmkchkaceciiaaPkBuild
import Derived.Test.YtgmkchkaceciiaaPkReadS
import Derived.Test.YtgmkchkaceciiaaPkNeedsS
namespace Go.Proofs.Ytgmkchkaceciiaa.Pk
set_option maxRecDepth 100000
open Go Go.RowKit Go.Proofs.Ytgmkchkaceciiaa.Sp Go.Proofs.Ytgmkchkaceciiaa.Pa Go.Proofs.Ytgmkchkaceciiaa.Te Go.Proofs.Ytgmkchkaceciiaa.Mi Go.Proofs.Ytgmkchkaceciiaa.De

/-- A table of one node that ends with an x. -/
def tinyT : TabL := ⟨List.replicate 256 0, [(0, 0, [-1])], [], [[⟨0, 0, 21, 0, 120, []⟩]]⟩
def tinyV (b d : Nat) : TV := ⟨tinyT, some ⟨b, 0, none⟩, 1, none, 0, some ⟨d, 0, none⟩, 1⟩
theorem tiny_set (b d : Nat) : (Try.zeroCells44.setIfInBounds 256 (.slice (some ⟨b, 0, none⟩) 1 1)).setIfInBounds 258 (.slice (some ⟨d, 0, none⟩) 1 1) = (tinyV b d).cells.toArray := by kernel_rfl
theorem tiny_cls (b d : Nat) : (tinyV b d).T.cls.length = 256 := List.length_replicate
theorem tiny_mem {w : World} {H : Nat} (h2 : w.heap[H + 1]? = some (.cells #[.int .i64 (-1)] 3 (0, 0))) (h3 : w.heap[H + 1 + 1]? = some (.cells #[.int .i64 0, .slice (some ⟨H + 1, 0, none⟩) 1 1, .int .i64 0] 81 (0, 0)))
    (h4 : w.heap[H + 1 + 1 + 1]? = some (.cells #[.int .i64 0, .int .i64 0, .int .i64 21, .int .i64 0, .int .i64 120, .slice none 0 0] 114 (0, 0))) (h5 : w.heap[H + 1 + 1 + 1 + 1]? = some (.cells #[.slice (some ⟨H + 1 + 1 + 1, 0, none⟩) 1 1] 83 (0, 0))) : TM w (tinyV (H + 1 + 1) (H + 1 + 1 + 1 + 1)) := by
  have l2 := (Array.getElem?_eq_some_iff.1 h2).1
  have l3 := (Array.getElem?_eq_some_iff.1 h3).1
  have l4 := (Array.getElem?_eq_some_iff.1 h4).1
  have l5 := (Array.getElem?_eq_some_iff.1 h5).1
  refine ⟨tiny_cls _ _, fun c hc => ?_, ⟨rfl, fun _ => ⟨_, _, rfl, l3, fun j hj => ?_⟩⟩, ⟨rfl, fun h => absurd (show 0 < 0 from h) (by decide)⟩, ⟨rfl, fun _ => ⟨_, _, rfl, l5, fun j hj => ?_⟩⟩, Nat.le_refl _, Nat.le_refl _, Nat.le_refl _, show 1 ≤ maxLen by decide, show 0 ≤ maxLen by decide, show 1 ≤ maxLen by decide⟩
  · rw [List.eq_of_mem_replicate (show c ∈ List.replicate 256 0 from hc)]
    decide
  · have hj : j < 1 := hj
    obtain rfl : j = 0 := by omega
    refine ⟨by rw [cell_of_row w _ _ _ _ _ h3]; rfl, by rw [cell_of_row w _ _ _ _ _ h3]; rfl, some ⟨H + 1, 0, none⟩, 1, by rw [cell_of_row w _ _ _ _ _ h3]; rfl, ⟨rfl, fun _ => ⟨_, _, rfl, l2, fun i hi => ?_⟩, fun z hz => ?_⟩, Nat.le_refl _, show 1 ≤ maxLen by decide⟩
    · have hi : i < 1 := hi
      obtain rfl : i = 0 := by omega
      rw [cell_of_row w _ _ _ _ _ h2]
      rfl
    · have hz : z ∈ [(-1 : Int)] := hz
      rw [List.mem_singleton.1 hz]
      unfold IntR
      omega
  · have hj : j < 1 := hj
    obtain rfl : j = 0 := by omega
    refine ⟨some ⟨H + 1 + 1 + 1, 0, none⟩, 1, by rw [cell_of_row w _ _ _ _ _ h5]; rfl, ⟨rfl, fun _ => ⟨_, _, rfl, l4, fun i hi => ?_⟩⟩, Nat.le_refl _, show 1 ≤ maxLen by decide⟩
    have hi : i < 1 := hi
    obtain rfl : i = 0 := by omega
    exact ⟨by rw [cell_of_row w _ _ _ _ _ h4]; rfl, by rw [cell_of_row w _ _ _ _ _ h4]; rfl, by rw [cell_of_row w _ _ _ _ _ h4]; rfl, by rw [cell_of_row w _ _ _ _ _ h4]; rfl, by rw [cell_of_row w _ _ _ _ _ h4]; rfl, none, 0, by rw [cell_of_row w _ _ _ _ _ h4]; rfl, ⟨rfl, fun h => absurd (show 0 < 0 from h) (by decide)⟩, Nat.le_refl _, show 0 ≤ maxLen by decide⟩
def TinyR (w : World) (e : Ending) (w' : World) : Prop := Below w.heap.size w w' ∧ ∃ t : TV, e = .returned t.val ∧ t.T = tinyT ∧ TM w' t
set_option maxHeartbeats 8000000 in
theorem tiny_any (w : World) : Calls Try.prog 54 #[] w (TinyR w) := by
  obtain ⟨H, hH⟩ : ∃ H, w.heap.size = H := ⟨_, rfl⟩
  obtain ⟨w1, hw1⟩ : ∃ w1, w.alloc (.cells Try.zeroCells44 44) = w1 := ⟨_, rfl⟩
  have hz1 : w1.heap.size = H + 1 := by rw [← hw1, ← hH]; simp
  obtain ⟨w2, hw2⟩ : ∃ w2, w1.alloc (.cells #[.int .i64 (-1)] 3) = w2 := ⟨_, rfl⟩
  have hz2 : w2.heap.size = H + 1 + 1 := by rw [← hw2, ← hz1]; simp
  obtain ⟨w3, hw3⟩ : ∃ w3, w2.alloc (.cells #[.int .i64 0, .slice (some ⟨H + 1, 0, none⟩) 1 1, .int .i64 0] 81) = w3 := ⟨_, rfl⟩
  have hz3 : w3.heap.size = H + 1 + 1 + 1 := by rw [← hw3, ← hz2]; simp
  obtain ⟨w4, hw4⟩ : ∃ w4, w3.alloc (.cells #[.int .i64 0, .int .i64 0, .int .i64 21, .int .i64 0, .int .i64 120, .slice none 0 0] 114) = w4 := ⟨_, rfl⟩
  have hz4 : w4.heap.size = H + 1 + 1 + 1 + 1 := by rw [← hw4, ← hz3]; simp
  obtain ⟨w5, hw5⟩ : ∃ w5, w4.alloc (.cells #[.slice (some ⟨H + 1 + 1 + 1, 0, none⟩) 1 1] 83) = w5 := ⟨_, rfl⟩
  have hz5 : w5.heap.size = H + 1 + 1 + 1 + 1 + 1 := by rw [← hw5, ← hz4]; simp
  have b1 : Below w.heap.size w w1 := by rw [← hw1]; exact (Below.refl _ _).alloc (Nat.le_refl _) _
  have b2 : Below w1.heap.size w1 w2 := by rw [← hw2]; exact (Below.refl _ _).alloc (Nat.le_refl _) _
  have b3 : Below w2.heap.size w2 w3 := by rw [← hw3]; exact (Below.refl _ _).alloc (Nat.le_refl _) _
  have b4 : Below w3.heap.size w3 w4 := by rw [← hw4]; exact (Below.refl _ _).alloc (Nat.le_refl _) _
  have b5 : Below w4.heap.size w4 w5 := by rw [← hw5]; exact (Below.refl _ _).alloc (Nat.le_refl _) _
  have g1 : w1.heap[H]? = some (.cells Try.zeroCells44 44 (0, 0)) := by rw [← hw1, ← hH]; exact heap_alloc_new w _
  have g2 : w2.heap[H + 1]? = some (.cells #[.int .i64 (-1)] 3 (0, 0)) := by rw [← hw2, ← hz1]; exact heap_alloc_new w1 _
  have g3 : w3.heap[H + 1 + 1]? = some (.cells #[.int .i64 0, .slice (some ⟨H + 1, 0, none⟩) 1 1, .int .i64 0] 81 (0, 0)) := by rw [← hw3, ← hz2]; exact heap_alloc_new w2 _
  have g4 : w4.heap[H + 1 + 1 + 1]? = some (.cells #[.int .i64 0, .int .i64 0, .int .i64 21, .int .i64 0, .int .i64 120, .slice none 0 0] 114 (0, 0)) := by rw [← hw4, ← hz3]; exact heap_alloc_new w3 _
  have g5 : w5.heap[H + 1 + 1 + 1 + 1]? = some (.cells #[.slice (some ⟨H + 1 + 1 + 1, 0, none⟩) 1 1] 83 (0, 0)) := by rw [← hw5, ← hz4]; exact heap_alloc_new w4 _
  have k4 := (b5.block _ (by omega)).trans g4
  have k3 := (b5.block _ (by omega)).trans ((b4.block _ (by omega)).trans g3)
  have k2 := (b5.block _ (by omega)).trans ((b4.block _ (by omega)).trans ((b3.block _ (by omega)).trans g2))
  have k1 := (b5.block _ (by omega)).trans ((b4.block _ (by omega)).trans ((b3.block _ (by omega)).trans ((b2.block _ (by omega)).trans g1)))
  obtain ⟨wf, hwf⟩ : ∃ wf, w5.setRow H (tinyV (H + 1 + 1) (H + 1 + 1 + 1 + 1)).cells.toArray = wf := ⟨_, rfl⟩
  have hof : ∀ b, b ≠ H → wf.heap[b]? = w5.heap[b]? := fun b hb => by rw [← hwf]; exact setRow_other w5 H b _ hb
  have HH := Lib.hid (show wf.heap[H]? = some (.cells (tinyV (H + 1 + 1) (H + 1 + 1 + 1 + 1)).cells.toArray 44 (0, 0)) from by rw [← hwf]; exact setRow_heap w5 H _ _ _ _ k1)
  have HM := Lib.hid (tiny_mem ((hof _ (by omega)).trans k2) ((hof _ (by omega)).trans k3) ((hof _ (by omega)).trans k4) ((hof _ (by omega)).trans g5))
  have hb15 : Below w.heap.size w w5 := b1.trans ((b2.trans ((b3.trans ((b4.trans (b5.mono (by omega))).mono (by omega))).mono (by omega))).mono (by omega))
  have HBL := Lib.hid (show Below w.heap.size w wf from ⟨by rw [← hwf]; exact hb15.os, by rw [← hwf]; exact hb15.tape, by rw [← hwf]; exact hb15.output, by rw [← hwf]; have := hb15.size; simpa using this, fun b hb => (hof b (by omega)).trans (hb15.block b hb)⟩)
  have HK1 := Lib.hid k1
  have HWF := Lib.hid hwf
  clear b1 b2 b3 b4 b5 g1 g2 g3 g4 g5 k1 k2 k3 k4 hof hb15 hwf
  go_enter Try.func54, Try.ntmps54
  go_wp2_with (refine wpList_store_row rfl 44 _ _ rfl H (tinyV (H + 1 + 1) (H + 1 + 1 + 1 + 1)).cells.toArray rfl (congrArg Value.agg (tiny_set _ _)) _ _ HK1.out (tabSize' (tiny_cls _ _)) (by rw [tab_zero, List.size_toArray, tbC_length (by simp), List.size_toArray, TV.length (tiny_cls _ _)]) oneCells ?_; rw [HWF.out])
  exact bodyPost_ret (v := (tinyV (H + 1 + 1) (H + 1 + 1 + 1 + 1)).val) (results_cell_row rfl _ _ H _ _ _ (.struct (Try.prog.fieldsOf 44)) rfl HH.out (by kernel_rfl) rfl (tabSize' (tiny_cls _ _))) rfl ⟨HBL.out, _, rfl, rfl, HM.out⟩
end Go.Proofs.Ytgmkchkaceciiaa.Pk
