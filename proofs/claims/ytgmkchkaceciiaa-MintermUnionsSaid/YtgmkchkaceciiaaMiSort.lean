/- slices.SortFunc at a slice of minterm's edges, by the shelf's contract: the row holds a permutation, rising by the number. -/
import Derived.Test.YtgmkchkaceciiaaSpSort
import Derived.Test.YtgmkchkaceciiaaMiShelf
import Derived.Test.YtgmkchkaceciiaaMiBase
namespace Go.Proofs.Ytgmkchkaceciiaa.Mi
set_option maxRecDepth 100000
open Go Go.RowKit Go.Shelf Go.Lib Go.Sort Go.Proofs.Ytgmkchkaceciiaa.Sp

set_option maxHeartbeats 1000000 in
/-- The closure that edgesOf hands to the sort. -/
theorem closure_any (a b a' b' : Int) (W : World) : Calls Try.prog 82 #[.agg #[.int .i64 a, .int .i64 a'], .agg #[.int .i64 b, .int .i64 b']] W (CmpOut (cfLo (a, a') (b, b')) W) := by
  have hcon := fun W => cmp_any a b (cfLo (a, a') (b, b')) W rfl
  generalize cfLo (a, a') (b, b') = r at hcon ⊢
  go_enter Try.func82, Try.ntmps82
  go_wp2_with (go_at_call 49; refine (hcon _).mono ?_; rintro e w' ⟨rfl, rfl⟩)
  go_ret
  exact ⟨rfl, 0, _, by rw [alloc_eq_grow, alloc_eq_grow, grow_grow]; rfl⟩
theorem cmpLays (blk off size : Nat) (w : World) : CmpLays Try.prog 82 #[] encS 2 cfLo blk off size w :=
  fun _ _ _ _ x y => closure_any x.1 y.1 x.2 y.2 _

theorem h_lt {w : World} {base g cap : Nat} {d : List (Int × Int)} (h : OwnsE w base (.slice (some ⟨g, 0, none⟩) d.length cap) d) : base ≤ g ∧ g < w.heap.size := h.lt g rfl
theorem holds_own {w : World} {base g cap : Nat} {d : List (Int × Int)} (h : OwnsE w base (.slice (some ⟨g, 0, none⟩) d.length cap) d) : HoldsK encS 2 w g 0 d.toArray := by
  intro j hj
  have hj' : j < d.length * 2 := by simpa using hj
  refine ⟨?_, World.ownsRow.frozenAt h _⟩
  rw [World.ownsRow.cellAt h _ (by omega), Nat.zero_add, ← flatK_flat, Array.getElem?_toList, Array.getElem?_eq_getElem hj, getElem!_pos _ j hj]
  rfl

theorem own_sorted {w : World} {base g cap m : Nat} {os : Array Obj} {d d' : List (Int × Int)} (h : OwnsE w base (.slice (some ⟨g, 0, none⟩) d.length cap) d) (hl : d'.length = d.length) :
    OwnsE (sortWorldK encS 2 w g 0 m d'.toArray os) base (.slice (some ⟨g, 0, none⟩) d'.length cap) d' ∧ w.grownBy (sortWorldK encS 2 w g 0 m d'.toArray os) (some g) := by
  rcases h.2 with ⟨h0, _⟩ | ⟨g', cap', cur, hv, hb, hg, hn, hc, hs, ht⟩
  · cases h0
  · injection hv with hv _ hcap
    injection hv with hv
    injection hv with hv
    subst hv hcap
    have hgl : g < w.heap.size := (Array.getElem?_eq_some_iff.1 hg).1
    have hh : (sortWorldK encS 2 w g 0 m d'.toArray os).heap[g]? = some (.cells (putCells id 0 (flatK encS 2 d'.toArray) cur) 78 (0, 0)) := by
      unfold sortWorldK putRowK
      rw [heap_grow_old _ _ (by simpa using hgl)]
      simp [putRow, mapBlock, Sort.ahead, Array.getElem?_modify, hg, onCells]
    refine ⟨⟨flat_length d', .inr ⟨g, cap, _, rfl, hb, hh, by omega, hc, by simp [putCells, hs], ?_⟩⟩, ⟨rfl, rfl, rfl, by simp [sortWorldK, putRowK], fun k hk hne => ?_⟩⟩
    · rw [← flatK_flat]
      apply List.ext_getElem?
      intro j
      by_cases hj : j < d'.length * 2
      · rw [List.getElem?_take_of_lt hj, Array.getElem?_toList, Array.getElem?_toList]
        have h1 : j < (flatK encS 2 d'.toArray).size := by simpa using hj
        rw [Array.getElem?_eq_getElem h1]
        simp only [putCells, Array.getElem?_mapIdx]
        rw [Array.getElem?_eq_getElem (show j < cur.size by omega)]
        simp only [Option.map_some, Nat.zero_le, true_and, Nat.zero_add, Nat.sub_zero, id]
        rw [if_pos h1, getElem!_pos _ j h1]
      · rw [List.getElem?_take_eq_none (by omega), List.getElem?_eq_none (by simp; omega)]
    · unfold sortWorldK putRowK
      rw [heap_grow_old _ _ (by simpa using hk)]
      have : g ≠ k := fun e => hne (by rw [e])
      simp [putRow, mapBlock, Sort.ahead, Array.getElem?_modify, this]

def SortOut (w : World) (base g cap : Nat) (d : List (Int × Int)) (e : Ending) (w' : World) : Prop :=
  e = .returned (.tuple #[]) ∧ ∃ d', d'.Perm d ∧ SortedLo d' ∧ OwnsE w' base (.slice (some ⟨g, 0, none⟩) d'.length cap) d' ∧ Below base w w'
theorem sort_any (base g cap : Nat) (d : List (Int × Int)) (w : World) (hown : OwnsE w base (.slice (some ⟨g, 0, none⟩) d.length cap) d) (hbase : base ≤ w.heap.size) (hlen : d.length ≤ 1099511627776) :
    Calls Try.prog 81 #[.slice (some ⟨g, 0, none⟩) d.length cap, .func (.func 82) #[] #[]] w (SortOut w base g cap d) := by
  have eg : ∀ args w, (callFunc 82 args).run Try.prog w = .ok (.enter 82 args) w := enters_of Try.func82 (by kernel_rfl) rfl
  have hgl := h_lt hown
  have hcon := AnyQ.slices_SortFunc sortEd 2 Try.isAgg78 Try.sizeOf78 encS (fun _ => rfl) (fun x v hv => by simp [encS] at hv; rcases hv with rfl | rfl <;> rfl) cfLo swoLo 82 #[] g 0 cap d.toArray w eg (cmpLays g 0 d.toArray.size w) (holds_own hown) hgl.2 (by simp; omega)
  change Calls Try.prog 81 _ _ _ at hcon
  refine hcon.mono ?_
  rintro e w' ⟨he, d', m, os, hp, hs, hw⟩
  obtain ⟨d'⟩ := d'
  have hpl : d'.Perm d := by
    have h2 := hp.2.2
    have h3 : d'.length = d.length := by simpa using hp.1
    simp only [List.size_toArray, List.extract_toArray, List.extract_eq_take_drop, Nat.sub_zero, List.drop_zero] at h2
    rwa [List.take_of_length_le (by omega), List.take_of_length_le (Nat.le_refl _)] at h2
  have hso := own_sorted (m := m) (os := os) hown hpl.length_eq
  refine ⟨he, d', hpl, ?_, by rw [hw]; exact hso.1, by rw [hw]; exact (Below.refl base w).grown hso.2 hbase (fun k hk => by cases hk; exact hgl.1)⟩
  refine List.pairwise_iff_getElem.2 fun i j hi hj hij => ?_
  have h1 := hs i j (Nat.zero_le _) hij (by have := hpl.length_eq; simp; omega)
  rw [ltLo] at h1
  simp [hi, hj] at h1
  exact h1
end Go.Proofs.Ytgmkchkaceciiaa.Mi
