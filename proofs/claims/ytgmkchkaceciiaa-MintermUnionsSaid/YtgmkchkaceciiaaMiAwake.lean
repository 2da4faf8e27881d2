/- The walk of the law's example. -/
import Derived.Test.YtgmkchkaceciiaaMiSplit
import Derived.Test.YtgmkchkaceciiaaMiAsk
namespace Go.Proofs.Ytgmkchkaceciiaa.Mi
set_option maxRecDepth 100000
open Go Go.RowKit Go.Proofs.Ytgmkchkaceciiaa.Sp

theorem rs_two (w : World) (x y : Int) : RS (w.alloc (.cells #[.int .i64 x, .int .i64 y] 61)) (w.heap.size + 1) (some ⟨w.heap.size, 0, none⟩) 1 [(x, y)] :=
  ⟨rfl, fun _ => ⟨w.heap.size, 0, rfl, by omega, fun j hj => by
    have : j = 0 := by simp at hj; exact hj
    subst this
    simp⟩⟩
def exL : List (List Span) := [[(0, 1), (8, 9)], [(2, 3)], [(4, 5)], [(6, 7)]]
theorem ex_mem (a b x : Int) (h1 : -1073741824 ≤ a) (h2 : b ≤ 1073741824) : mem [(a, b)] x ↔ a ≤ x ∧ x ≤ b := by
  rw [mem_one]
  unfold Rng
  exact ⟨fun h => h.2, fun h => ⟨⟨by omega, by omega⟩, h⟩⟩
theorem ex_blocks : IsBlocks [(0, 9)] [[(2, 5)], [(4, 7)]] exL := by
  have m0 : ∀ x, mem [(0, 9)] x ↔ 0 ≤ x ∧ x ≤ 9 := fun x => ex_mem 0 9 x (by omega) (by omega)
  have m1 : ∀ x, mem [(2, 5)] x ↔ 2 ≤ x ∧ x ≤ 5 := fun x => ex_mem 2 5 x (by omega) (by omega)
  have m2 : ∀ x, mem [(4, 7)] x ↔ 4 ≤ x ∧ x ≤ 7 := fun x => ex_mem 4 7 x (by omega) (by omega)
  have l0 : ∀ x, mem [(0, 1), (8, 9)] x ↔ (0 ≤ x ∧ x ≤ 1) ∨ (8 ≤ x ∧ x ≤ 9) := fun x => by
    rw [show ([(0, 1), (8, 9)] : List Span) = [(0, 1)] ++ [(8, 9)] from rfl, mem_append, ex_mem 0 1 x (by omega) (by omega), ex_mem 8 9 x (by omega) (by omega)]
  have l1 : ∀ x, mem [(2, 3)] x ↔ 2 ≤ x ∧ x ≤ 3 := fun x => ex_mem 2 3 x (by omega) (by omega)
  have l2 : ∀ x, mem [(4, 5)] x ↔ 4 ≤ x ∧ x ≤ 5 := fun x => ex_mem 4 5 x (by omega) (by omega)
  have l3 : ∀ x, mem [(6, 7)] x ↔ 6 ≤ x ∧ x ≤ 7 := fun x => ex_mem 6 7 x (by omega) (by omega)
  refine ⟨?_, fun x => ?_, ?_, ?_⟩
  · intro l hl
    simp only [exL, List.mem_cons, List.not_mem_nil, or_false] at hl
    rcases hl with rfl | rfl | rfl | rfl <;> exact ⟨⟨by simp, by simp [Ok]⟩, by simp⟩
  · simp only [exL, List.mem_cons, List.not_mem_nil, or_false, exists_eq_or_imp, exists_eq_left, m0, l0, l1, l2, l3]
    omega
  · intro l hl r hr x y hx hy
    simp only [exL, List.mem_cons, List.not_mem_nil, or_false] at hl hr
    simp only [List.mem_cons, List.not_mem_nil, or_false, forall_eq_or_imp, forall_eq, m1, m2]
    rcases hl with rfl | rfl | rfl | rfl <;> rcases hr with rfl | rfl | rfl | rfl <;> simp only [l0, l1, l2, l3] at hx hy <;> simp <;> omega
  · simp [exL, headLo]
theorem ex_class : classOf exL 6 = 3 := by
  have l0 : ∀ x, mem [(0, 1), (8, 9)] x ↔ (0 ≤ x ∧ x ≤ 1) ∨ (8 ≤ x ∧ x ≤ 9) := fun x => by
    rw [show ([(0, 1), (8, 9)] : List Span) = [(0, 1)] ++ [(8, 9)] from rfl, mem_append, ex_mem 0 1 x (by omega) (by omega), ex_mem 8 9 x (by omega) (by omega)]
  have h := class_at (fam := exL) (x := 6) (k := 3) (by decide) ((ex_mem 6 7 6 (by omega) (by omega)).2 (by omega)) (fun j hj hj3 => by
    have : j = 0 ∨ j = 1 ∨ j = 2 := by omega
    rcases this with rfl | rfl | rfl
    · show ¬ mem [(0, 1), (8, 9)] 6
      rw [l0]; omega
    · show ¬ mem [(2, 3)] 6
      rw [ex_mem 2 3 6 (by omega) (by omega)]; omega
    · show ¬ mem [(4, 5)] 6
      rw [ex_mem 4 5 6 (by omega) (by omega)]; omega)
  exact h
set_option maxHeartbeats 4000000 in
theorem awake_any (w : World) : Calls Try.prog 25 #[] w (RetB true w) := by
  obtain ⟨w1, hw1⟩ : ∃ w1, w.alloc (.cells #[.int .i64 0, .int .i64 9] 61) = w1 := ⟨_, rfl⟩
  obtain ⟨w2, hw2⟩ : ∃ w2, w1.alloc (.cells #[.int .i64 2, .int .i64 5] 61) = w2 := ⟨_, rfl⟩
  obtain ⟨w3, hw3⟩ : ∃ w3, w2.alloc (.cells #[.int .i64 4, .int .i64 7] 61) = w3 := ⟨_, rfl⟩
  obtain ⟨w4, hw4⟩ : ∃ w4, w3.alloc (.cells #[.slice (some ⟨w.heap.size + 1, 0, none⟩) 1 1, .slice (some ⟨w.heap.size + 1 + 1, 0, none⟩) 1 1] 22) = w4 := ⟨_, rfl⟩
  have hs1 : w1.heap.size = w.heap.size + 1 := by rw [← hw1]; simp
  have hs2 : w2.heap.size = w.heap.size + 1 + 1 := by rw [← hw2]; simp [hs1]
  have hs3 : w3.heap.size = w.heap.size + 1 + 1 + 1 := by rw [← hw3]; simp [hs2]
  have hs4 : w4.heap.size = w.heap.size + 1 + 1 + 1 + 1 := by rw [← hw4]; simp [hs3]
  have b1 : Below w.heap.size w w1 := by rw [← hw1]; exact (Below.refl _ _).alloc (Nat.le_refl _) _
  have b2 : Below w1.heap.size w1 w2 := by rw [← hw2]; exact (Below.refl _ _).alloc (Nat.le_refl _) _
  have b3 : Below w2.heap.size w2 w3 := by rw [← hw3]; exact (Below.refl _ _).alloc (Nat.le_refl _) _
  have b4 : Below w3.heap.size w3 w4 := by rw [← hw4]; exact (Below.refl _ _).alloc (Nat.le_refl _) _
  have r1 : RS w1 w1.heap.size (some ⟨w.heap.size, 0, none⟩) 1 [(0, 9)] := by rw [hs1, ← hw1]; exact rs_two _ _ _
  have r2 : RS w2 w2.heap.size (some ⟨w.heap.size + 1, 0, none⟩) 1 [(2, 5)] := by rw [hs2, ← hw2, ← hs1]; exact rs_two _ _ _
  have r3 : RS w3 w3.heap.size (some ⟨w.heap.size + 1 + 1, 0, none⟩) 1 [(4, 7)] := by rw [hs3, ← hw3, ← hs2]; exact rs_two _ _ _
  have r1' : RS w4 w4.heap.size (some ⟨w.heap.size, 0, none⟩) 1 [(0, 9)] := ((r1.belowM b2).belowM b3).belowM b4
  have rg : RGs w4 (some ⟨w.heap.size + 1 + 1 + 1, 0, none⟩) 2 [[(2, 5)], [(4, 7)]] := ⟨rfl, fun _ => ⟨_, 0, rfl, by omega, fun j hj => by
    have : j = 0 ∨ j = 1 := by simp at hj; omega
    rcases this with rfl | rfl
    · exact ⟨_, 1, by rw [← hw4, ← hs3]; simp, ((r2.belowM b3).belowM b4), by simp, fun h => by cases h⟩
    · exact ⟨_, 1, by rw [← hw4, ← hs3]; simp, (r3.belowM b4), by simp, fun h => by cases h⟩⟩⟩
  have HS := Lib.hid (split_any _ 1 [(0, 9)] _ 2 [[(2, 5)], [(4, 7)]] w4 r1' (by simp) rg (by simp) (by simp))
  have HB := Lib.hid (below_nextM (below_nextM (below_nextM b1 b2) b3) b4)
  clear r1 r2 r3 r1' rg b1 b2 b3 b4
  simp only [List.length_cons, List.length_nil, Nat.zero_add] at HS
  go_enter Try.func25, Try.ntmps25
  go_wp2_with (fail)
  refine HS.out.mono ?_
  rintro e w5 ⟨v, L, hL, hor, hb5⟩
  obtain rfl : exL = L := ex_blocks.unique hL
  rcases hor with ⟨rfl, _, hoG⟩ | ⟨_, hbad⟩
  · obtain ⟨A, c, rfl, hrg, hlc⟩ := hoG.reads
    obtain ⟨b, off, A0, c0, rfl, hbb, hc0, hr0, hl0, _⟩ := hrg.at_ (k := 0) (by decide)
    have hr0' : RS w5 w5.heap.size A0 2 [(0, 1), (8, 9)] := hr0
    obtain ⟨b0, off0, lo, hi, rfl, hb0, ⟨_, hlk⟩, f1, f2⟩ := hr0'.at_ (k := 1) (by omega)
    have e1 : lo = 8 ∧ hi = 9 := by
      simp at hlk
      omega
    obtain ⟨rfl, rfl⟩ := e1
    have HC := Lib.hid (class_any (some ⟨b, off, none⟩) c exL 6 w5 hrg (by decide) (by decide))
    rw [ex_class] at HC
    have hc0' : w5.cell? ⟨b, off, none⟩ = some (.slice (some ⟨b0, off0, none⟩) 2 c0) := hc0
    have hlen : exL.length = 4 := rfl
    rw [hlen] at HC ⊢
    simp only [Nat.one_mul] at f1 f2
    have HB5 := Lib.hid (below_nextM HB.out hb5)
    clear hrg hr0 hr0' hc0 hoG hL hb5 hlk
    go_wp2_with (go_at_call 51; refine HC.out.mono ?_; rintro e w6 ⟨rfl, hb6⟩)
    go_ret
    exact ⟨rfl, below_nextM HB5.out hb6⟩
  · exact absurd hbad (by decide)
end Go.Proofs.Ytgmkchkaceciiaa.Mi
