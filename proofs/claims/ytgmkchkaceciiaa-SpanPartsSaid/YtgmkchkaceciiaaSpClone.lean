/- The walk of slices.Clone at spans. -/
import Derived.Test.YtgmkchkaceciiaaSpMinus
import Derived.OwnWalk
namespace Go.Proofs.Ytgmkchkaceciiaa.Sp
set_option maxRecDepth 100000
open Go Go.RowKit

theorem RS_news {w : World} {B n : Nat} {ad : Addr} {l : List Span} (h : RS w B (some ad) n l) : ∀ j u, (flat l)[j]? = some u → w.cell? (ad.add j) = some u := by
  intro j u hu
  have hj : j < l.length * 2 := by
    rcases Nat.lt_or_ge j (l.length * 2) with h1 | h1
    · exact h1
    · rw [List.getElem?_eq_none (by rw [flat_length]; exact h1)] at hu; cases hu
  obtain ⟨b, off, hA, _, hc⟩ := h.2 (by rw [← h.1]; omega)
  injection hA with hA
  subst hA
  have h1 : j / 2 < l.length := by omega
  have h2 := flat_at l (j / 2) h1
  have h3 := hc (j / 2) h1
  rw [Go.WideShapes.add_plain]
  rcases Nat.mod_two_eq_zero_or_one j with e | e
  · rw [show j = 2 * (j / 2) from by omega] at hu
    rw [h2.1] at hu
    rw [show off + j = off + j / 2 * 2 from by omega, h3.1]; exact hu
  · rw [show j = 2 * (j / 2) + 1 from by omega] at hu
    rw [h2.2] at hu
    rw [show off + j = off + j / 2 * 2 + 1 from by omega, h3.2]; exact hu
theorem flat_one (l : List Span) : ∀ u ∈ flat l, u.oneCell' = true := by
  intro u hu
  obtain ⟨p, _, hp⟩ := List.mem_flatMap.1 hu
  simp [encS] at hp
  rcases hp with rfl | rfl <;> rfl
theorem span_nil : ∀ (w : World) (a : Option Addr) (n c n' c' : Nat), (binOp .eql 22 (.slice a n c) (.slice none n' c')).run Try.prog w = .ok (.bool a.isNone) w := fun w a n c n' c' => Lib.run_eql_slice_nil w _ _ a n c n' c' Try.underlying22
def CloneS (l : List Span) (w : World) (e : Ending) (w' : World) : Prop := ∃ v, e = .returned v ∧ OwnsL w' w.heap.size v l ∧ Below w.heap.size w w'
set_option maxHeartbeats 1000000 in
theorem cloneS_any (A : Option Addr) (c : Nat) (l : List Span) (w : World) (h : RS w w.heap.size A l.length l) (hn : l.length ≤ 68719476736) (hnil : A = none → l = [] ∧ c = 0) :
    Calls Try.prog 74 #[.slice A l.length c] w (CloneS l w) := by
  have q := span_nil
  rcases A with _ | ad
  · obtain ⟨rfl, rfl⟩ := hnil rfl
    simp only [List.length_nil]
    go_enter Try.func74, Try.ntmps74
    go_wp2_with (fail)
    go_ret
    exact ⟨_, rfl, World.ownsRow_nil _ _ _ _, Below.refl _ _⟩
  · obtain ⟨i0, hi0, hz0, hz1, hz2⟩ := info_parts infoSpan
    have hown0 := Lib.hid (World.ownsRow_made (e := 61) (size := 2) w #[] 0 (Nat.le_refl w.heap.size) (by unfold maxLen; omega) rfl)
    have HR := Lib.hid ((h.below ((Below.refl w.heap.size w).alloc (Nat.le_refl _) (.cells #[] 61)))); clear h
    go_enter Try.func74, Try.ntmps74
    go_wp2_with (at_builtin; go_must (refine wpList_append_own _ rfl _ _ 22 rfl w.heap.size 61 i0 _ 2 16 Try.underlying22 hi0 hz0 hz1 hz2 rfl (by decide) _ 0 [] rfl hown0.out ad l.length c (flat l) rfl (flat_length l) (RS_news HR.out) (flat_one l) ?c3 ?c4 ?c5 ?_))
    case c3 => simp only [maxLen]; omega
    case c4 => omega
    case c5 => simp only [World.size_alloc]; omega
    intro v1 w1 hown1 hg1 _
    have ho : OwnsL w1 w.heap.size v1 l := by
      unfold OwnsL
      simpa using hown1
    have HB := Lib.hid (((Below.refl w.heap.size w).alloc (Nat.le_refl _) (.cells #[] 61)).grown hg1 (by simp) (fun k hk => (World.ownsRow.lt hown0.out k hk).1))
    obtain ⟨A1, c1, hv, hc1, hrs⟩ := own_RS ho
    subst hv
    have HO := Lib.hid ho
    clear hown1 hg1 ho hrs
    go_wp2_with (fail)
    go_ret
    exact ⟨_, rfl, HO.out, HB.out⟩
end Go.Proofs.Ytgmkchkaceciiaa.Sp
