/- The walk of span.put: it lays what the numbers have of a span behind a list that the caller owns. -/
import Derived.Test.YtgmkchkaceciiaaSpCheck
import Derived.WalkSmall
import Derived.Deep.DeepMust
import Derived.Maps.AppendAt
namespace Go.Proofs.Ytgmkchkaceciiaa.Sp
set_option maxRecDepth 100000
open Go Go.RowKit

/-- The call's own slice v holds the spans xs, in a row that lies from block 'base' on. -/
def OwnsL (w : World) (base : Nat) (v : Value) (xs : List Span) : Prop := w.ownsRow base 61 2 v xs.length (flat xs)
theorem infoSpan : (Try.prog.info? 61).map (fun i => (i.zero, i.size, i.bytes)) = some (some (.agg #[.int .i64 0, .int .i64 0]), 2, 16) := by kernel_rfl
theorem cell_two (w : World) (x y : Value) (t : TypeId) : ∀ j u, [x, y][j]? = some u → (w.alloc (.cells #[x, y] t)).cell? ((⟨w.heap.size, 0, none⟩ : Addr).add j) = some u := by
  intro j u hj
  match j, hj with
  | 0, hj => simp at hj; subst hj; simp [Addr.add]
  | 1, hj => simp at hj; subst hj; simp [Addr.add]
  | j + 2, hj => simp at hj
theorem own_ge {w : World} {base : Nat} {v : Value} {xs : List Span} (h : OwnsL w base v xs) : ∀ k, v.ownBlock = some k → base ≤ k := fun k hk => (h.lt k hk).1

def PutOut (w : World) (base : Nat) (xs : List Span) (e : Ending) (w' : World) : Prop := ∃ v', e = .returned v' ∧ OwnsL w' base v' xs ∧ Below base w w'

/-- The same, and which row has turned: v's own, or a new one. -/
def PutS (w : World) (base : Nat) (v : Value) (xs : List Span) (e : Ending) (w' : World) : Prop :=
  ∃ v', e = .returned v' ∧ OwnsL w' base v' xs ∧ w.grownBy w' v.ownBlock ∧ (v'.ownBlock = v.ownBlock ∨ ∃ g, v'.ownBlock = some g ∧ w.heap.size ≤ g)

set_option maxHeartbeats 400000 in
theorem put_strong (base : Nat) (v : Value) (xs : List Span) (lo hi : Int) (w : World) (hown : OwnsL w base v xs) (hbase : base ≤ w.heap.size) (hlen : xs.length ≤ 1099511627776) :
    Calls Try.prog 45 #[v, .int .i64 lo, .int .i64 hi] w (PutS w base v (putL xs lo hi)) := by
  obtain ⟨L, hL⟩ : ∃ L, (if lo < -1073741824 then (-1073741824 : Int) else lo) = L := ⟨_, rfl⟩
  obtain ⟨H, hH⟩ : ∃ H, (if 1073741824 < hi then (1073741824 : Int) else hi) = H := ⟨_, rfl⟩
  have eL : max lo (-1073741824) = L := by rw [← hL]; split <;> omega
  have eH : min hi 1073741824 = H := by rw [← hH]; split <;> omega
  by_cases hc : H < L
  · have HP := Lib.hid (show putL xs lo hi = xs by unfold putL; rw [eL, eH]; exact if_pos hc)
    clear eL eH
    go_enter Try.func45, Try.ntmps45
    go_wp2_with (fail)
    go_ret
    exact ⟨v, rfl, by rw [HP.out]; exact hown, World.grownBy.refl _ _, .inl rfl⟩
  · have HP := Lib.hid (show putL xs lo hi = xs ++ [(L, H)] by unfold putL; rw [eL, eH]; exact if_neg hc)
    clear eL eH
    obtain ⟨i0, hi0, hz0, hz1, hz2⟩ := info_parts infoSpan
    have hown0 := Lib.hid hown
    clear hown
    go_enter Try.func45, Try.ntmps45
    go_wp2_with (at_builtin; go_must (refine wpList_append_own_at _ rfl _ _ 22 rfl base 61 i0 _ 2 16 Try.underlying22 hi0 hz0 hz1 hz2 rfl (by decide) v xs.length (flat xs) rfl (hown0.out.alloc _) ⟨w.heap.size, 0, none⟩ 1 1 [.int .i64 L, .int .i64 H] rfl rfl (cell_two _ _ _ _) ?c2 ?c3 ?c4 ?c5 ?_))
    case c2 => exact ⟨rfl, rfl⟩
    case c3 => simp only [maxLen]; omega
    case c4 => omega
    case c5 => omega
    intro v1 w1 hown1 hg1 _ hat
    have HAT := Lib.hid hat; clear hat
    go_wp2_with (fail)
    go_ret
    refine ⟨v1, rfl, ?_, (World.grownBy_alloc w _ _).trans hg1, ?_⟩
    · rw [HP.out]
      unfold OwnsL
      rw [flat_append, List.length_append]
      exact hown1
    · rcases HAT.out with e | e
      · exact .inl e
      · exact .inr ⟨_, e, by simp⟩
theorem put_any (base : Nat) (v : Value) (xs : List Span) (lo hi : Int) (w : World) (hown : OwnsL w base v xs) (hbase : base ≤ w.heap.size) (hlen : xs.length ≤ 1099511627776) :
    Calls Try.prog 45 #[v, .int .i64 lo, .int .i64 hi] w (PutOut w base (putL xs lo hi)) :=
  (put_strong base v xs lo hi w hown hbase hlen).mono fun _ _ ⟨v', he, ho, hg, _⟩ => ⟨v', he, ho, (Below.refl base w).grown hg hbase (own_ge hown)⟩
end Go.Proofs.Ytgmkchkaceciiaa.Sp
