/- The walk of ref.Make. -/
import Derived.Test.YtgmkchkaceciiaaSpMakeMath
import Derived.Test.YtgmkchkaceciiaaSpMinus
namespace Go.Proofs.Ytgmkchkaceciiaa.Sp
set_option maxRecDepth 100000
open Go Go.RowKit

theorem quiet_left {P : Program} {f : FuncId} {args : Array Value} {w : World} {n : Nat} {v : Value} (h : Calls P f args (w.drewN n) (RetW v (w.drewN n))) : Calls P f args (w.drewN n) fun e w'' => e = .returned v ∧ ∃ m, w'' = w.drewN m :=
  h.mono fun _ _ ⟨he, hm⟩ => ⟨he, n, hm.symm⟩
def MakeRel (bs : List Int) (P : Int → Prop) (B : Nat) (w1 : World) (out i : Value) (wr : World) : Prop :=
  ∃ (k : Nat) (o : List Span) (A : Option Addr) (c : Nat), k ≤ bs.length ∧ i = .int .i64 k ∧ out = .slice A o.length c ∧ OwnsL wr B (.slice A o.length c) o ∧ MakeInv bs P k o ∧ Below B w1 wr

theorem own_last {w : World} {base g cap : Nat} {o : List Span} {rl rh : Int} (h : OwnsL w base (.slice (some ⟨g, 0, none⟩) (o ++ [(rl, rh)]).length cap) (o ++ [(rl, rh)])) : w.cell? ⟨g, o.length * 2 + 1, none⟩ = some (.int .i64 rh) := by
  rw [World.ownsRow.cellAt h _ (by simp; omega)]
  have := (flat_at (o ++ [(rl, rh)]) o.length (by simp)).2
  rw [show o.length * 2 + 1 = 2 * o.length + 1 from by omega, this, List.getElem_append_right (by omega)]
  simp
theorem own_turn {w : World} {base g cap : Nat} {o : List Span} {rl rh to : Int} (h : OwnsL w base (.slice (some ⟨g, 0, none⟩) (o ++ [(rl, rh)]).length cap) (o ++ [(rl, rh)])) :
    OwnsL (w.setCell ⟨g, o.length * 2 + 1, none⟩ (.int .i64 to)) base (.slice (some ⟨g, 0, none⟩) (o ++ [(rl, to)]).length cap) (o ++ [(rl, to)]) := by
  have h1 := (World.ownsRow.stored h (o.length * 2 + 1) (.int .i64 to)).1
  have e : (flat (o ++ [(rl, rh)])).set (o.length * 2 + 1) (.int .i64 to) = flat (o ++ [(rl, to)]) := by
    rw [flat_append, flat_append, List.set_append_right _ _ (by rw [flat_length]; omega), flat_length]
    rw [show o.length * 2 + 1 - o.length * 2 = 1 from by omega]
    rfl
  rw [e] at h1
  unfold OwnsL
  simp only [List.length_append, List.length_singleton] at h1 ⊢
  exact h1
theorem own_turn0 {w : World} {base g cap j : Nat} {o : List Span} {rl rh : Int} (h : OwnsL w base (.slice (some ⟨g, 0, none⟩) (j + 1) cap) (o ++ [(rl, rh)])) (hj : o.length = j) (to : Int) :
    OwnsL (w.setCell ⟨g, j * 2 + 1, none⟩ (.int .i64 to)) base (.slice (some ⟨g, 0, none⟩) (o ++ [(rl, to)]).length cap) (o ++ [(rl, to)]) := by
  subst hj
  exact own_turn (by simpa using h)
theorem own_of_form {w : World} {base : Nat} {A : Option Addr} {c : Nat} {o : List Span} (h : OwnsL w base (.slice A o.length c) o) (hp : 0 < o.length) : ∃ g, A = some ⟨g, 0, none⟩ ∧ base ≤ g ∧ g < w.heap.size := by
  obtain ⟨g, cap, hv, hb, hl⟩ := World.ownsRow.form h hp
  injection hv with hA
  exact ⟨g, hA, hb, hl⟩

end Go.Proofs.Ytgmkchkaceciiaa.Sp
