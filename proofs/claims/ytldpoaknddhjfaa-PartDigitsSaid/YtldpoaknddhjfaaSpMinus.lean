/- The walks of span.Minus and span.Within. -/
import Derived.Test.YtldpoaknddhjfaaSpCut
import Derived.Test.YtldpoaknddhjfaaSpNorm
namespace Go.Proofs.Ytldpoaknddhjfaa.Sp
set_option maxRecDepth 100000
open Go Go.RowKit

theorem own_mono {w : World} {base base' : Nat} {v : Value} {xs : List Span} (h : OwnsL w base v xs) (hb : base' ≤ base) : OwnsL w base' v xs := by
  obtain ⟨h1, h2⟩ := h
  refine ⟨h1, ?_⟩
  rcases h2 with h2 | ⟨g, cap, cur, hv, hg, hr⟩
  · exact .inl h2
  · exact .inr ⟨g, cap, cur, hv, by omega, hr⟩
def lenV : Value → Nat
  | .slice _ n _ => n
  | _ => 0

/-- Between two rounds: k spans of p are gone through, j of Q passed by. -/
def MinusRel (p Q : List Span) (w2 : World) (q out i : Value) (wr : World) : Prop :=
  ∃ (k j : Nat) (o : List Span) (A : Option Addr) (n c : Nat), k ≤ p.length ∧ i = .int .i64 k ∧ q = .slice A n c ∧ n + j = Q.length ∧ n ≤ c ∧ RS wr w2.heap.size A n (Q.drop j) ∧ OwnsL wr w2.heap.size out o ∧ MinusInv p Q k j o ∧ Below w2.heap.size w2 wr
def SkipRel (p Q : List Span) (k : Nat) (o : List Span) (out : Value) (w2 : World) (bx : Nat) (lo hi : Int) (q : Value) (wr : World) : Prop :=
  ∃ (j : Nat) (A : Option Addr) (n c : Nat), q = .slice A n c ∧ n + j = Q.length ∧ n ≤ c ∧ RS wr w2.heap.size A n (Q.drop j) ∧ OwnsL wr w2.heap.size out o ∧ MinusInv p Q k j o ∧ Below w2.heap.size w2 wr ∧
    wr.cell? ⟨bx, 0, none⟩ = some (.int .i64 lo) ∧ wr.cell? ⟨bx, 1, none⟩ = some (.int .i64 hi)
theorem minus_skip {p Q o : List Span} {k j : Nat} {lo hi a b : Int} (h : MinusInv p Q k j o) (hp : Plain p) (hk : ∃ hl : k < p.length, p[k] = (lo, hi)) (hj : ∃ hl : 0 < (Q.drop j).length, (Q.drop j)[0] = (a, b)) (hlt : b < lo) : MinusInv p Q k (j + 1) o := by
  obtain ⟨hl, e⟩ := hk
  obtain ⟨hl', e'⟩ := hj
  rw [List.length_drop] at hl'
  have e2 : Q[j]'(by omega) = (a, b) := by rw [← e', List.getElem_drop]; rfl
  exact h.skip hp hl (by omega) (by rw [e, e2]; exact hlt)
theorem minus_cut {p Q o : List Span} {k j : Nat} {lo hi : Int} (h : MinusInv p Q k j o) (hp : Plain p) (hQ : Plain Q) (hk : ∃ hl : k < p.length, p[k] = (lo, hi)) (hge : ∀ a b, (∃ hl : 0 < (Q.drop j).length, (Q.drop j)[0] = (a, b)) → lo ≤ b) : MinusInv p Q (k + 1) j (cutL hi lo o (Q.drop j)) := by
  obtain ⟨hl, e⟩ := hk
  have := h.cut hp hQ hl (fun hj => by
    have := hge Q[j].1 Q[j].2 ⟨by rw [List.length_drop]; omega, by rw [List.getElem_drop]; rfl⟩
    rw [e]; exact this)
  rw [e] at this
  exact this
theorem drop_one {Q : List Span} (j : Nat) : (Q.drop j).drop 1 = Q.drop (j + 1) := by rw [List.drop_drop]

end Go.Proofs.Ytldpoaknddhjfaa.Sp
