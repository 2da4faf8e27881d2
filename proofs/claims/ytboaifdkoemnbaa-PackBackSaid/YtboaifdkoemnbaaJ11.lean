/- Texts of this proof, joined: SpJoin, SpRPut. -/
import Derived.Test.YtboaifdkoemnbaaJ3
import Derived.RegionTactic
import Derived.ChangeAlike
import Derived.StillTailTactics
/- The walk of span.join: it makes one of spans that lie over or next to one another, in the list's own row. -/
namespace Go.Proofs.Ytboaifdkoemnbaa.Sp
set_option maxRecDepth 100000
open Go Go.RowKit

section
variable {w w' : World} {g : Nat} {t : TypeId} {cs : Array Value}
end

end Go.Proofs.Ytboaifdkoemnbaa.Sp
/- The walk of ref.put: a number more, at its place in a rising list that the caller owns. -/
namespace Go.Proofs.Ytboaifdkoemnbaa.Sp
set_option maxRecDepth 100000
open Go Go.RowKit

def Srt (xs : List Int) : Prop := xs.Pairwise (· < ·)
def OwnsI (w : World) (base : Nat) (v : Value) (xs : List Int) : Prop := w.ownsRow base 3 1 v xs.length (xs.map (Value.int .i64))
theorem Srt.lt {xs : List Int} (h : Srt xs) {i j : Nat} (hij : i < j) (hj : j < xs.length) : xs[i] < xs[j] := List.pairwise_iff_getElem.1 h i j (by omega) hj hij
structure BS (xs : List Int) (x : Int) (lo hi : Nat) : Prop where
  le : lo ≤ hi
  top : hi ≤ xs.length
  below : ∀ (i : Nat) (h : i < xs.length), i < lo → xs[i] < x
  above : ∀ (i : Nat) (h : i < xs.length), hi ≤ i → x ≤ xs[i]
theorem BS.start (xs : List Int) (x : Int) : BS xs x 0 xs.length := ⟨Nat.zero_le _, Nat.le_refl _, fun _ _ h => by omega, fun _ _ h => by omega⟩
theorem BS.right {xs : List Int} {x : Int} {lo hi k : Nat} (h : BS xs x lo hi) (hs : Srt xs) (h1 : lo ≤ k) (h2 : k < hi) (hk : ∃ hl : k < xs.length, xs[k] < x) : BS xs x (k + 1) hi := by
  obtain ⟨hl, hk⟩ := hk
  refine ⟨by omega, h.top, fun i hi' hlt => ?_, h.above⟩
  by_cases e : i = k
  · subst e; exact hk
  · have := hs.lt (show i < k by omega) hl
    omega
theorem BS.left {xs : List Int} {x : Int} {lo hi k : Nat} (h : BS xs x lo hi) (hs : Srt xs) (h1 : lo ≤ k) (h2 : k < hi) (hk : ∃ hl : k < xs.length, x ≤ xs[k]) : BS xs x lo k := by
  obtain ⟨hl, hk⟩ := hk
  refine ⟨h1, by omega, h.below, fun i hi' hlt => ?_⟩
  by_cases e : i = k
  · subst e; exact hk
  · have := hs.lt (show k < i by omega) hi'
    omega
end Go.Proofs.Ytboaifdkoemnbaa.Sp
