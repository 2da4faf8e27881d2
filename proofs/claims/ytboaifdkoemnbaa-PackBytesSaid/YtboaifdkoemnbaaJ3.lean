/- Texts of this proof, joined: SpCheck, SpAsk, SpPut, MiBase, WoBase, WoFun. -/
import Derived.Test.YtboaifdkoemnbaaProg
import Derived.Test.YtboaifdkoemnbaaJ1
import Derived.Test.YtboaifdkoemnbaaJ2
import Derived.WalkKit
import Derived.WalkSpells
import Derived.WalkLawsBesides
import Derived.BigQuiet
import Derived.Deep.QuietTactic
import Derived.Lib.Hide
import Derived.WalkSmall
import Derived.Deep.DeepMust
import Derived.Maps.AppendAt
import Derived.OwnWalk
import Derived.OneCell
import Derived.Laws.OwnMore
import Derived.Laws.IdiomStrings
import Derived.Deep.AppendLies
import Derived.Maps.OwnSet
import Derived.Maps.Views
import Derived.IntWalk
import Derived.Lib.OthersKept
import Derived.WideShapes
/- The walk of span.Check: it answers whether the list is plain. -/
namespace Go.Proofs.Ytboaifdkoemnbaa.Sp
set_option maxRecDepth 100000
open Go Go.RowKit

theorem below_drewN {B : Nat} {a w : World} (h : Below B a w) (n : Nat) : Below B a (w.drewN n) := ⟨h.os, h.tape, h.output, h.size, h.block⟩
theorem ret_bool {a b : Bool} (h : a = b) : Ending.returned (.bool a) = .returned (.bool b) := by rw [h]

def RetB (b : Bool) (w : World) (e : Ending) (w' : World) : Prop := e = .returned (.bool b) ∧ Below w.heap.size w w'
end Go.Proofs.Ytboaifdkoemnbaa.Sp
/- The walks of ref.Has, span.Has and ref.Same: whether a number is in a set; whether two lists are the same. -/
namespace Go.Proofs.Ytboaifdkoemnbaa.Sp
set_option maxRecDepth 100000
open Go Go.RowKit

def RetW (v : Value) (w : World) (e : Ending) (w' : World) : Prop := e = .returned v ∧ w = w'
end Go.Proofs.Ytboaifdkoemnbaa.Sp
/- The walk of span.put: it lays what the numbers have of a span behind a list that the caller owns. -/
namespace Go.Proofs.Ytboaifdkoemnbaa.Sp
set_option maxRecDepth 100000
open Go Go.RowKit

end Go.Proofs.Ytboaifdkoemnbaa.Sp
/- Own rows of edges, of marks, of lists of spans, and the map from marks to places, in a world: what keeps them, what an append and a store make of them. -/
namespace Go.Proofs.Ytboaifdkoemnbaa.Mi
set_option maxRecDepth 100000
open Go Go.RowKit Go.Proofs.Ytboaifdkoemnbaa.Sp

theorem own_shape {w : World} {base : Nat} {e : TypeId} {size : Nat} {v : Value} {n : Nat} {xs : List Value} (h : w.ownsRow base e size v n xs) : ∃ A c, v = .slice A n c := by
  obtain ⟨_, h2⟩ := h
  rcases h2 with ⟨hv, hn⟩ | ⟨g, cap, cur, hv, _⟩
  · exact ⟨none, 0, by rw [hv, hn]⟩
  · exact ⟨_, cap, hv⟩
/-- The key that marks are in a map of strings. -/
def keyL (bs : List Nat) : Lit := .string (bs.map UInt8.ofNat)
def Small (bs : List Nat) : Prop := ∀ b ∈ bs, b < 256
theorem keyL_inj : ∀ {a b : List Nat}, Small a → Small b → keyL a = keyL b → a = b := by
  intro a b ha hb h
  unfold keyL at h
  injection h with h
  have key : ∀ (a b : List Nat), Small a → Small b → a.map UInt8.ofNat = b.map UInt8.ofNat → a = b := by
    intro a
    induction a with
    | nil => intro b _ _ h; cases b <;> simp_all
    | cons x a ih =>
      intro b ha hb h
      cases b with
      | nil => simp at h
      | cons y b =>
        simp only [List.map_cons, List.cons.injEq] at h
        obtain ⟨h1, h2⟩ := h
        have hx := ha x (List.mem_cons_self ..)
        have hy := hb y (List.mem_cons_self ..)
        have : x = y := by
          have := congrArg UInt8.toNat h1
          simp only [UInt8.toNat_ofNat'] at this
          rw [Nat.mod_eq_of_lt (by omega), Nat.mod_eq_of_lt (by omega)] at this
          exact this
        subst this
        rw [ih b (fun z hz => ha z (List.mem_cons_of_mem _ hz)) (fun z hz => hb z (List.mem_cons_of_mem _ hz)) h2]
  exact key a b ha hb h
theorem isKey (bs : List Nat) : WideAt.IsKeyLit (keyL bs) := by unfold keyL; trivial
structure Tells (D : DataW Unit) (st : List Entry) : Prop where
  isMap : Maps.IsMap D
  has : ∀ bs, Small bs → Maps.has D (keyL bs) = (placeOf st bs).isSome
  at_ : ∀ bs k, Small bs → placeOf st bs = some k → D.atKey (keyL bs) (.lit (.int .i64 0)) = .lit (.int .i64 (k : Int))
  small : ∀ e ∈ st, Small e.1
theorem placeOf_snoc (st : List Entry) (bs key : List Nat) (ss : List Span) : placeOf (st ++ [(bs, ss)]) key = match placeOf st key with | some k => some k | none => if bs = key then some st.length else none := by
  unfold placeOf
  rw [List.findIdx?_append]
  cases st.findIdx? (fun e => e.1 == key) with
  | some k => rfl
  | none =>
    by_cases h : bs = key
    · subst h; simp
    · simp [h]
theorem Tells.put {D : DataW Unit} {st : List Entry} {bs : List Nat} (h : Tells D st) (hb : Small bs) (hn : placeOf st bs = none) (ss : List Span) : Tells (D.put (keyL bs) (.lit (.int .i64 (st.length : Int)))) (st ++ [(bs, ss)]) := by
  refine ⟨h.isMap.put _ _, fun b2 h2 => ?_, fun b2 k h2 hk => ?_, fun e he => ?_⟩
  · rw [placeOf_snoc]
    by_cases e : b2 = bs
    · subst e
      rw [Maps.has_put_same h.isMap (isKey _), hn]
      simp
    · rw [Maps.has_put_other (fun q => e (keyL_inj h2 hb q)), h.has b2 h2]
      cases placeOf st b2 with
      | some k => rfl
      | none =>
        have : ¬ bs = b2 := fun q => e q.symm
        simp [this]
  · rw [placeOf_snoc] at hk
    by_cases e : b2 = bs
    · subst e
      rw [hn] at hk
      simp at hk
      rw [Maps.atKey_put_same h.isMap (isKey _), hk]
    · rw [Maps.atKey_put_other (fun q => e (keyL_inj h2 hb q))]
      cases hp : placeOf st b2 with
      | some j => rw [hp] at hk; simp at hk; rw [h.at_ b2 j h2 hp, hk]
      | none =>
        have : ¬ bs = b2 := fun q => e q.symm
        rw [hp] at hk
        simp [this] at hk
  · rcases List.mem_append.1 he with he | he
    · exact h.small e he
    · obtain rfl := List.mem_singleton.1 he
      exact hb
end Go.Proofs.Ytboaifdkoemnbaa.Mi
/- Words for words: a slice value that reads as a list of symbols; the walks of word.Of, word.In, word.Compare and of the statements' helper awake. -/
namespace Go.Proofs.Ytboaifdkoemnbaa.Wo
set_option maxRecDepth 100000
open Go Go.RowKit

section
variable {w w' : World} {B B' n : Nat} {A : Option Addr} {l : List Int}
end
theorem ret_bool {a b : Bool} (h : a = b) : Ending.returned (.bool a) = .returned (.bool b) := by rw [h]
def RetW (v : Value) (w : World) (e : Ending) (w' : World) : Prop := e = .returned v ∧ w = w'
def RetB (b : Bool) (w : World) (e : Ending) (w' : World) : Prop := e = .returned (.bool b) ∧ Below w.heap.size w w'
end Go.Proofs.Ytboaifdkoemnbaa.Wo
/- The walks of word.In, ref.In, word.Compare, word.Front, ref.Front, ref.Compare, and of the statements' helper awake. -/
namespace Go.Proofs.Ytboaifdkoemnbaa.Wo
set_option maxRecDepth 100000
open Go Go.RowKit

end Go.Proofs.Ytboaifdkoemnbaa.Wo
