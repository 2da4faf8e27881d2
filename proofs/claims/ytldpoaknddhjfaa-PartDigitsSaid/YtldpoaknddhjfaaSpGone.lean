/- The statements' helper gone: a range over span.Each. -/
import Derived.Test.YtldpoaknddhjfaaSpEach
import Derived.Test.YtldpoaknddhjfaaSpRest
import Derived.RangeFuncFrom
import Derived.RangeFuncBox
import Derived.RegionTactic
import Derived.BigRegion
import Derived.Deep.RegionWith
namespace Go.Proofs.Ytldpoaknddhjfaa.Sp
set_option maxRecDepth 100000
open Go Go.RowKit Go.Shelf
attribute [local go_sem] Oper.semAt_some

theorem boxed_kept {A A' : World} {B : Nat} {t : TypeId} {v : Value} {row : Option Nat} (h : Boxed A B t v) (hg : A.grownBy A' row) (hr : ∀ r, row = some r → ∃ o : Obj, A.heap[r]? = some o ∧ o.isCells = false) : Boxed A' B t v :=
  h.kept hg (fun e => by
    obtain ⟨o, ho, hc⟩ := hr _ e.symm
    rw [show A.heap[B]? = _ from h] at ho
    injection ho with ho
    subst ho
    cases hc)
theorem boxed_below {A A' : World} {B K : Nat} {t : TypeId} {v : Value} (h : Boxed A B t v) (hb : Below K A A') (hk : B < K) : Boxed A' B t v := (hb.block B hk).trans h
theorem boxed_far {A : World} {B C : Nat} {t : TypeId} {v : Value} (u : Value) (h : Boxed A B t v) (hne : B ≠ C) : Boxed (A.setCell ⟨C, 0, none⟩ u) B t v := by
  have := heap_setCell_other A ⟨C, 0, none⟩ B u hne
  exact this.trans h
theorem pre_snoc {L pre : List Int} {x : Int} (h : pre <+: L) (hx : ∃ hl : pre.length < L.length, L[pre.length] = x) : pre ++ [x] <+: L := by
  obtain ⟨t, rfl⟩ := h
  obtain ⟨hl, e⟩ := hx
  cases t with
  | nil => simp at hl
  | cons y t =>
    simp at e
    subst e
    exact ⟨t, by simp⟩
theorem pre_snoc_not {L pre : List Int} {x y : Int} (hy : ∃ hl : pre.length < L.length, L[pre.length] = y) (hne : ¬ x = y) : ¬ pre ++ [x] <+: L := by
  rintro ⟨t, rfl⟩
  obtain ⟨hl, e⟩ := hy
  simp at e
  exact hne e
theorem keepX_set {X : Nat → Prop} {W W' : World} (h : Below W.heap.size W W') {B : Nat} (hx : X B) (v : Value) : KeepX X W (W'.setCell ⟨B, 0, none⟩ v) :=
  ⟨by have := h.size; simp [World.size_setCell]; omega, fun k cs t fr hk hc => by
    have hlt := (Array.getElem?_eq_some_iff.1 hc).1
    rw [heap_setCell_other W' ⟨B, 0, none⟩ k v (fun e => hk (by rw [e]; exact hx)), h.block k hlt]
    exact hc⟩
theorem keepsOthers_set {W W' : World} (h : Below W.heap.size W W') {B : Nat} {t : TypeId} {u : Value} (hB : Boxed W B t u) (v : Value) : KeepsOthers W (W'.setCell ⟨B, 0, none⟩ v) :=
  ⟨by have := h.size; simp [World.size_setCell]; omega, fun k o hk hc => by
    have hlt := (Array.getElem?_eq_some_iff.1 hk).1
    have hne : B ≠ k := fun e => by
      subst e
      rw [show W.heap[B]? = _ from hB] at hk
      injection hk with hk
      subst hk
      cases hc
    rw [heap_setCell_other W' ⟨B, 0, none⟩ k v (fun e => hne e.symm), h.block k hlt]
    exact hk⟩

end Go.Proofs.Ytldpoaknddhjfaa.Sp
