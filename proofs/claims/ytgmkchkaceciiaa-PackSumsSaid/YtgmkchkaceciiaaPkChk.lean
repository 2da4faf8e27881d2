/- What makes a table right, in words, and what terms need of a window. -/
import Derived.Test.YtgmkchkaceciiaaPkMem
namespace Go.Proofs.Ytgmkchkaceciiaa.Pk
set_option maxRecDepth 100000
open Go Go.RowKit Go.Proofs.Ytgmkchkaceciiaa.Sp Go.Proofs.Ytgmkchkaceciiaa.Pa Go.Proofs.Ytgmkchkaceciiaa.Te Go.Proofs.Ytgmkchkaceciiaa.Mi Go.Proofs.Ytgmkchkaceciiaa.De

noncomputable def termOk (n : Int) (t : TmL) : Bool := rightT 1 1 n t.b t.d t.t t.u t.s t.ps
noncomputable def termsOk (n : Int) (l : List TmL) : Bool := l.all (termOk n)
theorem rightB_mono {a d t u n m : Int} (h : rightB a d t u n = true) (hm : n ≤ m) : rightB a d t u m = true := by
  unfold rightB at h ⊢
  simp only [decide_eq_true_eq] at h ⊢
  exact ⟨h.1, by omega, h.2.2⟩
theorem termOk_mono {n m : Int} {t : TmL} (h : termOk n t = true) (hm : n ≤ m) : termOk m t = true := by
  unfold termOk rightT partsB at h ⊢
  simp only [Bool.and_eq_true, List.all_eq_true] at h ⊢
  exact ⟨h.1, h.2.1, h.2.2.1, fun q hq => rightB_mono (h.2.2.2.1 q hq) hm, h.2.2.2.2⟩
theorem termsOk_mono {n m : Int} {l : List TmL} (h : termsOk n l = true) (hm : n ≤ m) : termsOk m l = true := by
  unfold termsOk at h ⊢
  rw [List.all_eq_true] at h ⊢
  exact fun t ht => termOk_mono (h t ht) hm
/-- n is how long a window terms need; 5, if they are never right. -/
def NeedIs (l : List TmL) (n : Nat) : Prop := n ≤ 5 ∧ ∀ k : Nat, k ≤ 4 → (termsOk k l = true ↔ n ≤ k)
theorem NeedIs.nil : NeedIs [] 0 := ⟨Nat.zero_le _, fun _ _ => ⟨fun _ => Nat.zero_le _, fun _ => rfl⟩⟩
theorem NeedIs.snoc {l : List TmL} {t : TmL} {n m : Nat} (h : NeedIs l n) (hnm : n ≤ m) (hm : m ≤ 5) (h1 : ∀ k, n ≤ k → k < m → termOk k t = false) (h2 : m ≤ 4 → termOk m t = true) : NeedIs (l ++ [t]) m := by
  refine ⟨hm, fun k hk => ?_⟩
  unfold termsOk
  rw [List.all_append, Bool.and_eq_true]
  have e : ([t].all (termOk k) = true) ↔ termOk k t = true := by simp
  rw [e]
  have hl := h.2 k hk
  unfold termsOk at hl
  rw [hl]
  refine ⟨fun ⟨a, b⟩ => ?_, fun a => ⟨by omega, termOk_mono (h2 (by omega)) (by omega)⟩⟩
  rcases Nat.lt_or_ge k m with q | q
  · rw [h1 k a q] at b; cases b
  · exact q
theorem NeedIs.le {l : List TmL} {n : Nat} (h : NeedIs l n) {k : Int} (h0 : 0 ≤ k) (hk : k ≤ 4) : (n : Int) ≤ k ↔ termsOk k l = true := by
  obtain ⟨j, rfl⟩ := Int.eq_ofNat_of_zero_le h0
  rw [h.2 j (by omega)]
  omega
/-- May a number stand in the Next of a node that holds so many bytes? -/
def NextOk (T : TabL) (held x : Int) : Prop :=
  x = -1 ∨ (held ≠ 4 ∧ ((0 ≤ x ∧ ∃ n, T.nodes[x.toNat]? = some n ∧ n.1 = held + 1) ∨ (x ≤ -2 ∧ ∃ a, T.acts[(-2 - x).toNat]? = some a ∧ a.1 ≤ held + 1 ∧ termsOk (held + 1) a.2.2 = true)))
def EndOk (T : TabL) (held x : Int) : Prop := x = -1 ∨ (0 ≤ x ∧ ∃ l, T.ends[x.toNat]? = some l ∧ termsOk held l = true)
def NodeOk (T : TabL) (n : NdL) : Prop := EndOk T n.1 n.2.1 ∧ ∀ x ∈ n.2.2, NextOk T n.1 x
def ActOk (T : TabL) (a : AcL) : Prop := 1 ≤ a.1 ∧ a.1 ≤ 4 ∧ 0 ≤ a.2.1 ∧ (∃ n, T.nodes[a.2.1.toNat]? = some n ∧ n.1 = 0) ∧ a.2.2.length ≤ 64
structure SizesOk (T : TabL) : Prop where
  some_ : 1 ≤ T.nodes.length
  nodes : T.nodes.length ≤ 4096
  acts : T.acts.length ≤ 4096
  ends : T.ends.length ≤ 4096
  w1 : 1 ≤ T.wid
  w2 : T.wid ≤ 256
  head : (T.nodes.headD (0, 0, [])).1 = 0
  each : ∀ n ∈ T.nodes, n.2.2.length = T.wid ∧ 0 ≤ n.1 ∧ n.1 ≤ 4
  cls : ∀ c ∈ T.cls, c < T.wid
structure RightTab (T : TabL) : Prop where
  sizes : SizesOk T
  acts : ∀ a ∈ T.acts, ActOk T a
  ends : ∀ l ∈ T.ends, l.length ≤ 64
  nodes : ∀ n ∈ T.nodes, NodeOk T n
noncomputable def propB (p : Prop) : Bool := @decide p (Classical.propDecidable _)
theorem propB_true {p : Prop} (h : p) : propB p = true := by unfold propB; simp [h]
theorem propB_false {p : Prop} (h : ¬ p) : propB p = false := by unfold propB; simp [h]
theorem propB_iff {p : Prop} : propB p = true ↔ p := by unfold propB; simp
end Go.Proofs.Ytgmkchkaceciiaa.Pk
