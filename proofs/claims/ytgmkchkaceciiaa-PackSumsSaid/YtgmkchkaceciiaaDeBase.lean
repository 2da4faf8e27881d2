/- Words for descriptions: lists of terms, rules and finals as plain data, and how slice values read as them. -/
import Derived.Test.YtgmkchkaceciiaaTeBase
import Derived.Test.YtgmkchkaceciiaaMiBase
namespace Go.Proofs.Ytgmkchkaceciiaa.De
set_option maxRecDepth 100000
open Go Go.RowKit Go.Proofs.Ytgmkchkaceciiaa.Sp Go.Proofs.Ytgmkchkaceciiaa.Pa Go.Proofs.Ytgmkchkaceciiaa.Te Go.Proofs.Ytgmkchkaceciiaa.Mi

structure TmL where
  b : Int
  d : Int
  t : Int
  u : Int
  s : Int
  ps : List PT
deriving Inhabited
structure RuL where
  frm : Int
  to_ : Int
  gs : List (List Span)
  eat : Int
  out : List TmL
deriving Inhabited
structure FiL where
  frm : Int
  gs : List (List Span)
  out : List TmL
deriving Inhabited
/-- A number of the type int. -/
def IntR (x : Int) : Prop := -9223372036854775808 ≤ x ∧ x ≤ 9223372036854775807
/-- The slice value with address A and length n reads as the terms l, in a world. -/
def RTm (w : World) (A : Option Addr) (n : Nat) (l : List TmL) : Prop :=
  l.length = n ∧ (0 < n → ∃ b off, A = some ⟨b, off, none⟩ ∧ b < w.heap.size ∧ ∀ (j : Nat) (h : j < l.length),
    w.cell? ⟨b, off + j * 6, none⟩ = some (.int .i64 l[j].b) ∧ w.cell? ⟨b, off + j * 6 + 1, none⟩ = some (.int .i64 l[j].d) ∧ w.cell? ⟨b, off + j * 6 + 2, none⟩ = some (.int .i64 l[j].t) ∧ w.cell? ⟨b, off + j * 6 + 3, none⟩ = some (.int .i64 l[j].u) ∧ w.cell? ⟨b, off + j * 6 + 4, none⟩ = some (.int .i64 l[j].s) ∧
    ∃ A' c', w.cell? ⟨b, off + j * 6 + 5, none⟩ = some (.slice A' l[j].ps.length c') ∧ RP w w.heap.size A' l[j].ps.length l[j].ps ∧ l[j].ps.length ≤ c' ∧ l[j].ps.length ≤ maxLen)
/-- .. as the rules l. -/
def RRu (w : World) (A : Option Addr) (n : Nat) (l : List RuL) : Prop :=
  l.length = n ∧ (0 < n → ∃ b off, A = some ⟨b, off, none⟩ ∧ b < w.heap.size ∧ ∀ (j : Nat) (h : j < l.length),
    w.cell? ⟨b, off + j * 5, none⟩ = some (.int .i64 l[j].frm) ∧ w.cell? ⟨b, off + j * 5 + 1, none⟩ = some (.int .i64 l[j].to_) ∧ w.cell? ⟨b, off + j * 5 + 3, none⟩ = some (.int .i64 l[j].eat) ∧
    (∃ A' c', w.cell? ⟨b, off + j * 5 + 2, none⟩ = some (.slice A' l[j].gs.length c') ∧ RGs w A' l[j].gs.length l[j].gs ∧ l[j].gs.length ≤ c' ∧ l[j].gs.length ≤ maxLen ∧ ∀ g ∈ l[j].gs, g.length ≤ maxLen) ∧
    ∃ A' c', w.cell? ⟨b, off + j * 5 + 4, none⟩ = some (.slice A' l[j].out.length c') ∧ RTm w A' l[j].out.length l[j].out ∧ l[j].out.length ≤ c' ∧ l[j].out.length ≤ maxLen ∧ IntR l[j].eat)
/-- .. as the finals l. -/
def RFi (w : World) (A : Option Addr) (n : Nat) (l : List FiL) : Prop :=
  l.length = n ∧ (0 < n → ∃ b off, A = some ⟨b, off, none⟩ ∧ b < w.heap.size ∧ ∀ (j : Nat) (h : j < l.length),
    w.cell? ⟨b, off + j * 3, none⟩ = some (.int .i64 l[j].frm) ∧
    (∃ A' c', w.cell? ⟨b, off + j * 3 + 1, none⟩ = some (.slice A' l[j].gs.length c') ∧ RGs w A' l[j].gs.length l[j].gs ∧ l[j].gs.length ≤ c' ∧ l[j].gs.length ≤ maxLen ∧ ∀ g ∈ l[j].gs, g.length ≤ maxLen) ∧
    ∃ A' c', w.cell? ⟨b, off + j * 3 + 2, none⟩ = some (.slice A' l[j].out.length c') ∧ RTm w A' l[j].out.length l[j].out ∧ l[j].out.length ≤ c' ∧ l[j].out.length ≤ maxLen)
/-- A slice of terms in a rule's cells is nil only without room; k is the cell's place, m the cells of a rule. -/
def NilT (w : World) (A : Option Addr) (n m k : Nat) : Prop := ∀ b off, A = some ⟨b, off, none⟩ → ∀ j, j < n → ∀ l c, w.cell? ⟨b, off + j * m + k, none⟩ = some (.slice none l c) → c = 0
theorem RTm.nil_ (w : World) (A : Option Addr) : RTm w A 0 [] := ⟨rfl, fun h => absurd h (by omega)⟩
theorem RRu.nil_ (w : World) (A : Option Addr) : RRu w A 0 [] := ⟨rfl, fun h => absurd h (by omega)⟩
theorem RFi.nil_ (w : World) (A : Option Addr) : RFi w A 0 [] := ⟨rfl, fun h => absurd h (by omega)⟩
section
variable {w w' : World} {A : Option Addr} {n : Nat}
theorem RTm.belowM {l : List TmL} (h : RTm w A n l) (hb : Below w.heap.size w w') : RTm w' A n l :=
  ⟨h.1, fun hn => by
    obtain ⟨b, off, e, hlt, hc⟩ := h.2 hn
    refine ⟨b, off, e, by have := hb.size; omega, fun j hj => ?_⟩
    obtain ⟨h1, h2, h3, h4, h5, A', c', h6, h7, h8⟩ := hc j hj
    exact ⟨(hb.cell hlt).trans h1, (hb.cell hlt).trans h2, (hb.cell hlt).trans h3, (hb.cell hlt).trans h4, (hb.cell hlt).trans h5, A', c', (hb.cell hlt).trans h6, h7.belowM hb, h8⟩⟩
theorem RRu.belowM {l : List RuL} (h : RRu w A n l) (hb : Below w.heap.size w w') : RRu w' A n l :=
  ⟨h.1, fun hn => by
    obtain ⟨b, off, e, hlt, hc⟩ := h.2 hn
    refine ⟨b, off, e, by have := hb.size; omega, fun j hj => ?_⟩
    obtain ⟨h1, h2, h3, ⟨A', c', h4, h5, h6⟩, A2, c2, h7, h8, h9⟩ := hc j hj
    exact ⟨(hb.cell hlt).trans h1, (hb.cell hlt).trans h2, (hb.cell hlt).trans h3, ⟨A', c', (hb.cell hlt).trans h4, h5.belowM hb, h6⟩, A2, c2, (hb.cell hlt).trans h7, h8.belowM hb, h9⟩⟩
theorem RFi.belowM {l : List FiL} (h : RFi w A n l) (hb : Below w.heap.size w w') : RFi w' A n l :=
  ⟨h.1, fun hn => by
    obtain ⟨b, off, e, hlt, hc⟩ := h.2 hn
    refine ⟨b, off, e, by have := hb.size; omega, fun j hj => ?_⟩
    obtain ⟨h1, ⟨A', c', h4, h5, h6⟩, A2, c2, h7, h8, h9⟩ := hc j hj
    exact ⟨(hb.cell hlt).trans h1, ⟨A', c', (hb.cell hlt).trans h4, h5.belowM hb, h6⟩, A2, c2, (hb.cell hlt).trans h7, h8.belowM hb, h9⟩⟩
theorem RTm.at_ {l : List TmL} (h : RTm w A n l) {k : Nat} (hk : k < l.length) : ∃ b off, A = some ⟨b, off, none⟩ ∧ b < w.heap.size ∧
    w.cell? ⟨b, off + k * 6, none⟩ = some (.int .i64 l[k].b) ∧ w.cell? ⟨b, off + k * 6 + 1, none⟩ = some (.int .i64 l[k].d) ∧ w.cell? ⟨b, off + k * 6 + 2, none⟩ = some (.int .i64 l[k].t) ∧ w.cell? ⟨b, off + k * 6 + 3, none⟩ = some (.int .i64 l[k].u) ∧ w.cell? ⟨b, off + k * 6 + 4, none⟩ = some (.int .i64 l[k].s) ∧
    ∃ A' c', w.cell? ⟨b, off + k * 6 + 5, none⟩ = some (.slice A' l[k].ps.length c') ∧ RP w w.heap.size A' l[k].ps.length l[k].ps ∧ l[k].ps.length ≤ c' ∧ l[k].ps.length ≤ maxLen := by
  obtain ⟨b, off, e, hb, hc⟩ := h.2 (by have := h.1; omega)
  exact ⟨b, off, e, hb, hc k hk⟩
theorem RRu.at_ {l : List RuL} (h : RRu w A n l) {k : Nat} (hk : k < l.length) : ∃ b off A' c' A2 c2, A = some ⟨b, off, none⟩ ∧ b < w.heap.size ∧
    w.cell? ⟨b, off + k * 5, none⟩ = some (.int .i64 l[k].frm) ∧ w.cell? ⟨b, off + k * 5 + 1, none⟩ = some (.int .i64 l[k].to_) ∧ w.cell? ⟨b, off + k * 5 + 2, none⟩ = some (.slice A' l[k].gs.length c') ∧ w.cell? ⟨b, off + k * 5 + 3, none⟩ = some (.int .i64 l[k].eat) ∧ w.cell? ⟨b, off + k * 5 + 4, none⟩ = some (.slice A2 l[k].out.length c2) ∧
    (RGs w A' l[k].gs.length l[k].gs ∧ l[k].gs.length ≤ c' ∧ l[k].gs.length ≤ maxLen ∧ ∀ g ∈ l[k].gs, g.length ≤ maxLen) ∧ RTm w A2 l[k].out.length l[k].out ∧ l[k].out.length ≤ c2 ∧ l[k].out.length ≤ maxLen ∧ IntR l[k].eat := by
  obtain ⟨b, off, e, hb, hc⟩ := h.2 (by have := h.1; omega)
  obtain ⟨h1, h2, h3, ⟨A', c', h4, h5⟩, A2, c2, h6, h7⟩ := hc k hk
  exact ⟨b, off, A', c', A2, c2, e, hb, h1, h2, h4, h3, h6, h5, h7⟩
theorem RFi.at_ {l : List FiL} (h : RFi w A n l) {k : Nat} (hk : k < l.length) : ∃ b off A' c' A2 c2, A = some ⟨b, off, none⟩ ∧ b < w.heap.size ∧
    w.cell? ⟨b, off + k * 3, none⟩ = some (.int .i64 l[k].frm) ∧ w.cell? ⟨b, off + k * 3 + 1, none⟩ = some (.slice A' l[k].gs.length c') ∧ w.cell? ⟨b, off + k * 3 + 2, none⟩ = some (.slice A2 l[k].out.length c2) ∧
    (RGs w A' l[k].gs.length l[k].gs ∧ l[k].gs.length ≤ c' ∧ l[k].gs.length ≤ maxLen ∧ ∀ g ∈ l[k].gs, g.length ≤ maxLen) ∧ RTm w A2 l[k].out.length l[k].out ∧ l[k].out.length ≤ c2 ∧ l[k].out.length ≤ maxLen := by
  obtain ⟨b, off, e, hb, hc⟩ := h.2 (by have := h.1; omega)
  obtain ⟨h1, ⟨A', c', h4, h5⟩, A2, c2, h6, h7⟩ := hc k hk
  exact ⟨b, off, A', c', A2, c2, e, hb, h1, h4, h6, h5, h7⟩
end
/-- A description, as a value. -/
abbrev dsc (i o n s : Int) (A : Option Addr) (r cr : Nat) (B : Option Addr) (f cf : Nat) : Value := .agg #[.int .i64 i, .int .i64 o, .int .i64 n, .int .i64 s, .slice A r cr, .slice B f cf]
end Go.Proofs.Ytgmkchkaceciiaa.De
