/- How a table lies in memory: its value, its nodes, acts and ends, and that they stay while memory grows. -/
import Derived.Test.YtgmkchkaceciiaaPkTab
import Derived.Test.YtgmkchkaceciiaaTeRights
namespace Go.Proofs.Ytgmkchkaceciiaa.Pk
set_option maxRecDepth 100000
open Go Go.RowKit Go.Proofs.Ytgmkchkaceciiaa.Sp Go.Proofs.Ytgmkchkaceciiaa.Pa Go.Proofs.Ytgmkchkaceciiaa.Te Go.Proofs.Ytgmkchkaceciiaa.Mi Go.Proofs.Ytgmkchkaceciiaa.De

/-- A slice value reads as a list of integers (of the type int). -/
def RI (w : World) (A : Option Addr) (n : Nat) (l : List Int) : Prop :=
  l.length = n ∧ (0 < n → ∃ b off, A = some ⟨b, off, none⟩ ∧ b < w.heap.size ∧ ∀ (j : Nat) (h : j < l.length), w.cell? ⟨b, off + j, none⟩ = some (.int .i64 l[j])) ∧ ∀ x ∈ l, IntR x
theorem RI.nil_ (w : World) (A : Option Addr) : RI w A 0 [] := ⟨rfl, fun h => absurd h (by omega), fun _ h => (List.not_mem_nil h).elim⟩
/-- .. as the nodes l. -/
def RNd (w : World) (A : Option Addr) (n : Nat) (l : List NdL) : Prop :=
  l.length = n ∧ (0 < n → ∃ b off, A = some ⟨b, off, none⟩ ∧ b < w.heap.size ∧ ∀ (j : Nat) (h : j < l.length),
    w.cell? ⟨b, off + j * 3, none⟩ = some (.int .i64 l[j].1) ∧ w.cell? ⟨b, off + j * 3 + 2, none⟩ = some (.int .i64 l[j].2.1) ∧
    ∃ A' c', w.cell? ⟨b, off + j * 3 + 1, none⟩ = some (.slice A' l[j].2.2.length c') ∧ RI w A' l[j].2.2.length l[j].2.2 ∧ l[j].2.2.length ≤ c' ∧ l[j].2.2.length ≤ maxLen)
/-- .. as the acts l. -/
def RAc (w : World) (A : Option Addr) (n : Nat) (l : List AcL) : Prop :=
  l.length = n ∧ (0 < n → ∃ b off, A = some ⟨b, off, none⟩ ∧ b < w.heap.size ∧ ∀ (j : Nat) (h : j < l.length),
    w.cell? ⟨b, off + j * 3, none⟩ = some (.int .i64 l[j].1) ∧ w.cell? ⟨b, off + j * 3 + 1, none⟩ = some (.int .i64 l[j].2.1) ∧
    ∃ A' c', w.cell? ⟨b, off + j * 3 + 2, none⟩ = some (.slice A' l[j].2.2.length c') ∧ RTm w A' l[j].2.2.length l[j].2.2 ∧ l[j].2.2.length ≤ c' ∧ l[j].2.2.length ≤ maxLen)
/-- .. as the ends l. -/
def REn (w : World) (A : Option Addr) (n : Nat) (l : List (List TmL)) : Prop :=
  l.length = n ∧ (0 < n → ∃ b off, A = some ⟨b, off, none⟩ ∧ b < w.heap.size ∧ ∀ (j : Nat) (h : j < l.length),
    ∃ A' c', w.cell? ⟨b, off + j, none⟩ = some (.slice A' l[j].length c') ∧ RTm w A' l[j].length l[j] ∧ l[j].length ≤ c' ∧ l[j].length ≤ maxLen)
section
variable {w w' : World} {A : Option Addr} {n : Nat}
theorem RI.belowM {l : List Int} (h : RI w A n l) (hb : Below w.heap.size w w') : RI w' A n l :=
  ⟨h.1, fun hn => by
    obtain ⟨b, off, e, hlt, hc⟩ := h.2.1 hn
    exact ⟨b, off, e, by have := hb.size; omega, fun j hj => (hb.cell hlt).trans (hc j hj)⟩, h.2.2⟩
theorem RI.at_ {l : List Int} {k : Nat} (h : RI w A n l) (hk : k < l.length) : ∃ b off, A = some ⟨b, off, none⟩ ∧ b < w.heap.size ∧ w.cell? ⟨b, off + k, none⟩ = some (.int .i64 l[k]) := by
  obtain ⟨b, off, e, hb, hc⟩ := h.2.1 (by have := h.1; omega)
  exact ⟨b, off, e, hb, hc k hk⟩
theorem RNd.belowM {l : List NdL} (h : RNd w A n l) (hb : Below w.heap.size w w') : RNd w' A n l :=
  ⟨h.1, fun hn => by
    obtain ⟨b, off, e, hlt, hc⟩ := h.2 hn
    refine ⟨b, off, e, by have := hb.size; omega, fun j hj => ?_⟩
    obtain ⟨h1, h2, A', c', h3, h4, h5⟩ := hc j hj
    exact ⟨(hb.cell hlt).trans h1, (hb.cell hlt).trans h2, A', c', (hb.cell hlt).trans h3, h4.belowM hb, h5⟩⟩
theorem RAc.belowM {l : List AcL} (h : RAc w A n l) (hb : Below w.heap.size w w') : RAc w' A n l :=
  ⟨h.1, fun hn => by
    obtain ⟨b, off, e, hlt, hc⟩ := h.2 hn
    refine ⟨b, off, e, by have := hb.size; omega, fun j hj => ?_⟩
    obtain ⟨h1, h2, A', c', h3, h4, h5⟩ := hc j hj
    exact ⟨(hb.cell hlt).trans h1, (hb.cell hlt).trans h2, A', c', (hb.cell hlt).trans h3, h4.belowM hb, h5⟩⟩
theorem REn.belowM {l : List (List TmL)} (h : REn w A n l) (hb : Below w.heap.size w w') : REn w' A n l :=
  ⟨h.1, fun hn => by
    obtain ⟨b, off, e, hlt, hc⟩ := h.2 hn
    refine ⟨b, off, e, by have := hb.size; omega, fun j hj => ?_⟩
    obtain ⟨A', c', h3, h4, h5⟩ := hc j hj
    exact ⟨A', c', (hb.cell hlt).trans h3, h4.belowM hb, h5⟩⟩
theorem RNd.at_ {l : List NdL} {k : Nat} (h : RNd w A n l) (hk : k < l.length) : ∃ b off, A = some ⟨b, off, none⟩ ∧ b < w.heap.size ∧ w.cell? ⟨b, off + k * 3, none⟩ = some (.int .i64 l[k].1) ∧ w.cell? ⟨b, off + k * 3 + 2, none⟩ = some (.int .i64 l[k].2.1) ∧
    ∃ A' c', w.cell? ⟨b, off + k * 3 + 1, none⟩ = some (.slice A' l[k].2.2.length c') ∧ RI w A' l[k].2.2.length l[k].2.2 ∧ l[k].2.2.length ≤ c' ∧ l[k].2.2.length ≤ maxLen := by
  obtain ⟨b, off, e, hb, hc⟩ := h.2 (by have := h.1; omega)
  exact ⟨b, off, e, hb, hc k hk⟩
theorem RAc.at_ {l : List AcL} {k : Nat} (h : RAc w A n l) (hk : k < l.length) : ∃ b off, A = some ⟨b, off, none⟩ ∧ b < w.heap.size ∧ w.cell? ⟨b, off + k * 3, none⟩ = some (.int .i64 l[k].1) ∧ w.cell? ⟨b, off + k * 3 + 1, none⟩ = some (.int .i64 l[k].2.1) ∧
    ∃ A' c', w.cell? ⟨b, off + k * 3 + 2, none⟩ = some (.slice A' l[k].2.2.length c') ∧ RTm w A' l[k].2.2.length l[k].2.2 ∧ l[k].2.2.length ≤ c' ∧ l[k].2.2.length ≤ maxLen := by
  obtain ⟨b, off, e, hb, hc⟩ := h.2 (by have := h.1; omega)
  exact ⟨b, off, e, hb, hc k hk⟩
theorem REn.at_ {l : List (List TmL)} {k : Nat} (h : REn w A n l) (hk : k < l.length) : ∃ b off, A = some ⟨b, off, none⟩ ∧ b < w.heap.size ∧
    ∃ A' c', w.cell? ⟨b, off + k, none⟩ = some (.slice A' l[k].length c') ∧ RTm w A' l[k].length l[k] ∧ l[k].length ≤ c' ∧ l[k].length ≤ maxLen := by
  obtain ⟨b, off, e, hb, hc⟩ := h.2 (by have := h.1; omega)
  exact ⟨b, off, e, hb, hc k hk⟩
end
/-- A table's cells. -/
def clsV (l : List Nat) : List Value := l.map fun c : Nat => Value.int .u8 (c : Int)
def tabV (cls : List Nat) (A : Option Addr) (n ca : Nat) (B : Option Addr) (m cb : Nat) (C : Option Addr) (k cc : Nat) : List Value := clsV cls ++ [.slice A n ca, .slice B m cb, .slice C k cc]
theorem tabV_length {cls : List Nat} {A B C : Option Addr} {n ca m cb k cc : Nat} (h : cls.length = 256) : (tabV cls A n ca B m cb C k cc).length = 259 := by
  unfold tabV clsV
  simp [h]
/-- A table, as a value with its memory. -/
structure TV where
  T : TabL
  A : Option Addr
  ca : Nat
  B : Option Addr
  cb : Nat
  C : Option Addr
  cc : Nat
def TV.cells (t : TV) : List Value := tabV t.T.cls t.A t.T.nodes.length t.ca t.B t.T.acts.length t.cb t.C t.T.ends.length t.cc
def TV.val (t : TV) : Value := .agg t.cells.toArray
structure TM (w : World) (t : TV) : Prop where
  cls : t.T.cls.length = 256
  byte : ∀ c ∈ t.T.cls, c < 256
  nodes : RNd w t.A t.T.nodes.length t.T.nodes
  acts : RAc w t.B t.T.acts.length t.T.acts
  ends : REn w t.C t.T.ends.length t.T.ends
  ca : t.T.nodes.length ≤ t.ca
  cb : t.T.acts.length ≤ t.cb
  cc : t.T.ends.length ≤ t.cc
  la : t.T.nodes.length ≤ maxLen
  lb : t.T.acts.length ≤ maxLen
  lc : t.T.ends.length ≤ maxLen
theorem TM.belowM {w w' : World} {t : TV} (h : TM w t) (hb : Below w.heap.size w w') : TM w' t :=
  ⟨h.cls, h.byte, h.nodes.belowM hb, h.acts.belowM hb, h.ends.belowM hb, h.ca, h.cb, h.cc, h.la, h.lb, h.lc⟩
theorem TV.length {t : TV} (h : t.T.cls.length = 256) : t.cells.length = 259 := tabV_length h
theorem TV.at_cls {t : TV} (h : t.T.cls.length = 256) {x : Nat} (hx : x < 256) : t.cells[x]? = some (.int .u8 ((t.T.cls[x]'(by omega) : Nat) : Int)) := by
  unfold TV.cells tabV clsV
  rw [List.getElem?_append_left (by rw [List.length_map]; omega), List.getElem?_map, List.getElem?_eq_getElem (by omega)]
  rfl
theorem TV.at_A {t : TV} (h : t.T.cls.length = 256) : t.cells[256]? = some (.slice t.A t.T.nodes.length t.ca) := by
  unfold TV.cells tabV clsV
  rw [List.getElem?_append_right (by rw [List.length_map]; omega), List.length_map, h]
  rfl
theorem TV.at_B {t : TV} (h : t.T.cls.length = 256) : t.cells[257]? = some (.slice t.B t.T.acts.length t.cb) := by
  unfold TV.cells tabV clsV
  rw [List.getElem?_append_right (by rw [List.length_map]; omega), List.length_map, h]
  rfl
theorem TV.at_C {t : TV} (h : t.T.cls.length = 256) : t.cells[258]? = some (.slice t.C t.T.ends.length t.cc) := by
  unfold TV.cells tabV clsV
  rw [List.getElem?_append_right (by rw [List.length_map]; omega), List.length_map, h]
  rfl
/-- A table's box. -/
def TBox (w : World) (x : Nat) (t : TV) : Prop := w.heap[x]? = some (.cells t.cells.toArray 44 (0, 0))
theorem TBox.keep {w w' : World} {x : Nat} {t : TV} (h : TBox w x t) (hk : w'.heap[x]? = w.heap[x]?) : TBox w' x t := hk.trans h
theorem TBox.cell {w : World} {x : Nat} {t : TV} (h : TBox w x t) (j : Nat) : w.cell? ⟨x, j, none⟩ = t.cells[j]? := by
  rw [cell_of_row w x j _ _ _ h]
  simp
theorem TBox.lt {w : World} {x : Nat} {t : TV} (h : TBox w x t) : x < w.heap.size := (Array.getElem?_eq_some_iff.1 h).1
end Go.Proofs.Ytgmkchkaceciiaa.Pk
