/- Texts of this proof, joined: PkTab, PkMem, PkChk, PkNeed, PkLoad, PkRd, PkSizes, PkSmall. -/
import Derived.Test.YtboaifdkoemnbaaJ4
import Derived.Test.YtboaifdkoemnbaaJ6
import Derived.Deep.MidRow
import Derived.BigFrame
/- Tables as plain data, their bytes, and that bytes tell the table (cut off, or with something behind them, they are no table's). -/
namespace Go.Proofs.Ytboaifdkoemnbaa.Pk
set_option maxRecDepth 100000
open Go Go.RowKit Go.Proofs.Ytboaifdkoemnbaa.Sp Go.Proofs.Ytboaifdkoemnbaa.Pa Go.Proofs.Ytboaifdkoemnbaa.Te Go.Proofs.Ytboaifdkoemnbaa.Mi Go.Proofs.Ytboaifdkoemnbaa.De

/-- A code of which no word begins another one (of those that P holds of). -/
def PreC {α β : Type} (P : α → Prop) (f : α → List β) : Prop := ∀ x y l r, P x → P y → f x ++ l = f y ++ r → x = y ∧ l = r
theorem flat_pre {α β : Type} {P : α → Prop} {f : α → List β} (hf : PreC P f) : ∀ {xs ys : List α} {l r : List β}, (∀ x ∈ xs, P x) → (∀ y ∈ ys, P y) → xs.length = ys.length → xs.flatMap f ++ l = ys.flatMap f ++ r → xs = ys ∧ l = r := by
  intro xs
  induction xs with
  | nil =>
    intro ys l r _ _ hn h
    obtain rfl : ys = [] := List.length_eq_zero_iff.1 hn.symm
    exact ⟨rfl, h⟩
  | cons x xs ih =>
    intro ys l r hx hy hn h
    cases ys with
    | nil => simp at hn
    | cons y ys =>
      rw [List.flatMap_cons, List.flatMap_cons, List.append_assoc, List.append_assoc] at h
      obtain ⟨rfl, h2⟩ := hf _ _ _ _ (hx _ List.mem_cons_self) (hy _ List.mem_cons_self) h
      obtain ⟨rfl, h3⟩ := ih (fun q hq => hx q (List.mem_cons_of_mem _ hq)) (fun q hq => hy q (List.mem_cons_of_mem _ hq)) (by simpa using hn) h2
      exact ⟨rfl, h3⟩
/-- A part, a term, terms, a node, an act as numbers. -/
def partI (p : PT) : List Int := [p.1, p.2.1, p.2.2.1, p.2.2.2]
def termI (t : TmL) : List Int := [t.b, t.d, t.t, t.u, t.s, (t.ps.length : Int)] ++ t.ps.flatMap partI
def termsI (l : List TmL) : List Int := (l.length : Int) :: l.flatMap termI
/-- A node: Held, End, Next; an act: Eat, To, its terms. -/
abbrev NdL := Int × Int × List Int
abbrev AcL := Int × Int × List TmL
def nodeI (n : NdL) : List Int := n.1 :: n.2.1 :: n.2.2
def actI (a : AcL) : List Int := a.1 :: a.2.1 :: termsI a.2.2
theorem partI_pre : PreC (fun _ => True) partI := by
  rintro ⟨a, b, c, d⟩ ⟨a', b', c', d'⟩ l r _ _ h
  simp only [partI, List.cons_append, List.nil_append, List.cons.injEq] at h
  obtain ⟨rfl, rfl, rfl, rfl, rfl⟩ := h
  exact ⟨rfl, rfl⟩
theorem termI_pre : PreC (fun _ => True) termI := by
  rintro ⟨b, d, t, u, s, ps⟩ ⟨b', d', t', u', s', ps'⟩ l r _ _ h
  simp only [termI, List.cons_append, List.nil_append, List.cons.injEq] at h
  obtain ⟨rfl, rfl, rfl, rfl, rfl, hn, h⟩ := h
  obtain ⟨rfl, rfl⟩ := flat_pre partI_pre (fun _ _ => trivial) (fun _ _ => trivial) (Int.ofNat.inj hn) h
  exact ⟨rfl, rfl⟩
theorem termsI_pre : PreC (fun _ => True) termsI := by
  intro x y l r _ _ h
  simp only [termsI, List.cons_append, List.cons.injEq] at h
  exact flat_pre termI_pre (fun _ _ => trivial) (fun _ _ => trivial) (Int.ofNat.inj h.1) h.2
theorem nodeI_pre (m : Nat) : PreC (fun n => n.2.2.length = m) nodeI := by
  rintro ⟨a, b, c⟩ ⟨a', b', c'⟩ l r hx hy h
  simp only [nodeI, List.cons_append, List.cons.injEq] at h hx hy
  obtain ⟨rfl, rfl, h⟩ := h
  obtain ⟨rfl, rfl⟩ := List.append_inj h (hx.trans hy.symm)
  exact ⟨rfl, rfl⟩
theorem actI_pre : PreC (fun _ => True) actI := by
  rintro ⟨a, b, c⟩ ⟨a', b', c'⟩ l r _ _ h
  simp only [actI, List.cons_append, List.cons.injEq] at h
  obtain ⟨rfl, rfl, h⟩ := h
  obtain ⟨rfl, rfl⟩ := termsI_pre _ _ _ _ trivial trivial h
  exact ⟨rfl, rfl⟩
/-- A table as plain data. -/
structure TabL where
  cls : List Nat
  nodes : List NdL
  acts : List AcL
  ends : List (List TmL)
/-- How many numbers a node's Next has. -/
def TabL.wid (T : TabL) : Nat := (T.nodes.headD (0, 0, [])).2.2.length
def TabL.headI (T : TabL) : List Int := [(T.wid : Int), (T.nodes.length : Int), (T.acts.length : Int), (T.ends.length : Int)]
def TabL.restI (T : TabL) : List Int := T.nodes.flatMap nodeI ++ (T.acts.flatMap actI ++ T.ends.flatMap termsI)
def magicL : List Nat := [117, 109, 108, 116, 49]
def TabL.body (T : TabL) : List Nat := magicL ++ (numsB T.headI ++ (T.cls ++ numsB T.restI))
def TabL.bytes (T : TabL) : List Nat := T.body ++ num4 (sumL T.body)
/-- What the bytes need of a table. -/
structure TabL.Fit (T : TabL) : Prop where
  cls : T.cls.length = 256
  next : ∀ n ∈ T.nodes, n.2.2.length = T.wid
  head : ∀ x ∈ T.headI, In32 x
  rest : ∀ x ∈ T.restI, In32 x
theorem TabL.rest_inj {T U : TabL} (hT : T.Fit) (hU : U.Fit) (hh : T.headI = U.headI) (h : T.restI = U.restI) : T.nodes = U.nodes ∧ T.acts = U.acts ∧ T.ends = U.ends := by
  simp only [TabL.headI, List.cons.injEq, and_true] at hh
  obtain ⟨h1, h2, h3, h4⟩ := hh
  unfold TabL.restI at h
  obtain ⟨e1, h5⟩ := flat_pre (nodeI_pre T.wid) hT.next (fun n hn => (hU.next n hn).trans (Int.ofNat.inj h1).symm) (Int.ofNat.inj h2) h
  obtain ⟨e2, h6⟩ := flat_pre actI_pre (fun _ _ => trivial) (fun _ _ => trivial) (Int.ofNat.inj h3) h5
  have h7 : T.ends.flatMap termsI ++ [] = U.ends.flatMap termsI ++ [] := by rw [h6]
  exact ⟨e1, e2, (flat_pre termsI_pre (fun _ _ => trivial) (fun _ _ => trivial) (Int.ofNat.inj h4) h7).1⟩
theorem TabL.rest_pre {T U : TabL} (hT : T.Fit) (hU : U.Fit) (hh : T.headI = U.headI) {l r : List Int} (h : T.restI ++ l = U.restI ++ r) : l = r := by
  simp only [TabL.headI, List.cons.injEq, and_true] at hh
  obtain ⟨h1, h2, h3, h4⟩ := hh
  unfold TabL.restI at h
  simp only [List.append_assoc] at h
  obtain ⟨_, h5⟩ := flat_pre (nodeI_pre T.wid) hT.next (fun n hn => (hU.next n hn).trans (Int.ofNat.inj h1).symm) (Int.ofNat.inj h2) h
  obtain ⟨_, h6⟩ := flat_pre actI_pre (fun _ _ => trivial) (fun _ _ => trivial) (Int.ofNat.inj h3) h5
  exact (flat_pre termsI_pre (fun _ _ => trivial) (fun _ _ => trivial) (Int.ofNat.inj h4) h6).2
/-- Numbers that begin the same bytes: the shorter row begins the longer one. -/
theorem numsB_pre {xs ys : List Int} {l r : List Nat} (hx : ∀ x ∈ xs, In32 x) (hy : ∀ y ∈ ys, In32 y) (hn : xs.length ≤ ys.length) (h : numsB xs ++ l = numsB ys ++ r) : ∃ zs, ys = xs ++ zs ∧ l = numsB zs ++ r := by
  refine ⟨ys.drop xs.length, ?_⟩
  have e : ys = ys.take xs.length ++ ys.drop xs.length := (List.take_append_drop _ _).symm
  rw [e, numsB_append, List.append_assoc] at h
  obtain ⟨h1, h2⟩ := numsB_inj hx (fun y q => hy y (List.mem_of_mem_take q)) (by rw [List.length_take]; omega) h
  refine ⟨?_, h2⟩
  rw [h1, List.length_take, Nat.min_eq_left hn]
  exact e
/-- No table's bytes, the check apart, begin another one's. -/
theorem TabL.body_pre {T U : TabL} (hT : T.Fit) (hU : U.Fit) {l r : List Nat} (h : T.body ++ l = U.body ++ r) : T = U ∧ l = r := by
  unfold TabL.body at h
  simp only [List.append_assoc] at h
  obtain ⟨hh, h2⟩ := numsB_inj hT.head hU.head rfl (List.append_cancel_left h)
  obtain ⟨hc, h3⟩ := List.append_inj h2 (hT.cls.trans hU.cls.symm)
  have key : T.restI = U.restI := by
    rcases Nat.le_total T.restI.length U.restI.length with hl | hl
    · obtain ⟨zs, e1, _⟩ := numsB_pre hT.rest hU.rest hl h3
      have := TabL.rest_pre hT hU hh (l := zs) (r := []) (by rw [e1, List.append_nil])
      rw [e1, this, List.append_nil]
    · obtain ⟨zs, e1, _⟩ := numsB_pre hU.rest hT.rest hl h3.symm
      have := TabL.rest_pre hU hT hh.symm (l := zs) (r := []) (by rw [e1, List.append_nil])
      rw [e1, this, List.append_nil]
  obtain ⟨e1, e2, e3⟩ := TabL.rest_inj hT hU hh key
  rw [key] at h3
  refine ⟨?_, List.append_cancel_left h3⟩
  cases T
  cases U
  simp only at hc e1 e2 e3
  subst hc e1 e2 e3
  rfl
/-- The bytes tell the table. -/
theorem TabL.bytes_inj {T U : TabL} (hT : T.Fit) (hU : U.Fit) (h : T.bytes = U.bytes) : T = U := (TabL.body_pre hT hU h).1
/-- A table's bytes with something behind them, or cut off, are no table's. -/
theorem TabL.bytes_pre {T U : TabL} (hT : T.Fit) (hU : U.Fit) {l : List Nat} (h : T.bytes ++ l = U.bytes) : T = U ∧ l = [] := by
  unfold TabL.bytes at h
  rw [List.append_assoc] at h
  obtain ⟨rfl, h2⟩ := TabL.body_pre hT hU h
  have h3 : num4 (sumL T.body) ++ l = num4 (sumL T.body) ++ [] := by rw [h2, List.append_nil]
  exact ⟨rfl, List.append_cancel_left h3⟩
theorem TabL.checks (T : TabL) : Checks T.bytes := ⟨T.body, rfl⟩
end Go.Proofs.Ytboaifdkoemnbaa.Pk
/- How a table lies in memory: its value, its nodes, acts and ends, and that they stay while memory grows. -/
namespace Go.Proofs.Ytboaifdkoemnbaa.Pk
set_option maxRecDepth 100000
open Go Go.RowKit Go.Proofs.Ytboaifdkoemnbaa.Sp Go.Proofs.Ytboaifdkoemnbaa.Pa Go.Proofs.Ytboaifdkoemnbaa.Te Go.Proofs.Ytboaifdkoemnbaa.Mi Go.Proofs.Ytboaifdkoemnbaa.De

/-- A slice value reads as a list of integers (of the type int). -/
def RI (w : World) (A : Option Addr) (n : Nat) (l : List Int) : Prop :=
  l.length = n ∧ (0 < n → ∃ b off, A = some ⟨b, off, none⟩ ∧ b < w.heap.size ∧ ∀ (j : Nat) (h : j < l.length), w.cell? ⟨b, off + j, none⟩ = some (.int .i64 l[j])) ∧ ∀ x ∈ l, IntR x
theorem RI.nil_ (w : World) (A : Option Addr) : RI w A 0 [] := ⟨rfl, fun h => absurd h (by omega), fun _ h => (List.not_mem_nil h).elim⟩
/-- .. as the nodes l. -/
def RNd (w : World) (A : Option Addr) (n : Nat) (l : List NdL) : Prop :=
  l.length = n ∧ (0 < n → ∃ b off, A = some ⟨b, off, none⟩ ∧ b < w.heap.size ∧ ∀ (j : Nat) (h : j < l.length),
    w.cell? ⟨b, off + j * 3, none⟩ = some (.int .i64 l[j].1) ∧ w.cell? ⟨b, off + j * 3 + 2, none⟩ = some (.int .i64 l[j].2.1) ∧
    ∃ A' c', w.cell? ⟨b, off + j * 3 + 1, none⟩ = some (.slice A' l[j].2.2.length c') ∧ RI w A' l[j].2.2.length l[j].2.2 ∧ l[j].2.2.length ≤ c' ∧ l[j].2.2.length ≤ maxLen)
/-- .. as the acts l. -/
def RAc (w : World) (A : Option Addr) (n : Nat) (l : List AcL) : Prop :=
  l.length = n ∧ (0 < n → ∃ b off, A = some ⟨b, off, none⟩ ∧ b < w.heap.size ∧ ∀ (j : Nat) (h : j < l.length),
    w.cell? ⟨b, off + j * 3, none⟩ = some (.int .i64 l[j].1) ∧ w.cell? ⟨b, off + j * 3 + 1, none⟩ = some (.int .i64 l[j].2.1) ∧
    ∃ A' c', w.cell? ⟨b, off + j * 3 + 2, none⟩ = some (.slice A' l[j].2.2.length c') ∧ RTm w A' l[j].2.2.length l[j].2.2 ∧ l[j].2.2.length ≤ c' ∧ l[j].2.2.length ≤ maxLen)
/-- .. as the ends l. -/
def REn (w : World) (A : Option Addr) (n : Nat) (l : List (List TmL)) : Prop :=
  l.length = n ∧ (0 < n → ∃ b off, A = some ⟨b, off, none⟩ ∧ b < w.heap.size ∧ ∀ (j : Nat) (h : j < l.length),
    ∃ A' c', w.cell? ⟨b, off + j, none⟩ = some (.slice A' l[j].length c') ∧ RTm w A' l[j].length l[j] ∧ l[j].length ≤ c' ∧ l[j].length ≤ maxLen)
section
variable {w w' : World} {A : Option Addr} {n : Nat}
theorem RI.belowM {l : List Int} (h : RI w A n l) (hb : Below w.heap.size w w') : RI w' A n l :=
  ⟨h.1, fun hn => by
    obtain ⟨b, off, e, hlt, hc⟩ := h.2.1 hn
    exact ⟨b, off, e, by have := hb.size; omega, fun j hj => (hb.cell hlt).trans (hc j hj)⟩, h.2.2⟩
theorem RI.at_ {l : List Int} {k : Nat} (h : RI w A n l) (hk : k < l.length) : ∃ b off, A = some ⟨b, off, none⟩ ∧ b < w.heap.size ∧ w.cell? ⟨b, off + k, none⟩ = some (.int .i64 l[k]) := by
  obtain ⟨b, off, e, hb, hc⟩ := h.2.1 (by have := h.1; omega)
  exact ⟨b, off, e, hb, hc k hk⟩
theorem RNd.belowM {l : List NdL} (h : RNd w A n l) (hb : Below w.heap.size w w') : RNd w' A n l :=
  ⟨h.1, fun hn => by
    obtain ⟨b, off, e, hlt, hc⟩ := h.2 hn
    refine ⟨b, off, e, by have := hb.size; omega, fun j hj => ?_⟩
    obtain ⟨h1, h2, A', c', h3, h4, h5⟩ := hc j hj
    exact ⟨(hb.cell hlt).trans h1, (hb.cell hlt).trans h2, A', c', (hb.cell hlt).trans h3, h4.belowM hb, h5⟩⟩
theorem RAc.belowM {l : List AcL} (h : RAc w A n l) (hb : Below w.heap.size w w') : RAc w' A n l :=
  ⟨h.1, fun hn => by
    obtain ⟨b, off, e, hlt, hc⟩ := h.2 hn
    refine ⟨b, off, e, by have := hb.size; omega, fun j hj => ?_⟩
    obtain ⟨h1, h2, A', c', h3, h4, h5⟩ := hc j hj
    exact ⟨(hb.cell hlt).trans h1, (hb.cell hlt).trans h2, A', c', (hb.cell hlt).trans h3, h4.belowM hb, h5⟩⟩
theorem REn.belowM {l : List (List TmL)} (h : REn w A n l) (hb : Below w.heap.size w w') : REn w' A n l :=
  ⟨h.1, fun hn => by
    obtain ⟨b, off, e, hlt, hc⟩ := h.2 hn
    refine ⟨b, off, e, by have := hb.size; omega, fun j hj => ?_⟩
    obtain ⟨A', c', h3, h4, h5⟩ := hc j hj
    exact ⟨A', c', (hb.cell hlt).trans h3, h4.belowM hb, h5⟩⟩
theorem RNd.at_ {l : List NdL} {k : Nat} (h : RNd w A n l) (hk : k < l.length) : ∃ b off, A = some ⟨b, off, none⟩ ∧ b < w.heap.size ∧ w.cell? ⟨b, off + k * 3, none⟩ = some (.int .i64 l[k].1) ∧ w.cell? ⟨b, off + k * 3 + 2, none⟩ = some (.int .i64 l[k].2.1) ∧
    ∃ A' c', w.cell? ⟨b, off + k * 3 + 1, none⟩ = some (.slice A' l[k].2.2.length c') ∧ RI w A' l[k].2.2.length l[k].2.2 ∧ l[k].2.2.length ≤ c' ∧ l[k].2.2.length ≤ maxLen := by
  obtain ⟨b, off, e, hb, hc⟩ := h.2 (by have := h.1; omega)
  exact ⟨b, off, e, hb, hc k hk⟩
theorem RAc.at_ {l : List AcL} {k : Nat} (h : RAc w A n l) (hk : k < l.length) : ∃ b off, A = some ⟨b, off, none⟩ ∧ b < w.heap.size ∧ w.cell? ⟨b, off + k * 3, none⟩ = some (.int .i64 l[k].1) ∧ w.cell? ⟨b, off + k * 3 + 1, none⟩ = some (.int .i64 l[k].2.1) ∧
    ∃ A' c', w.cell? ⟨b, off + k * 3 + 2, none⟩ = some (.slice A' l[k].2.2.length c') ∧ RTm w A' l[k].2.2.length l[k].2.2 ∧ l[k].2.2.length ≤ c' ∧ l[k].2.2.length ≤ maxLen := by
  obtain ⟨b, off, e, hb, hc⟩ := h.2 (by have := h.1; omega)
  exact ⟨b, off, e, hb, hc k hk⟩
theorem REn.at_ {l : List (List TmL)} {k : Nat} (h : REn w A n l) (hk : k < l.length) : ∃ b off, A = some ⟨b, off, none⟩ ∧ b < w.heap.size ∧
    ∃ A' c', w.cell? ⟨b, off + k, none⟩ = some (.slice A' l[k].length c') ∧ RTm w A' l[k].length l[k] ∧ l[k].length ≤ c' ∧ l[k].length ≤ maxLen := by
  obtain ⟨b, off, e, hb, hc⟩ := h.2 (by have := h.1; omega)
  exact ⟨b, off, e, hb, hc k hk⟩
end
/-- A table's cells. -/
def clsV (l : List Nat) : List Value := l.map fun c : Nat => Value.int .u8 (c : Int)
def tabV (cls : List Nat) (A : Option Addr) (n ca : Nat) (B : Option Addr) (m cb : Nat) (C : Option Addr) (k cc : Nat) : List Value := clsV cls ++ [.slice A n ca, .slice B m cb, .slice C k cc]
theorem tabV_length {cls : List Nat} {A B C : Option Addr} {n ca m cb k cc : Nat} (h : cls.length = 256) : (tabV cls A n ca B m cb C k cc).length = 259 := by
  unfold tabV clsV
  simp [h]
/-- A table, as a value with its memory. -/
structure TV where
  T : TabL
  A : Option Addr
  ca : Nat
  B : Option Addr
  cb : Nat
  C : Option Addr
  cc : Nat
def TV.cells (t : TV) : List Value := tabV t.T.cls t.A t.T.nodes.length t.ca t.B t.T.acts.length t.cb t.C t.T.ends.length t.cc
def TV.val (t : TV) : Value := .agg t.cells.toArray
structure TM (w : World) (t : TV) : Prop where
  cls : t.T.cls.length = 256
  byte : ∀ c ∈ t.T.cls, c < 256
  nodes : RNd w t.A t.T.nodes.length t.T.nodes
  acts : RAc w t.B t.T.acts.length t.T.acts
  ends : REn w t.C t.T.ends.length t.T.ends
  ca : t.T.nodes.length ≤ t.ca
  cb : t.T.acts.length ≤ t.cb
  cc : t.T.ends.length ≤ t.cc
  la : t.T.nodes.length ≤ maxLen
  lb : t.T.acts.length ≤ maxLen
  lc : t.T.ends.length ≤ maxLen
theorem TM.belowM {w w' : World} {t : TV} (h : TM w t) (hb : Below w.heap.size w w') : TM w' t :=
  ⟨h.cls, h.byte, h.nodes.belowM hb, h.acts.belowM hb, h.ends.belowM hb, h.ca, h.cb, h.cc, h.la, h.lb, h.lc⟩
theorem TV.length {t : TV} (h : t.T.cls.length = 256) : t.cells.length = 259 := tabV_length h
theorem TV.at_cls {t : TV} (h : t.T.cls.length = 256) {x : Nat} (hx : x < 256) : t.cells[x]? = some (.int .u8 ((t.T.cls[x]'(by omega) : Nat) : Int)) := by
  unfold TV.cells tabV clsV
  rw [List.getElem?_append_left (by rw [List.length_map]; omega), List.getElem?_map, List.getElem?_eq_getElem (by omega)]
  rfl
theorem TV.at_A {t : TV} (h : t.T.cls.length = 256) : t.cells[256]? = some (.slice t.A t.T.nodes.length t.ca) := by
  unfold TV.cells tabV clsV
  rw [List.getElem?_append_right (by rw [List.length_map]; omega), List.length_map, h]
  rfl
theorem TV.at_B {t : TV} (h : t.T.cls.length = 256) : t.cells[257]? = some (.slice t.B t.T.acts.length t.cb) := by
  unfold TV.cells tabV clsV
  rw [List.getElem?_append_right (by rw [List.length_map]; omega), List.length_map, h]
  rfl
theorem TV.at_C {t : TV} (h : t.T.cls.length = 256) : t.cells[258]? = some (.slice t.C t.T.ends.length t.cc) := by
  unfold TV.cells tabV clsV
  rw [List.getElem?_append_right (by rw [List.length_map]; omega), List.length_map, h]
  rfl
/-- A table's box. -/
def TBox (w : World) (x : Nat) (t : TV) : Prop := w.heap[x]? = some (.cells t.cells.toArray 27 (0, 0))
theorem TBox.keep {w w' : World} {x : Nat} {t : TV} (h : TBox w x t) (hk : w'.heap[x]? = w.heap[x]?) : TBox w' x t := hk.trans h
theorem TBox.cell {w : World} {x : Nat} {t : TV} (h : TBox w x t) (j : Nat) : w.cell? ⟨x, j, none⟩ = t.cells[j]? := by
  rw [cell_of_row w x j _ _ _ h]
  simp
theorem TBox.lt {w : World} {x : Nat} {t : TV} (h : TBox w x t) : x < w.heap.size := (Array.getElem?_eq_some_iff.1 h).1
end Go.Proofs.Ytboaifdkoemnbaa.Pk
/- What makes a table right, in words, and what terms need of a window. -/
namespace Go.Proofs.Ytboaifdkoemnbaa.Pk
set_option maxRecDepth 100000
open Go Go.RowKit Go.Proofs.Ytboaifdkoemnbaa.Sp Go.Proofs.Ytboaifdkoemnbaa.Pa Go.Proofs.Ytboaifdkoemnbaa.Te Go.Proofs.Ytboaifdkoemnbaa.Mi Go.Proofs.Ytboaifdkoemnbaa.De

noncomputable def termOk (n : Int) (t : TmL) : Bool := rightT 1 1 n t.b t.d t.t t.u t.s t.ps
noncomputable def termsOk (n : Int) (l : List TmL) : Bool := l.all (termOk n)
theorem rightB_mono {a d t u n m : Int} (h : rightB a d t u n = true) (hm : n ≤ m) : rightB a d t u m = true := by
  unfold rightB at h ⊢
  simp only [decide_eq_true_eq] at h ⊢
  exact ⟨h.1, by omega, h.2.2⟩
theorem termOk_mono {n m : Int} {t : TmL} (h : termOk n t = true) (hm : n ≤ m) : termOk m t = true := by
  unfold termOk rightT partsB at h ⊢
  simp only [Bool.and_eq_true, List.all_eq_true] at h ⊢
  exact ⟨h.1, h.2.1, h.2.2.1, fun q hq => rightB_mono (h.2.2.2.1 q hq) hm, h.2.2.2.2⟩
/-- n is how long a window terms need; 5, if they are never right. -/
def NeedIs (l : List TmL) (n : Nat) : Prop := n ≤ 5 ∧ ∀ k : Nat, k ≤ 4 → (termsOk k l = true ↔ n ≤ k)
theorem NeedIs.nil : NeedIs [] 0 := ⟨Nat.zero_le _, fun _ _ => ⟨fun _ => Nat.zero_le _, fun _ => rfl⟩⟩
theorem NeedIs.snoc {l : List TmL} {t : TmL} {n m : Nat} (h : NeedIs l n) (hnm : n ≤ m) (hm : m ≤ 5) (h1 : ∀ k, n ≤ k → k < m → termOk k t = false) (h2 : m ≤ 4 → termOk m t = true) : NeedIs (l ++ [t]) m := by
  refine ⟨hm, fun k hk => ?_⟩
  unfold termsOk
  rw [List.all_append, Bool.and_eq_true]
  have e : ([t].all (termOk k) = true) ↔ termOk k t = true := by simp
  rw [e]
  have hl := h.2 k hk
  unfold termsOk at hl
  rw [hl]
  refine ⟨fun ⟨a, b⟩ => ?_, fun a => ⟨by omega, termOk_mono (h2 (by omega)) (by omega)⟩⟩
  rcases Nat.lt_or_ge k m with q | q
  · rw [h1 k a q] at b; cases b
  · exact q
theorem NeedIs.le {l : List TmL} {n : Nat} (h : NeedIs l n) {k : Int} (h0 : 0 ≤ k) (hk : k ≤ 4) : (n : Int) ≤ k ↔ termsOk k l = true := by
  obtain ⟨j, rfl⟩ := Int.eq_ofNat_of_zero_le h0
  rw [h.2 j (by omega)]
  omega
/-- May a number stand in the Next of a node that holds so many bytes? -/
def NextOk (T : TabL) (held x : Int) : Prop :=
  x = -1 ∨ (held ≠ 4 ∧ ((0 ≤ x ∧ ∃ n, T.nodes[x.toNat]? = some n ∧ n.1 = held + 1) ∨ (x ≤ -2 ∧ ∃ a, T.acts[(-2 - x).toNat]? = some a ∧ a.1 ≤ held + 1 ∧ termsOk (held + 1) a.2.2 = true)))
def EndOk (T : TabL) (held x : Int) : Prop := x = -1 ∨ (0 ≤ x ∧ ∃ l, T.ends[x.toNat]? = some l ∧ termsOk held l = true)
def NodeOk (T : TabL) (n : NdL) : Prop := EndOk T n.1 n.2.1 ∧ ∀ x ∈ n.2.2, NextOk T n.1 x
def ActOk (T : TabL) (a : AcL) : Prop := 1 ≤ a.1 ∧ a.1 ≤ 4 ∧ 0 ≤ a.2.1 ∧ (∃ n, T.nodes[a.2.1.toNat]? = some n ∧ n.1 = 0) ∧ a.2.2.length ≤ 64
structure SizesOk (T : TabL) : Prop where
  some_ : 1 ≤ T.nodes.length
  nodes : T.nodes.length ≤ 4096
  acts : T.acts.length ≤ 4096
  ends : T.ends.length ≤ 4096
  w1 : 1 ≤ T.wid
  w2 : T.wid ≤ 256
  head : (T.nodes.headD (0, 0, [])).1 = 0
  each : ∀ n ∈ T.nodes, n.2.2.length = T.wid ∧ 0 ≤ n.1 ∧ n.1 ≤ 4
  cls : ∀ c ∈ T.cls, c < T.wid
structure RightTab (T : TabL) : Prop where
  sizes : SizesOk T
  acts : ∀ a ∈ T.acts, ActOk T a
  ends : ∀ l ∈ T.ends, l.length ≤ 64
  nodes : ∀ n ∈ T.nodes, NodeOk T n
noncomputable def propB (p : Prop) : Bool := @decide p (Classical.propDecidable _)
theorem propB_true {p : Prop} (h : p) : propB p = true := by unfold propB; simp [h]
theorem propB_false {p : Prop} (h : ¬ p) : propB p = false := by unfold propB; simp [h]
theorem propB_iff {p : Prop} : propB p = true ↔ p := by unfold propB; simp
end Go.Proofs.Ytboaifdkoemnbaa.Pk
/- The walk of table.need. -/
namespace Go.Proofs.Ytboaifdkoemnbaa.Pk
set_option maxRecDepth 100000
open Go Go.RowKit Go.Proofs.Ytboaifdkoemnbaa.Sp Go.Proofs.Ytboaifdkoemnbaa.Pa Go.Proofs.Ytboaifdkoemnbaa.Te Go.Proofs.Ytboaifdkoemnbaa.Mi Go.Proofs.Ytboaifdkoemnbaa.De

def NeedOut (l : List TmL) (w : World) (e : Ending) (w' : World) : Prop := ∃ n : Nat, NeedIs l n ∧ e = .returned (.int .i64 n) ∧ Below w.heap.size w w'
def NeRel (l : List TmL) (w : World) (nv iv : Value) (wr : World) : Prop := ∃ k n : Nat, k ≤ l.length ∧ iv = .int .i64 k ∧ nv = .int .i64 n ∧ NeedIs (l.take k) n ∧ n ≤ 5 ∧ Below w.heap.size w wr
/-- The inner loop: from n on no window as short is enough. -/
def NiRel (t : TmL) (n : Nat) (W : World) (nv : Value) (wr : World) : Prop := ∃ m : Nat, n ≤ m ∧ m ≤ 5 ∧ nv = .int .i64 m ∧ (∀ k : Nat, n ≤ k → k < m → termOk k t = false) ∧ Below W.heap.size W wr
set_option maxHeartbeats 4000000 in
theorem need_any (A : Option Addr) (c : Nat) (l : List TmL) (w : World) (h : RTm w A l.length l) (hl : l.length ≤ maxLen) :
    Calls Try.prog 43 #[.slice A l.length c] w (NeedOut l w) := by
  unfold maxLen at hl
  have H := Lib.hid h
  clear h
  go_enter Try.func43, Try.ntmps43
  go_wp2_with (fail)
  go_loopw [3, 8] (fun nv iv wr => NeRel l w nv iv wr) (fun _ i _ => l.length - (intOf i).toNat)
  case atStart => exact ⟨0, 0, Nat.zero_le _, rfl, rfl, NeedIs.nil, by omega, Below.refl _ _⟩
  case round =>
    obtain ⟨k, n, hk, rfl, rfl, hn, hn5, hb⟩ := hrel
    have HN := Lib.hid hn
    clear hn
    by_cases hlt : k < l.length
    case neg =>
      have HT := Lib.hid (show l.take k = l from List.take_of_length_le (by omega))
      have HB := Lib.hid hb
      clear hb
      go_wp2_with (fail)
      go_ret
      exact ⟨n, by have := HN.out; rwa [HT.out] at this, rfl, HB.out⟩
    obtain ⟨wo, rfl⟩ : ∃ wo : World, wo = wr := ⟨_, rfl⟩
    obtain ⟨b, off, hA, hbB, d0, d1, d2, d3, d4, A', c', d5, hp, hc, hm⟩ := (H.out.belowM hb).at_ hlt
    obtain ⟨t, ht⟩ : ∃ t, l[k] = t := ⟨_, rfl⟩
    rw [ht] at d0 d1 d2 d3 d4 d5 hp hc hm
    have HTK := Lib.hid (show l.take (k + 1) = l.take k ++ [t] by rw [List.take_succ_eq_append_getElem hlt, ht])
    clear ht
    obtain ⟨w5, hw5⟩ : ∃ w5, wo.alloc (.cells (tcells t.b t.d t.t t.u t.s A' t.ps.length c') 71) = w5 := ⟨_, rfl⟩
    have hs5 : w5.heap.size = wo.heap.size + 1 := by rw [← hw5]; simp
    have X6 := Lib.hid (fun W (hb : Below w5.heap.size w5 W) => show Boxed6 W wo.heap.size t.b t.d t.t t.u t.s A' t.ps.length c' from by rw [← hw5] at hb; exact boxed6 hb)
    have hb5 : Below wo.heap.size wo w5 := by rw [← hw5]; exact (Below.refl _ _).alloc (Nat.le_refl _) _
    have HP := Lib.hid (hp.belowM hb5)
    have HB5 := Lib.hid (hb.trans (hb5.mono hb.size))
    rw [hA]
    clear hA hb hb5 hp hc
    go_wp2_with (fail)
    go_loopw [3] (fun nv wr => NiRel t n w5 nv wr) (fun nv _ => 5 - (intOf nv).toNat)
    case atStart => exact ⟨n, Nat.le_refl _, hn5, rfl, fun j h1 h2 => absurd h1 (by omega), Below.refl _ _⟩
    case round =>
      obtain ⟨m, hnm, hm5, rfl, hall, hb6⟩ := hrel
      have HALL := Lib.hid hall
      have HB6 := Lib.hid hb6
      obtain ⟨r0, r1, r2, r3, r4, r5⟩ := X6.out wr hb6
      have HR := Lib.hid (tright_any 1 1 m t.b t.d t.t t.u t.s A' t.ps.length c' t.ps wr (HP.out.belowM hb6) hm)
      have hz6 := hb6.size
      clear hall hb6
      by_cases hm4 : m = 5
      · subst hm4
        have HNE := Lib.hid (HN.out.snoc hnm (Nat.le_refl _) HALL.out (fun h => absurd h (by omega)))
        go_wp2_with (fail)
        go_roundw
        case rel => exact ⟨k + 1, 5, by omega, by go_num, rfl, by rw [HTK.out]; exact HNE.out, by omega, HB5.out.trans (HB6.out.mono (by have := HB5.out.size; omega))⟩
        case measure => simp [intOf]; omega
      · obtain ⟨r, hr⟩ : ∃ r, termOk m t = r := ⟨_, rfl⟩
        have HRR := Lib.hid hr
        have HR2 := Lib.hid (show Calls Try.prog 47 #[trm t.b t.d t.t t.u t.s A' t.ps.length c', .int .i64 1, .int .i64 1, .int .i64 m] wr (RetB r wr) from by rw [← hr]; exact HR.out)
        have hm4' : m ≤ 4 := by omega
        clear hr HR hm4
        cases r
        · have HA2 := Lib.hid (show ∀ j : Nat, n ≤ j → j < m + 1 → termOk j t = false from fun j h1 h2 => by
            rcases Nat.lt_or_ge j m with q | q
            · exact HALL.out j h1 q
            · obtain rfl : j = m := by omega
              exact HRR.out)
          go_wp2_with (fail)
          refine HR2.out.mono ?_
          rintro e w7 ⟨rfl, hb7⟩
          have HB7 := Lib.hid hb7
          clear hb7
          go_wp2_with (fail)
          go_roundw
          case rel => exact ⟨m + 1, by omega, by omega, by go_num, HA2.out, HB6.out.trans (HB7.out.mono hz6)⟩
          case measure => simp [intOf]; omega
        · have HNE := Lib.hid (HN.out.snoc hnm hm5 HALL.out (fun _ => HRR.out))
          go_wp2_with (fail)
          refine HR2.out.mono ?_
          rintro e w7 ⟨rfl, hb7⟩
          have HB7 := Lib.hid hb7
          clear hb7
          go_wp2_with (fail)
          go_roundw
          case rel => exact ⟨k + 1, m, by omega, by go_num, rfl, by rw [HTK.out]; exact HNE.out, by omega, HB5.out.trans ((HB6.out.trans (HB7.out.mono hz6)).mono (by have := HB5.out.size; omega))⟩
          case measure => simp [intOf]; omega
end Go.Proofs.Ytboaifdkoemnbaa.Pk
/- Boxes of tables: parameters that are boxed, loads of a whole table, of its classes, guarded ones too. -/
namespace Go.Proofs.Ytboaifdkoemnbaa.Pk
set_option maxRecDepth 100000
open Go Go.RowKit Go.Proofs.Ytboaifdkoemnbaa.Sp Go.Proofs.Ytboaifdkoemnbaa.Pa Go.Proofs.Ytboaifdkoemnbaa.Te Go.Proofs.Ytboaifdkoemnbaa.Mi Go.Proofs.Ytboaifdkoemnbaa.De

theorem TBox.boxed (w : World) (t : TV) : TBox (w.alloc (.cells t.cells.toArray 27)) w.heap.size t := heap_alloc_new w _
theorem TBox.below {w w' : World} {x B : Nat} {t : TV} (h : TBox w x t) (hx : x < B) (hb : Below B w w') : TBox w' x t := h.keep (hb.block x hx)
/-- A table's box, and what leads to its memory, in a world. -/
structure TW (w : World) (x : Nat) (t : TV) : Prop where
  box : TBox w x t
  mem : TM w t
theorem TW.below {w w' : World} {x : Nat} {t : TV} (h : TW w x t) (hb : Below w.heap.size w w') : TW w' x t := ⟨h.box.below h.box.lt hb, h.mem.belowM hb⟩
theorem TW.boxed {w : World} {t : TV} (h : TM w t) : TW (w.alloc (.cells t.cells.toArray 27)) w.heap.size t := ⟨TBox.boxed w t, h.belowM ((Below.refl _ _).alloc (Nat.le_refl _) _)⟩
theorem TW.cA {w : World} {x : Nat} {t : TV} (h : TW w x t) : w.cell? ⟨x, 256, none⟩ = some (.slice t.A t.T.nodes.length t.ca) := (h.box.cell 256).trans (TV.at_A h.mem.cls)
theorem TW.cB {w : World} {x : Nat} {t : TV} (h : TW w x t) : w.cell? ⟨x, 257, none⟩ = some (.slice t.B t.T.acts.length t.cb) := (h.box.cell 257).trans (TV.at_B h.mem.cls)
theorem TW.cC {w : World} {x : Nat} {t : TV} (h : TW w x t) : w.cell? ⟨x, 258, none⟩ = some (.slice t.C t.T.ends.length t.cc) := (h.box.cell 258).trans (TV.at_C h.mem.cls)
theorem tabSize : (Try.prog.info? 27).map (·.size) = some 259 := by kernel_rfl
theorem tabSize' {t : TV} (h : t.T.cls.length = 256) : (Try.prog.info? 27).map (·.size) = some t.cells.toArray.size := by rw [tabSize, List.size_toArray, TV.length h]
/-- The whole table is loaded. -/
theorem load_tab {w : World} {ops : Array Oper} {rest : List Oper} {o : Oper} {a : Act} {Q : Exit → Act → World → Prop} (hgd : o.guard = none) (x : Operand) (ho : o.op = .load 27 x)
    (g : Nat) (t : TV) (h : TW w g t) (hx : a.eval x = .pointer (some ⟨g, 0, none⟩)) (hk : wpList Try.prog ops Q rest (a.put o.dst t.val) w) : wpList Try.prog ops Q (o :: rest) a w :=
  wpList_load_row hgd 27 x ho g hx _ _ _ _ h.box Try.underlying27 rfl (tabSize' h.mem.cls) hk
theorem want_tab {w : World} {ops : Array Oper} {rest : List Oper} {o : Oper} {a : Act} {Q : Exit → Act → World → Prop} (hw : Region.wanted o (yielded ops a.tmps) = true) (x : Operand) (ho : o.op = .load 27 x)
    (g : Nat) (t : TV) (h : TW w g t) (hx : a.eval x = .pointer (some ⟨g, 0, none⟩)) (hk : wpList Try.prog ops Q rest (a.put o.dst t.val) w) : wpList Try.prog ops Q (o :: rest) a w :=
  BigFrame.wpList_want hw fun _ hK => wp_load_row 27 x ho g hx _ _ _ _ h.box Try.underlying27 rfl (tabSize' h.mem.cls) (hK _ _ hk)
/-- The ends. -/
def EnRel (t : TV) (iv : Value) : Prop := ∃ k : Nat, k ≤ t.T.ends.length ∧ iv = .int .i64 k ∧ ∀ j (hj : j < t.T.ends.length), j < k → t.T.ends[j].length ≤ 64
set_option maxHeartbeats 1000000 in
theorem endsRight_any (t : TV) (w : World) (h : TM w t) : Calls Try.prog 31 #[t.val] w (RetB (propB (∀ l ∈ t.T.ends, l.length ≤ 64)) w) := by
  have hlc := h.lc
  unfold maxLen at hlc
  obtain ⟨w1, hw1⟩ : ∃ w1, w.alloc (.cells t.cells.toArray 27) = w1 := ⟨_, rfl⟩
  have hT : TW w1 w.heap.size t := by rw [← hw1]; exact TW.boxed h
  have HB := Lib.hid (show Below w.heap.size w w1 by rw [← hw1]; exact (Below.refl _ _).alloc (Nat.le_refl _) _)
  have hc := hT.cC
  have HT := Lib.hid hT
  clear h hT
  unfold TV.val
  go_enter Try.func31, Try.ntmps31
  go_wp2_with (fail)
  go_loop [8] (fun iv => EnRel t iv) (fun i => t.T.ends.length - (intOf i).toNat)
  case atStart => exact ⟨0, Nat.zero_le _, rfl, fun j _ h => absurd h (by omega)⟩
  case round =>
    obtain ⟨k, hk, rfl, hall⟩ := hrel
    have HA := Lib.hid hall
    clear hall
    by_cases hlt : k < t.T.ends.length
    case neg =>
      have HP := Lib.hid (propB_true (p := ∀ l ∈ t.T.ends, l.length ≤ 64) fun l hl => by
        obtain ⟨j, hj, rfl⟩ := List.getElem_of_mem hl
        exact HA.out j hj (by omega))
      go_wp2_with (fail)
      go_ret
      exact ⟨ret_bool HP.out.symm, HB.out⟩
    obtain ⟨b, off, hC, hbB, A', c', d0, _, hcc, hm⟩ := HT.out.mem.ends.at_ hlt
    have HX := Lib.hid (show t.C = some ⟨b, off, none⟩ from hC)
    rw [hC] at hc ⊢
    clear hC
    unfold maxLen at hm
    by_cases h64 : t.T.ends[k].length ≤ 64
    · have HN := Lib.hid (show ∀ j (hj : j < t.T.ends.length), j < k + 1 → t.T.ends[j].length ≤ 64 from fun j hj hjk => by
        rcases Nat.lt_or_ge j k with q | q
        · exact HA.out j hj q
        · obtain rfl : j = k := by omega
          exact h64)
      go_wp2_with (fail)
      go_round
      case rel => exact ⟨k + 1, by omega, by go_num, HN.out⟩
      case measure => simp [intOf]; omega
    · have HP := Lib.hid (propB_false (p := ∀ l ∈ t.T.ends, l.length ≤ 64) fun hq => h64 (hq _ (List.getElem_mem hlt)))
      go_wp2_with (fail)
      go_ret
      exact ⟨ret_bool HP.out.symm, HB.out⟩
/-- The acts: those ahead of k are as they must be. -/
def AcRel (t : TV) (w1 : World) (iv : Value) (wr : World) : Prop := ∃ k : Nat, k ≤ t.T.acts.length ∧ iv = .int .i64 k ∧ (∀ j (hj : j < t.T.acts.length), j < k → ActOk t.T t.T.acts[j]) ∧ Below w1.heap.size w1 wr
theorem getD_at {α : Type} {l : List α} {x : Int} (h0 : 0 ≤ x) (h1 : x < l.length) : ∃ n, l[x.toNat]? = some n ∧ ∃ h : x.toNat < l.length, l[x.toNat] = n := by
  have : x.toNat < l.length := by omega
  exact ⟨_, List.getElem?_eq_getElem this, this, rfl⟩
set_option maxHeartbeats 4000000 in
theorem actsRight_any (t : TV) (w : World) (h : TM w t) : Calls Try.prog 30 #[t.val] w (RetB (propB (∀ a ∈ t.T.acts, ActOk t.T a)) w) := by
  have hlc := h.lb
  have hla := h.la
  unfold maxLen at hlc hla
  obtain ⟨w1, hw1⟩ : ∃ w1, w.alloc (.cells t.cells.toArray 27) = w1 := ⟨_, rfl⟩
  have hT : TW w1 w.heap.size t := by rw [← hw1]; exact TW.boxed h
  have HB := Lib.hid (show Below w.heap.size w w1 by rw [← hw1]; exact (Below.refl _ _).alloc (Nat.le_refl _) _)
  have hs1 : w1.heap.size = w.heap.size + 1 := by rw [← hw1]; simp
  have hcB := hT.cB
  have HT := Lib.hid hT
  clear h hT
  obtain ⟨v, hv⟩ : ∃ v, propB (∀ a ∈ t.T.acts, ActOk t.T a) = v := ⟨_, rfl⟩
  rw [hv]
  have HV := Lib.hid hv
  clear hv
  unfold TV.val
  go_enter Try.func30, Try.ntmps30
  go_wp2_with (fail)
  go_loopw [8] (fun iv wr => AcRel t w1 iv wr) (fun i _ => t.T.acts.length - (intOf i).toNat)
  case atStart => exact ⟨0, Nat.zero_le _, rfl, fun j _ h => absurd h (by omega), Below.refl _ _⟩
  case round =>
    obtain ⟨k, hk, rfl, hall, hbr⟩ := hrel
    have HA := Lib.hid hall
    have HBR := Lib.hid hbr
    have hTr := HT.out.below hbr
    have hsr := hbr.size
    have HE := Lib.hid (HB.out.trans (hbr.mono (by omega)))
    clear hall hbr
    by_cases hlt : k < t.T.acts.length
    case neg =>
      have HP := Lib.hid (HV.out.symm.trans (propB_true (p := ∀ a ∈ t.T.acts, ActOk t.T a) fun a ha => by
        obtain ⟨j, hj, rfl⟩ := List.getElem_of_mem ha
        exact HA.out j hj (by omega)))
      clear hTr
      go_wp2_with (fail)
      go_ret
      exact ⟨ret_bool HP.out.symm, HE.out⟩
    have hcA := hTr.cA
    obtain ⟨b, off, hC, hbB, d0, d1, A', c', d2, _, hcc, hm⟩ := hTr.mem.acts.at_ hlt
    have HX := Lib.hid (show t.B = some ⟨b, off, none⟩ from hC)
    have HTR := Lib.hid hTr
    obtain ⟨a, ha⟩ : ∃ a, t.T.acts[k] = a := ⟨_, rfl⟩
    have HIN := Lib.hid (show a ∈ t.T.acts by rw [← ha]; exact List.getElem_mem hlt)
    rw [ha] at d0 d1 d2 hcc hm
    have HN := Lib.hid (show ActOk t.T a → ∀ j (hj : j < t.T.acts.length), j < k + 1 → ActOk t.T t.T.acts[j] from fun hq j hj hjk => by
        rcases Nat.lt_or_ge j k with q | q
        · exact HA.out j hj q
        · obtain rfl : j = k := by omega
          exact ha ▸ hq)
    rw [hC] at hcB ⊢
    clear hC hTr ha
    unfold maxLen at hm
    obtain ⟨eat, to_, out⟩ := a
    simp only at d0 d1 d2 hcc hm
    obtain ⟨w5, hw5⟩ : ∃ w5, wr.alloc (.cells #[.int .i64 eat, .int .i64 to_, .slice A' out.length c'] 49) = w5 := ⟨_, rfl⟩
    have q0 : w5.cell? ⟨wr.heap.size, 0, none⟩ = some (.int .i64 eat) := by rw [← hw5]; simp
    have q1 : w5.cell? ⟨wr.heap.size, 1, none⟩ = some (.int .i64 to_) := by rw [← hw5]; simp
    have q2 : w5.cell? ⟨wr.heap.size, 2, none⟩ = some (.slice A' out.length c') := by rw [← hw5]; simp
    have hb5 : Below wr.heap.size wr w5 := by rw [← hw5]; exact (Below.refl _ _).alloc (Nat.le_refl _) _
    have hcA5 := (HTR.out.below hb5).cA
    have HE5 := Lib.hid (HE.out.trans (hb5.mono (by omega)))
    have HBR5 := Lib.hid (HBR.out.trans (hb5.mono (by omega)))
    have HM5 := Lib.hid (HTR.out.below hb5).mem.nodes
    have HNO : ∀ (_ : ¬ ActOk t.T (eat, to_, out)), v = false := fun hq => HV.out.symm.trans (propB_false fun hz => hq (hz _ HIN.out))
    have HNO2 := Lib.hid HNO
    clear hb5 HNO
    by_cases k1 : 1 ≤ eat
    case neg =>
      have HP := Lib.hid (HNO2.out fun q => k1 q.1)
      go_wp2_with (fail)
      go_ret
      exact ⟨ret_bool HP.out.symm, HE5.out⟩
    by_cases k2 : eat ≤ 4
    case neg =>
      have HP := Lib.hid (HNO2.out fun q => k2 q.2.1)
      go_wp2_with (fail)
      go_ret
      exact ⟨ret_bool HP.out.symm, HE5.out⟩
    by_cases k3 : 0 ≤ to_
    case neg =>
      have HP := Lib.hid (HNO2.out fun q => k3 q.2.2.1)
      go_wp2_with (fail)
      go_ret
      exact ⟨ret_bool HP.out.symm, HE5.out⟩
    by_cases k4 : to_ < t.T.nodes.length
    case neg =>
      have HP := Lib.hid (HNO2.out fun q => by
        obtain ⟨n, hn, _⟩ := q.2.2.2.1
        have h9 : to_.toNat < t.T.nodes.length := (List.getElem?_eq_some_iff.1 hn).1
        omega)
      go_wp2_with (fail)
      go_ret
      exact ⟨ret_bool HP.out.symm, HE5.out⟩
    obtain ⟨nd, hnd, hnl, hne⟩ := getD_at (l := t.T.nodes) k3 k4
    obtain ⟨j, rfl⟩ := Int.eq_ofNat_of_zero_le k3
    rw [Int.toNat_natCast] at hnl
    simp only [Int.toNat_natCast] at hnd hne
    obtain ⟨bn, offn, hAn, hbn, n0, _, _⟩ := HM5.out.at_ hnl
    rw [hne] at n0
    rw [hAn] at hcA5
    have HXN := Lib.hid hAn
    have HND := Lib.hid hnd
    have k4' : j < t.T.nodes.length := by omega
    clear hne hnd hAn
    obtain ⟨held, end_, nx⟩ := nd
    simp only at n0
    by_cases k5 : held = 0
    case neg =>
      have HP := Lib.hid (HNO2.out fun q => by
        obtain ⟨n, hn, h0⟩ := q.2.2.2.1
        rw [Int.toNat_natCast, HND.out] at hn
        injection hn with hn
        subst hn
        exact k5 h0)
      go_wp2_with (fail)
      go_ret
      exact ⟨ret_bool HP.out.symm, HE5.out⟩
    subst k5
    by_cases k6 : out.length ≤ 64
    case neg =>
      have HP := Lib.hid (HNO2.out fun q => k6 q.2.2.2.2)
      go_wp2_with (fail)
      go_ret
      exact ⟨ret_bool HP.out.symm, HE5.out⟩
    have HN2 := Lib.hid (HN.out ⟨k1, k2, k3, ⟨_, by rw [Int.toNat_natCast]; exact HND.out, rfl⟩, k6⟩)
    go_wp2_with (fail)
    go_roundw
    case rel => exact ⟨k + 1, by omega, by go_num, HN2.out, HBR5.out⟩
    case measure => simp [intOf]; omega
end Go.Proofs.Ytboaifdkoemnbaa.Pk
/- The reader of a table's bytes as a pure function (rdTab), and that it reads just what tables' bytes are. -/
namespace Go.Proofs.Ytboaifdkoemnbaa.Pk
set_option maxRecDepth 100000
open Go Go.RowKit Go.Proofs.Ytboaifdkoemnbaa.Sp Go.Proofs.Ytboaifdkoemnbaa.Pa Go.Proofs.Ytboaifdkoemnbaa.Te Go.Proofs.Ytboaifdkoemnbaa.Mi Go.Proofs.Ytboaifdkoemnbaa.De

/-- The reader: the bytes that are left, and whether they can be no table's. -/
structure Rd where
  left : List Nat
  wrong : Bool
def rdNum (s : Rd) : Int × Rd := match rdN s.left with
  | some (x, l) => (x, ⟨l, s.wrong⟩)
  | none => (0, ⟨s.left, true⟩)
def rdCount (most : Nat) (s : Rd) : Nat × Rd :=
  if (rdNum s).1 < 0 ∨ (most : Int) < (rdNum s).1 then (0, ⟨(rdNum s).2.left, true⟩) else ((rdNum s).1.toNat, (rdNum s).2)
def rdMany {α : Type} (f : Rd → α × Rd) : Nat → Rd → List α × Rd
  | 0, s => ([], s)
  | n + 1, s => ((f s).1 :: (rdMany f n (f s).2).1, (rdMany f n (f s).2).2)
/-- Reading tells: where nothing went wrong, what is read is what stood there. -/
def Tells {α : Type} (f : Rd → α × Rd) (enc : α → List Int) : Prop := ∀ s, (∀ y ∈ s.left, y < 256) → (∀ y ∈ (f s).2.left, y < 256) ∧ ((f s).2.wrong = false →
  s.wrong = false ∧ (∀ x ∈ enc (f s).1, In32 x) ∧ s.left = numsB (enc (f s).1) ++ (f s).2.left)
/-- Reading finds (what P holds of). -/
def Finds {α : Type} (P : α → Prop) (f : Rd → α × Rd) (enc : α → List Int) : Prop := ∀ a l, P a → (∀ x ∈ enc a, In32 x) → f ⟨numsB (enc a) ++ l, false⟩ = (a, ⟨l, false⟩)
theorem rdNum_tells : Tells rdNum (fun x => [x]) := by
  intro s hs
  unfold rdNum
  cases h : rdN s.left with
  | none => exact ⟨hs, fun hw => by cases hw⟩
  | some p =>
    obtain ⟨x, l⟩ := p
    obtain ⟨hx, hl⟩ := rdN_some hs h
    refine ⟨fun y hy => hs y (by rw [hl]; exact List.mem_append_right _ hy), fun hw => ⟨hw, fun y hy => ?_, ?_⟩⟩
    · rw [List.mem_singleton] at hy
      exact hy ▸ hx
    · show s.left = numsB [x] ++ l
      rw [numsB_cons, numsB_nil, List.append_nil]
      exact hl
theorem rdNum_finds : Finds (fun _ => True) rdNum (fun x => [x]) := by
  intro x l _ hx
  unfold rdNum
  simp only [numsB_cons, numsB_nil, List.append_nil, rdN_num (hx x (List.mem_singleton_self x))]
theorem rdCount_tells (most : Nat) : Tells (rdCount most) (fun n => [(n : Int)]) := by
  intro s hs
  obtain ⟨h0, hn⟩ := rdNum_tells s hs
  unfold rdCount
  split
  · exact ⟨h0, fun hw => by cases hw⟩
  · rename_i h
    refine ⟨h0, fun hw => ?_⟩
    obtain ⟨h1, h2, h3⟩ := hn hw
    have e : (((rdNum s).1.toNat : Nat) : Int) = (rdNum s).1 := by omega
    exact ⟨h1, by simp only [e]; exact h2, by simp only [e]; exact h3⟩
theorem rdCount_le (most : Nat) (s : Rd) : (rdCount most s).1 ≤ most := by
  unfold rdCount
  split
  · exact Nat.zero_le _
  · show (rdNum s).1.toNat ≤ most
    omega
theorem rdCount_finds (most : Nat) : Finds (fun n => n ≤ most) (rdCount most) (fun n => [(n : Int)]) := by
  intro n l hn hx
  unfold rdCount
  rw [rdNum_finds (n : Int) l trivial hx, if_neg (by simp only; omega)]
  rfl
theorem rdMany_tells {α : Type} {f : Rd → α × Rd} {enc : α → List Int} (hf : Tells f enc) (n : Nat) : Tells (rdMany f n) (fun l => l.flatMap enc) := by
  induction n with
  | zero => exact fun s hs => ⟨hs, fun hw => ⟨hw, fun x hx => (List.not_mem_nil hx).elim, rfl⟩⟩
  | succ n ih =>
    intro s hs
    obtain ⟨g0, g⟩ := hf s hs
    obtain ⟨h0, h⟩ := ih (f s).2 g0
    refine ⟨h0, fun hw => ?_⟩
    obtain ⟨h1, h2, h3⟩ := h hw
    obtain ⟨g1, g2, g3⟩ := g h1
    refine ⟨g1, fun x hx => ?_, ?_⟩
    · rcases List.mem_append.1 (show x ∈ enc (f s).1 ++ (rdMany f n (f s).2).1.flatMap enc from hx) with q | q
      · exact g2 x q
      · exact h2 x q
    · show s.left = numsB (enc (f s).1 ++ (rdMany f n (f s).2).1.flatMap enc) ++ (rdMany f n (f s).2).2.left
      rw [numsB_append, List.append_assoc, ← h3]
      exact g3
theorem rdMany_length {α : Type} (f : Rd → α × Rd) (n : Nat) (s : Rd) : (rdMany f n s).1.length = n := by
  induction n generalizing s with
  | zero => rfl
  | succ n ih => show (rdMany f n (f s).2).1.length + 1 = n + 1; rw [ih]
theorem rdMany_finds {α : Type} {P : α → Prop} {f : Rd → α × Rd} {enc : α → List Int} (hf : Finds P f enc) (n : Nat) : Finds (fun l => l.length = n ∧ ∀ a ∈ l, P a) (rdMany f n) (fun l => l.flatMap enc) := by
  induction n with
  | zero =>
    rintro a l ⟨h, _⟩ _
    obtain rfl := List.length_eq_zero_iff.1 h
    rfl
  | succ n ih =>
    rintro a l ⟨h, hp⟩ hx
    cases a with
    | nil => cases h
    | cons a r =>
      have e : f ⟨numsB ((a :: r).flatMap enc) ++ l, false⟩ = (a, ⟨numsB (r.flatMap enc) ++ l, false⟩) := by
        rw [List.flatMap_cons, numsB_append, List.append_assoc]
        exact hf a _ (hp a List.mem_cons_self) (fun x q => hx x (List.mem_append_left _ q))
      have e2 := ih r l ⟨Nat.succ.inj h, fun q hq => hp q (List.mem_cons_of_mem _ hq)⟩ (fun x q => hx x (List.mem_append_right _ q))
      simp only [rdMany, e, e2]
/-- One behind the other. -/
def rdThen {α β : Type} (f : Rd → α × Rd) (g : α → Rd → β × Rd) (s : Rd) : (α × β) × Rd := (((f s).1, (g (f s).1 (f s).2).1), (g (f s).1 (f s).2).2)
theorem rdThen_tells {α β : Type} {f : Rd → α × Rd} {g : α → Rd → β × Rd} {e1 : α → List Int} {e2 : β → List Int} (hf : Tells f e1) (hg : ∀ a, Tells (g a) e2) : Tells (rdThen f g) (fun p => e1 p.1 ++ e2 p.2) := by
  intro s hs
  obtain ⟨g0, q⟩ := hf s hs
  obtain ⟨h0, h⟩ := hg (f s).1 (f s).2 g0
  refine ⟨h0, fun hw => ?_⟩
  obtain ⟨h1, h2, h3⟩ := h hw
  obtain ⟨g1, g2, g3⟩ := q h1
  refine ⟨g1, fun x hx => ?_, ?_⟩
  · rcases List.mem_append.1 hx with q | q
    · exact g2 x q
    · exact h2 x q
  · show s.left = numsB (e1 (f s).1 ++ e2 (g (f s).1 (f s).2).1) ++ (g (f s).1 (f s).2).2.left
    rw [numsB_append, List.append_assoc, ← h3]
    exact g3
theorem rdThen_finds {α β : Type} {P : α → Prop} {Q : α → β → Prop} {f : Rd → α × Rd} {g : α → Rd → β × Rd} {e1 : α → List Int} {e2 : β → List Int} (hf : Finds P f e1) (hg : ∀ a, P a → Finds (Q a) (g a) e2) : Finds (fun p => P p.1 ∧ Q p.1 p.2) (rdThen f g) (fun p => e1 p.1 ++ e2 p.2) := by
  rintro ⟨a, b⟩ l ⟨hp, hq⟩ hx
  have h1 : f ⟨numsB (e1 a ++ e2 b) ++ l, false⟩ = (a, ⟨numsB (e2 b) ++ l, false⟩) := by
    rw [numsB_append, List.append_assoc]
    exact hf a _ hp (fun x q => hx x (List.mem_append_left _ q))
  have h2 := hg a hp b l hq (fun x q => hx x (List.mem_append_right _ q))
  simp only [rdThen, h1, h2]
/-- How many, then each of them. -/
def rdList {α : Type} (most : Rd → Nat) (f : Rd → α × Rd) (s : Rd) : List α × Rd := rdMany f (rdCount (most s) s).1 (rdCount (most s) s).2
def listI {α : Type} (enc : α → List Int) (l : List α) : List Int := (l.length : Int) :: l.flatMap enc
theorem rdList_tells {α : Type} (most : Rd → Nat) {f : Rd → α × Rd} {enc : α → List Int} (hf : Tells f enc) : Tells (rdList most f) (listI enc) := by
  intro s hs
  obtain ⟨h0, h⟩ := rdThen_tells (rdCount_tells (most s)) (fun n => rdMany_tells hf n) s hs
  refine ⟨h0, fun hw => ?_⟩
  obtain ⟨h1, h2, h3⟩ := h hw
  have e : listI enc (rdList most f s).1 = [((rdCount (most s) s).1 : Int)] ++ (rdMany f (rdCount (most s) s).1 (rdCount (most s) s).2).1.flatMap enc := by
    unfold listI rdList
    rw [rdMany_length]
    rfl
  rw [e]
  exact ⟨h1, h2, h3⟩
theorem rdList_length {α : Type} (most : Rd → Nat) (f : Rd → α × Rd) (s : Rd) : (rdList most f s).1.length ≤ most s := by
  unfold rdList
  rw [rdMany_length]
  exact rdCount_le _ _
theorem rdList_finds {α : Type} {P : α → Prop} {most : Rd → Nat} {f : Rd → α × Rd} {enc : α → List Int} (hf : Finds P f enc) : Finds (fun l => (∀ a ∈ l, P a) ∧ ∀ r, l.length ≤ most ⟨numsB (listI enc l) ++ r, false⟩) (rdList most f) (listI enc) := by
  rintro a l ⟨hp, hm⟩ hx
  have h1 := rdCount_finds (most ⟨numsB (listI enc a) ++ l, false⟩) a.length (numsB (a.flatMap enc) ++ l) (hm l) (fun x q => hx x (by rw [List.mem_singleton.1 q]; exact List.mem_cons_self))
  have e : numsB [(a.length : Int)] ++ (numsB (a.flatMap enc) ++ l) = numsB (listI enc a) ++ l := by
    rw [← List.append_assoc, ← numsB_append]
    rfl
  rw [e] at h1
  unfold rdList
  rw [h1]
  exact rdMany_finds hf a.length a l ⟨rfl, hp⟩ (fun x q => hx x (List.mem_cons_of_mem _ q))
/-- What is read, by another name. -/
def rdMap {α β : Type} (h : α → β) (f : Rd → α × Rd) (s : Rd) : β × Rd := (h (f s).1, (f s).2)
theorem rdMap_tells {α β : Type} {h : α → β} {f : Rd → α × Rd} {enc : α → List Int} {enc' : β → List Int} (he : ∀ a, enc' (h a) = enc a) (hf : Tells f enc) : Tells (rdMap h f) enc' := by
  intro s hs
  have := hf s hs
  rw [← he] at this
  exact this
theorem rdMap_finds {α β : Type} {P : α → Prop} {Q : β → Prop} {h : α → β} (g : β → α) {f : Rd → α × Rd} {enc : α → List Int} {enc' : β → List Int} (hg : ∀ b, h (g b) = b) (he : ∀ b, enc (g b) = enc' b) (hq : ∀ b, Q b → P (g b)) (hf : Finds P f enc) : Finds Q (rdMap h f) enc' := by
  intro b l hb hx
  have := hf (g b) l (hq b hb) (by rw [he]; exact hx)
  rw [he] at this
  simp only [rdMap, this, hg]
theorem Finds.mono {α : Type} {P Q : α → Prop} {f : Rd → α × Rd} {enc : α → List Int} (hf : Finds P f enc) (h : ∀ a, Q a → P a) : Finds Q f enc := fun a l hq hx => hf a l (h a hq) hx
/-- A part. -/
def rdPart : Rd → PT × Rd := rdThen rdNum fun _ => rdThen rdNum fun _ => rdThen rdNum fun _ => rdNum
theorem rdPart_tells : Tells rdPart partI := rdThen_tells rdNum_tells fun _ => rdThen_tells rdNum_tells fun _ => rdThen_tells rdNum_tells fun _ => rdNum_tells
theorem rdPart_finds : Finds (fun _ => True) rdPart partI := (rdThen_finds (Q := fun _ _ => True) rdNum_finds fun _ _ => (rdThen_finds (Q := fun _ _ => True) rdNum_finds fun _ _ => (rdThen_finds (Q := fun _ _ => True) rdNum_finds fun _ _ => rdNum_finds).mono fun _ _ => ⟨trivial, trivial⟩).mono fun _ _ => ⟨trivial, trivial⟩).mono fun _ _ => ⟨trivial, trivial⟩
def rdParts : Rd → List PT × Rd := rdList (fun s => s.left.length / 16) rdPart
theorem parts_len (l : List PT) : (l.flatMap partI).length = 4 * l.length := by
  induction l with
  | nil => rfl
  | cons a l ih => rw [List.flatMap_cons, List.length_append, ih, List.length_cons]; show 4 + 4 * l.length = _; omega
theorem rdParts_finds : Finds (fun _ => True) rdParts (listI partI) := (rdList_finds rdPart_finds).mono fun l _ => ⟨fun _ _ => trivial, fun r => by
  show l.length ≤ (numsB (listI partI l) ++ r).length / 16
  rw [List.length_append, numsB_length]
  unfold listI
  rw [List.length_cons, parts_len]
  omega⟩
/-- A term. -/
def rdTerm : Rd → TmL × Rd := rdMap (fun p => ⟨p.1, p.2.1, p.2.2.1, p.2.2.2.1, p.2.2.2.2.1, p.2.2.2.2.2⟩) (rdThen rdNum fun _ => rdThen rdNum fun _ => rdThen rdNum fun _ => rdThen rdNum fun _ => rdThen rdNum fun _ => rdParts)
theorem rdTerm_tells : Tells rdTerm termI := rdMap_tells (fun _ => rfl) (rdThen_tells rdNum_tells fun _ => rdThen_tells rdNum_tells fun _ => rdThen_tells rdNum_tells fun _ => rdThen_tells rdNum_tells fun _ => rdThen_tells rdNum_tells fun _ => rdList_tells _ rdPart_tells)
theorem thenN {β : Type} {g : Rd → β × Rd} {e : β → List Int} {Q : β → Prop} (hg : Finds Q g e) : Finds (fun p => Q p.2) (rdThen rdNum fun _ => g) (fun p => [p.1] ++ e p.2) := (rdThen_finds (Q := fun _ => Q) rdNum_finds fun _ _ => hg).mono fun _ h => ⟨trivial, h⟩
theorem rdTerm_finds : Finds (fun _ => True) rdTerm termI := rdMap_finds (P := fun _ => True) (fun t => (t.b, t.d, t.t, t.u, t.s, t.ps)) (fun _ => rfl) (fun _ => rfl) (fun _ _ => trivial) (thenN (thenN (thenN (thenN (thenN rdParts_finds)))))
/-- Terms: 64 at most. -/
def rdTerms : Rd → List TmL × Rd := rdList (fun _ => 64) rdTerm
theorem rdTerms_tells : Tells rdTerms termsI := rdList_tells _ rdTerm_tells
theorem rdTerms_finds : Finds (fun l => l.length ≤ 64) rdTerms termsI := (rdList_finds rdTerm_finds).mono fun _ h => ⟨fun _ _ => trivial, fun _ => h⟩
/-- A node whose Next has m numbers. -/
def rdNode (m : Nat) : Rd → NdL × Rd := rdThen rdNum fun _ => rdThen rdNum fun _ => rdMany rdNum m
theorem flat_one (l : List Int) : l.flatMap (fun x => [x]) = l := by
  induction l with
  | nil => rfl
  | cons a l ih => rw [List.flatMap_cons, ih]; rfl
theorem rdNode_tells (m : Nat) : Tells (rdNode m) nodeI := by
  have h := rdThen_tells rdNum_tells fun _ => rdThen_tells rdNum_tells fun _ => rdMany_tells rdNum_tells m
  simp only [flat_one] at h
  exact h
theorem rdNode_len (m : Nat) (s : Rd) : (rdNode m s).1.2.2.length = m := rdMany_length _ _ _
theorem rdNode_finds (m : Nat) : Finds (fun n => n.2.2.length = m) (rdNode m) nodeI := by
  have h := thenN (thenN ((rdMany_finds rdNum_finds m).mono (Q := fun l => l.length = m) fun _ h => ⟨h, fun _ _ => trivial⟩))
  simp only [flat_one] at h
  exact h
/-- An act. -/
def rdAct : Rd → AcL × Rd := rdThen rdNum fun _ => rdThen rdNum fun _ => rdTerms
theorem rdAct_tells : Tells rdAct actI := rdThen_tells rdNum_tells fun _ => rdThen_tells rdNum_tells fun _ => rdTerms_tells
theorem rdAct_finds : Finds (fun a => a.2.2.length ≤ 64) rdAct actI := thenN (thenN rdTerms_finds)
/-- Nodes, acts, ends. -/
def rdRest (m N A E : Nat) : Rd → (List NdL × List AcL × List (List TmL)) × Rd := rdThen (rdMany (rdNode m) N) fun _ => rdThen (rdMany rdAct A) fun _ => rdMany rdTerms E
def restOf (p : List NdL × List AcL × List (List TmL)) : List Int := p.1.flatMap nodeI ++ (p.2.1.flatMap actI ++ p.2.2.flatMap termsI)
theorem rdRest_tells (m N A E : Nat) : Tells (rdRest m N A E) restOf := rdThen_tells (rdMany_tells (rdNode_tells m) N) fun _ => rdThen_tells (rdMany_tells rdAct_tells A) fun _ => rdMany_tells rdTerms_tells E
theorem rdRest_finds (m N A E : Nat) : Finds (fun p => (p.1.length = N ∧ ∀ n ∈ p.1, n.2.2.length = m) ∧ (p.2.1.length = A ∧ ∀ a ∈ p.2.1, a.2.2.length ≤ 64) ∧ p.2.2.length = E ∧ ∀ l ∈ p.2.2, l.length ≤ 64) (rdRest m N A E) restOf :=
  rdThen_finds (Q := fun (_ : List NdL) (q : List AcL × List (List TmL)) => (q.1.length = A ∧ ∀ a ∈ q.1, a.2.2.length ≤ 64) ∧ q.2.length = E ∧ ∀ l ∈ q.2, l.length ≤ 64) (rdMany_finds (rdNode_finds m) N) fun _ _ => rdThen_finds (Q := fun (_ : List AcL) (q : List (List TmL)) => q.length = E ∧ ∀ l ∈ q, l.length ≤ 64) (rdMany_finds rdAct_finds A) fun _ _ => rdMany_finds rdTerms_finds E
theorem rdRest_len (m N A E : Nat) (s : Rd) : (rdRest m N A E s).1.1.length = N ∧ (rdRest m N A E s).1.2.1.length = A ∧ (rdRest m N A E s).1.2.2.length = E := ⟨rdMany_length _ _ _, rdMany_length _ _ _, rdMany_length _ _ _⟩
theorem rdMany_all {α : Type} {P : α → Prop} {f : Rd → α × Rd} (h : ∀ s, P (f s).1) : ∀ (n : Nat) (s : Rd), ∀ a ∈ (rdMany f n s).1, P a
  | 0, _, a, ha => (List.not_mem_nil ha).elim
  | n + 1, s, a, ha => by
    rcases List.mem_cons.1 ha with rfl | q
    · exact h s
    · exact rdMany_all h n _ a q
theorem rdRest_next (m N A E : Nat) (s : Rd) : ∀ n ∈ (rdRest m N A E s).1.1, n.2.2.length = m := rdMany_all (rdNode_len m) N s
/-- So many bytes. -/
def rdBytes (n : Nat) (s : Rd) : List Nat × Rd := if n ≤ s.left.length then (s.left.take n, ⟨s.left.drop n, s.wrong⟩) else ([], ⟨s.left, true⟩)
/-- The four numbers ahead. -/
def rdHead : Rd → (Nat × Nat × Nat × Nat) × Rd := rdThen (rdCount 256) fun _ => rdThen (rdCount 4096) fun _ => rdThen (rdCount 4096) fun _ => rdCount 4096
def headOf (p : Nat × Nat × Nat × Nat) : List Int := [(p.1 : Int)] ++ ([(p.2.1 : Int)] ++ ([(p.2.2.1 : Int)] ++ [(p.2.2.2 : Int)]))
theorem rdHead_tells : Tells rdHead headOf := rdThen_tells (rdCount_tells _) fun _ => rdThen_tells (rdCount_tells _) fun _ => rdThen_tells (rdCount_tells _) fun _ => rdCount_tells _
theorem rdHead_finds : Finds (fun p => p.1 ≤ 256 ∧ p.2.1 ≤ 4096 ∧ p.2.2.1 ≤ 4096 ∧ p.2.2.2 ≤ 4096) rdHead headOf :=
  rdThen_finds (Q := fun (_ : Nat) (p : Nat × Nat × Nat) => p.1 ≤ 4096 ∧ p.2.1 ≤ 4096 ∧ p.2.2 ≤ 4096) (rdCount_finds _) fun _ _ => rdThen_finds (Q := fun (_ : Nat) (p : Nat × Nat) => p.1 ≤ 4096 ∧ p.2 ≤ 4096) (rdCount_finds _) fun _ _ => rdThen_finds (Q := fun (_ : Nat) (p : Nat) => p ≤ 4096) (rdCount_finds _) fun _ _ => rdCount_finds _
theorem rdBytes_tells (n : Nat) (s : Rd) (hs : ∀ y ∈ s.left, y < 256) : (∀ y ∈ (rdBytes n s).2.left, y < 256) ∧ ((rdBytes n s).2.wrong = false → s.wrong = false ∧ (rdBytes n s).1.length = n ∧ s.left = (rdBytes n s).1 ++ (rdBytes n s).2.left) := by
  unfold rdBytes
  split
  · rename_i h
    exact ⟨fun y hy => hs y (List.mem_of_mem_drop hy), fun hw => ⟨hw, by show (s.left.take n).length = n; rw [List.length_take]; omega, (List.take_append_drop n s.left).symm⟩⟩
  · exact ⟨hs, fun hw => by cases hw⟩
theorem rdBytes_finds {n : Nat} {b l : List Nat} (h : b.length = n) : rdBytes n ⟨b ++ l, false⟩ = (b, ⟨l, false⟩) := by
  subst h
  unfold rdBytes
  rw [if_pos (by simp only [List.length_append]; omega)]
  simp only [List.take_left', List.drop_left']
/-- A table, right or not. -/
def rdTab (s : Rd) : TabL × Rd :=
  (⟨(rdBytes 256 (rdHead s).2).1 ++ List.replicate (256 - (rdBytes 256 (rdHead s).2).1.length) 0,
    (rdRest (rdHead s).1.1 (rdHead s).1.2.1 (rdHead s).1.2.2.1 (rdHead s).1.2.2.2 (rdBytes 256 (rdHead s).2).2).1.1,
    (rdRest (rdHead s).1.1 (rdHead s).1.2.1 (rdHead s).1.2.2.1 (rdHead s).1.2.2.2 (rdBytes 256 (rdHead s).2).2).1.2.1,
    (rdRest (rdHead s).1.1 (rdHead s).1.2.1 (rdHead s).1.2.2.1 (rdHead s).1.2.2.2 (rdBytes 256 (rdHead s).2).2).1.2.2⟩,
   (rdRest (rdHead s).1.1 (rdHead s).1.2.1 (rdHead s).1.2.2.1 (rdHead s).1.2.2.2 (rdBytes 256 (rdHead s).2).2).2)
/-- Where nothing went wrong and there is a node, what is read is what stood there. -/
theorem rdTab_tells (s : Rd) (hs : ∀ y ∈ s.left, y < 256) (hw : (rdTab s).2.wrong = false) (hn : (rdTab s).1.nodes ≠ []) :
    s.wrong = false ∧ (rdTab s).1.Fit ∧ s.left = numsB (rdTab s).1.headI ++ ((rdTab s).1.cls ++ (numsB (rdTab s).1.restI ++ (rdTab s).2.left)) := by
  obtain ⟨a0, a⟩ := rdHead_tells s hs
  obtain ⟨b0, b⟩ := rdBytes_tells 256 (rdHead s).2 a0
  obtain ⟨_, c⟩ := rdRest_tells (rdHead s).1.1 (rdHead s).1.2.1 (rdHead s).1.2.2.1 (rdHead s).1.2.2.2 (rdBytes 256 (rdHead s).2).2 b0
  obtain ⟨c1, c2, c3⟩ := c hw
  obtain ⟨b1, b2, b3⟩ := b c1
  obtain ⟨a1, a2, a3⟩ := a b1
  obtain ⟨l1, l2, l3⟩ := rdRest_len (rdHead s).1.1 (rdHead s).1.2.1 (rdHead s).1.2.2.1 (rdHead s).1.2.2.2 (rdBytes 256 (rdHead s).2).2
  have lx := rdRest_next (rdHead s).1.1 (rdHead s).1.2.1 (rdHead s).1.2.2.1 (rdHead s).1.2.2.2 (rdBytes 256 (rdHead s).2).2
  have hc : (rdTab s).1.cls = (rdBytes 256 (rdHead s).2).1 := by
    show (rdBytes 256 (rdHead s).2).1 ++ _ = _
    rw [b2]
    exact List.append_nil _
  have hwid : (rdTab s).1.wid = (rdHead s).1.1 := by
    unfold TabL.wid
    cases h : (rdTab s).1.nodes with
    | nil => exact (hn h).elim
    | cons x xs => exact lx x (by show x ∈ (rdTab s).1.nodes; rw [h]; exact List.mem_cons_self)
  have hh : (rdTab s).1.headI = headOf (rdHead s).1 := by
    unfold TabL.headI headOf
    rw [hwid, show (rdTab s).1.nodes.length = _ from l1, show (rdTab s).1.acts.length = _ from l2, show (rdTab s).1.ends.length = _ from l3]
    rfl
  refine ⟨a1, ⟨by rw [hc]; exact b2, fun n q => by rw [hwid]; exact lx n q, by rw [hh]; exact a2, c2⟩, ?_⟩
  rw [hh, hc, a3, b3, c3]
  rfl
/-- What bytes tell of, is found. -/
theorem rdTab_finds {T : TabL} (hT : T.Fit) (h1 : T.wid ≤ 256) (h2 : T.nodes.length ≤ 4096) (h3 : T.acts.length ≤ 4096) (h4 : T.ends.length ≤ 4096) (h5 : ∀ a ∈ T.acts, a.2.2.length ≤ 64) (h6 : ∀ l ∈ T.ends, l.length ≤ 64) (l : List Nat) :
    rdTab ⟨numsB T.headI ++ (T.cls ++ (numsB T.restI ++ l)), false⟩ = (T, ⟨l, false⟩) := by
  have e1 := rdHead_finds (T.wid, T.nodes.length, T.acts.length, T.ends.length) (T.cls ++ (numsB T.restI ++ l)) ⟨h1, h2, h3, h4⟩ hT.head
  change rdHead ⟨numsB T.headI ++ _, false⟩ = _ at e1
  have e2 := rdBytes_finds (l := numsB T.restI ++ l) hT.cls
  have e3 := rdRest_finds T.wid T.nodes.length T.acts.length T.ends.length (T.nodes, T.acts, T.ends) l ⟨⟨rfl, hT.next⟩, ⟨rfl, h5⟩, rfl, h6⟩ hT.rest
  change rdRest _ _ _ _ ⟨numsB T.restI ++ l, false⟩ = _ at e3
  unfold rdTab
  simp only [e1, e2, e3, hT.cls, Nat.sub_self, List.replicate_zero, List.append_nil]
end Go.Proofs.Ytboaifdkoemnbaa.Pk
/- The walk of table.sizesRight. -/
namespace Go.Proofs.Ytboaifdkoemnbaa.Pk
set_option maxRecDepth 100000
open Go Go.RowKit Go.Proofs.Ytboaifdkoemnbaa.Sp Go.Proofs.Ytboaifdkoemnbaa.Pa Go.Proofs.Ytboaifdkoemnbaa.Te Go.Proofs.Ytboaifdkoemnbaa.Mi Go.Proofs.Ytboaifdkoemnbaa.De

theorem clsUnder : Try.prog.underlying 22 = some (.array 256 5) := by kernel_rfl
theorem clsSize : (Try.prog.info? 22).map (·.size) = some 256 := by kernel_rfl
theorem run_idx (cs : Array Value) (k : Nat) (v : Value) (h : cs[k]? = some v) (hk : k < 256) (w : World) : (Instr.index 22 (.agg cs) (.int .i64 (k : Int))).run Try.prog w = .ok v w := by
  have hu := clsUnder
  have a5 := Try.isAgg5
  have z5 := Try.sizeOf5
  unfold Instr.index
  simp only [asIntOf, Sem.run_bind, Sem.run_pure, Result.andThen_ok, run_underlying hu w]
  have h1 : (0 : Int) ≤ (k : Int) ∧ (k : Int) < 256 := by omega
  rw [if_pos (by exact_mod_cast h1)]
  simp only [part, Sem.run_bind, z5, a5, Result.andThen_ok, Int.toNat_natCast, Nat.mul_one]
  rw [if_neg (by decide), h]
  rfl
/-- Of the nodes ahead of k all have as many numbers, and hold as few bytes. -/
def SzRel (t : TV) (w1 : World) (iv : Value) (wr : World) : Prop := ∃ k : Nat, k ≤ t.T.nodes.length ∧ iv = .int .i64 k ∧ (∀ j (hj : j < t.T.nodes.length), j < k → t.T.nodes[j].2.2.length = t.T.wid ∧ 0 ≤ t.T.nodes[j].1 ∧ t.T.nodes[j].1 ≤ 4) ∧ Below w1.heap.size w1 wr
def ScRel (t : TV) (iv : Value) : Prop := ∃ k : Nat, k ≤ 256 ∧ iv = .int .i64 k ∧ ∀ j (hj : j < t.T.cls.length), j < k → t.T.cls[j] < t.T.wid
theorem clsRange {w : World} {x : Nat} {t : TV} (h : TW w x t) : w.rangeAt x 0 (clsV t.T.cls) := by
  intro j v hj
  rw [Nat.zero_add, h.box.cell j]
  unfold TV.cells tabV
  have : j < (clsV t.T.cls).length := by
    rcases Nat.lt_or_ge j (clsV t.T.cls).length with q | q
    · exact q
    · rw [List.getElem?_eq_none q] at hj; cases hj
  rw [List.getElem?_append_left this]
  exact hj
theorem clsLen {t : TV} (h : t.T.cls.length = 256) : (Try.prog.info? 22).map (·.size) = some (clsV t.T.cls).length := by rw [clsSize, clsV, List.length_map, h]
theorem headD_zero {α : Type} (l : List α) (d : α) (h : 0 < l.length) : l[0] = l.headD d := by
  cases l with
  | nil => simp at h
  | cons => rfl
theorem head_zero {T : TabL} (h : 1 ≤ T.nodes.length) : ∃ hl : 0 < T.nodes.length, T.nodes[0].2.2.length = T.wid ∧ T.nodes[0] = T.nodes.headD (0, 0, []) :=
  ⟨h, by unfold TabL.wid; rw [headD_zero _ (0, 0, []) h], headD_zero _ _ h⟩
set_option maxHeartbeats 4000000 in
theorem sizesRight_any (t : TV) (w : World) (h : TM w t) : Calls Try.prog 29 #[t.val] w (RetB (propB (SizesOk t.T)) w) := by
  have hla := h.la
  have hlb := h.lb
  have hlc := h.lc
  unfold maxLen at hla hlb hlc
  obtain ⟨w1, hw1⟩ : ∃ w1, w.alloc (.cells t.cells.toArray 27) = w1 := ⟨_, rfl⟩
  have hT : TW w1 w.heap.size t := by rw [← hw1]; exact TW.boxed h
  have HB := Lib.hid (show Below w.heap.size w w1 by rw [← hw1]; exact (Below.refl _ _).alloc (Nat.le_refl _) _)
  have hs1 : w1.heap.size = w.heap.size + 1 := by rw [← hw1]; simp
  have cA := hT.cA
  have cB := hT.cB
  have cC := hT.cC
  have HT := Lib.hid hT
  obtain ⟨v, hv⟩ : ∃ v, propB (SizesOk t.T) = v := ⟨_, rfl⟩
  rw [hv]
  have HNO := Lib.hid (show ¬ SizesOk t.T → v = false from fun q => hv.symm.trans (propB_false q))
  have HYES := Lib.hid (show SizesOk t.T → v = true from fun q => hv.symm.trans (propB_true q))
  clear h hT hv
  unfold TV.val
  by_cases k1 : 1 ≤ t.T.nodes.length
  case neg =>
    have HP := Lib.hid (HNO.out fun q => k1 q.some_)
    go_enter Try.func29, Try.ntmps29
    go_wp2_with (fail)
    go_ret
    exact ⟨ret_bool HP.out.symm, HB.out⟩
  by_cases k2 : t.T.nodes.length ≤ 4096
  case neg =>
    have HP := Lib.hid (HNO.out fun q => k2 q.nodes)
    go_enter Try.func29, Try.ntmps29
    go_wp2_with (fail)
    go_ret
    exact ⟨ret_bool HP.out.symm, HB.out⟩
  by_cases k3 : t.T.acts.length ≤ 4096
  case neg =>
    have HP := Lib.hid (HNO.out fun q => k3 q.acts)
    go_enter Try.func29, Try.ntmps29
    go_wp2_with (fail)
    go_ret
    exact ⟨ret_bool HP.out.symm, HB.out⟩
  by_cases k4 : t.T.ends.length ≤ 4096
  case neg =>
    have HP := Lib.hid (HNO.out fun q => k4 q.ends)
    go_enter Try.func29, Try.ntmps29
    go_wp2_with (fail)
    go_ret
    exact ⟨ret_bool HP.out.symm, HB.out⟩
  obtain ⟨hl0, hw0, hh0⟩ := head_zero k1
  obtain ⟨b, off, hA, hbB, d0, d1, A', c', d2, _, hcc, hm⟩ := HT.out.mem.nodes.at_ hl0
  rw [hw0] at d2 hm
  have HH := Lib.hid hh0
  have HX := Lib.hid hA
  rw [hA] at cA
  simp only [Nat.zero_mul, Nat.add_zero] at d0 d1 d2
  obtain ⟨hd, hhd⟩ : ∃ hd, t.T.nodes[0].1 = hd := ⟨_, rfl⟩
  obtain ⟨wid, hwid⟩ : ∃ wid, t.T.wid = wid := ⟨_, rfl⟩
  rw [hwid] at d2 hm
  rw [hhd] at d0
  have HHD := Lib.hid hhd
  have HWID := Lib.hid hwid
  clear hA hw0 hh0 hhd hwid hcc
  unfold maxLen at hm
  by_cases k5 : 1 ≤ wid
  case neg =>
    have HP := Lib.hid (HNO.out fun q => k5 (by rw [← HWID.out]; exact q.w1))
    go_enter Try.func29, Try.ntmps29
    go_wp2_with (fail)
    go_ret
    exact ⟨ret_bool HP.out.symm, HB.out⟩
  by_cases k6 : wid ≤ 256
  case neg =>
    have HP := Lib.hid (HNO.out fun q => k6 (by rw [← HWID.out]; exact q.w2))
    go_enter Try.func29, Try.ntmps29
    go_wp2_with (fail)
    go_ret
    exact ⟨ret_bool HP.out.symm, HB.out⟩
  by_cases k7 : hd = 0
  case neg =>
    have HP := Lib.hid (HNO.out fun q => k7 (by rw [← HHD.out, HH.out]; exact q.head))
    have k7' : (hd != 0) = true := by simp [k7]
    go_enter Try.func29, Try.ntmps29
    go_wp2_with (fail)
    go_ret
    exact ⟨ret_bool HP.out.symm, HB.out⟩
  subst k7
  have HH2 := Lib.hid (show (t.T.nodes.headD (0, 0, [])).1 = 0 by rw [← HH.out]; exact HHD.out)
  go_enter Try.func29, Try.ntmps29
  go_wp2_with (fail)
  go_loopw [53] (fun iv wr => SzRel t w1 iv wr) (fun i _ => t.T.nodes.length - (intOf i).toNat)
  case atStart => exact ⟨0, Nat.zero_le _, rfl, fun j _ h => absurd h (by omega), Below.refl _ _⟩
  case round =>
    obtain ⟨k, hk, rfl, hall, hbr⟩ := hrel
    have HA := Lib.hid hall
    have HBR := Lib.hid hbr
    have hTr := HT.out.below hbr
    have hsr := hbr.size
    have HE := Lib.hid (HB.out.trans (hbr.mono (by omega)))
    clear hall hbr d0 d1 d2 cA cB cC
    by_cases hlt : k < t.T.nodes.length
    · obtain ⟨b2, off2, hA2, hb2B, e0, e1, A2, c2, e2, _, hc2, hm2⟩ := hTr.mem.nodes.at_ hlt
      have HX2 := Lib.hid hA2
      rw [HX.out] at hA2
      injection hA2 with hA2
      injection hA2 with hA2 hO2 _
      subst hA2 hO2
      obtain ⟨nd, hnd⟩ : ∃ nd, t.T.nodes[k] = nd := ⟨_, rfl⟩
      have HIN := Lib.hid (show nd ∈ t.T.nodes by rw [← hnd]; exact List.getElem_mem hlt)
      rw [hnd] at e0 e1 e2 hc2 hm2
      have HN := Lib.hid (show nd.2.2.length = wid → 0 ≤ nd.1 → nd.1 ≤ 4 → ∀ j (hj : j < t.T.nodes.length), j < k + 1 → t.T.nodes[j].2.2.length = t.T.wid ∧ 0 ≤ t.T.nodes[j].1 ∧ t.T.nodes[j].1 ≤ 4 from fun q1 q2 q3 j hj hjk => by
        rcases Nat.lt_or_ge j k with q | q
        · exact HA.out j hj q
        · obtain rfl : j = k := by omega
          rw [hnd, HWID.out]
          exact ⟨q1, q2, q3⟩)
      clear hnd hTr
      unfold maxLen at hm2
      obtain ⟨held, end_, nx⟩ := nd
      simp only at e0 e1 e2 hc2 hm2
      obtain ⟨w5, hw5⟩ : ∃ w5, wr.alloc (.cells #[.int .i64 held, .slice A2 nx.length c2, .int .i64 end_] 45) = w5 := ⟨_, rfl⟩
      have q0 : w5.cell? ⟨wr.heap.size, 0, none⟩ = some (.int .i64 held) := by rw [← hw5]; simp
      have q1 : w5.cell? ⟨wr.heap.size, 1, none⟩ = some (.slice A2 nx.length c2) := by rw [← hw5]; simp
      have hb5 : Below wr.heap.size wr w5 := by rw [← hw5]; exact (Below.refl _ _).alloc (Nat.le_refl _) _
      have HE5 := Lib.hid (HE.out.trans (hb5.mono (by omega)))
      have HBR5 := Lib.hid (HBR.out.trans (hb5.mono (by omega)))
      clear hb5
      by_cases j1 : nx.length = wid
      case neg =>
        have HP := Lib.hid (HNO.out fun q => j1 (by rw [← HWID.out]; exact (q.each _ HIN.out).1))
        have j1' : ¬ ((nx.length : Int) = (wid : Int)) := by omega
        go_wp2_with (fail)
        go_ret
        exact ⟨ret_bool HP.out.symm, HE5.out⟩
      by_cases j2 : 0 ≤ held
      case neg =>
        have HP := Lib.hid (HNO.out fun q => j2 (q.each _ HIN.out).2.1)
        have HJ := Lib.hid j1
        clear j1
        rw [HJ.out] at q1
        go_wp2_with (fail)
        go_ret
        exact ⟨ret_bool HP.out.symm, HE5.out⟩
      by_cases j3 : held ≤ 4
      case neg =>
        have HP := Lib.hid (HNO.out fun q => j3 (q.each _ HIN.out).2.2)
        have HJ := Lib.hid j1
        clear j1
        rw [HJ.out] at q1
        go_wp2_with (fail)
        go_ret
        exact ⟨ret_bool HP.out.symm, HE5.out⟩
      have HN2 := Lib.hid (HN.out j1 j2 j3)
      have HJ := Lib.hid j1
      clear j1
      rw [HJ.out] at q1
      go_wp2_with (fail)
      go_roundw
      case rel => exact ⟨k + 1, by omega, by go_num, HN2.out, HBR5.out⟩
      case measure => simp [intOf]; omega
    · have HALL := Lib.hid (show ∀ n ∈ t.T.nodes, n.2.2.length = t.T.wid ∧ 0 ≤ n.1 ∧ n.1 ≤ 4 from fun n hn => by
        obtain ⟨j, hj, rfl⟩ := List.getElem_of_mem hn
        exact HA.out j hj (by omega))
      have HCL := Lib.hid hTr.mem.cls
      have HTR := Lib.hid hTr
      clear hTr
      rename World => w2
      go_wp2_with (refine wpList_load_mid rfl 22 _ rfl w.heap.size 0 rfl _ _ (clsRange HTR.out) clsUnder rfl (clsLen HCL.out) ?_)
      go_loop [75] (fun iv => ScRel t iv) (fun i => 256 - (intOf i).toNat)
      case atStart => exact ⟨0, Nat.zero_le _, rfl, fun j _ h => absurd h (by omega)⟩
      case round =>
        obtain ⟨m, hm2, rfl, hall2⟩ := hrel
        have HA2 := Lib.hid hall2
        clear hall2
        by_cases hlt2 : m < 256
        · obtain ⟨c, hc⟩ : ∃ c, t.T.cls[m]'(by rw [HCL.out]; exact hlt2) = c := ⟨_, rfl⟩
          have HIN := Lib.hid (show c ∈ t.T.cls by rw [← hc]; exact List.getElem_mem _)
          have hcb : c < 256 := HTR.out.mem.byte c HIN.out
          have HI := Lib.hid (show ∀ wq, (Instr.index 22 (.agg (clsV t.T.cls).toArray) (.int .i64 (m : Int))).run Try.prog wq = .ok (.int .u8 (c : Int)) wq from fun wq => run_idx _ m _ (by
            unfold clsV
            rw [List.getElem?_toArray, List.getElem?_map, List.getElem?_eq_getElem (by rw [HCL.out]; exact hlt2), hc]
            rfl) hlt2 wq)
          have HN := Lib.hid (show c < wid → ∀ j (hj : j < t.T.cls.length), j < m + 1 → t.T.cls[j] < t.T.wid from fun q1 j hj hjk => by
            rcases Nat.lt_or_ge j m with q | q
            · exact HA2.out j hj q
            · obtain rfl : j = m := by omega
              rw [hc, HWID.out]
              exact q1)
          clear hc
          have hi := HI.out
          by_cases j1 : c < wid
          · have HN2 := Lib.hid (HN.out j1)
            go_wp2_with (fail)
            go_round
            case rel => exact ⟨m + 1, by omega, by go_num, HN2.out⟩
            case measure => simp [intOf]; omega
          · have HP := Lib.hid (HNO.out fun q => j1 (by rw [← HWID.out]; exact q.cls _ HIN.out))
            go_wp2_with (fail)
            go_ret
            exact ⟨ret_bool HP.out.symm, HE.out⟩
        · have HP := Lib.hid (HYES.out ⟨k1, k2, k3, k4, by rw [HWID.out]; exact k5, by rw [HWID.out]; exact k6, HH2.out, HALL.out, fun c hc => by
            obtain ⟨j, hj, rfl⟩ := List.getElem_of_mem hc
            exact HA2.out j hj (by have := HCL.out; omega)⟩)
          go_wp2_with (fail)
          go_ret
          exact ⟨ret_bool HP.out.symm, HE.out⟩
end Go.Proofs.Ytboaifdkoemnbaa.Pk
/- The walks of ref17.size and ref17.Small: some number, some bool; a small table has few numbers. -/
namespace Go.Proofs.Ytboaifdkoemnbaa.Pk
set_option maxRecDepth 100000
open Go Go.RowKit Go.Proofs.Ytboaifdkoemnbaa.Sp Go.Proofs.Ytboaifdkoemnbaa.Pa Go.Proofs.Ytboaifdkoemnbaa.Te Go.Proofs.Ytboaifdkoemnbaa.Mi Go.Proofs.Ytboaifdkoemnbaa.De

theorem min_if (a b : Int) : (if b < a then b else a) = min a b := by rw [Int.min_def]; split <;> split <;> omega
theorem partI_len (l : List PT) : (l.flatMap partI).length = 4 * l.length := by
  induction l with
  | nil => rfl
  | cons a l ih => rw [List.flatMap_cons, List.length_append, ih, List.length_cons]; show 4 + 4 * l.length = _; omega
theorem termI_count (t : TmL) : (termI t).length = 6 + 4 * t.ps.length := by unfold termI; rw [List.length_append, partI_len]; rfl
theorem flat_step {α : Type} (f : α → List Int) {l : List α} {k : Nat} (h : k < l.length) : ((l.take (k + 1)).flatMap f).length = ((l.take k).flatMap f).length + (f l[k]).length := by
  rw [List.take_succ_eq_append_getElem h, List.flatMap_append, List.length_append]
  simp
def SzT (ts : List TmL) (w : World) (v i : Value) (wr : World) : Prop := ∃ (k : Nat) (z : Int), k ≤ ts.length ∧ i = .int .i64 k ∧ v = .int .i64 z ∧ 0 ≤ z ∧ z ≤ 90001 * k ∧ (z ≤ 80000 → (((ts.take k).flatMap termI).length : Int) ≤ 6 * z) ∧ wr = w
def Size17 (ts : List TmL) (w : World) (e : Ending) (w' : World) : Prop := ∃ z : Int, e = .returned (.int .i64 z) ∧ 0 ≤ z ∧ z ≤ 27100000 ∧ (z ≤ 80000 → ((termsI ts).length : Int) ≤ 6 * z + 1) ∧ w = w'
set_option maxHeartbeats 4000000 in
theorem size17_any (A : Option Addr) (c : Nat) (ts : List TmL) (w : World) (h : RTm w A ts.length ts) : Calls Try.prog 15 #[.slice A ts.length c] w (Size17 ts w) := by
  have HT := Lib.hid h
  clear h
  by_cases k1 : ts.length ≤ 300
  case neg =>
    have d1 : decide ((300 : Int) < (ts.length : Int)) = true := decide_eq_true (by omega)
    go_enter Try.func15, Try.ntmps15
    go_wp2_with (fail)
    go_ret
    exact ⟨90000, rfl, by omega, by omega, fun q => by omega, rfl⟩
  have d1 : decide ((300 : Int) < (ts.length : Int)) = false := decide_eq_false (by omega)
  go_enter Try.func15, Try.ntmps15
  go_wp2_with (fail)
  go_loopw [3, 4] (fun v i wr => SzT ts w v i wr) (fun _ i _ => ts.length - (intOf i).toNat)
  case atStart => exact ⟨0, 0, Nat.zero_le _, rfl, rfl, by omega, by omega, fun _ => by simp, rfl⟩
  case round =>
    obtain ⟨k, z, hk, rfl, rfl, hz0, hz1, hz2, rfl⟩ := hrel
    have HZ := Lib.hid hz2
    clear hz2
    have s1 : IntKind.i64.wrap ((k : Int) + 1) = (k : Int) + 1 := IntWalk.i64_in _ (by omega)
    have i1 : (0 : Int) ≤ (k : Int) := Int.natCast_nonneg _
    by_cases hlt : k < ts.length
    · obtain ⟨b, off, hA, hbB, _, _, _, _, _, A', c', d5, _, _, _⟩ := HT.out.at_ hlt
      have hfl := flat_step termI hlt
      rw [termI_count] at hfl
      obtain ⟨gl, hgl⟩ : ∃ gl, ts[k].ps.length = gl := ⟨_, rfl⟩
      rw [hgl] at d5 hfl
      have HF := Lib.hid hfl
      have i2 : (k : Int) < (ts.length : Int) := by omega
      subst hA
      clear hgl hfl
      go_wp2_with (fail)
      go_roundw
      case rel => exact ⟨k + 1, z + 1 + min (gl : Int) 90000, hlt, by go_num, by rw [min_if], by omega, by omega, fun q => by have h1 := HF.out; have h2 := HZ.out (by omega); omega, rfl⟩
      case measure => simp [intOf]; omega
    · have HF := Lib.hid (show z ≤ 80000 → ((termsI ts).length : Int) ≤ 6 * z + 1 from fun q => by
        have h2 := HZ.out q
        rw [List.take_of_length_le (by omega)] at h2
        unfold termsI
        rw [List.length_cons]
        omega)
      go_wp2_with (fail)
      go_ret
      exact ⟨z, rfl, hz0, by omega, HF.out, rfl⟩
/-- A sum so far: what it bounds. -/
def SmF (n : Nat) (len : Nat → Nat) (b0 g : Int) (v i : Value) : Prop := ∃ (k : Nat) (z : Int), k ≤ n ∧ i = .int .i64 k ∧ v = .int .i64 z ∧ 0 ≤ z ∧ z ≤ b0 + 27100000 * k ∧ (z ≤ 80000 → (len k : Int) ≤ 6 * z + 3 * k + g)
def Small17 (T : TabL) (w : World) (e : Ending) (w' : World) : Prop := ∃ b : Bool, e = .returned (.bool b) ∧ (b = true → T.restI.length ≤ 1000000) ∧ Below w.heap.size w w'
set_option maxHeartbeats 8000000 in
theorem small17_any (t : TV) (w : World) (h : TM w t) : Calls Try.prog 7 #[t.val] w (Small17 t.T w) := by
  have hla := h.la
  have hlb := h.lb
  have hlc := h.lc
  unfold maxLen at hla hlb hlc
  obtain ⟨w1, hw1⟩ : ∃ w1, w.alloc (.cells t.cells.toArray 27) = w1 := ⟨_, rfl⟩
  have hT : TW w1 w.heap.size t := by rw [← hw1]; exact TW.boxed h
  have HB := Lib.hid (show Below w.heap.size w w1 by rw [← hw1]; exact (Below.refl _ _).alloc (Nat.le_refl _) _)
  have cA := hT.cA
  have cB := hT.cB
  have cC := hT.cC
  have HT := Lib.hid hT
  clear h hT
  unfold TV.val
  by_cases k1 : t.T.nodes.length ≤ 300
  case neg =>
    have d1 : decide ((300 : Int) < (t.T.nodes.length : Int)) = true := decide_eq_true (by omega)
    go_enter Try.func7, Try.ntmps7
    go_wp2_with (fail)
    go_ret
    exact ⟨false, rfl, (fun e => by cases e), HB.out⟩
  by_cases k2 : t.T.acts.length ≤ 300
  case neg =>
    have d2 : decide ((300 : Int) < (t.T.acts.length : Int)) = true := decide_eq_true (by omega)
    go_enter Try.func7, Try.ntmps7
    go_wp2_with (fail)
    go_ret
    exact ⟨false, rfl, (fun e => by cases e), HB.out⟩
  by_cases k3 : t.T.ends.length ≤ 300
  case neg =>
    have d3 : decide ((300 : Int) < (t.T.ends.length : Int)) = true := decide_eq_true (by omega)
    go_enter Try.func7, Try.ntmps7
    go_wp2_with (fail)
    go_ret
    exact ⟨false, rfl, (fun e => by cases e), HB.out⟩
  go_enter Try.func7, Try.ntmps7
  go_wp2_with (fail)
  go_loop [3, 4] (fun v i => SmF t.T.nodes.length (fun k => ((t.T.nodes.take k).flatMap nodeI).length) 0 0 v i) (fun _ i => t.T.nodes.length - (intOf i).toNat)
  case atStart => exact ⟨0, 0, Nat.zero_le _, rfl, rfl, by omega, by omega, fun _ => by simp⟩
  case round =>
    obtain ⟨k, z, hk, rfl, rfl, hz0, hz1, hz2⟩ := hrel
    have HZ := Lib.hid hz2
    clear hz2
    by_cases hlt : k < t.T.nodes.length
    · obtain ⟨b, off, hA, hbB, _, _, A', c', d1, _, _, _⟩ := HT.out.mem.nodes.at_ hlt
      have hfl := flat_step nodeI hlt
      have e9 : (nodeI t.T.nodes[k]).length = 2 + t.T.nodes[k].2.2.length := by unfold nodeI; simp; omega
      rw [e9] at hfl
      obtain ⟨gl, hgl⟩ : ∃ gl, t.T.nodes[k].2.2.length = gl := ⟨_, rfl⟩
      rw [hgl] at d1 hfl
      have HF := Lib.hid hfl
      have HX := Lib.hid (show t.A = some ⟨b, off, none⟩ from hA)
      rw [hA] at cA ⊢
      clear hgl hfl e9 hA
      go_wp2_with (fail)
      go_round
      case rel => exact ⟨k + 1, z + min (gl : Int) 90000, hlt, by go_num, by rw [min_if], by omega, by omega, fun q => by have h1 := HF.out; have h2 := HZ.out (by omega); dsimp only at h2 ⊢; omega⟩
      case measure => simp [intOf]; omega
    have HF1 := Lib.hid (show z ≤ 80000 → ((t.T.nodes.flatMap nodeI).length : Int) ≤ 6 * z + 900 from fun q => by
      have h2 := HZ.out q
      dsimp only at h2
      rw [List.take_of_length_le (by omega)] at h2
      omega)
    obtain ⟨nl, hnl⟩ : ∃ nl, (t.T.nodes.flatMap nodeI).length = nl := ⟨_, rfl⟩
    rw [hnl] at HF1
    have HNL := Lib.hid hnl
    clear hnl
    go_wp2_with (fail)
    go_loop [3, 5] (fun v i => SmF t.T.acts.length (fun k => nl + ((t.T.acts.take k).flatMap actI).length) 8130000000 900 v i) (fun _ i => t.T.acts.length - (intOf i).toNat)
    case atStart => exact ⟨0, z, Nat.zero_le _, rfl, rfl, by omega, by omega, fun q => by have := HF1.out q; simpa using this⟩
    case round =>
      obtain ⟨m, y, hm, rfl, rfl, hy0, hy1, hy2⟩ := hrel
      have HY := Lib.hid hy2
      clear hy2
      by_cases hlt2 : m < t.T.acts.length
      · obtain ⟨b, off, hA, hbB, _, _, A', c', d2, htm, _, _⟩ := HT.out.mem.acts.at_ hlt2
        have hfl := flat_step actI hlt2
        have e9 : (actI t.T.acts[m]).length = 2 + (termsI t.T.acts[m].2.2).length := by unfold actI; simp; omega
        rw [e9] at hfl
        obtain ⟨ts, hts⟩ : ∃ ts, t.T.acts[m].2.2 = ts := ⟨_, rfl⟩
        rw [hts] at d2 hfl htm
        have HF := Lib.hid hfl
        have HX := Lib.hid (show t.B = some ⟨b, off, none⟩ from hA)
        have HC := Lib.hid (size17_any A' c' ts w1 htm)
        rw [hA] at cB ⊢
        clear hts hfl e9 hA htm
        go_wp2_with (fail)
        refine HC.out.mono ?_
        rintro e w9 ⟨x, rfl, hx0, hx1, hx2, rfl⟩
        have HX2 := Lib.hid hx2
        clear hx2
        go_wp2_with (fail)
        go_round
        case rel => exact ⟨m + 1, y + x, hlt2, by go_num, by first | rfl | rw [IntWalk.wrap64_in _ (by omega)], by omega, by omega, fun q => by have h1 := HF.out; have h2 := HY.out (by omega); have h3 := HX2.out (by omega); dsimp only at h2 ⊢; omega⟩
        case measure => simp [intOf]; omega
      have HF2 := Lib.hid (show y ≤ 80000 → ((nl : Int) + (t.T.acts.flatMap actI).length : Int) ≤ 6 * y + 1800 from fun q => by
        have h2 := HY.out q
        dsimp only at h2
        rw [List.take_of_length_le (by omega)] at h2
        omega)
      obtain ⟨al, hal⟩ : ∃ al, (t.T.acts.flatMap actI).length = al := ⟨_, rfl⟩
      rw [hal] at HF2
      have HAL := Lib.hid hal
      clear hal
      go_wp2_with (fail)
      go_loop [3, 6] (fun v i => SmF t.T.ends.length (fun k => nl + al + ((t.T.ends.take k).flatMap termsI).length) 16260000000 1800 v i) (fun _ i => t.T.ends.length - (intOf i).toNat)
      case atStart => exact ⟨0, y, Nat.zero_le _, rfl, rfl, by omega, by omega, fun q => by have := HF2.out q; simpa using this⟩
      case round =>
        obtain ⟨n, x0, hn, rfl, rfl, hx0, hx1, hx2⟩ := hrel
        have HW := Lib.hid hx2
        clear hx2
        by_cases hlt3 : n < t.T.ends.length
        · obtain ⟨b, off, hA, hbB, A', c', d2, htm, _, _⟩ := HT.out.mem.ends.at_ hlt3
          have hfl := flat_step termsI hlt3
          obtain ⟨ts, hts⟩ : ∃ ts, t.T.ends[n] = ts := ⟨_, rfl⟩
          rw [hts] at d2 hfl htm
          have HF := Lib.hid hfl
          have HX := Lib.hid (show t.C = some ⟨b, off, none⟩ from hA)
          have HC := Lib.hid (size17_any A' c' ts w1 htm)
          rw [hA] at cC ⊢
          clear hts hfl hA htm
          go_wp2_with (fail)
          refine HC.out.mono ?_
          rintro e w9 ⟨x, rfl, hq0, hq1, hq2, rfl⟩
          have HX2 := Lib.hid hq2
          clear hq2
          go_wp2_with (fail)
          go_round
          case rel => exact ⟨n + 1, x0 + x, hlt3, by go_num, by first | rfl | rw [IntWalk.wrap64_in _ (by omega)], by omega, by omega, fun q => by have h1 := HF.out; have h2 := HW.out (by omega); have h3 := HX2.out (by omega); dsimp only at h2 ⊢; omega⟩
          case measure => simp [intOf]; omega
        have HF3 := Lib.hid (show x0 ≤ 80000 → t.T.restI.length ≤ 1000000 from fun q => by
          have h2 := HW.out q
          dsimp only at h2
          rw [List.take_of_length_le (by omega)] at h2
          have e : t.T.restI.length = nl + (al + (t.T.ends.flatMap termsI).length) := by unfold TabL.restI; rw [List.length_append, List.length_append, HNL.out, HAL.out]
          omega)
        go_wp2_with (fail)
        go_ret
        exact ⟨decide (x0 ≤ 80000), rfl, fun q => HF3.out (of_decide_eq_true q), HB.out⟩
end Go.Proofs.Ytboaifdkoemnbaa.Pk
