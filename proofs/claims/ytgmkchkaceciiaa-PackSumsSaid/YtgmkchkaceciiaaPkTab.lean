/- Tables as plain data, their bytes, and that bytes tell the table (cut off, or with something behind them, they are no table's). -/
import Derived.Test.YtgmkchkaceciiaaPkMath
import Derived.Test.YtgmkchkaceciiaaDeBase
namespace Go.Proofs.Ytgmkchkaceciiaa.Pk
set_option maxRecDepth 100000
open Go Go.RowKit Go.Proofs.Ytgmkchkaceciiaa.Sp Go.Proofs.Ytgmkchkaceciiaa.Pa Go.Proofs.Ytgmkchkaceciiaa.Te Go.Proofs.Ytgmkchkaceciiaa.Mi Go.Proofs.Ytgmkchkaceciiaa.De

/-- A code of which no word begins another one (of those that P holds of). -/
def PreC {α β : Type} (P : α → Prop) (f : α → List β) : Prop := ∀ x y l r, P x → P y → f x ++ l = f y ++ r → x = y ∧ l = r
theorem flat_pre {α β : Type} {P : α → Prop} {f : α → List β} (hf : PreC P f) : ∀ {xs ys : List α} {l r : List β}, (∀ x ∈ xs, P x) → (∀ y ∈ ys, P y) → xs.length = ys.length → xs.flatMap f ++ l = ys.flatMap f ++ r → xs = ys ∧ l = r := by
  intro xs
  induction xs with
  | nil =>
    intro ys l r _ _ hn h
    obtain rfl : ys = [] := List.length_eq_zero_iff.1 hn.symm
    exact ⟨rfl, h⟩
  | cons x xs ih =>
    intro ys l r hx hy hn h
    cases ys with
    | nil => simp at hn
    | cons y ys =>
      rw [List.flatMap_cons, List.flatMap_cons, List.append_assoc, List.append_assoc] at h
      obtain ⟨rfl, h2⟩ := hf _ _ _ _ (hx _ List.mem_cons_self) (hy _ List.mem_cons_self) h
      obtain ⟨rfl, h3⟩ := ih (fun q hq => hx q (List.mem_cons_of_mem _ hq)) (fun q hq => hy q (List.mem_cons_of_mem _ hq)) (by simpa using hn) h2
      exact ⟨rfl, h3⟩
/-- A part, a term, terms, a node, an act as numbers. -/
def partI (p : PT) : List Int := [p.1, p.2.1, p.2.2.1, p.2.2.2]
def termI (t : TmL) : List Int := [t.b, t.d, t.t, t.u, t.s, (t.ps.length : Int)] ++ t.ps.flatMap partI
def termsI (l : List TmL) : List Int := (l.length : Int) :: l.flatMap termI
/-- A node: Held, End, Next; an act: Eat, To, its terms. -/
abbrev NdL := Int × Int × List Int
abbrev AcL := Int × Int × List TmL
def nodeI (n : NdL) : List Int := n.1 :: n.2.1 :: n.2.2
def actI (a : AcL) : List Int := a.1 :: a.2.1 :: termsI a.2.2
theorem partI_pre : PreC (fun _ => True) partI := by
  rintro ⟨a, b, c, d⟩ ⟨a', b', c', d'⟩ l r _ _ h
  simp only [partI, List.cons_append, List.nil_append, List.cons.injEq] at h
  obtain ⟨rfl, rfl, rfl, rfl, rfl⟩ := h
  exact ⟨rfl, rfl⟩
theorem termI_pre : PreC (fun _ => True) termI := by
  rintro ⟨b, d, t, u, s, ps⟩ ⟨b', d', t', u', s', ps'⟩ l r _ _ h
  simp only [termI, List.cons_append, List.nil_append, List.cons.injEq] at h
  obtain ⟨rfl, rfl, rfl, rfl, rfl, hn, h⟩ := h
  obtain ⟨rfl, rfl⟩ := flat_pre partI_pre (fun _ _ => trivial) (fun _ _ => trivial) (Int.ofNat.inj hn) h
  exact ⟨rfl, rfl⟩
theorem termsI_pre : PreC (fun _ => True) termsI := by
  intro x y l r _ _ h
  simp only [termsI, List.cons_append, List.cons.injEq] at h
  exact flat_pre termI_pre (fun _ _ => trivial) (fun _ _ => trivial) (Int.ofNat.inj h.1) h.2
theorem nodeI_pre (m : Nat) : PreC (fun n => n.2.2.length = m) nodeI := by
  rintro ⟨a, b, c⟩ ⟨a', b', c'⟩ l r hx hy h
  simp only [nodeI, List.cons_append, List.cons.injEq] at h hx hy
  obtain ⟨rfl, rfl, h⟩ := h
  obtain ⟨rfl, rfl⟩ := List.append_inj h (hx.trans hy.symm)
  exact ⟨rfl, rfl⟩
theorem actI_pre : PreC (fun _ => True) actI := by
  rintro ⟨a, b, c⟩ ⟨a', b', c'⟩ l r _ _ h
  simp only [actI, List.cons_append, List.cons.injEq] at h
  obtain ⟨rfl, rfl, h⟩ := h
  obtain ⟨rfl, rfl⟩ := termsI_pre _ _ _ _ trivial trivial h
  exact ⟨rfl, rfl⟩
/-- A table as plain data. -/
structure TabL where
  cls : List Nat
  nodes : List NdL
  acts : List AcL
  ends : List (List TmL)
/-- How many numbers a node's Next has. -/
def TabL.wid (T : TabL) : Nat := (T.nodes.headD (0, 0, [])).2.2.length
def TabL.headI (T : TabL) : List Int := [(T.wid : Int), (T.nodes.length : Int), (T.acts.length : Int), (T.ends.length : Int)]
def TabL.restI (T : TabL) : List Int := T.nodes.flatMap nodeI ++ (T.acts.flatMap actI ++ T.ends.flatMap termsI)
def magicL : List Nat := [117, 109, 108, 116, 49]
def TabL.body (T : TabL) : List Nat := magicL ++ (numsB T.headI ++ (T.cls ++ numsB T.restI))
def TabL.bytes (T : TabL) : List Nat := T.body ++ num4 (sumL T.body)
/-- What the bytes need of a table. -/
structure TabL.Fit (T : TabL) : Prop where
  cls : T.cls.length = 256
  next : ∀ n ∈ T.nodes, n.2.2.length = T.wid
  head : ∀ x ∈ T.headI, In32 x
  rest : ∀ x ∈ T.restI, In32 x
theorem TabL.rest_inj {T U : TabL} (hT : T.Fit) (hU : U.Fit) (hh : T.headI = U.headI) (h : T.restI = U.restI) : T.nodes = U.nodes ∧ T.acts = U.acts ∧ T.ends = U.ends := by
  simp only [TabL.headI, List.cons.injEq, and_true] at hh
  obtain ⟨h1, h2, h3, h4⟩ := hh
  unfold TabL.restI at h
  obtain ⟨e1, h5⟩ := flat_pre (nodeI_pre T.wid) hT.next (fun n hn => (hU.next n hn).trans (Int.ofNat.inj h1).symm) (Int.ofNat.inj h2) h
  obtain ⟨e2, h6⟩ := flat_pre actI_pre (fun _ _ => trivial) (fun _ _ => trivial) (Int.ofNat.inj h3) h5
  have h7 : T.ends.flatMap termsI ++ [] = U.ends.flatMap termsI ++ [] := by rw [h6]
  exact ⟨e1, e2, (flat_pre termsI_pre (fun _ _ => trivial) (fun _ _ => trivial) (Int.ofNat.inj h4) h7).1⟩
theorem TabL.rest_pre {T U : TabL} (hT : T.Fit) (hU : U.Fit) (hh : T.headI = U.headI) {l r : List Int} (h : T.restI ++ l = U.restI ++ r) : l = r := by
  simp only [TabL.headI, List.cons.injEq, and_true] at hh
  obtain ⟨h1, h2, h3, h4⟩ := hh
  unfold TabL.restI at h
  simp only [List.append_assoc] at h
  obtain ⟨_, h5⟩ := flat_pre (nodeI_pre T.wid) hT.next (fun n hn => (hU.next n hn).trans (Int.ofNat.inj h1).symm) (Int.ofNat.inj h2) h
  obtain ⟨_, h6⟩ := flat_pre actI_pre (fun _ _ => trivial) (fun _ _ => trivial) (Int.ofNat.inj h3) h5
  exact (flat_pre termsI_pre (fun _ _ => trivial) (fun _ _ => trivial) (Int.ofNat.inj h4) h6).2
/-- Numbers that begin the same bytes: the shorter row begins the longer one. -/
theorem numsB_pre {xs ys : List Int} {l r : List Nat} (hx : ∀ x ∈ xs, In32 x) (hy : ∀ y ∈ ys, In32 y) (hn : xs.length ≤ ys.length) (h : numsB xs ++ l = numsB ys ++ r) : ∃ zs, ys = xs ++ zs ∧ l = numsB zs ++ r := by
  refine ⟨ys.drop xs.length, ?_⟩
  have e : ys = ys.take xs.length ++ ys.drop xs.length := (List.take_append_drop _ _).symm
  rw [e, numsB_append, List.append_assoc] at h
  obtain ⟨h1, h2⟩ := numsB_inj hx (fun y q => hy y (List.mem_of_mem_take q)) (by rw [List.length_take]; omega) h
  refine ⟨?_, h2⟩
  rw [h1, List.length_take, Nat.min_eq_left hn]
  exact e
/-- No table's bytes, the check apart, begin another one's. -/
theorem TabL.body_pre {T U : TabL} (hT : T.Fit) (hU : U.Fit) {l r : List Nat} (h : T.body ++ l = U.body ++ r) : T = U ∧ l = r := by
  unfold TabL.body at h
  simp only [List.append_assoc] at h
  obtain ⟨hh, h2⟩ := numsB_inj hT.head hU.head rfl (List.append_cancel_left h)
  obtain ⟨hc, h3⟩ := List.append_inj h2 (hT.cls.trans hU.cls.symm)
  have key : T.restI = U.restI := by
    rcases Nat.le_total T.restI.length U.restI.length with hl | hl
    · obtain ⟨zs, e1, _⟩ := numsB_pre hT.rest hU.rest hl h3
      have := TabL.rest_pre hT hU hh (l := zs) (r := []) (by rw [e1, List.append_nil])
      rw [e1, this, List.append_nil]
    · obtain ⟨zs, e1, _⟩ := numsB_pre hU.rest hT.rest hl h3.symm
      have := TabL.rest_pre hU hT hh.symm (l := zs) (r := []) (by rw [e1, List.append_nil])
      rw [e1, this, List.append_nil]
  obtain ⟨e1, e2, e3⟩ := TabL.rest_inj hT hU hh key
  rw [key] at h3
  refine ⟨?_, List.append_cancel_left h3⟩
  cases T
  cases U
  simp only at hc e1 e2 e3
  subst hc e1 e2 e3
  rfl
/-- The bytes tell the table. -/
theorem TabL.bytes_inj {T U : TabL} (hT : T.Fit) (hU : U.Fit) (h : T.bytes = U.bytes) : T = U := (TabL.body_pre hT hU h).1
/-- A table's bytes with something behind them, or cut off, are no table's. -/
theorem TabL.bytes_pre {T U : TabL} (hT : T.Fit) (hU : U.Fit) {l : List Nat} (h : T.bytes ++ l = U.bytes) : T = U ∧ l = [] := by
  unfold TabL.bytes at h
  rw [List.append_assoc] at h
  obtain ⟨rfl, h2⟩ := TabL.body_pre hT hU h
  have h3 : num4 (sumL T.body) ++ l = num4 (sumL T.body) ++ [] := by rw [h2, List.append_nil]
  exact ⟨rfl, List.append_cancel_left h3⟩
theorem TabL.checks (T : TabL) : Checks T.bytes := ⟨T.body, rfl⟩
end Go.Proofs.Ytgmkchkaceciiaa.Pk
