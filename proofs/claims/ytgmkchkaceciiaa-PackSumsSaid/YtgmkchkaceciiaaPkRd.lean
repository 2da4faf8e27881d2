/- The reader of a table's bytes as a pure function (rdTab), and that it reads just what tables' bytes are. -/
import Derived.Test.YtgmkchkaceciiaaPkTab
namespace Go.Proofs.Ytgmkchkaceciiaa.Pk
set_option maxRecDepth 100000
open Go Go.RowKit Go.Proofs.Ytgmkchkaceciiaa.Sp Go.Proofs.Ytgmkchkaceciiaa.Pa Go.Proofs.Ytgmkchkaceciiaa.Te Go.Proofs.Ytgmkchkaceciiaa.Mi Go.Proofs.Ytgmkchkaceciiaa.De

/-- The reader: the bytes that are left, and whether they can be no table's. -/
structure Rd where
  left : List Nat
  wrong : Bool
def rdNum (s : Rd) : Int × Rd := match rdN s.left with
  | some (x, l) => (x, ⟨l, s.wrong⟩)
  | none => (0, ⟨s.left, true⟩)
def rdCount (most : Nat) (s : Rd) : Nat × Rd :=
  if (rdNum s).1 < 0 ∨ (most : Int) < (rdNum s).1 then (0, ⟨(rdNum s).2.left, true⟩) else ((rdNum s).1.toNat, (rdNum s).2)
def rdMany {α : Type} (f : Rd → α × Rd) : Nat → Rd → List α × Rd
  | 0, s => ([], s)
  | n + 1, s => ((f s).1 :: (rdMany f n (f s).2).1, (rdMany f n (f s).2).2)
/-- Reading tells: where nothing went wrong, what is read is what stood there. -/
def Tells {α : Type} (f : Rd → α × Rd) (enc : α → List Int) : Prop := ∀ s, (∀ y ∈ s.left, y < 256) → (∀ y ∈ (f s).2.left, y < 256) ∧ ((f s).2.wrong = false →
  s.wrong = false ∧ (∀ x ∈ enc (f s).1, In32 x) ∧ s.left = numsB (enc (f s).1) ++ (f s).2.left)
/-- Reading finds (what P holds of). -/
def Finds {α : Type} (P : α → Prop) (f : Rd → α × Rd) (enc : α → List Int) : Prop := ∀ a l, P a → (∀ x ∈ enc a, In32 x) → f ⟨numsB (enc a) ++ l, false⟩ = (a, ⟨l, false⟩)
theorem rdNum_tells : Tells rdNum (fun x => [x]) := by
  intro s hs
  unfold rdNum
  cases h : rdN s.left with
  | none => exact ⟨hs, fun hw => by cases hw⟩
  | some p =>
    obtain ⟨x, l⟩ := p
    obtain ⟨hx, hl⟩ := rdN_some hs h
    refine ⟨fun y hy => hs y (by rw [hl]; exact List.mem_append_right _ hy), fun hw => ⟨hw, fun y hy => ?_, ?_⟩⟩
    · rw [List.mem_singleton] at hy
      exact hy ▸ hx
    · show s.left = numsB [x] ++ l
      rw [numsB_cons, numsB_nil, List.append_nil]
      exact hl
theorem rdNum_finds : Finds (fun _ => True) rdNum (fun x => [x]) := by
  intro x l _ hx
  unfold rdNum
  simp only [numsB_cons, numsB_nil, List.append_nil, rdN_num (hx x (List.mem_singleton_self x))]
theorem rdCount_tells (most : Nat) : Tells (rdCount most) (fun n => [(n : Int)]) := by
  intro s hs
  obtain ⟨h0, hn⟩ := rdNum_tells s hs
  unfold rdCount
  split
  · exact ⟨h0, fun hw => by cases hw⟩
  · rename_i h
    refine ⟨h0, fun hw => ?_⟩
    obtain ⟨h1, h2, h3⟩ := hn hw
    have e : (((rdNum s).1.toNat : Nat) : Int) = (rdNum s).1 := by omega
    exact ⟨h1, by simp only [e]; exact h2, by simp only [e]; exact h3⟩
theorem rdCount_le (most : Nat) (s : Rd) : (rdCount most s).1 ≤ most := by
  unfold rdCount
  split
  · exact Nat.zero_le _
  · show (rdNum s).1.toNat ≤ most
    omega
theorem rdCount_finds (most : Nat) : Finds (fun n => n ≤ most) (rdCount most) (fun n => [(n : Int)]) := by
  intro n l hn hx
  unfold rdCount
  rw [rdNum_finds (n : Int) l trivial hx, if_neg (by simp only; omega)]
  rfl
theorem rdMany_tells {α : Type} {f : Rd → α × Rd} {enc : α → List Int} (hf : Tells f enc) (n : Nat) : Tells (rdMany f n) (fun l => l.flatMap enc) := by
  induction n with
  | zero => exact fun s hs => ⟨hs, fun hw => ⟨hw, fun x hx => (List.not_mem_nil hx).elim, rfl⟩⟩
  | succ n ih =>
    intro s hs
    obtain ⟨g0, g⟩ := hf s hs
    obtain ⟨h0, h⟩ := ih (f s).2 g0
    refine ⟨h0, fun hw => ?_⟩
    obtain ⟨h1, h2, h3⟩ := h hw
    obtain ⟨g1, g2, g3⟩ := g h1
    refine ⟨g1, fun x hx => ?_, ?_⟩
    · rcases List.mem_append.1 (show x ∈ enc (f s).1 ++ (rdMany f n (f s).2).1.flatMap enc from hx) with q | q
      · exact g2 x q
      · exact h2 x q
    · show s.left = numsB (enc (f s).1 ++ (rdMany f n (f s).2).1.flatMap enc) ++ (rdMany f n (f s).2).2.left
      rw [numsB_append, List.append_assoc, ← h3]
      exact g3
theorem rdMany_length {α : Type} (f : Rd → α × Rd) (n : Nat) (s : Rd) : (rdMany f n s).1.length = n := by
  induction n generalizing s with
  | zero => rfl
  | succ n ih => show (rdMany f n (f s).2).1.length + 1 = n + 1; rw [ih]
theorem rdMany_finds {α : Type} {P : α → Prop} {f : Rd → α × Rd} {enc : α → List Int} (hf : Finds P f enc) (n : Nat) : Finds (fun l => l.length = n ∧ ∀ a ∈ l, P a) (rdMany f n) (fun l => l.flatMap enc) := by
  induction n with
  | zero =>
    rintro a l ⟨h, _⟩ _
    obtain rfl := List.length_eq_zero_iff.1 h
    rfl
  | succ n ih =>
    rintro a l ⟨h, hp⟩ hx
    cases a with
    | nil => cases h
    | cons a r =>
      have e : f ⟨numsB ((a :: r).flatMap enc) ++ l, false⟩ = (a, ⟨numsB (r.flatMap enc) ++ l, false⟩) := by
        rw [List.flatMap_cons, numsB_append, List.append_assoc]
        exact hf a _ (hp a List.mem_cons_self) (fun x q => hx x (List.mem_append_left _ q))
      have e2 := ih r l ⟨Nat.succ.inj h, fun q hq => hp q (List.mem_cons_of_mem _ hq)⟩ (fun x q => hx x (List.mem_append_right _ q))
      simp only [rdMany, e, e2]
/-- One behind the other. -/
def rdThen {α β : Type} (f : Rd → α × Rd) (g : α → Rd → β × Rd) (s : Rd) : (α × β) × Rd := (((f s).1, (g (f s).1 (f s).2).1), (g (f s).1 (f s).2).2)
theorem rdThen_tells {α β : Type} {f : Rd → α × Rd} {g : α → Rd → β × Rd} {e1 : α → List Int} {e2 : β → List Int} (hf : Tells f e1) (hg : ∀ a, Tells (g a) e2) : Tells (rdThen f g) (fun p => e1 p.1 ++ e2 p.2) := by
  intro s hs
  obtain ⟨g0, q⟩ := hf s hs
  obtain ⟨h0, h⟩ := hg (f s).1 (f s).2 g0
  refine ⟨h0, fun hw => ?_⟩
  obtain ⟨h1, h2, h3⟩ := h hw
  obtain ⟨g1, g2, g3⟩ := q h1
  refine ⟨g1, fun x hx => ?_, ?_⟩
  · rcases List.mem_append.1 hx with q | q
    · exact g2 x q
    · exact h2 x q
  · show s.left = numsB (e1 (f s).1 ++ e2 (g (f s).1 (f s).2).1) ++ (g (f s).1 (f s).2).2.left
    rw [numsB_append, List.append_assoc, ← h3]
    exact g3
theorem rdThen_finds {α β : Type} {P : α → Prop} {Q : α → β → Prop} {f : Rd → α × Rd} {g : α → Rd → β × Rd} {e1 : α → List Int} {e2 : β → List Int} (hf : Finds P f e1) (hg : ∀ a, P a → Finds (Q a) (g a) e2) : Finds (fun p => P p.1 ∧ Q p.1 p.2) (rdThen f g) (fun p => e1 p.1 ++ e2 p.2) := by
  rintro ⟨a, b⟩ l ⟨hp, hq⟩ hx
  have h1 : f ⟨numsB (e1 a ++ e2 b) ++ l, false⟩ = (a, ⟨numsB (e2 b) ++ l, false⟩) := by
    rw [numsB_append, List.append_assoc]
    exact hf a _ hp (fun x q => hx x (List.mem_append_left _ q))
  have h2 := hg a hp b l hq (fun x q => hx x (List.mem_append_right _ q))
  simp only [rdThen, h1, h2]
/-- How many, then each of them. -/
def rdList {α : Type} (most : Rd → Nat) (f : Rd → α × Rd) (s : Rd) : List α × Rd := rdMany f (rdCount (most s) s).1 (rdCount (most s) s).2
def listI {α : Type} (enc : α → List Int) (l : List α) : List Int := (l.length : Int) :: l.flatMap enc
theorem rdList_tells {α : Type} (most : Rd → Nat) {f : Rd → α × Rd} {enc : α → List Int} (hf : Tells f enc) : Tells (rdList most f) (listI enc) := by
  intro s hs
  obtain ⟨h0, h⟩ := rdThen_tells (rdCount_tells (most s)) (fun n => rdMany_tells hf n) s hs
  refine ⟨h0, fun hw => ?_⟩
  obtain ⟨h1, h2, h3⟩ := h hw
  have e : listI enc (rdList most f s).1 = [((rdCount (most s) s).1 : Int)] ++ (rdMany f (rdCount (most s) s).1 (rdCount (most s) s).2).1.flatMap enc := by
    unfold listI rdList
    rw [rdMany_length]
    rfl
  rw [e]
  exact ⟨h1, h2, h3⟩
theorem rdList_length {α : Type} (most : Rd → Nat) (f : Rd → α × Rd) (s : Rd) : (rdList most f s).1.length ≤ most s := by
  unfold rdList
  rw [rdMany_length]
  exact rdCount_le _ _
theorem rdList_finds {α : Type} {P : α → Prop} {most : Rd → Nat} {f : Rd → α × Rd} {enc : α → List Int} (hf : Finds P f enc) : Finds (fun l => (∀ a ∈ l, P a) ∧ ∀ r, l.length ≤ most ⟨numsB (listI enc l) ++ r, false⟩) (rdList most f) (listI enc) := by
  rintro a l ⟨hp, hm⟩ hx
  have h1 := rdCount_finds (most ⟨numsB (listI enc a) ++ l, false⟩) a.length (numsB (a.flatMap enc) ++ l) (hm l) (fun x q => hx x (by rw [List.mem_singleton.1 q]; exact List.mem_cons_self))
  have e : numsB [(a.length : Int)] ++ (numsB (a.flatMap enc) ++ l) = numsB (listI enc a) ++ l := by
    rw [← List.append_assoc, ← numsB_append]
    rfl
  rw [e] at h1
  unfold rdList
  rw [h1]
  exact rdMany_finds hf a.length a l ⟨rfl, hp⟩ (fun x q => hx x (List.mem_cons_of_mem _ q))
/-- What is read, by another name. -/
def rdMap {α β : Type} (h : α → β) (f : Rd → α × Rd) (s : Rd) : β × Rd := (h (f s).1, (f s).2)
theorem rdMap_tells {α β : Type} {h : α → β} {f : Rd → α × Rd} {enc : α → List Int} {enc' : β → List Int} (he : ∀ a, enc' (h a) = enc a) (hf : Tells f enc) : Tells (rdMap h f) enc' := by
  intro s hs
  have := hf s hs
  rw [← he] at this
  exact this
theorem rdMap_finds {α β : Type} {P : α → Prop} {Q : β → Prop} {h : α → β} (g : β → α) {f : Rd → α × Rd} {enc : α → List Int} {enc' : β → List Int} (hg : ∀ b, h (g b) = b) (he : ∀ b, enc (g b) = enc' b) (hq : ∀ b, Q b → P (g b)) (hf : Finds P f enc) : Finds Q (rdMap h f) enc' := by
  intro b l hb hx
  have := hf (g b) l (hq b hb) (by rw [he]; exact hx)
  rw [he] at this
  simp only [rdMap, this, hg]
theorem Finds.mono {α : Type} {P Q : α → Prop} {f : Rd → α × Rd} {enc : α → List Int} (hf : Finds P f enc) (h : ∀ a, Q a → P a) : Finds Q f enc := fun a l hq hx => hf a l (h a hq) hx
/-- A part. -/
def rdPart : Rd → PT × Rd := rdThen rdNum fun _ => rdThen rdNum fun _ => rdThen rdNum fun _ => rdNum
theorem rdPart_tells : Tells rdPart partI := rdThen_tells rdNum_tells fun _ => rdThen_tells rdNum_tells fun _ => rdThen_tells rdNum_tells fun _ => rdNum_tells
theorem rdPart_finds : Finds (fun _ => True) rdPart partI := (rdThen_finds (Q := fun _ _ => True) rdNum_finds fun _ _ => (rdThen_finds (Q := fun _ _ => True) rdNum_finds fun _ _ => (rdThen_finds (Q := fun _ _ => True) rdNum_finds fun _ _ => rdNum_finds).mono fun _ _ => ⟨trivial, trivial⟩).mono fun _ _ => ⟨trivial, trivial⟩).mono fun _ _ => ⟨trivial, trivial⟩
def rdParts : Rd → List PT × Rd := rdList (fun s => s.left.length / 16) rdPart
theorem parts_len (l : List PT) : (l.flatMap partI).length = 4 * l.length := by
  induction l with
  | nil => rfl
  | cons a l ih => rw [List.flatMap_cons, List.length_append, ih, List.length_cons]; show 4 + 4 * l.length = _; omega
theorem rdParts_finds : Finds (fun _ => True) rdParts (listI partI) := (rdList_finds rdPart_finds).mono fun l _ => ⟨fun _ _ => trivial, fun r => by
  show l.length ≤ (numsB (listI partI l) ++ r).length / 16
  rw [List.length_append, numsB_length]
  unfold listI
  rw [List.length_cons, parts_len]
  omega⟩
/-- A term. -/
def rdTerm : Rd → TmL × Rd := rdMap (fun p => ⟨p.1, p.2.1, p.2.2.1, p.2.2.2.1, p.2.2.2.2.1, p.2.2.2.2.2⟩) (rdThen rdNum fun _ => rdThen rdNum fun _ => rdThen rdNum fun _ => rdThen rdNum fun _ => rdThen rdNum fun _ => rdParts)
theorem rdTerm_tells : Tells rdTerm termI := rdMap_tells (fun _ => rfl) (rdThen_tells rdNum_tells fun _ => rdThen_tells rdNum_tells fun _ => rdThen_tells rdNum_tells fun _ => rdThen_tells rdNum_tells fun _ => rdThen_tells rdNum_tells fun _ => rdList_tells _ rdPart_tells)
theorem thenN {β : Type} {g : Rd → β × Rd} {e : β → List Int} {Q : β → Prop} (hg : Finds Q g e) : Finds (fun p => Q p.2) (rdThen rdNum fun _ => g) (fun p => [p.1] ++ e p.2) := (rdThen_finds (Q := fun _ => Q) rdNum_finds fun _ _ => hg).mono fun _ h => ⟨trivial, h⟩
theorem rdTerm_finds : Finds (fun _ => True) rdTerm termI := rdMap_finds (P := fun _ => True) (fun t => (t.b, t.d, t.t, t.u, t.s, t.ps)) (fun _ => rfl) (fun _ => rfl) (fun _ _ => trivial) (thenN (thenN (thenN (thenN (thenN rdParts_finds)))))
/-- Terms: 64 at most. -/
def rdTerms : Rd → List TmL × Rd := rdList (fun _ => 64) rdTerm
theorem rdTerms_tells : Tells rdTerms termsI := rdList_tells _ rdTerm_tells
theorem rdTerms_finds : Finds (fun l => l.length ≤ 64) rdTerms termsI := (rdList_finds rdTerm_finds).mono fun _ h => ⟨fun _ _ => trivial, fun _ => h⟩
/-- A node whose Next has m numbers. -/
def rdNode (m : Nat) : Rd → NdL × Rd := rdThen rdNum fun _ => rdThen rdNum fun _ => rdMany rdNum m
theorem flat_one (l : List Int) : l.flatMap (fun x => [x]) = l := by
  induction l with
  | nil => rfl
  | cons a l ih => rw [List.flatMap_cons, ih]; rfl
theorem rdNode_tells (m : Nat) : Tells (rdNode m) nodeI := by
  have h := rdThen_tells rdNum_tells fun _ => rdThen_tells rdNum_tells fun _ => rdMany_tells rdNum_tells m
  simp only [flat_one] at h
  exact h
theorem rdNode_len (m : Nat) (s : Rd) : (rdNode m s).1.2.2.length = m := rdMany_length _ _ _
theorem rdNode_finds (m : Nat) : Finds (fun n => n.2.2.length = m) (rdNode m) nodeI := by
  have h := thenN (thenN ((rdMany_finds rdNum_finds m).mono (Q := fun l => l.length = m) fun _ h => ⟨h, fun _ _ => trivial⟩))
  simp only [flat_one] at h
  exact h
/-- An act. -/
def rdAct : Rd → AcL × Rd := rdThen rdNum fun _ => rdThen rdNum fun _ => rdTerms
theorem rdAct_tells : Tells rdAct actI := rdThen_tells rdNum_tells fun _ => rdThen_tells rdNum_tells fun _ => rdTerms_tells
theorem rdAct_finds : Finds (fun a => a.2.2.length ≤ 64) rdAct actI := thenN (thenN rdTerms_finds)
/-- Nodes, acts, ends. -/
def rdRest (m N A E : Nat) : Rd → (List NdL × List AcL × List (List TmL)) × Rd := rdThen (rdMany (rdNode m) N) fun _ => rdThen (rdMany rdAct A) fun _ => rdMany rdTerms E
def restOf (p : List NdL × List AcL × List (List TmL)) : List Int := p.1.flatMap nodeI ++ (p.2.1.flatMap actI ++ p.2.2.flatMap termsI)
theorem rdRest_tells (m N A E : Nat) : Tells (rdRest m N A E) restOf := rdThen_tells (rdMany_tells (rdNode_tells m) N) fun _ => rdThen_tells (rdMany_tells rdAct_tells A) fun _ => rdMany_tells rdTerms_tells E
theorem rdRest_finds (m N A E : Nat) : Finds (fun p => (p.1.length = N ∧ ∀ n ∈ p.1, n.2.2.length = m) ∧ (p.2.1.length = A ∧ ∀ a ∈ p.2.1, a.2.2.length ≤ 64) ∧ p.2.2.length = E ∧ ∀ l ∈ p.2.2, l.length ≤ 64) (rdRest m N A E) restOf :=
  rdThen_finds (Q := fun (_ : List NdL) (q : List AcL × List (List TmL)) => (q.1.length = A ∧ ∀ a ∈ q.1, a.2.2.length ≤ 64) ∧ q.2.length = E ∧ ∀ l ∈ q.2, l.length ≤ 64) (rdMany_finds (rdNode_finds m) N) fun _ _ => rdThen_finds (Q := fun (_ : List AcL) (q : List (List TmL)) => q.length = E ∧ ∀ l ∈ q, l.length ≤ 64) (rdMany_finds rdAct_finds A) fun _ _ => rdMany_finds rdTerms_finds E
theorem rdRest_len (m N A E : Nat) (s : Rd) : (rdRest m N A E s).1.1.length = N ∧ (rdRest m N A E s).1.2.1.length = A ∧ (rdRest m N A E s).1.2.2.length = E := ⟨rdMany_length _ _ _, rdMany_length _ _ _, rdMany_length _ _ _⟩
theorem rdMany_all {α : Type} {P : α → Prop} {f : Rd → α × Rd} (h : ∀ s, P (f s).1) : ∀ (n : Nat) (s : Rd), ∀ a ∈ (rdMany f n s).1, P a
  | 0, _, a, ha => (List.not_mem_nil ha).elim
  | n + 1, s, a, ha => by
    rcases List.mem_cons.1 ha with rfl | q
    · exact h s
    · exact rdMany_all h n _ a q
theorem rdRest_next (m N A E : Nat) (s : Rd) : ∀ n ∈ (rdRest m N A E s).1.1, n.2.2.length = m := rdMany_all (rdNode_len m) N s
/-- So many bytes. -/
def rdBytes (n : Nat) (s : Rd) : List Nat × Rd := if n ≤ s.left.length then (s.left.take n, ⟨s.left.drop n, s.wrong⟩) else ([], ⟨s.left, true⟩)
/-- The four numbers ahead. -/
def rdHead : Rd → (Nat × Nat × Nat × Nat) × Rd := rdThen (rdCount 256) fun _ => rdThen (rdCount 4096) fun _ => rdThen (rdCount 4096) fun _ => rdCount 4096
def headOf (p : Nat × Nat × Nat × Nat) : List Int := [(p.1 : Int)] ++ ([(p.2.1 : Int)] ++ ([(p.2.2.1 : Int)] ++ [(p.2.2.2 : Int)]))
theorem rdHead_tells : Tells rdHead headOf := rdThen_tells (rdCount_tells _) fun _ => rdThen_tells (rdCount_tells _) fun _ => rdThen_tells (rdCount_tells _) fun _ => rdCount_tells _
theorem rdHead_finds : Finds (fun p => p.1 ≤ 256 ∧ p.2.1 ≤ 4096 ∧ p.2.2.1 ≤ 4096 ∧ p.2.2.2 ≤ 4096) rdHead headOf :=
  rdThen_finds (Q := fun (_ : Nat) (p : Nat × Nat × Nat) => p.1 ≤ 4096 ∧ p.2.1 ≤ 4096 ∧ p.2.2 ≤ 4096) (rdCount_finds _) fun _ _ => rdThen_finds (Q := fun (_ : Nat) (p : Nat × Nat) => p.1 ≤ 4096 ∧ p.2 ≤ 4096) (rdCount_finds _) fun _ _ => rdThen_finds (Q := fun (_ : Nat) (p : Nat) => p ≤ 4096) (rdCount_finds _) fun _ _ => rdCount_finds _
theorem rdBytes_tells (n : Nat) (s : Rd) (hs : ∀ y ∈ s.left, y < 256) : (∀ y ∈ (rdBytes n s).2.left, y < 256) ∧ ((rdBytes n s).2.wrong = false → s.wrong = false ∧ (rdBytes n s).1.length = n ∧ s.left = (rdBytes n s).1 ++ (rdBytes n s).2.left) := by
  unfold rdBytes
  split
  · rename_i h
    exact ⟨fun y hy => hs y (List.mem_of_mem_drop hy), fun hw => ⟨hw, by show (s.left.take n).length = n; rw [List.length_take]; omega, (List.take_append_drop n s.left).symm⟩⟩
  · exact ⟨hs, fun hw => by cases hw⟩
theorem rdBytes_finds {n : Nat} {b l : List Nat} (h : b.length = n) : rdBytes n ⟨b ++ l, false⟩ = (b, ⟨l, false⟩) := by
  subst h
  unfold rdBytes
  rw [if_pos (by simp only [List.length_append]; omega)]
  simp only [List.take_left', List.drop_left']
/-- A table, right or not. -/
def rdTab (s : Rd) : TabL × Rd :=
  (⟨(rdBytes 256 (rdHead s).2).1 ++ List.replicate (256 - (rdBytes 256 (rdHead s).2).1.length) 0,
    (rdRest (rdHead s).1.1 (rdHead s).1.2.1 (rdHead s).1.2.2.1 (rdHead s).1.2.2.2 (rdBytes 256 (rdHead s).2).2).1.1,
    (rdRest (rdHead s).1.1 (rdHead s).1.2.1 (rdHead s).1.2.2.1 (rdHead s).1.2.2.2 (rdBytes 256 (rdHead s).2).2).1.2.1,
    (rdRest (rdHead s).1.1 (rdHead s).1.2.1 (rdHead s).1.2.2.1 (rdHead s).1.2.2.2 (rdBytes 256 (rdHead s).2).2).1.2.2⟩,
   (rdRest (rdHead s).1.1 (rdHead s).1.2.1 (rdHead s).1.2.2.1 (rdHead s).1.2.2.2 (rdBytes 256 (rdHead s).2).2).2)
/-- Where nothing went wrong and there is a node, what is read is what stood there. -/
theorem rdTab_tells (s : Rd) (hs : ∀ y ∈ s.left, y < 256) (hw : (rdTab s).2.wrong = false) (hn : (rdTab s).1.nodes ≠ []) :
    s.wrong = false ∧ (rdTab s).1.Fit ∧ s.left = numsB (rdTab s).1.headI ++ ((rdTab s).1.cls ++ (numsB (rdTab s).1.restI ++ (rdTab s).2.left)) := by
  obtain ⟨a0, a⟩ := rdHead_tells s hs
  obtain ⟨b0, b⟩ := rdBytes_tells 256 (rdHead s).2 a0
  obtain ⟨_, c⟩ := rdRest_tells (rdHead s).1.1 (rdHead s).1.2.1 (rdHead s).1.2.2.1 (rdHead s).1.2.2.2 (rdBytes 256 (rdHead s).2).2 b0
  obtain ⟨c1, c2, c3⟩ := c hw
  obtain ⟨b1, b2, b3⟩ := b c1
  obtain ⟨a1, a2, a3⟩ := a b1
  obtain ⟨l1, l2, l3⟩ := rdRest_len (rdHead s).1.1 (rdHead s).1.2.1 (rdHead s).1.2.2.1 (rdHead s).1.2.2.2 (rdBytes 256 (rdHead s).2).2
  have lx := rdRest_next (rdHead s).1.1 (rdHead s).1.2.1 (rdHead s).1.2.2.1 (rdHead s).1.2.2.2 (rdBytes 256 (rdHead s).2).2
  have hc : (rdTab s).1.cls = (rdBytes 256 (rdHead s).2).1 := by
    show (rdBytes 256 (rdHead s).2).1 ++ _ = _
    rw [b2]
    exact List.append_nil _
  have hwid : (rdTab s).1.wid = (rdHead s).1.1 := by
    unfold TabL.wid
    cases h : (rdTab s).1.nodes with
    | nil => exact (hn h).elim
    | cons x xs => exact lx x (by show x ∈ (rdTab s).1.nodes; rw [h]; exact List.mem_cons_self)
  have hh : (rdTab s).1.headI = headOf (rdHead s).1 := by
    unfold TabL.headI headOf
    rw [hwid, show (rdTab s).1.nodes.length = _ from l1, show (rdTab s).1.acts.length = _ from l2, show (rdTab s).1.ends.length = _ from l3]
    rfl
  refine ⟨a1, ⟨by rw [hc]; exact b2, fun n q => by rw [hwid]; exact lx n q, by rw [hh]; exact a2, c2⟩, ?_⟩
  rw [hh, hc, a3, b3, c3]
  rfl
/-- What bytes tell of, is found. -/
theorem rdTab_finds {T : TabL} (hT : T.Fit) (h1 : T.wid ≤ 256) (h2 : T.nodes.length ≤ 4096) (h3 : T.acts.length ≤ 4096) (h4 : T.ends.length ≤ 4096) (h5 : ∀ a ∈ T.acts, a.2.2.length ≤ 64) (h6 : ∀ l ∈ T.ends, l.length ≤ 64) (l : List Nat) :
    rdTab ⟨numsB T.headI ++ (T.cls ++ (numsB T.restI ++ l)), false⟩ = (T, ⟨l, false⟩) := by
  have e1 := rdHead_finds (T.wid, T.nodes.length, T.acts.length, T.ends.length) (T.cls ++ (numsB T.restI ++ l)) ⟨h1, h2, h3, h4⟩ hT.head
  change rdHead ⟨numsB T.headI ++ _, false⟩ = _ at e1
  have e2 := rdBytes_finds (l := numsB T.restI ++ l) hT.cls
  have e3 := rdRest_finds T.wid T.nodes.length T.acts.length T.ends.length (T.nodes, T.acts, T.ends) l ⟨⟨rfl, hT.next⟩, ⟨rfl, h5⟩, rfl, h6⟩ hT.rest
  change rdRest _ _ _ _ ⟨numsB T.restI ++ l, false⟩ = _ at e3
  unfold rdTab
  simp only [e1, e2, e3, hT.cls, Nat.sub_self, List.replicate_zero, List.append_nil]
end Go.Proofs.Ytgmkchkaceciiaa.Pk
