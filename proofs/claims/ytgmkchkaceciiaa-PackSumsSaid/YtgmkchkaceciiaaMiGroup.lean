/- Plain mathematics of minterm: the cells between edges grouped by their marks are the blocks of the set, in the order of their least numbers; there is one such list. No program is named here. -/
import Derived.Test.YtgmkchkaceciiaaMiMath
namespace Go.Proofs.Ytgmkchkaceciiaa.Mi
set_option maxRecDepth 100000
open Go.Proofs.Ytgmkchkaceciiaa.Sp Classical

abbrev Cell := List Nat × Span
abbrev Entry := List Nat × List Span
def placeOf (st : List Entry) (key : List Nat) : Option Nat := st.findIdx? fun e => e.1 == key
def addCell (st : List Entry) (c : Cell) : List Entry :=
  match placeOf st c.1 with
  | some k => st.modify k fun e => (e.1, e.2 ++ [c.2])
  | none => st ++ [(c.1, [c.2])]
def group (C : List Cell) : List Entry := C.foldl addCell []
theorem group_snoc (C : List Cell) (c : Cell) : group (C ++ [c]) = addCell (group C) c := by simp [group]
theorem addCell_length_le (st : List Entry) (c : Cell) : st.length ≤ (addCell st c).length := by
  unfold addCell
  split <;> simp
theorem foldl_length_le (D : List Cell) : ∀ st : List Entry, st.length ≤ (D.foldl addCell st).length := by
  induction D with
  | nil => intro st; exact Nat.le_refl _
  | cons c D ih => intro st; exact Nat.le_trans (addCell_length_le st c) (ih _)
theorem group_length_le (C D : List Cell) : (group C).length ≤ (group (C ++ D)).length := by
  unfold group
  rw [List.foldl_append]
  exact foldl_length_le _ _
theorem placeOf_some {st : List Entry} {key : List Nat} {k : Nat} (h : placeOf st key = some k) : ∃ hk : k < st.length, st[k].1 = key := by
  unfold placeOf at h
  obtain ⟨hk, h1, _⟩ := List.findIdx?_eq_some_iff_getElem.1 h
  exact ⟨hk, by simpa using h1⟩
theorem placeOf_none {st : List Entry} {key : List Nat} (h : placeOf st key = none) : ∀ e ∈ st, e.1 ≠ key := by
  intro e he
  have := List.findIdx?_eq_none_iff.1 h e he
  simpa using this
def headLo (l : List Span) : Int := (l.head?.map (·.1)).getD 0
structure Grouped (C : List Cell) (st : List Entry) : Prop where
  nodup : st.Pairwise fun a b => a.1 ≠ b.1
  part : ∀ e ∈ st, e.2 = (C.filter fun c => c.1 == e.1).map (·.2) ∧ e.2 ≠ []
  all : ∀ c ∈ C, ∃ e ∈ st, e.1 = c.1
  order : st.Pairwise fun a b => headLo a.2 < headLo b.2
theorem headLo_mem {l : List Span} (h : l ≠ []) : ∃ p ∈ l, headLo l = p.1 := by
  cases l with
  | nil => exact absurd rfl h
  | cons p l => exact ⟨p, List.mem_cons_self .., rfl⟩
theorem headLo_snoc {l : List Span} (h : l ≠ []) (p : Span) : headLo (l ++ [p]) = headLo l := by
  cases l with
  | nil => exact absurd rfl h
  | cons q l => rfl
theorem grouped (C : List Cell) (hC : C.Pairwise fun a b => a.2.1 < b.2.1) : Grouped C (group C) := by
  have key : ∀ (n : Nat) (C : List Cell), C.length = n → (C.Pairwise fun a b => a.2.1 < b.2.1) → Grouped C (group C) := by
    intro n
    induction n with
    | zero =>
      intro C hl _
      have : C = [] := List.length_eq_zero_iff.1 hl
      subst this
      exact ⟨List.Pairwise.nil, fun e he => by simp [group] at he, fun c hc => (by cases hc), List.Pairwise.nil⟩
    | succ n ih =>
      intro C hl hC
      obtain ⟨C', c, rfl⟩ : ∃ C' c, C = C' ++ [c] := by
        rcases List.eq_nil_or_concat C with rfl | ⟨C', c, rfl⟩
        · simp at hl
        · exact ⟨C', c, by simp⟩
      obtain ⟨hC1, _, hC2⟩ := List.pairwise_append.1 hC
      have g := ih C' (by simpa using hl) hC1
      rw [group_snoc]
      unfold addCell
      cases hp : placeOf (group C') c.1 with
      | none =>
        have hn := placeOf_none hp
        simp only
        refine ⟨List.pairwise_append.2 ⟨g.nodup, List.pairwise_singleton _ _, fun a ha b hb => ?_⟩, fun e he => ?_, fun d hd => ?_, List.pairwise_append.2 ⟨g.order, List.pairwise_singleton _ _, fun a ha b hb => ?_⟩⟩
        · obtain rfl := List.mem_singleton.1 hb
          exact hn a ha
        · rcases List.mem_append.1 he with he | he
          · obtain ⟨h1, h2⟩ := g.part e he
            have : c.1 ≠ e.1 := fun q => hn e he q.symm
            refine ⟨?_, h2⟩
            rw [List.filter_append, h1]
            simp [this]
          · obtain rfl := List.mem_singleton.1 he
            refine ⟨?_, by simp⟩
            have : (C'.filter fun d => d.1 == c.1) = [] := by
              rw [List.filter_eq_nil_iff]
              intro d hd
              obtain ⟨e, he, h1⟩ := g.all d hd
              have := hn e he
              rw [h1] at this
              simpa using this
            rw [List.filter_append, this]
            simp
        · rcases List.mem_append.1 hd with hd | hd
          · obtain ⟨e, he, h1⟩ := g.all d hd
            exact ⟨e, List.mem_append.2 (.inl he), h1⟩
          · obtain rfl := List.mem_singleton.1 hd
            exact ⟨_, List.mem_append.2 (.inr (List.mem_singleton.2 rfl)), rfl⟩
        · obtain rfl := List.mem_singleton.1 hb
          obtain ⟨h1, h2⟩ := g.part a ha
          obtain ⟨p, hp, h3⟩ := headLo_mem h2
          rw [h1] at hp
          obtain ⟨d, hd, rfl⟩ := List.mem_map.1 hp
          have := hC2 d (List.mem_filter.1 hd).1 c (List.mem_singleton.2 rfl)
          rw [h3]
          exact this
      | some k =>
        obtain ⟨hk, hkey⟩ := placeOf_some hp
        simp only
        have hne : ∀ (j : Nat) (hj : j < (group C').length), j ≠ k → (group C')[j].1 ≠ c.1 := fun j hj hjk q => by
          rcases Nat.lt_or_gt_of_ne hjk with h | h
          · exact (List.pairwise_iff_getElem.1 g.nodup j k hj hk h) (q.trans hkey.symm)
          · exact (List.pairwise_iff_getElem.1 g.nodup k j hk hj h) (hkey.trans q.symm)
        have hget : ∀ (j : Nat) (hj : j < ((group C').modify k fun e => (e.1, e.2 ++ [c.2])).length), ∃ hj' : j < (group C').length, (((group C').modify k fun e => (e.1, e.2 ++ [c.2]))[j]).1 = (group C')[j].1 ∧ (((group C').modify k fun e => (e.1, e.2 ++ [c.2]))[j]).2 = (group C')[j].2 ++ (if j = k then [c.2] else []) := fun j hj => by
          have hj' : j < (group C').length := by simpa using hj
          refine ⟨hj', ?_⟩
          rw [List.getElem_modify]
          by_cases h : k = j
          · subst h; simp
          · have : ¬ j = k := fun q => h q.symm
            simp [h, this]
        refine ⟨List.pairwise_iff_getElem.2 fun i j hi hj hij => ?_, fun e he => ?_, fun d hd => ?_, List.pairwise_iff_getElem.2 fun i j hi hj hij => ?_⟩
        · obtain ⟨hi', h1, _⟩ := hget i hi
          obtain ⟨hj', h2, _⟩ := hget j hj
          rw [h1, h2]
          exact List.pairwise_iff_getElem.1 g.nodup i j hi' hj' hij
        · obtain ⟨j, hj, rfl⟩ := List.getElem_of_mem he
          obtain ⟨hj', h1, h2⟩ := hget j hj
          obtain ⟨h3, h4⟩ := g.part _ (List.getElem_mem hj')
          rw [h1, h2, List.filter_append, List.map_append, ← h3]
          refine ⟨?_, by simp [h4]⟩
          by_cases h : j = k
          · subst h; simp [hkey]
          · have := hne j hj' h
            have : ¬ c.1 = (group C')[j].1 := fun q => this q.symm
            simp [h, this]
        · have hex : ∃ e ∈ group C', e.1 = d.1 := by
            rcases List.mem_append.1 hd with hd | hd
            · exact g.all d hd
            · obtain rfl := List.mem_singleton.1 hd
              exact ⟨_, List.getElem_mem hk, hkey⟩
          obtain ⟨e, he, h1⟩ := hex
          obtain ⟨j, hj, rfl⟩ := List.getElem_of_mem he
          have hj2 : j < ((group C').modify k fun e => (e.1, e.2 ++ [c.2])).length := by simpa using hj
          obtain ⟨_, h2, _⟩ := hget j hj2
          exact ⟨_, List.getElem_mem hj2, h2.trans h1⟩
        · obtain ⟨hi', _, h1⟩ := hget i hi
          obtain ⟨hj', _, h2⟩ := hget j hj
          have e1 := (g.part _ (List.getElem_mem hi')).2
          have e2 := (g.part _ (List.getElem_mem hj')).2
          have hh : ∀ (l : List Span) (b : Prop) [Decidable b], l ≠ [] → headLo (l ++ (if b then [c.2] else [])) = headLo l := fun l b _ hl => by
            split
            · exact headLo_snoc hl _
            · rw [List.append_nil]
          rw [h1, h2, hh _ _ e1, hh _ _ e2]
          exact List.pairwise_iff_getElem.1 g.order i j hi' hj' hij
  exact key C.length C rfl hC

/-- The blocks of a set that a family tells apart. -/
structure IsBlocks (all : List Span) (fam : List (List Span)) (L : List (List Span)) : Prop where
  plain : ∀ l ∈ L, Plain l ∧ l ≠ []
  cover : ∀ x, mem all x ↔ ∃ l ∈ L, mem l x
  alike : ∀ l ∈ L, ∀ r ∈ L, ∀ x y, mem l x → mem r y → (l = r ↔ ∀ s ∈ fam, mem s x ↔ mem s y)
  order : L.Pairwise fun a b => headLo a < headLo b
theorem mem_head {l : List Span} (hp : Plain l) (h : l ≠ []) : mem l (headLo l) := by
  cases l with
  | nil => exact absurd rfl h
  | cons p l =>
    have := (hp.cons).1
    unfold Ok at this
    exact mem_cons.2 (.inl ⟨⟨by simp only [headLo, List.head?_cons, Option.map_some, Option.getD_some]; omega, by simp only [headLo, List.head?_cons, Option.map_some, Option.getD_some]; omega⟩, by simp [headLo], by simp only [headLo, List.head?_cons, Option.map_some, Option.getD_some]; omega⟩)
theorem sorted_ext {α : Type} (f : α → Int) : ∀ (L R : List α), (L.Pairwise fun a b => f a < f b) → (R.Pairwise fun a b => f a < f b) → (∀ x, x ∈ L ↔ x ∈ R) → L = R := by
  intro L
  induction L with
  | nil =>
    intro R _ _ h
    cases R with
    | nil => rfl
    | cons r R => exact absurd ((h r).2 (List.mem_cons_self ..)) (by simp)
  | cons a L ih =>
    intro R hL hR h
    cases R with
    | nil => exact absurd ((h a).1 (List.mem_cons_self ..)) (by simp)
    | cons r R =>
      obtain ⟨h1, h2⟩ := List.pairwise_cons.1 hL
      obtain ⟨k1, k2⟩ := List.pairwise_cons.1 hR
      have e : a = r := by
        rcases List.mem_cons.1 ((h a).1 (List.mem_cons_self ..)) with e | e
        · exact e
        · rcases List.mem_cons.1 ((h r).2 (List.mem_cons_self ..)) with e2 | e2
          · exact e2.symm
          · have := h1 r e2
            have := k1 a e
            omega
      subst e
      rw [ih R h2 k2 fun x => ⟨fun hx => ?_, fun hx => ?_⟩]
      · rcases List.mem_cons.1 ((h x).1 (List.mem_cons_of_mem _ hx)) with e | e
        · subst e
          have := h1 x hx
          omega
        · exact e
      · rcases List.mem_cons.1 ((h x).2 (List.mem_cons_of_mem _ hx)) with e | e
        · subst e
          have := k1 x hx
          omega
        · exact e
theorem IsBlocks.sub {all : List Span} {fam L R : List (List Span)} (h : IsBlocks all fam L) (k : IsBlocks all fam R) : ∀ l ∈ L, l ∈ R := by
  intro l hl
  obtain ⟨hp, hn⟩ := h.plain l hl
  have hm := mem_head hp hn
  obtain ⟨r, hr, hrm⟩ := (k.cover _).1 ((h.cover _).2 ⟨l, hl, hm⟩)
  have : l = r := by
    refine Is.unique l r hp (k.plain r hr).1 fun y => ⟨fun hy => ?_, fun hy => ?_⟩
    · obtain ⟨r2, hr2, hy2⟩ := (k.cover y).1 ((h.cover y).2 ⟨l, hl, hy⟩)
      have e := (k.alike r hr r2 hr2 _ y hrm hy2).2 ((h.alike l hl l hl _ y hm hy).1 rfl)
      rw [e]; exact hy2
    · obtain ⟨l2, hl2, hy2⟩ := (h.cover y).1 ((k.cover y).2 ⟨r, hr, hy⟩)
      have e := (h.alike l hl l2 hl2 _ y hm hy2).2 ((k.alike r hr r hr _ y hrm hy).1 rfl)
      rw [e]; exact hy2
  rw [this]; exact hr
theorem IsBlocks.unique {all : List Span} {fam L R : List (List Span)} (h : IsBlocks all fam L) (k : IsBlocks all fam R) : L = R :=
  sorted_ext headLo L R h.order k.order fun x => ⟨h.sub k x, k.sub h x⟩
theorem IsBlocks.congr {all all' : List Span} {fam fam' L : List (List Span)} (h : IsBlocks all fam L) (h1 : ∀ x, mem all x ↔ mem all' x) (h2 : ∀ x y, (∀ s ∈ fam, mem s x ↔ mem s y) ↔ (∀ s ∈ fam', mem s x ↔ mem s y)) : IsBlocks all' fam' L :=
  ⟨h.plain, fun x => (h1 x).symm.trans (h.cover x), fun l hl r hr x y hx hy => (h.alike l hl r hr x y hx hy).trans (h2 x y), h.order⟩

/-- The cell behind an edge. -/
def cellAt (m : Nat) (E : List (Int × Int)) (i : Nat) : Option Cell :=
  match E[i]?, E[i + 1]? with
  | some a, some b => if bitOf (marksAt m (E.take (i + 1))) 0 && a.1 != b.1 then some (marksAt m (E.take (i + 1)), (a.1, b.1 - 1)) else none
  | _, _ => none
def cellsTo (m : Nat) (E : List (Int × Int)) (n : Nat) : List Cell := (List.range n).filterMap (cellAt m E)
theorem cellsTo_succ (m : Nat) (E : List (Int × Int)) (n : Nat) : cellsTo m E (n + 1) = cellsTo m E n ++ (cellAt m E n).toList := by
  unfold cellsTo
  rw [List.range_succ, List.filterMap_append]
  congr 1
theorem cellAt_some {m : Nat} {E : List (Int × Int)} {i : Nat} {c : Cell} (h : cellAt m E i = some c) : ∃ h1 : i + 1 < E.length, bitOf (marksAt m (E.take (i + 1))) 0 = true ∧ E[i].1 ≠ E[i + 1].1 ∧ c = (marksAt m (E.take (i + 1)), (E[i].1, E[i + 1].1 - 1)) := by
  unfold cellAt at h
  by_cases h1 : i + 1 < E.length
  · refine ⟨h1, ?_⟩
    rw [List.getElem?_eq_getElem (show i < E.length by omega), List.getElem?_eq_getElem h1] at h
    simp only at h
    split at h
    · rename_i hc
      simp only [Bool.and_eq_true, bne_iff_ne] at hc
      injection h with h
      exact ⟨hc.1, hc.2, h.symm⟩
    · cases h
  · rw [List.getElem?_eq_none (show E.length ≤ i + 1 by omega)] at h
    split at h
    · rename_i h2; cases h2
    · cases h
theorem cellAt_none0 {m : Nat} {E : List (Int × Int)} {i : Nat} (h : bitOf (marksAt m (E.take (i + 1))) 0 = false) : cellAt m E i = none := by
  cases hc : cellAt m E i with
  | none => rfl
  | some c =>
    obtain ⟨_, h1, _⟩ := cellAt_some hc
    rw [h] at h1
    cases h1
theorem cellAt_none1 {m : Nat} {E : List (Int × Int)} {i : Nat} (h : i + 1 < E.length) (he : E[i].1 = E[i + 1].1) : cellAt m E i = none := by
  cases hc : cellAt m E i with
  | none => rfl
  | some c =>
    obtain ⟨_, _, h1, _⟩ := cellAt_some hc
    exact absurd he h1
theorem cellAt_is {m : Nat} {E : List (Int × Int)} {i : Nat} (h : i + 1 < E.length) (hb : bitOf (marksAt m (E.take (i + 1))) 0 = true) (hne : E[i].1 ≠ E[i + 1].1) : cellAt m E i = some (marksAt m (E.take (i + 1)), (E[i].1, E[i + 1].1 - 1)) := by
  unfold cellAt
  rw [List.getElem?_eq_getElem (show i < E.length by omega), List.getElem?_eq_getElem h]
  simp only [hb, Bool.true_and]
  rw [if_pos]
  simpa using hne
theorem cellsTo_more (m : Nat) (E : List (Int × Int)) {n n' : Nat} (h : n ≤ n') : ∃ R, cellsTo m E n' = cellsTo m E n ++ R := by
  induction h with
  | refl => exact ⟨[], by simp⟩
  | step _ ih =>
    obtain ⟨R, hR⟩ := ih
    exact ⟨R ++ (cellAt m E _).toList, by rw [cellsTo_succ, hR, List.append_assoc]⟩
theorem cells_next_none {m : Nat} {E : List (Int × Int)} {k : Nat} (h : cellAt m E k = none) : group (cellsTo m E (k + 1)) = group (cellsTo m E k) := by
  rw [cellsTo_succ, h]
  simp
theorem cells_next_some {m : Nat} {E : List (Int × Int)} {k : Nat} {c : Cell} (h : cellAt m E k = some c) : group (cellsTo m E (k + 1)) = addCell (group (cellsTo m E k)) c := by
  rw [cellsTo_succ, h]
  exact group_snoc _ _
theorem addCell_known {st : List Entry} {key : List Nat} {j : Nat} (h : placeOf st key = some j) (p : Span) : addCell st (key, p) = st.modify j fun e => (e.1, e.2 ++ [p]) := by
  unfold addCell
  simp only [h]
theorem addCell_new {st : List Entry} {key : List Nat} (h : placeOf st key = none) (p : Span) : addCell st (key, p) = (st ++ [(key, [])]).modify st.length fun e => (e.1, e.2 ++ [p]) := by
  unfold addCell
  simp only [h]
  have key : ∀ (l : List Entry) (a : Entry) (f : Entry → Entry), (l ++ [a]).modify l.length f = l ++ [f a] := by
    intro l
    induction l with
    | nil => intro a f; rfl
    | cons x l ih => intro a f; simp only [List.cons_append, List.length_cons, List.modify_succ_cons, ih]
  rw [key]
  rfl
theorem mem_cells {m : Nat} {E : List (Int × Int)} {n : Nat} {c : Cell} (h : c ∈ cellsTo m E n) : ∃ i, i < n ∧ cellAt m E i = some c := by
  unfold cellsTo at h
  obtain ⟨i, hi, h1⟩ := List.mem_filterMap.1 h
  exact ⟨i, List.mem_range.1 hi, h1⟩
theorem sorted_get {E : List (Int × Int)} (h : SortedLo E) {i j : Nat} (hij : i ≤ j) (hj : j < E.length) : E[i].1 ≤ E[j].1 := by
  rcases Nat.lt_or_ge i j with h1 | h1
  · exact List.pairwise_iff_getElem.1 h i j (by omega) hj h1
  · obtain rfl : i = j := by omega
    exact Int.le_refl _
theorem mem_take_get {E : List (Int × Int)} {n : Nat} {e : Int × Int} (h : e ∈ E.take n) : ∃ (j : Nat) (hj : j < E.length), j < n ∧ e = E[j] := by
  obtain ⟨j, hj, rfl⟩ := List.getElem_of_mem h
  rw [List.length_take] at hj
  exact ⟨j, by omega, by omega, by rw [List.getElem_take]⟩
theorem mem_drop_get {E : List (Int × Int)} {n : Nat} {e : Int × Int} (h : e ∈ E.drop n) : ∃ (j : Nat) (hj : j < E.length), n ≤ j ∧ e = E[j] := by
  obtain ⟨j, hj, rfl⟩ := List.getElem_of_mem h
  rw [List.length_drop] at hj
  exact ⟨n + j, by omega, by omega, by rw [List.getElem_drop]⟩
variable {p0 : List Span} {ps : List (List Span)} {E : List (Int × Int)}
theorem Edges.bounds (h : Edges p0 ps E) : ∀ e ∈ E, -1073741825 ≤ e.1 ∧ e.1 ≤ 1073741825 := by
  intro e he
  have he := h.perm.mem_iff.1 he
  have key : ∀ (s : Int) (p : List Span), Plain p → e ∈ layE s p → -1073741825 ≤ e.1 ∧ e.1 ≤ 1073741825 := by
    intro s p hp he
    obtain ⟨r, hr, h1⟩ := List.mem_flatMap.1 he
    have := hp.2 r hr
    unfold Ok at this
    simp at h1
    rcases h1 with rfl | rfl <;> simp only <;> omega
  have keyF : ∀ (ps : List (List Span)) (i : Int), (∀ p ∈ ps, Plain p) → e ∈ layF i ps → -1073741825 ≤ e.1 ∧ e.1 ≤ 1073741825 := by
    intro ps
    induction ps with
    | nil => intro i _ he; simp [layF] at he
    | cons p ps ih =>
      intro i hp he
      simp only [layF, List.mem_append] at he
      rcases he with he | he
      · exact key i p (hp p (List.mem_cons_self ..)) he
      · exact ih (i + 1) (fun q hq => hp q (List.mem_cons_of_mem _ hq)) he
  rcases List.mem_append.1 he with he | he
  · exact key 0 p0 h.plain0 he
  · exact keyF ps 1 h.plain he
/-- The marks in a cell. -/
theorem Edges.cell (h : Edges p0 ps E) {i : Nat} {c : Cell} (hc : cellAt (ps.length / 8 + 1) E i = some c) {x : Int} (h1 : c.2.1 ≤ x) (h2 : x ≤ c.2.2) (t : Nat) : bitOf c.1 t = decide (mem (famAt p0 ps t) x) := by
  obtain ⟨hi, hb, hne, rfl⟩ := cellAt_some hc
  refine h.marks (i + 1) x (fun e he => ?_) (fun e he => ?_) t
  · obtain ⟨j, hj, hji, rfl⟩ := mem_take_get he
    have := sorted_get h.sorted (show j ≤ i by omega) (by omega)
    simp only at h1
    omega
  · obtain ⟨j, hj, hji, rfl⟩ := mem_drop_get he
    have := sorted_get h.sorted (show i + 1 ≤ j by omega) (by omega)
    simp only at h2
    omega
theorem Edges.cell_ok (h : Edges p0 ps E) {i : Nat} {c : Cell} (hc : cellAt (ps.length / 8 + 1) E i = some c) : Ok c.2 ∧ mem p0 c.2.1 := by
  obtain ⟨hi, hb, hne, rfl⟩ := cellAt_some hc
  have hs := sorted_get h.sorted (show i ≤ i + 1 by omega) hi
  have h1 := h.cell hc (x := E[i].1) (Int.le_refl _) (by simp only; omega) 0
  have h2 := h.cell hc (x := E[i + 1].1 - 1) (by simp only; omega) (Int.le_refl _) 0
  simp only at h1 h2
  rw [hb] at h1 h2
  have m1 : mem p0 E[i].1 := of_decide_eq_true h1.symm
  have m2 : mem p0 (E[i + 1].1 - 1) := of_decide_eq_true h2.symm
  refine ⟨⟨by simp only; omega, m1.1.1, m2.1.2⟩, m1⟩
theorem cells_rise (h : SortedLo E) (m n : Nat) : (cellsTo m E n).Pairwise fun a b => a.2.2 < b.2.1 := by
  induction n with
  | zero => exact List.Pairwise.nil
  | succ n ih =>
    rw [cellsTo_succ]
    refine List.pairwise_append.2 ⟨ih, ?_, fun a ha b hb => ?_⟩
    · cases cellAt m E n with
      | none => exact List.Pairwise.nil
      | some c => exact List.pairwise_singleton _ _
    · obtain ⟨i, hi, h1⟩ := mem_cells ha
      have h2 : cellAt m E n = some b := by
        cases hq : cellAt m E n with
        | none => rw [hq] at hb; cases hb
        | some c => rw [hq] at hb; simp at hb; rw [hb]
      obtain ⟨hi1, _, _, rfl⟩ := cellAt_some h1
      obtain ⟨hn1, _, _, rfl⟩ := cellAt_some h2
      have := sorted_get h (show i + 1 ≤ n by omega) (by omega)
      simp only
      omega
/-- Two cells side by side don't have the same marks. -/
theorem Edges.gap (h : Edges p0 ps E) {i j : Nat} {c d : Cell} (hc : cellAt (ps.length / 8 + 1) E i = some c) (hd : cellAt (ps.length / 8 + 1) E j = some d) (hcd : c.2.2 + 1 = d.2.1) : c.1 ≠ d.1 := by
  intro he
  have hok := (h.cell_ok hc).1
  have hok2 := (h.cell_ok hd).1
  unfold Ok at hok hok2
  have hsame : ∀ t, mem (famAt p0 ps t) c.2.2 ↔ mem (famAt p0 ps t) (c.2.2 + 1) := fun t => by
    have h1 := h.cell hc (x := c.2.2) hok.1 (Int.le_refl _) t
    have h2 := h.cell hd (x := d.2.1) (Int.le_refl _) hok2.1 t
    rw [← he, h1, ← hcd] at h2
    simpa using h2
  obtain ⟨hj, _, _, e2⟩ := cellAt_some hd
  have hE : E[j] ∈ layE 0 p0 ++ layF 1 ps := h.perm.mem_iff.1 (List.getElem_mem (by omega))
  have hx : c.2.2 + 1 = E[j].1 := by rw [hcd, e2]
  have key : ∀ (s : Int) (q : List Span), Plain q → (mem q c.2.2 ↔ mem q (c.2.2 + 1)) → E[j] ∈ layE s q → False := by
    intro s q hq hm he
    obtain ⟨r, hr, h1⟩ := List.mem_flatMap.1 he
    obtain ⟨n, hn, rfl⟩ := List.getElem_of_mem hr
    have hrok := hq.2 _ hr
    unfold Ok at hrok
    simp at h1
    rcases h1 with h1 | h1
    · rw [h1] at hx
      simp only at hx
      have hin : mem q (c.2.2 + 1) := ⟨⟨by omega, by omega⟩, q[n], hr, by omega, by omega⟩
      obtain ⟨_, u, hu, h3, h4⟩ := hm.2 hin
      obtain ⟨k, hk, rfl⟩ := List.getElem_of_mem hu
      rcases Nat.lt_trichotomy k n with hkn | rfl | hkn
      · have := List.pairwise_iff_getElem.1 hq.1 k n hk hn hkn
        omega
      · omega
      · have := List.pairwise_iff_getElem.1 hq.1 n k hn hk hkn
        omega
    · rw [h1] at hx
      simp only at hx
      have hin : mem q c.2.2 := ⟨⟨by omega, by omega⟩, q[n], hr, by omega, by omega⟩
      obtain ⟨_, u, hu, h3, h4⟩ := hm.1 hin
      obtain ⟨k, hk, rfl⟩ := List.getElem_of_mem hu
      rcases Nat.lt_trichotomy k n with hkn | rfl | hkn
      · have := List.pairwise_iff_getElem.1 hq.1 k n hk hn hkn
        omega
      · omega
      · have := List.pairwise_iff_getElem.1 hq.1 n k hn hk hkn
        omega
  rcases List.mem_append.1 hE with hE | hE
  · exact key 0 p0 h.plain0 (hsame 0) hE
  · have : ∀ (ps' : List (List Span)) (i : Int), (∀ p ∈ ps', Plain p ∧ (mem p c.2.2 ↔ mem p (c.2.2 + 1))) → E[j] ∈ layF i ps' → False := by
      intro ps'
      induction ps' with
      | nil => intro i _ he; simp [layF] at he
      | cons p ps' ih =>
        intro i hh he
        simp only [layF, List.mem_append] at he
        rcases he with he | he
        · exact key i p (hh p (List.mem_cons_self ..)).1 (hh p (List.mem_cons_self ..)).2 he
        · exact ih (i + 1) (fun q hq => hh q (List.mem_cons_of_mem _ hq)) he
    refine this ps 1 (fun p hp => ⟨h.plain p hp, ?_⟩) hE
    obtain ⟨n, hn, rfl⟩ := List.getElem_of_mem hp
    have := hsame (n + 1)
    simpa [famAt, hn] using this
/-- Each number of the set is in a cell. -/
theorem Edges.covered (h : Edges p0 ps E) {x : Int} (hx : mem p0 x) : ∃ c ∈ cellsTo (ps.length / 8 + 1) E E.length, c.2.1 ≤ x ∧ x ≤ c.2.2 := by
  obtain ⟨_, r, hr, h1, h2⟩ := hx
  have hx : mem p0 x := ⟨by assumption, r, hr, h1, h2⟩
  have hlo : (r.1, (0 : Int)) ∈ E := h.perm.mem_iff.2 (List.mem_append.2 (.inl (List.mem_flatMap.2 ⟨r, hr, by simp⟩)))
  have hhi : (r.2 + 1, (0 : Int)) ∈ E := h.perm.mem_iff.2 (List.mem_append.2 (.inl (List.mem_flatMap.2 ⟨r, hr, by simp⟩)))
  obtain ⟨a, ha, ea⟩ := List.getElem_of_mem hlo
  obtain ⟨b, hb, eb⟩ := List.getElem_of_mem hhi
  -- the last edge that is not beyond x
  have hex : ∃ i, ∃ hi : i + 1 < E.length, E[i].1 ≤ x ∧ x < E[i + 1].1 := by
    have hab : a < b := by
      rcases Nat.lt_or_ge a b with q | q
      · exact q
      · have := sorted_get h.sorted q ha
        rw [ea, eb] at this
        simp only at this
        omega
    have go : ∀ (n : Nat) (a : Nat) (ha : a < E.length), b - a ≤ n → a < b → E[a].1 ≤ x → ∃ i, ∃ hi : i + 1 < E.length, E[i].1 ≤ x ∧ x < E[i + 1].1 := by
      intro n
      induction n with
      | zero => intro a _ h1 h2; omega
      | succ n ih =>
        intro a ha hn hab hle
        by_cases h3 : x < E[a + 1].1
        · exact ⟨a, by omega, hle, h3⟩
        · by_cases h4 : a + 1 < b
          · exact ih (a + 1) (by omega) (by omega) h4 (by omega)
          · have : a + 1 = b := by omega
            subst this
            rw [eb] at h3
            simp only at h3
            omega
    exact go (b - a) a ha (Nat.le_refl _) hab (by rw [ea]; exact h1)
  obtain ⟨i, hi, h3, h4⟩ := hex
  have hbit : bitOf (marksAt (ps.length / 8 + 1) (E.take (i + 1))) 0 = true := by
    rw [h.marks (i + 1) x (fun e he => ?_) (fun e he => ?_) 0]
    · exact decide_eq_true hx
    · obtain ⟨j, hj, hji, rfl⟩ := mem_take_get he
      have := sorted_get h.sorted (show j ≤ i by omega) (by omega)
      omega
    · obtain ⟨j, hj, hji, rfl⟩ := mem_drop_get he
      have := sorted_get h.sorted (show i + 1 ≤ j by omega) (by omega)
      omega
  have hc : cellAt (ps.length / 8 + 1) E i = some (marksAt (ps.length / 8 + 1) (E.take (i + 1)), (E[i].1, E[i + 1].1 - 1)) := by
    unfold cellAt
    rw [List.getElem?_eq_getElem (show i < E.length by omega), List.getElem?_eq_getElem hi]
    simp only [hbit, Bool.true_and]
    rw [if_pos]
    simp only [bne_iff_ne]
    omega
  exact ⟨_, List.mem_filterMap.2 ⟨i, List.mem_range.2 (by omega), hc⟩, h3, by simp only; omega⟩
/-- The blocks that are found. -/
def blocksOf (m : Nat) (E : List (Int × Int)) : List (List Span) := (group (cellsTo m E E.length)).map (·.2)
theorem Edges.blocks (h : Edges p0 ps E) : IsBlocks p0 ps (blocksOf (ps.length / 8 + 1) E) := by
  have hC : (cellsTo (ps.length / 8 + 1) E E.length).Pairwise fun a b => a.2.1 < b.2.1 := by
    refine List.Pairwise.imp_of_mem ?_ (cells_rise h.sorted (ps.length / 8 + 1) E.length)
    intro a b ha hb hab
    obtain ⟨i, _, hi⟩ := mem_cells ha
    have := (h.cell_ok hi).1.1
    omega
  have g := grouped _ hC
  -- the cell of a number in a block
  have hcell : ∀ e ∈ group (cellsTo (ps.length / 8 + 1) E E.length), ∀ x, mem e.2 x → ∃ c ∈ cellsTo (ps.length / 8 + 1) E E.length, c.1 = e.1 ∧ c.2.1 ≤ x ∧ x ≤ c.2.2 := by
    intro e he x hx
    obtain ⟨_, p, hp, h1, h2⟩ := hx
    rw [(g.part e he).1] at hp
    obtain ⟨c, hc, rfl⟩ := List.mem_map.1 hp
    obtain ⟨hc1, hc2⟩ := List.mem_filter.1 hc
    exact ⟨c, hc1, by simpa using hc2, h1, h2⟩
  have hplain : ∀ e ∈ group (cellsTo (ps.length / 8 + 1) E E.length), Plain e.2 := by
    intro e he
    rw [(g.part e he).1]
    refine ⟨?_, fun p hp => ?_⟩
    · rw [List.pairwise_map]
      have h1 : ((cellsTo (ps.length / 8 + 1) E E.length).filter fun c => c.1 == e.1).Pairwise fun a b => a.2.2 < b.2.1 := List.Pairwise.sublist List.filter_sublist (cells_rise h.sorted _ _)
      refine List.Pairwise.imp_of_mem ?_ h1
      intro a b ha hb hab
      obtain ⟨ha1, ha2⟩ := List.mem_filter.1 ha
      obtain ⟨hb1, hb2⟩ := List.mem_filter.1 hb
      obtain ⟨i, _, hi⟩ := mem_cells ha1
      obtain ⟨j, _, hj⟩ := mem_cells hb1
      rcases Int.lt_or_gt_of_ne (show a.2.2 + 1 ≠ b.2.1 from fun q => h.gap hi hj q ((by simpa using ha2 : a.1 = e.1).trans (by simpa using hb2 : b.1 = e.1).symm)) with q | q
      · exact q
      · omega
    · obtain ⟨c, hc, rfl⟩ := List.mem_map.1 hp
      obtain ⟨i, _, hi⟩ := mem_cells (List.mem_filter.1 hc).1
      exact (h.cell_ok hi).1
  refine ⟨fun l hl => ?_, fun x => ⟨fun hx => ?_, fun hx => ?_⟩, fun l hl r hr x y hx hy => ?_, ?_⟩
  · obtain ⟨e, he, rfl⟩ := List.mem_map.1 hl
    exact ⟨hplain e he, (g.part e he).2⟩
  · obtain ⟨c, hc, h1, h2⟩ := h.covered hx
    obtain ⟨e, he, h3⟩ := g.all c hc
    refine ⟨e.2, List.mem_map.2 ⟨e, he, rfl⟩, hx.1, c.2, ?_, h1, h2⟩
    rw [(g.part e he).1]
    exact List.mem_map.2 ⟨c, List.mem_filter.2 ⟨hc, by simpa using h3.symm⟩, rfl⟩
  · obtain ⟨l, hl, hm⟩ := hx
    obtain ⟨e, he, rfl⟩ := List.mem_map.1 hl
    obtain ⟨c, hc, _, h1, h2⟩ := hcell e he x hm
    obtain ⟨i, _, hi⟩ := mem_cells hc
    have := h.cell hi h1 h2 0
    obtain ⟨_, hb, _, e2⟩ := cellAt_some hi
    rw [e2] at this
    simp only at this
    rw [hb] at this
    exact of_decide_eq_true this.symm
  · obtain ⟨e, he, rfl⟩ := List.mem_map.1 hl
    obtain ⟨f, hf, rfl⟩ := List.mem_map.1 hr
    obtain ⟨c, hc, hce, h1, h2⟩ := hcell e he x hx
    obtain ⟨d, hd, hdf, h3, h4⟩ := hcell f hf y hy
    obtain ⟨i, _, hi⟩ := mem_cells hc
    obtain ⟨j, _, hj⟩ := mem_cells hd
    have hx0 : mem p0 x := by
      have := h.cell hi h1 h2 0
      obtain ⟨_, hb, _, e2⟩ := cellAt_some hi
      rw [e2] at this
      simp only at this
      rw [hb] at this
      exact of_decide_eq_true this.symm
    have hy0 : mem p0 y := by
      have := h.cell hj h3 h4 0
      obtain ⟨_, hb, _, e2⟩ := cellAt_some hj
      rw [e2] at this
      simp only at this
      rw [hb] at this
      exact of_decide_eq_true this.symm
    constructor
    · intro hef
      -- the same spans: so the same marks, as the keys of one entry
      have hmy : mem e.2 y := by rw [hef]; exact hy
      obtain ⟨d', hd', hde', h5, h6⟩ := hcell e he y hmy
      obtain ⟨j', _, hj'⟩ := mem_cells hd'
      intro s hs
      obtain ⟨n, hn, rfl⟩ := List.getElem_of_mem hs
      have a1 := h.cell hi h1 h2 (n + 1)
      have a2 := h.cell hj' h5 h6 (n + 1)
      rw [hce, ← hde', a2] at a1
      simp only [famAt, List.getElem?_cons_succ, List.getElem?_eq_getElem hn, Option.getD_some] at a1
      simpa using a1.symm
    · intro hall
      have hkey : c.1 = d.1 := by
        obtain ⟨hci, _, _, ec⟩ := cellAt_some hi
        obtain ⟨hdj, _, _, ed⟩ := cellAt_some hj
        obtain ⟨l1, s1, _⟩ := marksAt_bits _ _ (h.in_.take (i + 1))
        obtain ⟨l2, s2, _⟩ := marksAt_bits _ _ (h.in_.take (j + 1))
        refine marks_eq (by rw [ec, ed]; simp only; rw [l1, l2]) (by rw [ec]; exact s1) (by rw [ed]; exact s2) fun t _ => ?_
        rw [h.cell hi h1 h2 t, h.cell hj h3 h4 t]
        have : mem (famAt p0 ps t) x ↔ mem (famAt p0 ps t) y := by
          cases t with
          | zero => exact ⟨fun _ => hy0, fun _ => hx0⟩
          | succ n =>
            by_cases hn : n < ps.length
            · have := hall ps[n] (List.getElem_mem hn)
              simpa [famAt, hn] using this
            · have e0 : famAt p0 ps (n + 1) = [] := by simp [famAt, List.getElem?_eq_none (show ps.length ≤ n by omega)]
              rw [e0]
              exact ⟨fun q => absurd q (mem_nil _), fun q => absurd q (mem_nil _)⟩
        simp [this]
      have hk : e.1 = f.1 := hce.symm.trans (hkey.trans hdf)
      rw [(g.part e he).1, (g.part f hf).1, hk]
  · rw [blocksOf, List.pairwise_map]
    exact g.order
end Go.Proofs.Ytgmkchkaceciiaa.Mi
