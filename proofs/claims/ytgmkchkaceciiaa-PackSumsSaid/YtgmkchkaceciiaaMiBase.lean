/- Own rows of edges, of marks, of lists of spans, and the map from marks to places, in a world: what keeps them, what an append and a store make of them. -/
import Derived.Test.YtgmkchkaceciiaaSpPut
import Derived.Test.YtgmkchkaceciiaaMiGroup
import Derived.OwnWalk
import Derived.OneCell
import Derived.Laws.OwnMore
import Derived.Laws.IdiomStrings
import Derived.Deep.AppendLies
import Derived.Maps.OwnSet
import Derived.Maps.Views
import Derived.IntWalk
namespace Go.Proofs.Ytgmkchkaceciiaa.Mi
set_option maxRecDepth 100000
open Go Go.RowKit Go.Proofs.Ytgmkchkaceciiaa.Sp

/-- An own row of edges: two numbers each. -/
def OwnsE (w : World) (base : Nat) (v : Value) (xs : List (Int × Int)) : Prop := w.ownsRow base 78 2 v xs.length (flat xs)
theorem infoEdge : (Try.prog.info? 78).map (fun i => (i.zero, i.size, i.bytes)) = some (some (.agg #[.int .i64 0, .int .i64 0]), 2, 16) := by kernel_rfl
theorem ownE_below {w w' : World} {base : Nat} {v : Value} {l : List (Int × Int)} (h : OwnsE w base v l) (hb : Below w.heap.size w w') : OwnsE w' base v l := by
  have hlt := World.ownsRow.lt h
  obtain ⟨h1, h2⟩ := h
  refine ⟨h1, ?_⟩
  rcases h2 with h2 | ⟨g, cap, cur, hv, hg, hr, hrest⟩
  · exact .inl h2
  · subst hv
    exact .inr ⟨g, cap, cur, rfl, hg, (hb.block g (hlt g rfl).2).trans hr, hrest⟩
theorem own_shape {w : World} {base : Nat} {e : TypeId} {size : Nat} {v : Value} {n : Nat} {xs : List Value} (h : w.ownsRow base e size v n xs) : ∃ A c, v = .slice A n c := by
  obtain ⟨_, h2⟩ := h
  rcases h2 with ⟨hv, hn⟩ | ⟨g, cap, cur, hv, _⟩
  · exact ⟨none, 0, by rw [hv, hn]⟩
  · exact ⟨_, cap, hv⟩
/-- A slice of slices of spans reads as a list of lists, in a world. -/
def RGs (w : World) (A : Option Addr) (n : Nat) (fam : List (List Span)) : Prop :=
  fam.length = n ∧ (0 < n → ∃ b off, A = some ⟨b, off, none⟩ ∧ b < w.heap.size ∧ ∀ (j : Nat) (h : j < fam.length), ∃ Aj cj, w.cell? ⟨b, off + j, none⟩ = some (.slice Aj fam[j].length cj) ∧ RS w w.heap.size Aj fam[j].length fam[j] ∧ fam[j].length ≤ cj ∧ (Aj = none → fam[j] = [] ∧ cj = 0))
theorem RGs.belowM {w w' : World} {A : Option Addr} {n : Nat} {fam : List (List Span)} (h : RGs w A n fam) (hb : Below w.heap.size w w') : RGs w' A n fam :=
  ⟨h.1, fun hn => by
    obtain ⟨b, off, e, hlt, hc⟩ := h.2 hn
    refine ⟨b, off, e, by have := hb.size; omega, fun j hj => ?_⟩
    obtain ⟨Aj, cj, h1, h2, h3, h4⟩ := hc j hj
    exact ⟨Aj, cj, (hb.cell hlt).trans h1, h2.belowM hb, h3, h4⟩⟩
theorem ownE_mono {w : World} {base base' : Nat} {v : Value} {xs : List (Int × Int)} (h : OwnsE w base v xs) (hb : base' ≤ base) : OwnsE w base' v xs := by
  obtain ⟨h1, h2⟩ := h
  refine ⟨h1, ?_⟩
  rcases h2 with h2 | ⟨g, cap, cur, hv, hg, hr⟩
  · exact .inl h2
  · exact .inr ⟨g, cap, cur, hv, by omega, hr⟩
def EdgesOut (all : List Span) (fam : List (List Span)) (w : World) (e : Ending) (w' : World) : Prop :=
  ∃ v E p0 ps, e = .returned v ∧ Is p0 (mem all) ∧ ps.length = fam.length ∧ (∀ (j : Nat) (h : j < ps.length) (h' : j < fam.length), Is ps[j] (mem fam[j])) ∧ Edges p0 ps E ∧ E.length ≤ 1000000000 ∧ OwnsE w' w.heap.size v E ∧ Below w.heap.size w w'

theorem ownE_kept {w w' : World} {base : Nat} {v : Value} {l : List (Int × Int)} {row : Option Nat} (h : OwnsE w base v l) (hg : w.grownBy w' row) (hne : v.ownBlock = none ∨ v.ownBlock ≠ row) : OwnsE w' base v l := World.ownsRow.kept h hg hne

/-- An own row of marks: a byte each. -/
def OwnsB (w : World) (base : Nat) (v : Value) (bs : List Nat) : Prop := w.ownsRow base 5 1 v bs.length (bs.map fun b : Nat => Value.int .u8 (b : Int))
theorem ownB_stored {w : World} {base g cap : Nat} {bs : List Nat} (h : OwnsB w base (.slice (some ⟨g, 0, none⟩) bs.length cap) bs) (j : Nat) (b : Nat) :
    OwnsB (w.setCell ⟨g, j, none⟩ (.int .u8 (b : Int))) base (.slice (some ⟨g, 0, none⟩) (bs.set j b).length cap) (bs.set j b) ∧ w.grownBy (w.setCell ⟨g, j, none⟩ (.int .u8 (b : Int))) (some g) := by
  obtain ⟨h1, h2⟩ := World.ownsRow.stored h j (.int .u8 (b : Int))
  refine ⟨?_, h2⟩
  unfold OwnsB
  rw [List.map_set, List.length_set]
  exact h1
theorem ownB_cell {w : World} {base g cap : Nat} {bs : List Nat} (h : OwnsB w base (.slice (some ⟨g, 0, none⟩) bs.length cap) bs) {j : Nat} (hj : j < bs.length) : w.cell? ⟨g, j, none⟩ = some (.int .u8 (bs.getD j 0 : Nat)) := by
  rw [World.ownsRow.cellAt h j (by omega), List.getElem?_map, List.getElem?_eq_getElem hj, List.getD_eq_getElem?_getD, List.getElem?_eq_getElem hj]
  rfl
theorem add_off (g j : Nat) : (⟨g, 0, none⟩ : Addr).add j = ⟨g, j, none⟩ := by
  by_cases h : j = 0
  · subst h; simp [Addr.add]
  · simp [Addr.add, h]
theorem ownB_conv {w : World} {base g cap : Nat} {bs : List Nat} (h : OwnsB w base (.slice (some ⟨g, 0, none⟩) bs.length cap) bs) (hs : ∀ b ∈ bs, b < 256) : (convert 46 9 (.slice (some ⟨g, 0, none⟩) bs.length cap)).run Try.prog w = .ok (.string ⟨(bs.map UInt8.ofNat).toArray⟩) w := by
  have := run_convert_bytes_back (P := Try.prog) w 46 9 5 ⟨g, 0, none⟩ cap (bs.map UInt8.ofNat) Try.underlying46 Try.underlying5 Try.underlying9 (fun j hj => by
    have hj' : j < bs.length := by simpa using hj
    have h1 := ownB_cell h hj'
    have h2 := hs _ (List.getElem_mem hj')
    rw [List.getD_eq_getElem?_getD, List.getElem?_eq_getElem hj'] at h1
    rw [add_off, h1]
    simp only [List.getElem_map]
    simp only [Option.getD_some, UInt8.toNat_ofNat']
    rw [Nat.mod_eq_of_lt (by omega)])
  simpa using this

theorem RGs.at_ {w : World} {A : Option Addr} {n : Nat} {fam : List (List Span)} (h : RGs w A n fam) {k : Nat} (hk : k < fam.length) : ∃ b off Aj cj, A = some ⟨b, off, none⟩ ∧ b < w.heap.size ∧ w.cell? ⟨b, off + k, none⟩ = some (.slice Aj fam[k].length cj) ∧ RS w w.heap.size Aj fam[k].length fam[k] ∧ fam[k].length ≤ cj ∧ (Aj = none → fam[k] = [] ∧ cj = 0) := by
  obtain ⟨b, off, e, hb, hc⟩ := h.2 (by have := h.1; omega)
  obtain ⟨Aj, cj, h1⟩ := hc k hk
  exact ⟨b, off, Aj, cj, e, hb, h1⟩
theorem RGs.nil_ (w : World) (A : Option Addr) : RGs w A 0 [] := ⟨rfl, fun h => absurd h (by omega)⟩
/-- The key that marks are in a map of strings. -/
def keyL (bs : List Nat) : Lit := .string (bs.map UInt8.ofNat)
def Small (bs : List Nat) : Prop := ∀ b ∈ bs, b < 256
theorem keyL_inj : ∀ {a b : List Nat}, Small a → Small b → keyL a = keyL b → a = b := by
  intro a b ha hb h
  unfold keyL at h
  injection h with h
  have key : ∀ (a b : List Nat), Small a → Small b → a.map UInt8.ofNat = b.map UInt8.ofNat → a = b := by
    intro a
    induction a with
    | nil => intro b _ _ h; cases b <;> simp_all
    | cons x a ih =>
      intro b ha hb h
      cases b with
      | nil => simp at h
      | cons y b =>
        simp only [List.map_cons, List.cons.injEq] at h
        obtain ⟨h1, h2⟩ := h
        have hx := ha x (List.mem_cons_self ..)
        have hy := hb y (List.mem_cons_self ..)
        have : x = y := by
          have := congrArg UInt8.toNat h1
          simp only [UInt8.toNat_ofNat'] at this
          rw [Nat.mod_eq_of_lt (by omega), Nat.mod_eq_of_lt (by omega)] at this
          exact this
        subst this
        rw [ih b (fun z hz => ha z (List.mem_cons_of_mem _ hz)) (fun z hz => hb z (List.mem_cons_of_mem _ hz)) h2]
  exact key a b ha hb h
theorem isKey (bs : List Nat) : WideAt.IsKeyLit (keyL bs) := by unfold keyL; trivial
structure Tells (D : DataW Unit) (st : List Entry) : Prop where
  isMap : Maps.IsMap D
  has : ∀ bs, Small bs → Maps.has D (keyL bs) = (placeOf st bs).isSome
  at_ : ∀ bs k, Small bs → placeOf st bs = some k → D.atKey (keyL bs) (.lit (.int .i64 0)) = .lit (.int .i64 (k : Int))
  small : ∀ e ∈ st, Small e.1
theorem placeOf_snoc (st : List Entry) (bs key : List Nat) (ss : List Span) : placeOf (st ++ [(bs, ss)]) key = match placeOf st key with | some k => some k | none => if bs = key then some st.length else none := by
  unfold placeOf
  rw [List.findIdx?_append]
  cases st.findIdx? (fun e => e.1 == key) with
  | some k => rfl
  | none =>
    by_cases h : bs = key
    · subst h; simp
    · simp [h]
theorem placeOf_keys {st st' : List Entry} (h : st.map (·.1) = st'.map (·.1)) (key : List Nat) : placeOf st key = placeOf st' key := by
  have : ∀ s : List Entry, placeOf s key = (s.map (·.1)).findIdx? fun x => x == key := fun s => by
    unfold placeOf
    rw [List.findIdx?_map]
    rfl
  rw [this, this, h]
theorem modify_keys (st : List Entry) (k : Nat) (p : Span) : (st.modify k fun e => (e.1, e.2 ++ [p])).map (·.1) = st.map (·.1) := by
  refine List.ext_getElem (by simp) fun i h1 h2 => ?_
  simp only [List.getElem_map, List.getElem_modify]
  split <;> rfl
theorem modify_lists (st : List Entry) (k : Nat) (p : Span) : (st.modify k fun e => (e.1, e.2 ++ [p])).map (·.2) = (st.map (·.2)).modify k fun l => l ++ [p] := by
  refine List.ext_getElem (by simp) fun i h1 h2 => ?_
  simp only [List.getElem_map, List.getElem_modify]
  split <;> rfl
theorem tells_nil : Tells (.map []) [] := ⟨Maps.isMap_empty, fun bs _ => by simp [Maps.has, placeOf], fun bs k _ h => by simp [placeOf] at h, fun e he => by cases he⟩
theorem Tells.put {D : DataW Unit} {st : List Entry} {bs : List Nat} (h : Tells D st) (hb : Small bs) (hn : placeOf st bs = none) (ss : List Span) : Tells (D.put (keyL bs) (.lit (.int .i64 (st.length : Int)))) (st ++ [(bs, ss)]) := by
  refine ⟨h.isMap.put _ _, fun b2 h2 => ?_, fun b2 k h2 hk => ?_, fun e he => ?_⟩
  · rw [placeOf_snoc]
    by_cases e : b2 = bs
    · subst e
      rw [Maps.has_put_same h.isMap (isKey _), hn]
      simp
    · rw [Maps.has_put_other (fun q => e (keyL_inj h2 hb q)), h.has b2 h2]
      cases placeOf st b2 with
      | some k => rfl
      | none =>
        have : ¬ bs = b2 := fun q => e q.symm
        simp [this]
  · rw [placeOf_snoc] at hk
    by_cases e : b2 = bs
    · subst e
      rw [hn] at hk
      simp at hk
      rw [Maps.atKey_put_same h.isMap (isKey _), hk]
    · rw [Maps.atKey_put_other (fun q => e (keyL_inj h2 hb q))]
      cases hp : placeOf st b2 with
      | some j => rw [hp] at hk; simp at hk; rw [h.at_ b2 j h2 hp, hk]
      | none =>
        have : ¬ bs = b2 := fun q => e q.symm
        rw [hp] at hk
        simp [this] at hk
  · rcases List.mem_append.1 he with he | he
    · exact h.small e he
    · obtain rfl := List.mem_singleton.1 he
      exact hb
theorem Tells.keys {D : DataW Unit} {st st' : List Entry} (h : Tells D st) (he : st.map (·.1) = st'.map (·.1)) : Tells D st' :=
  ⟨h.isMap, fun bs hb => by rw [h.has bs hb, placeOf_keys he], fun bs k hb hk => h.at_ bs k hb (by rw [placeOf_keys he]; exact hk), fun e hm => by
    obtain ⟨f, hf, h1⟩ := List.mem_map.1 (show e.1 ∈ st.map (·.1) by rw [he]; exact List.mem_map.2 ⟨e, hm, rfl⟩)
    rw [← h1]
    exact h.small f hf⟩

/-- An own row of own rows of spans, no two of them in one block. -/
def OwnsG (w : World) (base : Nat) (v : Value) (L : List (List Span)) : Prop :=
  ∃ vs : List Value, vs.length = L.length ∧ w.ownsRow base 22 1 v L.length vs ∧ (∀ (j : Nat) (h : j < L.length) (h' : j < vs.length), OwnsL w base vs[j] L[j]) ∧
    (∀ (i j : Nat) (hi : i < vs.length) (hj : j < vs.length) (k : Nat), vs[i].ownBlock = some k → vs[j].ownBlock = some k → i = j) ∧
    (∀ (i : Nat) (hi : i < vs.length) (k : Nat), vs[i].ownBlock = some k → v.ownBlock ≠ some k)
theorem ownG_nil (w : World) (base : Nat) : OwnsG w base (.slice none 0 0) [] := ⟨[], rfl, World.ownsRow_nil _ _ _ _, fun j h => by simp at h, fun i j hi => by simp at hi, fun i hi => by simp at hi⟩
theorem OwnsG.kept {w w' : World} {base : Nat} {v : Value} {L : List (List Span)} {row : Option Nat} (h : OwnsG w base v L) (hg : w.grownBy w' row) (hr : ∀ k, row = some k → k < base) : OwnsG w' base v L := by
  obtain ⟨vs, h1, h2, h3, h4, h5⟩ := h
  have hne : ∀ {e : TypeId} {size : Nat} {u : Value} {n : Nat} {xs : List Value}, w.ownsRow base e size u n xs → u.ownBlock = none ∨ u.ownBlock ≠ row := fun {_ _ u _ _} ho => by
    cases hu : u.ownBlock with
    | none => exact .inl rfl
    | some k => exact .inr fun q => by have := hr k q.symm; have := (World.ownsRow.lt ho k hu).1; omega
  exact ⟨vs, h1, World.ownsRow.kept h2 hg (hne h2), fun j hj hj' => World.ownsRow.kept (h3 j hj hj') hg (hne (h3 j hj hj')), h4, h5⟩
theorem OwnsG.mono {w : World} {base base' : Nat} {v : Value} {L : List (List Span)} (h : OwnsG w base v L) (hb : base' ≤ base) : OwnsG w base' v L := by
  obtain ⟨vs, h1, h2, h3, h4, h5⟩ := h
  have key : ∀ {e : TypeId} {size : Nat} {u : Value} {n : Nat} {xs : List Value}, w.ownsRow base e size u n xs → w.ownsRow base' e size u n xs := fun {_ _ _ _ _} ho => by
    obtain ⟨o1, o2⟩ := ho
    refine ⟨o1, ?_⟩
    rcases o2 with o2 | ⟨g, cap, cur, hv, hg, hr⟩
    · exact .inl o2
    · exact .inr ⟨g, cap, cur, hv, by omega, hr⟩
  exact ⟨vs, h1, key h2, fun j hj hj' => key (h3 j hj hj'), h4, h5⟩
theorem OwnsG.setCell_below {w : World} {base : Nat} {v : Value} {L : List (List Span)} (h : OwnsG w base v L) {a : Addr} (ha : a.block < base) (u : Value) : OwnsG (w.setCell a u) base v L := by
  obtain ⟨vs, h1, h2, h3, h4, h5⟩ := h
  exact ⟨vs, h1, ownsRow_setCell_below h2 ha u, fun j hj hj' => ownsRow_setCell_below (h3 j hj hj') ha u, h4, h5⟩
theorem OwnsG.reads {w : World} {base : Nat} {v : Value} {L : List (List Span)} (h : OwnsG w base v L) : ∃ A c, v = .slice A L.length c ∧ RGs w A L.length L ∧ L.length ≤ c := by
  obtain ⟨vs, h1, h2, h3, h4, h5⟩ := h
  rcases Nat.eq_zero_or_pos L.length with h0 | h0
  · have : L = [] := List.length_eq_zero_iff.1 h0
    subst this
    rcases h2.2 with ⟨e, _⟩ | ⟨g, cap, cur, e, _, _, hc, _⟩
    · exact ⟨none, 0, e, RGs.nil_ _ _, Nat.le_refl _⟩
    · exact ⟨_, cap, e, RGs.nil_ _ _, Nat.zero_le _⟩
  · obtain ⟨g, cap, e, hb, hlt⟩ := World.ownsRow.form h2 h0
    subst e
    have hcap : L.length ≤ cap := by
      rcases h2.2 with ⟨e, _⟩ | ⟨g', cap', cur, e, _, _, hc, _⟩
      · cases e
      · injection e with _ _ e
        omega
    refine ⟨_, cap, rfl, ⟨rfl, fun _ => ⟨g, 0, rfl, hlt, fun j hj => ?_⟩⟩, hcap⟩
    have hjv : j < vs.length := by omega
    have hc := World.ownsRow.cellAt h2 j (by omega)
    rw [List.getElem?_eq_getElem hjv] at hc
    have ho := h3 j hj hjv
    have hr : ∀ A c, vs[j] = .slice A L[j].length c → RS w w.heap.size A L[j].length L[j] := fun A c e => by
      unfold OwnsL at ho
      rw [e] at ho
      exact RS.of_own ho
    rcases ho.2 with ⟨e, e2⟩ | ⟨g', cap', cur, e, _, _, hc2, _⟩
    · have e3 : L[j] = [] := List.length_eq_zero_iff.1 e2
      refine ⟨none, 0, ?_, ?_, by omega, fun _ => ⟨e3, rfl⟩⟩
      · rw [Nat.zero_add, hc, e, e2]
      · exact hr none 0 (by rw [e, e2])
    · exact ⟨_, cap', by rw [Nat.zero_add, hc, e], hr _ _ e, hc2, fun q => by cases q⟩
/-- One more, empty one. -/
theorem OwnsG.more {w w' : World} {base : Nat} {v v' : Value} {L : List (List Span)} (vs : List Value) (h1 : vs.length = L.length) (h3 : ∀ (j : Nat) (h : j < L.length) (h' : j < vs.length), OwnsL w base vs[j] L[j])
    (h4 : ∀ (i j : Nat) (hi : i < vs.length) (hj : j < vs.length) (k : Nat), vs[i].ownBlock = some k → vs[j].ownBlock = some k → i = j)
    (h5 : ∀ (i : Nat) (hi : i < vs.length) (k : Nat), vs[i].ownBlock = some k → v.ownBlock ≠ some k) (hg : w.grownBy w' v.ownBlock)
    (ho : w'.ownsRow base 22 1 v' (L.length + 1) (vs ++ [.slice none 0 0])) (hat : v'.ownBlock = v.ownBlock ∨ ∃ g, v'.ownBlock = some g ∧ w.heap.size ≤ g) : OwnsG w' base v' (L ++ [[]]) := by
  refine ⟨vs ++ [.slice none 0 0], by simp [h1], by simpa using ho, fun j hj hj' => ?_, fun i j hi hj k hki hkj => ?_, fun i hi k hk => ?_⟩
  · by_cases h : j < L.length
    · rw [List.getElem_append_left (by omega), List.getElem_append_left h]
      have hold := h3 j h (by omega)
      refine World.ownsRow.kept hold hg ?_
      cases hu : (vs[j]'(by omega)).ownBlock with
      | none => exact .inl rfl
      | some k => exact .inr fun q => h5 j (by omega) k hu q.symm
    · have e : j = L.length := by simp at hj; omega
      subst e
      rw [List.getElem_append_right (by omega), List.getElem_append_right (by omega)]
      simp only [List.getElem_singleton]
      exact World.ownsRow_nil _ _ _ _
  · simp only [List.length_append, List.length_singleton] at hi hj
    by_cases h : i < vs.length
    · by_cases h' : j < vs.length
      · rw [List.getElem_append_left h] at hki
        rw [List.getElem_append_left h'] at hkj
        exact h4 i j h h' k hki hkj
      · rw [List.getElem_append_right (by omega)] at hkj
        simp [Value.ownBlock] at hkj
    · rw [List.getElem_append_right (by omega)] at hki
      simp [Value.ownBlock] at hki
  · simp only [List.length_append, List.length_singleton] at hi
    by_cases h : i < vs.length
    · rw [List.getElem_append_left h] at hk
      rcases hat with e | ⟨g, e, hge⟩
      · rw [e]; exact h5 i h k hk
      · have := (World.ownsRow.lt (h3 i (by omega) h) k hk).2
        rw [e]
        intro q
        injection q with q
        omega
    · rw [List.getElem_append_right (by omega)] at hk
      simp [Value.ownBlock] at hk
/-- One of them is longer by a span, and the outer row holds its new value. -/
theorem OwnsG.longer {w w1 : World} {base g cap : Nat} {L : List (List Span)} (vs : List Value) (h1 : vs.length = L.length) (h2 : w.ownsRow base 22 1 (.slice (some ⟨g, 0, none⟩) L.length cap) L.length vs) (h3 : ∀ (j : Nat) (h : j < L.length) (h' : j < vs.length), OwnsL w base vs[j] L[j])
    (h4 : ∀ (i j : Nat) (hi : i < vs.length) (hj : j < vs.length) (k : Nat), vs[i].ownBlock = some k → vs[j].ownBlock = some k → i = j)
    (h5 : ∀ (i : Nat) (hi : i < vs.length) (k : Nat), vs[i].ownBlock = some k → (Value.slice (some ⟨g, 0, none⟩) L.length cap).ownBlock ≠ some k)
    {k : Nat} (hk : k < L.length) (hk' : k < vs.length) (p : Span) {v' : Value} (ho : OwnsL w1 base v' (L[k] ++ [p])) (hg : w.grownBy w1 vs[k].ownBlock) (hat : vs[k].ownBlock = v'.ownBlock ∨ ∃ b, v'.ownBlock = some b ∧ w.heap.size ≤ b) :
    OwnsG (w1.setCell ⟨g, k, none⟩ v') base (.slice (some ⟨g, 0, none⟩) L.length cap) (L.modify k fun l => l ++ [p]) := by
  have hgs : g < w.heap.size := (World.ownsRow.lt h2 g rfl).2
  have hkept : ∀ (j : Nat) (hj : j < vs.length), j ≠ k → ∀ (hj' : j < L.length), OwnsL w1 base vs[j] L[j] := fun j hj hjk hj' => by
    refine World.ownsRow.kept (h3 j hj' hj) hg ?_
    cases hu : vs[j].ownBlock with
    | none => exact .inl rfl
    | some b => exact .inr fun q => hjk (h4 j k hj hk' b hu q.symm)
  have hout : w1.ownsRow base 22 1 (.slice (some ⟨g, 0, none⟩) L.length cap) L.length vs := by
    refine World.ownsRow.kept h2 hg ?_
    cases hu : vs[k].ownBlock with
    | none => exact .inr (by simp [Value.ownBlock])
    | some b => exact .inr (h5 k hk' b hu)
  have hv'g : v'.ownBlock ≠ some g := by
    rcases hat with e | ⟨b, e, hb⟩
    · rw [← e]
      exact fun q => h5 k hk' g q rfl
    · rw [e]
      intro q
      injection q with q
      omega
  have hst := (World.ownsRow.stored hout k v').1
  refine ⟨vs.set k v', by simp [h1], by simpa using hst, fun j hj hj' => ?_, fun i j hi hj b hbi hbj => ?_, fun i hi b hb => ?_⟩
  · have hjL : j < L.length := by simpa using hj
    have hjv : j < vs.length := by simpa using hj'
    by_cases h : j = k
    · subst h
      have e1 : (vs.set j v')[j]'hj' = v' := by simp
      have e2 : (L.modify j fun l => l ++ [p])[j]'hj = L[j] ++ [p] := by simp
      rw [e1, e2]
      exact ownsRow_setCell_other ho hv'g _
    · have e1 : (vs.set k v')[j]'hj' = vs[j] := List.getElem_set_ne (fun q => h q.symm) _
      have e2 : (L.modify k fun l => l ++ [p])[j]'hj = L[j] := List.getElem_modify_ne _ _ (fun q => h q.symm) _
      rw [e1, e2]
      refine ownsRow_setCell_other (hkept j hjv h hjL) ?_ _
      exact fun q => h5 j hjv g q rfl
  · have hiv : i < vs.length := by simpa using hi
    have hjv : j < vs.length := by simpa using hj
    rw [List.getElem_set] at hbi hbj
    by_cases hik : k = i
    · by_cases hjk : k = j
      · omega
      · rw [if_pos hik] at hbi
        rw [if_neg hjk] at hbj
        rcases hat with e | ⟨g2, e, hb2⟩
        · rw [← e] at hbi
          subst hik
          exact h4 _ _ hk' hjv b hbi hbj
        · rw [e] at hbi
          injection hbi with hbi
          have := (World.ownsRow.lt (h3 j (by omega) hjv) b hbj).2
          omega
    · by_cases hjk : k = j
      · rw [if_neg hik] at hbi
        rw [if_pos hjk] at hbj
        rcases hat with e | ⟨g2, e, hb2⟩
        · rw [← e] at hbj
          subst hjk
          exact h4 _ _ hiv hk' b hbi hbj
        · rw [e] at hbj
          injection hbj with hbj
          have := (World.ownsRow.lt (h3 i (by omega) hiv) b hbi).2
          omega
      · rw [if_neg hik] at hbi
        rw [if_neg hjk] at hbj
        exact h4 i j hiv hjv b hbi hbj
  · have hiv : i < vs.length := by simpa using hi
    rw [List.getElem_set] at hb
    by_cases hik : k = i
    · rw [if_pos hik] at hb
      rw [← hb]
      exact fun q => hv'g (q.symm.trans (by rfl))
    · rw [if_neg hik] at hb
      exact h5 i hiv b hb
end Go.Proofs.Ytgmkchkaceciiaa.Mi
