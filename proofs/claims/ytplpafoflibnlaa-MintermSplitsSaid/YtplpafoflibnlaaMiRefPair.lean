/- The reference's signs and blocks together: two own rows apart, the blocks lying elsewhere. -/
import Derived.Test.YtplpafoflibnlaaMiRefRows
namespace Go.Proofs.Ytplpafoflibnlaa.Mi
set_option maxRecDepth 100000
open Go Go.RowKit Go.Proofs.Ytplpafoflibnlaa.Sp

/-- The blocks, apart from the block S. -/
def OwnsA (w : World) (base : Nat) (v : Value) (L : List (List Span)) (S : Value) : Prop :=
  (∀ b, S.ownBlock = some b → v.ownBlock ≠ some b) ∧ ∃ vs : List Value, w.ownsRow base 25 1 v L.length vs ∧ ∀ (j : Nat) (h : j < L.length), ∃ A c, vs[j]? = some (.slice A L[j].length c) ∧ RS w w.heap.size A L[j].length L[j] ∧ L[j].length ≤ c ∧ (A = none → L[j] = [] ∧ c = 0) ∧ (L[j] ≠ [] → ∀ b off, A = some ⟨b, off, none⟩ → v.ownBlock ≠ some b ∧ S.ownBlock ≠ some b ∧ b < w.heap.size)
theorem OwnsA.own {w : World} {base : Nat} {v S : Value} {L : List (List Span)} (h : OwnsA w base v L S) : OwnsR w base v L := by
  obtain ⟨_, vs, h1, h2⟩ := h
  refine ⟨vs, h1, fun j hj => ?_⟩
  obtain ⟨A, c, q1, q2, q3, q4, q5⟩ := h2 j hj
  exact ⟨A, c, q1, q2, q3, q4, fun ne b off e => ⟨(q5 ne b off e).1, (q5 ne b off e).2.2⟩⟩
theorem ownA_nil (w : World) (base : Nat) (S : Value) : OwnsA w base (.slice none 0 0) [] S := ⟨fun b _ => by simp [Value.ownBlock], [], World.ownsRow_nil _ _ _ _, fun j h => by simp at h⟩
theorem OwnsA.below {w w' : World} {base : Nat} {v S : Value} {L : List (List Span)} (h : OwnsA w base v L S) (hb : Below w.heap.size w w') : OwnsA w' base v L S := by
  obtain ⟨h0, vs, h1, h2⟩ := h
  have hlt := World.ownsRow.lt h1
  refine ⟨h0, vs, ⟨h1.1, ?_⟩, fun j hj => ?_⟩
  · rcases h1.2 with q | ⟨g, cap, cur, hv, hg, hr, hrest⟩
    · exact .inl q
    · subst hv
      exact .inr ⟨g, cap, cur, rfl, hg, (hb.block g (hlt g rfl).2).trans hr, hrest⟩
  · obtain ⟨A, c, q1, q2, q3, q4, q5⟩ := h2 j hj
    exact ⟨A, c, q1, q2.belowM hb, q3, q4, fun ne b off e => ⟨(q5 ne b off e).1, (q5 ne b off e).2.1, Nat.lt_of_lt_of_le (q5 ne b off e).2.2 hb.size⟩⟩
/-- The row S has grown: into itself, or into a block that is new. -/
theorem OwnsA.aside {w w' : World} {base : Nat} {v S S' : Value} {L : List (List Span)} (h : OwnsA w base v L S) (hg : w.grownBy w' S.ownBlock) (hat : S'.ownBlock = S.ownBlock ∨ ∃ g, S'.ownBlock = some g ∧ w.heap.size ≤ g) : OwnsA w' base v L S' := by
  obtain ⟨h0, vs, h1, h2⟩ := h
  have hlt := World.ownsRow.lt h1
  have hnew : ∀ b, S.ownBlock ≠ some b → b < w.heap.size → S'.ownBlock ≠ some b := fun b q1 q2 => by
    rcases hat with e | ⟨g, e, hge⟩
    · rw [e]; exact q1
    · rw [e]; intro q; injection q with q; omega
  refine ⟨fun b hb hv => ?_, vs, World.ownsRow.kept h1 hg ?_, fun j hj => ?_⟩
  · exact hnew b (fun q => h0 b q hv) (hlt b hv).2 hb
  · cases hv : v.ownBlock with
    | none => exact .inl rfl
    | some b => exact .inr fun q => h0 b q.symm hv
  · obtain ⟨A, c, q1, q2, q3, q4, q5⟩ := h2 j hj
    exact ⟨A, c, q1, rs_grown0 q2 hg (fun ne b off e q => (q5 ne b off e).2.1 q.symm), q3, q4, fun ne b off e => ⟨(q5 ne b off e).1, hnew b (q5 ne b off e).2.1 (q5 ne b off e).2.2, by have := (q5 ne b off e).2.2; have := hg.size; omega⟩⟩
/-- One more, empty one. -/
theorem OwnsA.more {w w' : World} {base : Nat} {v v' S : Value} {L : List (List Span)} (vs : List Value) (h0 : ∀ b, S.ownBlock = some b → v.ownBlock ≠ some b ∧ b < w.heap.size)
    (h2 : ∀ (j : Nat) (h : j < L.length), ∃ A c, vs[j]? = some (.slice A L[j].length c) ∧ RS w w.heap.size A L[j].length L[j] ∧ L[j].length ≤ c ∧ (A = none → L[j] = [] ∧ c = 0) ∧ (L[j] ≠ [] → ∀ b off, A = some ⟨b, off, none⟩ → v.ownBlock ≠ some b ∧ S.ownBlock ≠ some b ∧ b < w.heap.size)) (hvl : vs.length = L.length) (hg : w.grownBy w' v.ownBlock)
    (ho : w'.ownsRow base 25 1 v' (L.length + 1) (vs ++ [.slice none 0 0])) (hat : v'.ownBlock = v.ownBlock ∨ ∃ g, v'.ownBlock = some g ∧ w.heap.size ≤ g) : OwnsA w' base v' (L ++ [[]]) S := by
  have hnew : ∀ b, v.ownBlock ≠ some b → b < w.heap.size → v'.ownBlock ≠ some b := fun b q1 q2 => by
    rcases hat with e | ⟨g, e, hge⟩
    · rw [e]; exact q1
    · rw [e]; intro q; injection q with q; omega
  refine ⟨fun b hb => hnew b (h0 b hb).1 (h0 b hb).2, vs ++ [.slice none 0 0], by simpa using ho, fun j hj => ?_⟩
  by_cases h : j < L.length
  · obtain ⟨Aj, cj, q1, q2, q3, q4, q5⟩ := h2 j h
    rw [List.getElem_append_left h]
    exact ⟨Aj, cj, by rw [List.getElem?_append_left (by omega)]; exact q1, rs_grown0 q2 hg (fun ne b off e q => (q5 ne b off e).1 q.symm), q3, q4, fun ne b off e => ⟨hnew b (q5 ne b off e).1 (q5 ne b off e).2.2, (q5 ne b off e).2.1, by have := (q5 ne b off e).2.2; have := hg.size; omega⟩⟩
  · have e : j = L.length := by simp at hj; omega
    subst e
    rw [List.getElem_append_right (by omega)]
    simp only [Nat.sub_self, List.getElem_singleton]
    exact ⟨none, 0, by rw [List.getElem?_append_right (by omega)]; simp [hvl], RS.nil_ _ _ _, Nat.le_refl _, by simp, by simp⟩
/-- A block laid anew at its place. -/
theorem OwnsA.put {w : World} {base g cap : Nat} {S : Value} {L : List (List Span)} {l : List Span} {A : Option Addr} {c k n : Nat} (hn : L.length = n) (h : OwnsA w base (.slice (some ⟨g, 0, none⟩) n cap) L S) (hk : k < n) (hr : RS w w.heap.size A l.length l) (hc : l.length ≤ c) (hA : A = none → l = [] ∧ c = 0) (hne : l ≠ [] → ∀ b off, A = some ⟨b, off, none⟩ → b ≠ g ∧ S.ownBlock ≠ some b ∧ b < w.heap.size) :
    OwnsA (w.setCell ⟨g, k, none⟩ (.slice A l.length c)) base (.slice (some ⟨g, 0, none⟩) n cap) (L.set k l) S := by
  subst hn
  obtain ⟨h0, vs, h1, h2⟩ := h
  have hvl : vs.length = L.length := by have := h1.1; omega
  refine ⟨h0, vs.set k (.slice A l.length c), by have := (World.ownsRow.stored h1 k (.slice A l.length c)).1; simpa using this, fun j hj => ?_⟩
  have hjL : j < L.length := by simpa using hj
  by_cases e : k = j
  · subst e
    have e1 : (L.set k l)[k]'hj = l := by simp
    rw [e1]
    exact ⟨A, c, by rw [List.getElem?_set_self (by omega)], rs_setCell hr (fun q b off e => (hne q b off e).1), hc, hA, fun q b off e => ⟨fun q2 => (hne q b off e).1 (by simpa [Value.ownBlock] using q2.symm), (hne q b off e).2.1, by simpa using (hne q b off e).2.2⟩⟩
  · have e1 : (L.set k l)[j]'hj = L[j] := List.getElem_set_ne e _
    rw [e1]
    obtain ⟨Aj, cj, q1, q2, q3, q4, q5⟩ := h2 j hjL
    exact ⟨Aj, cj, by rw [List.getElem?_set_ne e]; exact q1, rs_setCell q2 (fun q b off e => fun q6 => (q5 q b off e).1 (by simp [Value.ownBlock, q6])), q3, q4, fun q b off e => ⟨(q5 q b off e).1, (q5 q b off e).2.1, by simpa using (q5 q b off e).2.2⟩⟩
/-- A key more. -/
theorem OwnsK.more {w' : World} {base : Nat} {v' : Value} {keys : List (List UInt8)} {b : ByteArray} {n : Nat} {bs : List ByteArray} (hn : keys.length = n) (h1 : bs.map (fun b => b.data.toList) = keys) (ho : w'.ownsRow base 9 1 v' (n + 1) (bs.map Value.string ++ [.string b])) : OwnsK w' base v' (keys ++ [b.data.toList]) := by
  subst hn
  exact ⟨bs ++ [b], by simp [h1], by simpa using ho⟩
end Go.Proofs.Ytplpafoflibnlaa.Mi
