/- What the reference's Split builds: an own row of signs, and blocks that are laid anew. -/
import Derived.Test.YtplpafoflibnlaaMiRows
namespace Go.Proofs.Ytplpafoflibnlaa.Mi
set_option maxRecDepth 100000
open Go Go.RowKit Go.Proofs.Ytplpafoflibnlaa.Sp

/-- An own row of strings that read as these bytes. -/
def OwnsK (w : World) (base : Nat) (v : Value) (keys : List (List UInt8)) : Prop := ∃ bs : List ByteArray, bs.map (fun b => b.data.toList) = keys ∧ w.ownsRow base 9 1 v keys.length (bs.map Value.string)
theorem ownK_nil (w : World) (base : Nat) : OwnsK w base (.slice none 0 0) [] := ⟨[], rfl, World.ownsRow_nil _ _ _ _⟩
theorem OwnsK.kept {w w' : World} {base : Nat} {v : Value} {keys : List (List UInt8)} {row : Option Nat} (h : OwnsK w base v keys) (hg : w.grownBy w' row) (hne : v.ownBlock = none ∨ v.ownBlock ≠ row) : OwnsK w' base v keys := by
  obtain ⟨bs, h1, h2⟩ := h
  exact ⟨bs, h1, World.ownsRow.kept h2 hg hne⟩
theorem OwnsK.below {w w' : World} {base : Nat} {v : Value} {keys : List (List UInt8)} (h : OwnsK w base v keys) (hb : Below w.heap.size w w') : OwnsK w' base v keys := by
  obtain ⟨bs, h1, h2⟩ := h
  have hlt := World.ownsRow.lt h2
  refine ⟨bs, h1, h2.1, ?_⟩
  rcases h2.2 with q | ⟨g, cap, cur, hv, hg, hr, hrest⟩
  · exact .inl q
  · subst hv
    exact .inr ⟨g, cap, cur, rfl, hg, (hb.block g (hlt g rfl).2).trans hr, hrest⟩
theorem OwnsK.at_ {w : World} {base : Nat} {A : Option Addr} {n c : Nat} {keys : List (List UInt8)} (hn : keys.length = n) (h : OwnsK w base (.slice A n c) keys) {k : Nat} (hk : k < keys.length) : ∃ g b, A = some ⟨g, 0, none⟩ ∧ g < w.heap.size ∧ w.cell? ⟨g, k, none⟩ = some (.string b) ∧ b.data.toList = keys[k] := by
  subst hn
  obtain ⟨bs, h1, h2⟩ := h
  have hl : bs.length = keys.length := by rw [← h1, List.length_map]
  obtain ⟨g, cap, e, hb, hlt⟩ := World.ownsRow.form h2 (by omega)
  injection e with e1 _ e2
  subst e1 e2
  refine ⟨g, bs[k]'(by omega), rfl, hlt, ?_, ?_⟩
  · rw [World.ownsRow.cellAt h2 k (by omega), List.getElem?_map, List.getElem?_eq_getElem (by omega)]
    rfl
  · subst h1
    rw [List.getElem_map]
theorem rs_setCell {w : World} {A : Option Addr} {l : List Span} {a : Addr} {u : Value} (h : RS w w.heap.size A l.length l) (hne : l ≠ [] → ∀ b off, A = some ⟨b, off, none⟩ → b ≠ a.block) : RS (w.setCell a u) (w.setCell a u).heap.size A l.length l := by
  refine ⟨rfl, fun hn => ?_⟩
  obtain ⟨b, off, e, hb, hc⟩ := h.2 hn
  have hab := hne (fun q => by rw [q] at hn; simp at hn) b off e
  have k : ∀ i, (w.setCell a u).cell? ⟨b, i, none⟩ = w.cell? ⟨b, i, none⟩ := fun i => World.cell?_setCell_other _ _ _ _ (fun q => by first | exact hab (congrArg Addr.block q) | exact hab (congrArg Addr.block q).symm)
  exact ⟨b, off, e, by simpa using hb, fun j hj => ⟨(k _).trans (hc j hj).1, (k _).trans (hc j hj).2⟩⟩
/-- A block laid anew at its place. -/
theorem OwnsR.put {w : World} {base g cap : Nat} {L : List (List Span)} {l : List Span} {A : Option Addr} {c k n : Nat} (hn : L.length = n) (h : OwnsR w base (.slice (some ⟨g, 0, none⟩) n cap) L) (hr : RS w w.heap.size A l.length l) (hc : l.length ≤ c) (hA : A = none → l = [] ∧ c = 0) (hne : l ≠ [] → ∀ b off, A = some ⟨b, off, none⟩ → b ≠ g ∧ b < w.heap.size) :
    OwnsR (w.setCell ⟨g, k, none⟩ (.slice A l.length c)) base (.slice (some ⟨g, 0, none⟩) n cap) (L.set k l) := by
  subst hn
  obtain ⟨vs, h1, h2⟩ := h
  have hvl : vs.length = L.length := by have := h1.1; omega
  refine ⟨vs.set k (.slice A l.length c), by have := (World.ownsRow.stored h1 k (.slice A l.length c)).1; simpa using this, fun j hj => ?_⟩
  have hjL : j < L.length := by simpa using hj
  by_cases e : k = j
  · subst e
    have e1 : (L.set k l)[k]'hj = l := by simp
    rw [e1]
    exact ⟨A, c, by rw [List.getElem?_set_self (by omega)], rs_setCell hr (fun q b off e => (hne q b off e).1), hc, hA, fun q b off e => ⟨fun q2 => (hne q b off e).1 (by simpa [Value.ownBlock] using q2.symm), by simpa using (hne q b off e).2⟩⟩
  · have e1 : (L.set k l)[j]'hj = L[j] := List.getElem_set_ne e _
    rw [e1]
    obtain ⟨Aj, cj, q1, q2, q3, q4, q5⟩ := h2 j hjL
    exact ⟨Aj, cj, by rw [List.getElem?_set_ne e]; exact q1, rs_setCell q2 (fun q b off e => fun q6 => (q5 q b off e).1 (by simp [Value.ownBlock, q6])), q3, q4, fun q b off e => ⟨(q5 q b off e).1, by simpa using (q5 q b off e).2⟩⟩
theorem OwnsR.kept {w w' : World} {base : Nat} {v : Value} {L : List (List Span)} {row : Option Nat} (h : OwnsR w base v L) (hg : w.grownBy w' row) (hne : v.ownBlock = none ∨ v.ownBlock ≠ row) (hr : ∀ (j : Nat) (hj : j < L.length) (A : Option Addr), RS w w.heap.size A L[j].length L[j] → L[j] ≠ [] → ∀ b off, A = some ⟨b, off, none⟩ → some b ≠ row) : OwnsR w' base v L := by
  obtain ⟨vs, h1, h2⟩ := h
  refine ⟨vs, World.ownsRow.kept h1 hg hne, fun j hj => ?_⟩
  obtain ⟨A, c, q1, q2, q3, q4, q5⟩ := h2 j hj
  exact ⟨A, c, q1, rs_grown0 q2 hg (hr j hj A q2), q3, q4, fun ne b off e => ⟨(q5 ne b off e).1, by have := (q5 ne b off e).2; have := hg.size; omega⟩⟩
end Go.Proofs.Ytplpafoflibnlaa.Mi
