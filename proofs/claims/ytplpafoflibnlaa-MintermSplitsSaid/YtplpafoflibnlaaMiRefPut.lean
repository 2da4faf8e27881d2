/- Plain mathematics of a cell that is laid to its block, and the worlds behind it. -/
import Derived.Test.YtplpafoflibnlaaMiRefMath
import Derived.Test.YtplpafoflibnlaaMiRefPair
import Derived.Test.YtplpafoflibnlaaSpHelp
namespace Go.Proofs.Ytplpafoflibnlaa.Mi
set_option maxRecDepth 100000
open Go Go.RowKit Go.Proofs.Ytplpafoflibnlaa.Sp

/-- Where a cell's sign stands, and what its block with the cell in it makes. -/
def CutR (fam : List (List Span)) (P : Int → Prop) (a r : Int) (w3 : World) (vo vs vk : Value) (wx : World) : Prop :=
  ∃ (keys : List (List UInt8)) (outs : List (List Span)) (j : Nat) (hj : j < outs.length), vk = .int .i64 (j : Int) ∧ outs.length ≤ 2147483650 ∧ Plain outs[j] ∧
    (∀ o, Is o (fun x => mem outs[j] x ∨ (a ≤ x ∧ x ≤ r)) → RefInv fam (fun x => P x ∨ (a ≤ x ∧ x ≤ r)) keys (outs.set j o)) ∧
    OwnsK wx w3.heap.size vs keys ∧ OwnsA wx w3.heap.size vo outs vs ∧ Below w3.heap.size w3 wx
theorem cut_known {fam : List (List Span)} {P : Int → Prop} {keys : List (List UInt8)} {outs : List (List Span)} (h : RefInv fam P keys outs) {a r : Int} (hP : ∀ x, P x → x < a) {j : Nat} (hjk : j < keys.length) (hs : ∀ x, a ≤ x → x ≤ r → signL fam x = keys[j]) (hfew : outs.length ≤ 2147483650) {w3 wx : World} {vo vs : Value}
    (hK : OwnsK wx w3.heap.size vs keys) (hA : OwnsA wx w3.heap.size vo outs vs) (hb : Below w3.heap.size w3 wx) : CutR fam P a r w3 vo vs (.int .i64 (j : Int)) wx := by
  have hj : j < outs.length := by rw [← h.len]; exact hjk
  exact ⟨keys, outs, j, hj, rfl, hfew, (h.is_ j hj hjk).1, fun o ho => h.known hj hjk hP hs ho, hK, hA, hb⟩
theorem cut_fresh {fam : List (List Span)} {P : Int → Prop} {keys : List (List UInt8)} {outs : List (List Span)} (h : RefInv fam P keys outs) {a r : Int} (har : a ≤ r) (hP : ∀ x, P x → x < a) {s : List UInt8} (hs : ∀ x, a ≤ x → x ≤ r → signL fam x = s) (hn : s ∉ keys) (hfew : outs.length ≤ 2147483649) {w3 wx : World} {vo vs : Value}
    (hK : OwnsK wx w3.heap.size vs (keys ++ [s])) (hA : OwnsA wx w3.heap.size vo (outs ++ [[]]) vs) (hb : Below w3.heap.size w3 wx) : CutR fam P a r w3 vo vs (.int .i64 (keys.length : Int)) wx := by
  have hl := h.len
  have hj : keys.length < (outs ++ [[]]).length := by rw [List.length_append, List.length_singleton]; omega
  have e : (outs ++ [[]])[keys.length]'hj = ([] : List Span) := by
    rw [List.getElem_append_right (by omega)]
    simp
  refine ⟨keys ++ [s], outs ++ [[]], keys.length, hj, rfl, by rw [List.length_append, List.length_singleton]; omega, by rw [e]; exact ⟨List.Pairwise.nil, fun p hp => by cases hp⟩, fun o ho => ?_, hK, hA, hb⟩
  have e2 : (outs ++ [[]]).set keys.length o = outs ++ [o] := by
    rw [hl]
    simp
  rw [e2]
  rw [e] at ho
  exact h.fresh har hP hs hn (ho.congr fun x => ⟨fun q => q.resolve_left (mem_nil x), .inr⟩)
theorem OwnsA.block {w : World} {base : Nat} {v S : Value} {L : List (List Span)} (h : OwnsA w base v L S) {b : Nat} (e : v.ownBlock = some b) : base ≤ b ∧ b < w.heap.size := by
  obtain ⟨_, vs, h1, _⟩ := h
  exact World.ownsRow.lt h1 b e
theorem OwnsK.block {w : World} {base : Nat} {v : Value} {keys : List (List UInt8)} (h : OwnsK w base v keys) {b : Nat} (e : v.ownBlock = some b) : base ≤ b ∧ b < w.heap.size := by
  obtain ⟨_, _, h1⟩ := h
  exact World.ownsRow.lt h1 b e
theorem cut_put {fam : List (List Span)} {P : Int → Prop} {keys : List (List UInt8)} {outs : List (List Span)} {a r : Int} {w3 wc w4 w5 : World} {g cap j : Nat} {vs v : Value} {out : List Span} (hj : j < outs.length)
    (hnx : ∀ o, Is o (fun x => mem outs[j] x ∨ (a ≤ x ∧ x ≤ r)) → RefInv fam (fun x => P x ∨ (a ≤ x ∧ x ≤ r)) keys (outs.set j o)) (hK : OwnsK wc w3.heap.size vs keys) (hA : OwnsA wc w3.heap.size (.slice (some ⟨g, 0, none⟩) outs.length cap) outs vs) (hb : Below w3.heap.size w3 wc)
    (har : a ≤ r) (h0 : -1073741824 ≤ a) (h1 : r ≤ 1073741824) (hb4 : Below wc.heap.size wc w4) (his : Is out (fun x => Rng x ∧ inP 0 (memB outs[j] x) (memB [(a, r)] x) = true)) (ho : OwnsL w5 w4.heap.size v out) (hb5 : Below w4.heap.size w4 w5) :
    ∃ keys' outs', outs'.length = outs.length ∧ RefInv fam (fun x => P x ∨ (a ≤ x ∧ x ≤ r)) keys' outs' ∧ OwnsK (w5.setCell ⟨g, j, none⟩ v) w3.heap.size vs keys' ∧ OwnsA (w5.setCell ⟨g, j, none⟩ v) w3.heap.size (.slice (some ⟨g, 0, none⟩) outs.length cap) outs' vs ∧ Below w3.heap.size w3 (w5.setCell ⟨g, j, none⟩ v) := by
  have hIs : Is out (fun x => mem outs[j] x ∨ (a ≤ x ∧ x ≤ r)) := his.congr fun x => by
    have e : inP 0 (memB outs[j] x) (memB [(a, r)] x) = true ↔ (mem outs[j] x ∨ mem [(a, r)] x) := by
      show (memB outs[j] x || memB [(a, r)] x) = true ↔ _
      rw [Bool.or_eq_true, memB_iff, memB_iff]
    rw [e, mem_one]
    constructor
    · rintro ⟨_, q | ⟨_, q⟩⟩
      · exact .inl q
      · exact .inr q
    · rintro (q | q)
      · exact ⟨q.1, .inl q⟩
      · have hr : Rng x := ⟨by omega, by omega⟩
        exact ⟨hr, .inr ⟨hr, q⟩⟩
  have hne : out ≠ [] := fun q => by
    have := (hIs.2 a).2 (.inr ⟨Int.le_refl _, har⟩)
    rw [q] at this
    exact mem_nil _ this
  obtain ⟨A, c, hv, hc, hr⟩ := own_RS ho
  have hge : ∀ b off, A = some ⟨b, off, none⟩ → w4.heap.size ≤ b ∧ b < w5.heap.size := fun b off e => by
    subst hv e
    exact World.ownsRow.lt ho b rfl
  subst hv
  have bAll : Below wc.heap.size wc w5 := hb4.trans (hb5.mono hb4.size)
  have hgl := hA.block (b := g) rfl
  have hs4 := hb4.size
  refine ⟨keys, outs.set j out, List.length_set .., hnx out hIs, (hK.below bAll).kept ⟨rfl, rfl, rfl, by simp, fun k _ hk => heap_setCell_other w5 ⟨g, j, none⟩ k _ (fun e => hk (by simp [e]))⟩ (.inr fun q => hA.1 g q rfl), OwnsA.put rfl (hA.below bAll) hj hr hc (fun q => ?_) (fun _ b off e => ?_), (hb.trans (bAll.mono hb.size)).setCell hgl.1 _⟩
  · exfalso
    obtain ⟨b, off, e, _⟩ := hr.2 (by cases out with | nil => exact absurd rfl hne | cons _ _ => simp)
    rw [q] at e
    cases e
  · have := hge b off e
    refine ⟨by omega, fun q => ?_, this.2⟩
    have := hK.block q
    omega
end Go.Proofs.Ytplpafoflibnlaa.Mi
