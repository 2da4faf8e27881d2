/- Plain mathematics of the reference's Split: cells of like signs, laid to their blocks, are the blocks. -/
import Derived.Test.YtplpafoflibnlaaMiNext
import Derived.Test.YtplpafoflibnlaaMiLeast
namespace Go.Proofs.Ytplpafoflibnlaa.Mi
set_option maxRecDepth 100000
open Go.Proofs.Ytplpafoflibnlaa.Sp

theorem headLo_least {l : List Span} (hp : Plain l) {x : Int} (hx : mem l x) : headLo l ≤ x := by
  cases l with
  | nil => exact absurd hx (mem_nil x)
  | cons p l =>
    obtain ⟨h1, _, h3⟩ := hp.cons
    obtain ⟨_, q, hq, h4, h5⟩ := hx
    simp only [headLo, List.head?_cons, Option.map_some, Option.getD_some]
    rcases List.mem_cons.1 hq with rfl | hq
    · exact h4
    · have := h3 q hq
      unfold Ok at h1
      omega
structure RefInv (fam : List (List Span)) (P : Int → Prop) (keys : List (List UInt8)) (outs : List (List Span)) : Prop where
  len : keys.length = outs.length
  nodup : keys.Pairwise fun a b => a ≠ b
  is_ : ∀ (k : Nat) (h : k < outs.length) (h' : k < keys.length), Is outs[k] fun x => P x ∧ signL fam x = keys[k]
  ne : ∀ l ∈ outs, l ≠ []
  all : ∀ x, P x → signL fam x ∈ keys
  order : outs.Pairwise fun a b => headLo a < headLo b
theorem RefInv.start (fam : List (List Span)) : RefInv fam (fun _ => False) [] [] :=
  ⟨rfl, List.Pairwise.nil, fun k h => by simp at h, fun l hl => (by cases hl), fun _ h => h.elim, List.Pairwise.nil⟩
theorem RefInv.congr {fam : List (List Span)} {P Q : Int → Prop} {keys : List (List UInt8)} {outs : List (List Span)} (h : RefInv fam P keys outs) (e : ∀ x, P x ↔ Q x) : RefInv fam Q keys outs := by
  have : P = Q := funext fun x => propext (e x)
  rw [← this]
  exact h
theorem RefInv.same_head {fam : List (List Span)} {P : Int → Prop} {keys : List (List UInt8)} {outs : List (List Span)} (h : RefInv fam P keys outs) {k : Nat} (hk : k < outs.length) {a r : Int} (hP : ∀ x, P x → x < a) {o : List Span} (ho : Is o fun x => mem outs[k] x ∨ (a ≤ x ∧ x ≤ r)) : headLo o = headLo outs[k] ∧ o ≠ [] := by
  have hk' : k < keys.length := by rw [h.len]; exact hk
  have hi := h.is_ k hk hk'
  have hne := h.ne _ (List.getElem_mem hk)
  have hm := mem_head hi.1 hne
  have hmo : mem o (headLo outs[k]) := (ho.2 _).2 (.inl hm)
  have hone : o ≠ [] := fun q => by rw [q] at hmo; exact mem_nil _ hmo
  refine ⟨Int.le_antisymm (headLo_least ho.1 hmo) ?_, hone⟩
  rcases (ho.2 _).1 (mem_head ho.1 hone) with q | q
  · exact headLo_least hi.1 q
  · have := hP _ ((hi.2 _).1 hm).1
    omega
theorem RefInv.known {fam : List (List Span)} {P : Int → Prop} {keys : List (List UInt8)} {outs : List (List Span)} (h : RefInv fam P keys outs) {k : Nat} (hk : k < outs.length) (hk' : k < keys.length) {a r : Int} (hP : ∀ x, P x → x < a) (hs : ∀ x, a ≤ x → x ≤ r → signL fam x = keys[k]) {o : List Span} (ho : Is o fun x => mem outs[k] x ∨ (a ≤ x ∧ x ≤ r)) :
    RefInv fam (fun x => P x ∨ (a ≤ x ∧ x ≤ r)) keys (outs.set k o) := by
  obtain ⟨hh, hone⟩ := h.same_head hk hP ho
  refine ⟨by rw [List.length_set]; exact h.len, h.nodup, fun j hj hj' => ?_, fun l hl => ?_, fun x hx => ?_, List.pairwise_iff_getElem.2 fun i j hi hj hij => ?_⟩
  · have hjo : j < outs.length := by simpa using hj
    by_cases e : k = j
    · subst e
      have e1 : (outs.set k o)[k]'hj = o := by simp
      rw [e1]
      refine ho.congr fun x => ?_
      rw [(h.is_ k hk hk').2 x]
      constructor
      · rintro (⟨h1, h2⟩ | h1)
        · exact ⟨.inl h1, h2⟩
        · exact ⟨.inr h1, hs x h1.1 h1.2⟩
      · rintro ⟨h1 | h1, h2⟩
        · exact .inl ⟨h1, h2⟩
        · exact .inr h1
    · have e1 : (outs.set k o)[j]'hj = outs[j] := List.getElem_set_ne e _
      rw [e1]
      refine (h.is_ j hjo hj').congr fun x => ?_
      constructor
      · rintro ⟨h1, h2⟩
        exact ⟨.inl h1, h2⟩
      · rintro ⟨h1 | h1, h2⟩
        · exact ⟨h1, h2⟩
        · exfalso
          have h3 := hs x h1.1 h1.2
          rw [h3] at h2
          rcases Nat.lt_or_gt_of_ne e with q | q
          · exact List.pairwise_iff_getElem.1 h.nodup k j hk' hj' q h2
          · exact List.pairwise_iff_getElem.1 h.nodup j k hj' hk' q h2.symm
  · rcases List.mem_or_eq_of_mem_set hl with hl | rfl
    · exact h.ne l hl
    · exact hone
  · rcases hx with hx | hx
    · exact h.all x hx
    · rw [hs x hx.1 hx.2]
      exact List.getElem_mem _
  · have hio : i < outs.length := by simpa using hi
    have hjo : j < outs.length := by simpa using hj
    have key : ∀ (n : Nat) (hn : n < outs.length) (hn' : n < (outs.set k o).length), headLo ((outs.set k o)[n]'hn') = headLo outs[n] := fun n hn hn' => by
      by_cases e : k = n
      · subst e
        have e1 : (outs.set k o)[k]'hn' = o := by simp
        rw [e1, hh]
      · rw [List.getElem_set_ne e]
    rw [key i hio hi, key j hjo hj]
    exact List.pairwise_iff_getElem.1 h.order i j hio hjo hij
theorem RefInv.fresh {fam : List (List Span)} {P : Int → Prop} {keys : List (List UInt8)} {outs : List (List Span)} (h : RefInv fam P keys outs) {a r : Int} (har : a ≤ r) (hP : ∀ x, P x → x < a) {s : List UInt8} (hs : ∀ x, a ≤ x → x ≤ r → signL fam x = s) (hn : s ∉ keys) {o : List Span} (ho : Is o fun x => a ≤ x ∧ x ≤ r) :
    RefInv fam (fun x => P x ∨ (a ≤ x ∧ x ≤ r)) (keys ++ [s]) (outs ++ [o]) := by
  have hma : mem o a := (ho.2 a).2 ⟨Int.le_refl _, har⟩
  have hone : o ≠ [] := fun q => by rw [q] at hma; exact mem_nil _ hma
  have hoa : headLo o = a := Int.le_antisymm (headLo_least ho.1 hma) ((ho.2 _).1 (mem_head ho.1 hone)).1
  refine ⟨by simp [h.len], List.pairwise_append.2 ⟨h.nodup, List.pairwise_singleton _ _, fun x hx y hy => ?_⟩, fun k hk hk' => ?_, fun l hl => ?_, fun x hx => ?_, List.pairwise_append.2 ⟨h.order, List.pairwise_singleton _ _, fun l hl y hy => ?_⟩⟩
  · obtain rfl := List.mem_singleton.1 hy
    exact fun q => hn (q ▸ hx)
  · by_cases e : k < outs.length
    · have ek : k < keys.length := by rw [h.len]; exact e
      rw [List.getElem_append_left e, List.getElem_append_left ek]
      refine (h.is_ k e ek).congr fun x => ?_
      constructor
      · rintro ⟨h1, h2⟩
        exact ⟨.inl h1, h2⟩
      · rintro ⟨h1 | h1, h2⟩
        · exact ⟨h1, h2⟩
        · exact absurd (by rw [← hs x h1.1 h1.2, h2]; exact List.getElem_mem _) hn
    · have hkl := h.len
      rw [List.getElem_append_right (by omega), List.getElem_append_right (by omega)]
      simp only [List.getElem_singleton]
      refine ho.congr fun x => ?_
      constructor
      · intro h1
        exact ⟨.inr h1, hs x h1.1 h1.2⟩
      · rintro ⟨h1 | h1, h2⟩
        · exact absurd (h2 ▸ h.all x h1) hn
        · exact h1
  · rcases List.mem_append.1 hl with hl | hl
    · exact h.ne l hl
    · obtain rfl := List.mem_singleton.1 hl
      exact hone
  · rcases hx with hx | hx
    · exact List.mem_append.2 (.inl (h.all x hx))
    · rw [hs x hx.1 hx.2]
      exact List.mem_append.2 (.inr (List.mem_singleton.2 rfl))
  · obtain rfl := List.mem_singleton.1 hy
    obtain ⟨k, hk, rfl⟩ := List.getElem_of_mem hl
    have hk' : k < keys.length := by rw [h.len]; exact hk
    have hi := h.is_ k hk hk'
    have := hP _ ((hi.2 _).1 (mem_head hi.1 (h.ne _ hl))).1
    rw [hoa]
    exact this
theorem RefInv.blocks {all : List Span} {fam : List (List Span)} {keys : List (List UInt8)} {outs : List (List Span)} (h : RefInv fam (mem all) keys outs) : IsBlocks all fam outs := by
  refine ⟨fun l hl => ?_, fun x => ⟨fun hx => ?_, fun ⟨l, hl, hx⟩ => ?_⟩, fun l hl r hr x y hx hy => ?_, h.order⟩
  · obtain ⟨k, hk, rfl⟩ := List.getElem_of_mem hl
    exact ⟨(h.is_ k hk (by rw [h.len]; exact hk)).1, h.ne _ hl⟩
  · obtain ⟨k, hk, e⟩ := List.getElem_of_mem (h.all x hx)
    have hk' : k < outs.length := by rw [← h.len]; exact hk
    exact ⟨_, List.getElem_mem hk', ((h.is_ k hk' hk).2 x).2 ⟨hx, e.symm⟩⟩
  · obtain ⟨k, hk, rfl⟩ := List.getElem_of_mem hl
    exact (((h.is_ k hk (by rw [h.len]; exact hk)).2 x).1 hx).1
  · obtain ⟨i, hi, rfl⟩ := List.getElem_of_mem hl
    obtain ⟨j, hj, rfl⟩ := List.getElem_of_mem hr
    have hi' : i < keys.length := by rw [h.len]; exact hi
    have hj' : j < keys.length := by rw [h.len]; exact hj
    have h1 := (((h.is_ i hi hi').2 x).1 hx).2
    have h2 := (((h.is_ j hj hj').2 y).1 hy).2
    rw [← signL_eq, h1, h2]
    constructor
    · intro e
      rw [e] at hx
      have h3 := (((h.is_ j hj hj').2 x).1 hx).2
      rw [← h1, h3]
    · intro e
      have : i = j := by
        rcases Nat.lt_trichotomy i j with q | q | q
        · exact absurd e (List.pairwise_iff_getElem.1 h.nodup i j hi' hj' q)
        · exact q
        · exact absurd e.symm (List.pairwise_iff_getElem.1 h.nodup j i hj' hi' q)
      subst this
      rfl
/-- All borders of a family. -/
def CutS (fam : List (List Span)) (c : Int) : Prop := Rng c ∧ ∃ s ∈ fam, ∃ p ∈ plainOf s, c = p.1 ∨ c = p.2 + 1
theorem sign_const {fam : List (List Span)} {at_ : List Span} (ha : Is at_ (CutS fam)) {a e r : Int} (hn : NextV at_ a e r) (h0 : -1073741824 ≤ a) (h1 : e ≤ 1073741824) {x : Int} (h2 : a ≤ x) (h3 : x ≤ r) : signL fam x = signL fam a := by
  obtain ⟨n1, n2, n3, _⟩ := hn
  refine signL_eq.2 fun s hs => ?_
  have hp := plainOf_is s
  rw [← hp.2 x, ← hp.2 a]
  have hedge : ∀ c, (∃ p ∈ plainOf s, c = p.1 ∨ c = p.2 + 1) → a < c → c ≤ x → False := fun c hc q1 q2 => by
    have := n3 c ((ha.2 c).2 ⟨⟨by omega, by omega⟩, s, hs, hc⟩) q1
    omega
  have hsame : ∀ p ∈ plainOf s, (p.1 ≤ x ∧ x ≤ p.2) ↔ (p.1 ≤ a ∧ a ≤ p.2) := fun p hp => by
    have e1 := hedge p.1 ⟨p, hp, .inl rfl⟩
    have e2 := hedge (p.2 + 1) ⟨p, hp, .inr rfl⟩
    constructor
    · rintro ⟨q1, q2⟩
      exact ⟨by rcases Int.lt_or_le a p.1 with q | q; exact (e1 q q1).elim; exact q, by omega⟩
    · rintro ⟨q1, q2⟩
      exact ⟨by omega, by rcases Int.lt_or_le p.2 x with q | q; exact (e2 (by omega) (by omega)).elim; exact q⟩
  unfold mem
  constructor
  · rintro ⟨_, p, hp, q⟩
    exact ⟨⟨by omega, by omega⟩, p, hp, (hsame p hp).1 q⟩
  · rintro ⟨_, p, hp, q⟩
    exact ⟨⟨by omega, by omega⟩, p, hp, (hsame p hp).2 q⟩
end Go.Proofs.Ytplpafoflibnlaa.Mi
