/- Lists of words: their order, plainly; slices of slices of symbols that read as lists of words; own rows of them. -/
import Derived.Test.YtighbbaggpnfoaaWoOrd
import Derived.Test.YtighbbaggpnfoaaWoText
namespace Go.Proofs.Ytighbbaggpnfoaa.Wo
set_option maxRecDepth 100000
open Go Go.RowKit

theorem cmpL_self : ∀ l : List Int, cmpL l l = 0
  | [] => rfl
  | x :: l => by simp only [cmpL, Int.lt_irrefl, if_false]; exact cmpL_self l
theorem cmpL_zero : ∀ {l r : List Int}, cmpL l r = 0 → l = r
  | [], [], _ => rfl
  | [], _ :: _, h => by simp [cmpL] at h
  | _ :: _, [], h => by simp [cmpL] at h
  | x :: l, y :: r, h => by
    simp only [cmpL] at h
    split at h
    · omega
    · split at h
      · omega
      · rw [show x = y by omega, cmpL_zero h]
theorem cmpL_trans : ∀ {a b c : List Int}, cmpL a b < 0 → cmpL b c < 0 → cmpL a c < 0
  | [], [], _, h, _ => by simp [cmpL] at h
  | [], _ :: _, [], _, h => by simp [cmpL] at h
  | [], _ :: _, _ :: _, _, _ => by simp [cmpL]
  | _ :: _, [], _, h, _ => by simp [cmpL] at h
  | _ :: _, _ :: _, [], _, h => by simp [cmpL] at h
  | x :: a, y :: b, z :: c, h, k => by
    simp only [cmpL] at h k ⊢
    by_cases h1 : x < y
    · by_cases k1 : y < z
      · rw [if_pos (by omega)]; omega
      · rw [if_neg k1] at k
        by_cases k2 : z < y
        · rw [if_pos k2] at k; omega
        · rw [if_pos (by omega)]; omega
    · rw [if_neg h1] at h
      by_cases h2 : y < x
      · rw [if_pos h2] at h; omega
      · rw [if_neg h2] at h
        by_cases k1 : y < z
        · rw [if_pos (by omega)]; omega
        · rw [if_neg k1] at k
          by_cases k2 : z < y
          · rw [if_pos k2] at k; omega
          · rw [if_neg k2] at k
            rw [if_neg (by omega), if_neg (by omega)]
            exact cmpL_trans h k
theorem cmpL_nlt {a b : List Int} (h : ¬ cmpL a b < 0) : a = b ∨ cmpL b a < 0 := by
  by_cases e : cmpL a b = 0
  · exact .inl (cmpL_zero e)
  · refine .inr ?_
    rw [cmpL_swap a b]
    omega
theorem cmpL_ltn {a b c : List Int} (h : cmpL a b < 0) (k : ¬ cmpL c b < 0) : cmpL a c < 0 := by
  rcases cmpL_nlt k with rfl | k
  · exact h
  · exact cmpL_trans h k
/-- Not less. -/
def GE (a b : List Int) : Prop := ¬ cmpL a b < 0
/-- A list of words that rises. -/
def SL (L : List (List Int)) : Prop := L.Pairwise fun a b => cmpL a b < 0
theorem sl_ext : ∀ (L R : List (List Int)), SL L → SL R → (∀ x, x ∈ L ↔ x ∈ R) → L = R := by
  intro L
  induction L with
  | nil =>
    intro R _ _ h
    cases R with
    | nil => rfl
    | cons r R => exact absurd ((h r).2 (List.mem_cons_self ..)) (by simp)
  | cons a L ih =>
    intro R hL hR h
    cases R with
    | nil => exact absurd ((h a).1 (List.mem_cons_self ..)) (by simp)
    | cons r R =>
      obtain ⟨h1, h2⟩ := List.pairwise_cons.1 hL
      obtain ⟨k1, k2⟩ := List.pairwise_cons.1 hR
      have e : a = r := by
        rcases List.mem_cons.1 ((h a).1 (List.mem_cons_self ..)) with e | e
        · exact e
        · rcases List.mem_cons.1 ((h r).2 (List.mem_cons_self ..)) with e2 | e2
          · exact e2.symm
          · have q1 := h1 r e2
            have q2 := k1 a e
            rw [cmpL_swap] at q1
            omega
      subst e
      have hirr : ∀ x, cmpL a x < 0 → x ≠ a := fun x hx q => by rw [q, cmpL_self] at hx; omega
      rw [ih R h2 k2 fun x => ⟨fun hx => ?_, fun hx => ?_⟩]
      · exact ((List.mem_cons.1 ((h x).1 (List.mem_cons_of_mem _ hx))).resolve_left (hirr x (h1 x hx)))
      · exact ((List.mem_cons.1 ((h x).2 (List.mem_cons_of_mem _ hx))).resolve_left (hirr x (k1 x hx)))
theorem sl_put {L : List (List Int)} {x : List Int} {lo : Nat} (h : SL L) (hlo : lo ≤ L.length) (h1 : ∀ (j : Nat) (hj : j < L.length), j < lo → cmpL L[j] x < 0) (h2 : ∀ (j : Nat) (hj : j < L.length), lo ≤ j → cmpL x L[j] < 0) : SL (L.take lo ++ (x :: L.drop lo)) := by
  refine List.pairwise_append.2 ⟨h.sublist (List.take_sublist _ _), List.pairwise_cons.2 ⟨fun b hb => ?_, h.sublist (List.drop_sublist _ _)⟩, fun a ha b hb => ?_⟩
  · obtain ⟨j, hj, rfl⟩ := List.getElem_of_mem hb
    rw [List.getElem_drop]
    exact h2 _ _ (by omega)
  · obtain ⟨i, hi, rfl⟩ := List.getElem_of_mem ha
    rw [List.length_take] at hi
    rw [List.getElem_take]
    have hi' := h1 i (by omega) (by omega)
    rcases List.mem_cons.1 hb with rfl | hb
    · exact hi'
    · obtain ⟨j, hj, rfl⟩ := List.getElem_of_mem hb
      rw [List.getElem_drop]
      exact cmpL_trans hi' (h2 _ _ (by omega))
theorem mem_put {L : List (List Int)} {x y : List Int} {lo : Nat} : y ∈ L.take lo ++ (x :: L.drop lo) ↔ y ∈ L ∨ y = x := by
  rw [List.mem_append, List.mem_cons]
  have : y ∈ L ↔ y ∈ L.take lo ∨ y ∈ L.drop lo := by rw [← List.mem_append, List.take_append_drop]
  rw [this]
  constructor
  · rintro (h | h | h)
    · exact .inl (.inl h)
    · exact .inr h
    · exact .inl (.inr h)
  · rintro ((h | h) | h)
    · exact .inl h
    · exact .inr (.inr h)
    · exact .inr (.inl h)

/-- A slice of slices of symbols reads as a list of words, in a world. -/
def RWs (w : World) (A : Option Addr) (n : Nat) (L : List (List Int)) : Prop :=
  L.length = n ∧ (0 < n → ∃ b off, A = some ⟨b, off, none⟩ ∧ b < w.heap.size ∧ ∀ (j : Nat) (h : j < L.length), ∃ A' c', w.cell? ⟨b, off + j, none⟩ = some (.slice A' L[j].length c') ∧ RR w w.heap.size A' L[j].length L[j] ∧ L[j].length ≤ c' ∧ (A' = none → L[j] = [] ∧ c' = 0))
theorem RWs.nil_ (w : World) (A : Option Addr) : RWs w A 0 [] := ⟨rfl, fun h => absurd h (by omega)⟩
theorem RWs.belowM {w w' : World} {A : Option Addr} {n : Nat} {L : List (List Int)} (h : RWs w A n L) (hb : Below w.heap.size w w') : RWs w' A n L :=
  ⟨h.1, fun hn => by
    obtain ⟨b, off, e, hlt, hc⟩ := h.2 hn
    refine ⟨b, off, e, by have := hb.size; omega, fun j hj => ?_⟩
    obtain ⟨Aj, cj, h1, h2, h3, h4⟩ := hc j hj
    exact ⟨Aj, cj, (hb.cell hlt).trans h1, h2.belowM hb, h3, h4⟩⟩
theorem RWs.at_ {w : World} {A : Option Addr} {n : Nat} {L : List (List Int)} (h : RWs w A n L) {k : Nat} (hk : k < L.length) : ∃ b off Aj cj, A = some ⟨b, off, none⟩ ∧ b < w.heap.size ∧ w.cell? ⟨b, off + k, none⟩ = some (.slice Aj L[k].length cj) ∧ RR w w.heap.size Aj L[k].length L[k] ∧ L[k].length ≤ cj ∧ (Aj = none → L[k] = [] ∧ cj = 0) := by
  obtain ⟨b, off, e, hb, hc⟩ := h.2 (by have := h.1; omega)
  obtain ⟨Aj, cj, h1⟩ := hc k hk
  exact ⟨b, off, Aj, cj, e, hb, h1⟩
theorem own_shapeW {w : World} {base : Nat} {e : TypeId} {size : Nat} {v : Value} {n : Nat} {xs : List Value} (h : w.ownsRow base e size v n xs) : ∃ A c, v = .slice A n c := by
  obtain ⟨_, h2⟩ := h
  rcases h2 with ⟨hv, hn⟩ | ⟨g, cap, cur, hv, _⟩
  · exact ⟨none, 0, by rw [hv, hn]⟩
  · exact ⟨_, cap, hv⟩
/-- An own row of slices of symbols that lie elsewhere. -/
def OwnsW (w : World) (base : Nat) (v : Value) (L : List (List Int)) : Prop :=
  ∃ vs : List Value, w.ownsRow base 24 1 v L.length vs ∧ ∀ (j : Nat) (h : j < L.length), ∃ A c, vs[j]? = some (.slice A L[j].length c) ∧ RR w w.heap.size A L[j].length L[j] ∧ L[j].length ≤ c ∧ (A = none → L[j] = [] ∧ c = 0) ∧ (L[j] ≠ [] → ∀ b off, A = some ⟨b, off, none⟩ → v.ownBlock ≠ some b ∧ b < w.heap.size)
theorem ownW_nil (w : World) (base : Nat) : OwnsW w base (.slice none 0 0) [] := ⟨[], World.ownsRow_nil _ _ _ _, fun j h => by simp at h⟩
theorem OwnsW.shape {w : World} {base : Nat} {v : Value} {L : List (List Int)} (h : OwnsW w base v L) : ∃ A c, v = .slice A L.length c := by
  obtain ⟨vs, h1, _⟩ := h
  exact own_shapeW h1
theorem OwnsW.block {w : World} {base : Nat} {v : Value} {L : List (List Int)} (h : OwnsW w base v L) {b : Nat} (e : v.ownBlock = some b) : base ≤ b ∧ b < w.heap.size := by
  obtain ⟨vs, h1, _⟩ := h
  exact World.ownsRow.lt h1 b e
theorem OwnsW.reads {w : World} {base : Nat} {A : Option Addr} {c n : Nat} {L : List (List Int)} (hn : L.length = n) (h : OwnsW w base (.slice A n c) L) : RWs w A L.length L := by
  subst hn
  obtain ⟨vs, h1, h2⟩ := h
  refine ⟨rfl, fun hn => ?_⟩
  obtain ⟨g, cap, e, hb, hlt⟩ := World.ownsRow.form h1 hn
  injection e with e1 _ e2
  subst e1 e2
  refine ⟨g, 0, rfl, hlt, fun j hj => ?_⟩
  obtain ⟨Aj, cj, q1, q2, q3, q4, _⟩ := h2 j hj
  exact ⟨Aj, cj, by rw [Nat.zero_add, World.ownsRow.cellAt h1 j (by omega), q1], q2, q3, q4⟩
theorem OwnsW.below {w w' : World} {base : Nat} {v : Value} {L : List (List Int)} (h : OwnsW w base v L) (hb : Below w.heap.size w w') : OwnsW w' base v L := by
  obtain ⟨vs, h1, h2⟩ := h
  have hlt := World.ownsRow.lt h1
  refine ⟨vs, ⟨h1.1, ?_⟩, fun j hj => ?_⟩
  · rcases h1.2 with q | ⟨g, cap, cur, hv, hg, hr, hrest⟩
    · exact .inl q
    · subst hv
      exact .inr ⟨g, cap, cur, rfl, hg, (hb.block g (hlt g rfl).2).trans hr, hrest⟩
  · obtain ⟨A, c, q1, q2, q3, q4, q5⟩ := h2 j hj
    exact ⟨A, c, q1, q2.belowM hb, q3, q4, fun hne b off e => ⟨(q5 hne b off e).1, Nat.lt_of_lt_of_le (q5 hne b off e).2 hb.size⟩⟩
theorem rr_grown {w w' : World} {A : Option Addr} {l : List Int} {r : Option Nat} (h : RR w w.heap.size A l.length l) (hg : w.grownBy w' r) (hne : l ≠ [] → ∀ b off, A = some ⟨b, off, none⟩ → some b ≠ r) : RR w' w'.heap.size A l.length l := by
  refine ⟨rfl, fun hn => ?_⟩
  obtain ⟨b, off, e, hb, hc⟩ := h.2 hn
  have hl : l ≠ [] := fun q => by rw [q] at hn; simp at hn
  exact ⟨b, off, e, by have := hg.size; omega, fun j hj => hg.cell (hc j hj) (hne hl b off e)⟩
theorem OwnsW.more {w w' : World} {base : Nat} {v v' : Value} {L : List (List Int)} {l : List Int} {A : Option Addr} {c : Nat} (vs : List Value)
    (h2 : ∀ (j : Nat) (h : j < L.length), ∃ A c, vs[j]? = some (.slice A L[j].length c) ∧ RR w w.heap.size A L[j].length L[j] ∧ L[j].length ≤ c ∧ (A = none → L[j] = [] ∧ c = 0) ∧ (L[j] ≠ [] → ∀ b off, A = some ⟨b, off, none⟩ → v.ownBlock ≠ some b ∧ b < w.heap.size)) (hvl : vs.length = L.length)
    (hr : RR w w.heap.size A l.length l) (hc : l.length ≤ c) (hA : A = none → l = [] ∧ c = 0) (hne : l ≠ [] → ∀ b off, A = some ⟨b, off, none⟩ → v.ownBlock ≠ some b ∧ b < w.heap.size) (hg : w.grownBy w' v.ownBlock)
    (ho : w'.ownsRow base 24 1 v' (L.length + 1) (vs ++ [.slice A l.length c])) (hat : v'.ownBlock = v.ownBlock ∨ ∃ g, v'.ownBlock = some g ∧ w.heap.size ≤ g) : OwnsW w' base v' (L ++ [l]) := by
  have hnew : ∀ b, v.ownBlock ≠ some b ∧ b < w.heap.size → v'.ownBlock ≠ some b ∧ b < w'.heap.size := fun b ⟨h1, h3⟩ => by
    refine ⟨?_, by have := hg.size; omega⟩
    rcases hat with e | ⟨g, e, hge⟩
    · rw [e]; exact h1
    · rw [e]; intro q; injection q with q; omega
  refine ⟨vs ++ [.slice A l.length c], by simpa using ho, fun j hj => ?_⟩
  by_cases h : j < L.length
  · obtain ⟨Aj, cj, q1, q2, q3, q4, q5⟩ := h2 j h
    rw [List.getElem_append_left h]
    exact ⟨Aj, cj, by rw [List.getElem?_append_left (by omega)]; exact q1, rr_grown q2 hg (fun ne b off e q => (q5 ne b off e).1 q.symm), q3, q4, fun ne b off e => hnew b (q5 ne b off e)⟩
  · have e : j = L.length := by simp at hj; omega
    subst e
    rw [List.getElem_append_right (by omega)]
    simp only [Nat.sub_self, List.getElem_singleton]
    exact ⟨A, c, by rw [List.getElem?_append_right (by omega)]; simp [hvl], rr_grown hr hg (fun ne b off e q => (hne ne b off e).1 q.symm), hc, hA, fun ne b off e => hnew b (hne ne b off e)⟩
theorem infoWord : (Try.prog.info? 24).map (fun i => (i.zero, i.size, i.bytes)) = some (some (.slice none 0 0), 1, 24) := by kernel_rfl
theorem below_nextW {w W W' : World} (h1 : Below w.heap.size w W) (h2 : Below W.heap.size W W') : Below w.heap.size w W' := h1.trans (h2.mono h1.size)
/-- Outside of the block, where there is something, a slice of symbols lies. -/
theorem rr_off {w : World} {A : Option Addr} {l : List Int} {B : Nat} (h : RR w B A l.length l) (hne : l ≠ []) {b off : Nat} (e : A = some ⟨b, off, none⟩) : b < B := by
  obtain ⟨b2, off2, e2, hb2, _⟩ := h.2 (by cases l with | nil => exact absurd rfl hne | cons _ _ => simp)
  rw [e] at e2
  injection e2 with e2
  injection e2 with e2 _ _
  omega
end Go.Proofs.Ytighbbaggpnfoaa.Wo
