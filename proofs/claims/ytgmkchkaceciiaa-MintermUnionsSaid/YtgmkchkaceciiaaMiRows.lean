/- A list of lists that a law builds by appending slices that lie elsewhere; the family of MintermMany and its blocks. -/
import Derived.Test.YtgmkchkaceciiaaMiAwake
namespace Go.Proofs.Ytgmkchkaceciiaa.Mi
set_option maxRecDepth 100000
open Go Go.RowKit Go.Proofs.Ytgmkchkaceciiaa.Sp

/-- An own row of slices of spans that lie elsewhere. -/
def OwnsR (w : World) (base : Nat) (v : Value) (L : List (List Span)) : Prop :=
  ∃ vs : List Value, w.ownsRow base 22 1 v L.length vs ∧ ∀ (j : Nat) (h : j < L.length), ∃ A c, vs[j]? = some (.slice A L[j].length c) ∧ RS w w.heap.size A L[j].length L[j] ∧ L[j].length ≤ c ∧ (A = none → L[j] = [] ∧ c = 0) ∧ (L[j] ≠ [] → ∀ b off, A = some ⟨b, off, none⟩ → v.ownBlock ≠ some b ∧ b < w.heap.size)
theorem ownR_nil (w : World) (base : Nat) : OwnsR w base (.slice none 0 0) [] := ⟨[], World.ownsRow_nil _ _ _ _, fun j h => by simp at h⟩
theorem OwnsR.shape {w : World} {base : Nat} {v : Value} {L : List (List Span)} (h : OwnsR w base v L) : ∃ A c, v = .slice A L.length c := by
  obtain ⟨vs, h1, _⟩ := h
  exact own_shape h1
theorem OwnsR.reads {w : World} {base : Nat} {A : Option Addr} {c n : Nat} {L : List (List Span)} (hn : L.length = n) (h : OwnsR w base (.slice A n c) L) : RGs w A L.length L := by
  subst hn
  obtain ⟨vs, h1, h2⟩ := h
  refine ⟨rfl, fun hn => ?_⟩
  obtain ⟨g, cap, e, hb, hlt⟩ := World.ownsRow.form h1 hn
  injection e with e1 _ e2
  subst e1 e2
  refine ⟨g, 0, rfl, hlt, fun j hj => ?_⟩
  obtain ⟨Aj, cj, q1, q2, q3, q4, _⟩ := h2 j hj
  exact ⟨Aj, cj, by rw [Nat.zero_add, World.ownsRow.cellAt h1 j (by omega), q1], q2, q3, q4⟩
theorem OwnsR.below {w w' : World} {base : Nat} {v : Value} {L : List (List Span)} (h : OwnsR w base v L) (hb : Below w.heap.size w w') : OwnsR w' base v L := by
  obtain ⟨vs, h1, h2⟩ := h
  have hlt := World.ownsRow.lt h1
  refine ⟨vs, ⟨h1.1, ?_⟩, fun j hj => ?_⟩
  · rcases h1.2 with q | ⟨g, cap, cur, hv, hg, hr, hrest⟩
    · exact .inl q
    · subst hv
      exact .inr ⟨g, cap, cur, rfl, hg, (hb.block g (hlt g rfl).2).trans hr, hrest⟩
  · obtain ⟨A, c, q1, q2, q3, q4, q5⟩ := h2 j hj
    exact ⟨A, c, q1, q2.belowM hb, q3, q4, fun hne b off e => ⟨(q5 hne b off e).1, Nat.lt_of_lt_of_le (q5 hne b off e).2 hb.size⟩⟩
theorem rs_grown0 {w w' : World} {A : Option Addr} {l : List Span} {r : Option Nat} (h : RS w w.heap.size A l.length l) (hg : w.grownBy w' r) (hne : l ≠ [] → ∀ b off, A = some ⟨b, off, none⟩ → some b ≠ r) : RS w' w'.heap.size A l.length l := by
  by_cases e : l = []
  · subst e
    exact ⟨rfl, fun q => absurd q (by simp)⟩
  · exact rs_grownE h hg (hne e)
theorem OwnsR.more {w w' : World} {base : Nat} {v v' : Value} {L : List (List Span)} {l : List Span} {A : Option Addr} {c : Nat} (vs : List Value)
    (h2 : ∀ (j : Nat) (h : j < L.length), ∃ A c, vs[j]? = some (.slice A L[j].length c) ∧ RS w w.heap.size A L[j].length L[j] ∧ L[j].length ≤ c ∧ (A = none → L[j] = [] ∧ c = 0) ∧ (L[j] ≠ [] → ∀ b off, A = some ⟨b, off, none⟩ → v.ownBlock ≠ some b ∧ b < w.heap.size)) (hvl : vs.length = L.length)
    (hr : RS w w.heap.size A l.length l) (hc : l.length ≤ c) (hA : A = none → l = [] ∧ c = 0) (hne : l ≠ [] → ∀ b off, A = some ⟨b, off, none⟩ → v.ownBlock ≠ some b ∧ b < w.heap.size) (hg : w.grownBy w' v.ownBlock)
    (ho : w'.ownsRow base 22 1 v' (L.length + 1) (vs ++ [.slice A l.length c])) (hat : v'.ownBlock = v.ownBlock ∨ ∃ g, v'.ownBlock = some g ∧ w.heap.size ≤ g) : OwnsR w' base v' (L ++ [l]) := by
  have hnew : ∀ b, v.ownBlock ≠ some b ∧ b < w.heap.size → v'.ownBlock ≠ some b ∧ b < w'.heap.size := fun b ⟨h1, h3⟩ => by
    refine ⟨?_, by have := hg.size; omega⟩
    rcases hat with e | ⟨g, e, hge⟩
    · rw [e]; exact h1
    · rw [e]; intro q; injection q with q; omega
  refine ⟨vs ++ [.slice A l.length c], by simpa using ho, fun j hj => ?_⟩
  by_cases h : j < L.length
  · obtain ⟨Aj, cj, q1, q2, q3, q4, q5⟩ := h2 j h
    rw [List.getElem_append_left h]
    exact ⟨Aj, cj, by rw [List.getElem?_append_left (by omega)]; exact q1, rs_grown0 q2 hg (fun ne b off e q => (q5 ne b off e).1 q.symm), q3, q4, fun ne b off e => hnew b (q5 ne b off e)⟩
  · have e : j = L.length := by simp at hj; omega
    subst e
    rw [List.getElem_append_right (by omega)]
    simp only [Nat.sub_self, List.getElem_singleton]
    exact ⟨A, c, by rw [List.getElem?_append_right (by omega)]; simp [hvl], rs_grown0 hr hg (fun ne b off e q => (hne ne b off e).1 q.symm), hc, hA, fun ne b off e => hnew b (hne ne b off e)⟩

def famK (k : Nat) : List (List Span) := (List.range k).map fun i : Nat => [(2 * (i : Int), 2 * (i : Int))]
theorem famK_len (k : Nat) : (famK k).length = k := by simp [famK]
theorem famK_succ (k : Nat) : famK (k + 1) = famK k ++ [[(2 * (k : Int), 2 * (k : Int))]] := by simp [famK, List.range_succ]
def restK (k : Nat) : List Span := (-5, -1) :: ((List.range (k - 1)).map (fun i : Nat => (2 * (i : Int) + 1, 2 * (i : Int) + 1)) ++ [(2 * (k : Int) - 1, 3 * (k : Int))])
def manyL (k : Nat) : List (List Span) := restK k :: famK k
theorem restK_len {k : Nat} (hk : 1 ≤ k) : (restK k).length = k + 1 := by simp [restK]; omega
theorem manyL_len (k : Nat) : (manyL k).length = k + 1 := by simp [manyL, famK]
def ev (k : Nat) (x : Int) : Prop := 0 ≤ x ∧ x < 2 * k ∧ x % 2 = 0
theorem rest_mem {k : Nat} (hk : 1 ≤ k) (hK : k ≤ 10000) (x : Int) : mem (restK k) x ↔ (-5 ≤ x ∧ x ≤ 3 * k) ∧ ¬ ev k x := by
  unfold mem restK ev Rng
  simp only [List.mem_cons, List.mem_append, List.mem_map, List.mem_range, List.not_mem_nil, or_false]
  constructor
  · rintro ⟨_, p, rfl | ⟨i, hi, rfl⟩ | rfl, h1, h2⟩ <;> simp only at h1 h2 <;> omega
  · rintro ⟨⟨h1, h2⟩, h3⟩
    refine ⟨by omega, ?_⟩
    by_cases a : x ≤ -1
    · exact ⟨_, .inl rfl, h1, a⟩
    · by_cases b : 2 * (k : Int) - 1 ≤ x
      · exact ⟨_, .inr (.inr rfl), b, h2⟩
      · exact ⟨_, .inr (.inl ⟨(x / 2).toNat, by omega, rfl⟩), by simp only; omega, by simp only; omega⟩
theorem rest_plain {k : Nat} (hk : 1 ≤ k) (hK : k ≤ 10000) : Plain (restK k) := by
  unfold restK
  refine ⟨List.pairwise_cons.2 ⟨fun q hq => ?_, List.pairwise_append.2 ⟨?_, List.pairwise_singleton _ _, fun a ha b hb => ?_⟩⟩, fun p hp => ?_⟩
  · simp only [List.mem_append, List.mem_map, List.mem_range, List.mem_singleton] at hq
    rcases hq with ⟨i, hi, rfl⟩ | rfl <;> simp only <;> omega
  · rw [List.pairwise_map]
    refine List.Pairwise.imp ?_ List.pairwise_lt_range
    intro a b hab
    simp only
    omega
  · simp only [List.mem_map, List.mem_range, List.mem_singleton] at ha hb
    obtain ⟨i, hi, rfl⟩ := ha
    subst hb
    simp only
    omega
  · simp only [List.mem_cons, List.mem_append, List.mem_map, List.mem_range, List.not_mem_nil, or_false] at hp
    unfold Ok
    rcases hp with rfl | ⟨i, hi, rfl⟩ | rfl <;> simp only <;> omega
theorem one_mem (i : Nat) (hi : i ≤ 10000) (x : Int) : mem [(2 * (i : Int), 2 * (i : Int))] x ↔ x = 2 * i := by
  rw [ex_mem _ _ _ (by omega) (by omega)]
  omega
theorem many_blocks {k : Nat} (hk : 1 ≤ k) (hK : k ≤ 10000) : IsBlocks [(-5, 3 * (k : Int))] (famK k) (manyL k) := by
  have m0 : ∀ x, mem [(-5, 3 * (k : Int))] x ↔ -5 ≤ x ∧ x ≤ 3 * k := fun x => ex_mem _ _ x (by omega) (by omega)
  have hf : ∀ l ∈ famK k, ∃ i, i < k ∧ l = [(2 * (i : Int), 2 * (i : Int))] := fun l hl => by
    obtain ⟨i, hi, rfl⟩ := List.mem_map.1 hl
    exact ⟨i, List.mem_range.1 hi, rfl⟩
  have hfm : ∀ i, i < k → [(2 * (i : Int), 2 * (i : Int))] ∈ famK k := fun i hi => List.mem_map.2 ⟨i, List.mem_range.2 hi, rfl⟩
  refine ⟨fun l hl => ?_, fun x => ⟨fun hx => ?_, fun ⟨l, hl, hx⟩ => ?_⟩, fun l hl r hr x y hx hy => ?_, ?_⟩
  · rcases List.mem_cons.1 hl with rfl | hl
    · exact ⟨rest_plain hk hK, by simp [restK]⟩
    · obtain ⟨i, hi, rfl⟩ := hf l hl
      exact ⟨⟨List.pairwise_singleton _ _, fun p hp => by obtain rfl := List.mem_singleton.1 hp; unfold Ok; simp only; omega⟩, by simp⟩
  · rw [m0] at hx
    by_cases he : ev k x
    · unfold ev at he
      refine ⟨_, List.mem_cons_of_mem _ (hfm (x / 2).toNat (by omega)), (one_mem _ (by omega) x).2 (by omega)⟩
    · exact ⟨_, List.mem_cons_self .., (rest_mem hk hK x).2 ⟨hx, he⟩⟩
  · rw [m0]
    rcases List.mem_cons.1 hl with rfl | hl
    · exact ((rest_mem hk hK x).1 hx).1
    · obtain ⟨i, hi, rfl⟩ := hf l hl
      rw [one_mem i (by omega)] at hx
      omega
  · have hall : (∀ s ∈ famK k, mem s x ↔ mem s y) ↔ ∀ i : Nat, i < k → (x = 2 * i ↔ y = 2 * i) := ⟨fun h i hi => by
      have := h _ (hfm i hi)
      rwa [one_mem i (by omega), one_mem i (by omega)] at this, fun h s hs => by
      obtain ⟨i, hi, rfl⟩ := hf s hs
      rw [one_mem i (by omega), one_mem i (by omega)]
      exact h i hi⟩
    rw [hall]
    rcases List.mem_cons.1 hl with rfl | hl
    · obtain ⟨_, hx2⟩ := (rest_mem hk hK x).1 hx
      unfold ev at hx2
      rcases List.mem_cons.1 hr with rfl | hr
      · obtain ⟨_, hy2⟩ := (rest_mem hk hK y).1 hy
        unfold ev at hy2
        exact ⟨fun _ i hi => by omega, fun _ => rfl⟩
      · obtain ⟨i, hi, rfl⟩ := hf r hr
        rw [one_mem i (by omega)] at hy
        refine ⟨fun q => ?_, fun q => ?_⟩
        · rw [q, one_mem i (by omega)] at hx
          omega
        · have := (q i hi).2 hy
          omega
    · obtain ⟨i, hi, rfl⟩ := hf l hl
      rw [one_mem i (by omega)] at hx
      rcases List.mem_cons.1 hr with rfl | hr
      · obtain ⟨_, hy2⟩ := (rest_mem hk hK y).1 hy
        unfold ev at hy2
        refine ⟨fun q => ?_, fun q => ?_⟩
        · rw [← q, one_mem i (by omega)] at hy
          omega
        · have := (q i hi).1 hx
          omega
      · obtain ⟨j, hj, rfl⟩ := hf r hr
        rw [one_mem j (by omega)] at hy
        refine ⟨fun q i' _ => ?_, fun q => ?_⟩
        · have e : 2 * (i : Int) = 2 * (j : Int) := by
            have := congrArg headLo q
            simpa [headLo] using this
          omega
        · have := (q i hi).1 hx
          have e : (i : Int) = j := by omega
          rw [e]
  · unfold manyL
    refine List.pairwise_cons.2 ⟨fun l hl => ?_, ?_⟩
    · obtain ⟨i, hi, rfl⟩ := hf l hl
      simp only [headLo, restK, List.head?_cons, Option.map_some, Option.getD_some]
      omega
    · unfold famK
      rw [List.pairwise_map]
      refine List.Pairwise.imp ?_ List.pairwise_lt_range
      intro a b hab
      simp only [headLo, List.head?_cons, Option.map_some, Option.getD_some]
      omega
end Go.Proofs.Ytgmkchkaceciiaa.Mi
