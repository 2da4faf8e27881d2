/- Plain mathematics of minterm: the edges of a set and a family in their order, what is marked behind each, the cells between them, grouped by their marks. No program is named here. -/
import Derived.Test.YtgmkchkaceciiaaSpMath
namespace Go.Proofs.Ytgmkchkaceciiaa.Mi
set_option maxRecDepth 100000
open Go.Proofs.Ytgmkchkaceciiaa.Sp Classical

def layE (set_ : Int) (p : List Span) : List (Int × Int) := p.flatMap fun r => [(r.1, set_), (r.2 + 1, set_)]
def layF : Int → List (List Span) → List (Int × Int)
  | _, [] => []
  | i, p :: ps => layE i p ++ layF (i + 1) ps

/-- Not more spans than a list has that tells the set piece by piece. -/
theorem spans_few : ∀ (out L : List Span), Plain out → (∀ x, mem out x → ∃ p ∈ L, p.1 ≤ x ∧ x ≤ p.2) → (∀ p ∈ L, ∀ x y z, p.1 ≤ x → x ≤ y → y ≤ z → z ≤ p.2 → mem out x → mem out z → mem out y) → out.length ≤ L.length
  | [], _, _, _, _ => Nat.zero_le _
  | q :: out, L, hp, h1, h2 => by
    obtain ⟨hq, hp', hgap⟩ := hp.cons
    have hq1 : mem (q :: out) q.1 := ⟨by have := hq.2.1; have := hq.2.2; have := hq.1; unfold Rng; omega, q, List.mem_cons_self .., Int.le_refl _, hq.1⟩
    obtain ⟨p, hpL, hp1, hp2⟩ := h1 _ hq1
    have hno : ¬ mem (q :: out) (q.2 + 1) := by
      rintro ⟨_, r, hr, hr1, hr2⟩
      rcases List.mem_cons.1 hr with rfl | hr
      · omega
      · have := hgap r hr; omega
    have hge : ∀ x, mem out x → q.2 + 1 < x := fun x ⟨_, r, hr, hr1, _⟩ => by have := hgap r hr; omega
    have hfar : ∀ x, mem out x → ¬ (p.1 ≤ x ∧ x ≤ p.2) := fun x hx hc => by
      have hx' : mem (q :: out) x := ⟨hx.1, by obtain ⟨_, r, hr, hh⟩ := hx; exact ⟨r, List.mem_cons_of_mem _ hr, hh⟩⟩
      exact hno (h2 p hpL q.1 (q.2 + 1) x hp1 (by have := hq.1; omega) (by have := hge x hx; omega) hc.2 hq1 hx')
    have := spans_few out (L.erase p) hp' (fun x hx => by
      obtain ⟨p', hp'L, hh⟩ := h1 x ⟨hx.1, by obtain ⟨_, r, hr, hh⟩ := hx; exact ⟨r, List.mem_cons_of_mem _ hr, hh⟩⟩
      have hne : p' ≠ p := fun e => hfar x hx (by rw [← e]; exact hh)
      exact ⟨p', (List.mem_erase_of_ne hne).2 hp'L, hh⟩) (fun p' hp'L x y z a1 a2 a3 a4 hx hz => by
      have hx' : mem (q :: out) x := ⟨hx.1, by obtain ⟨_, r, hr, hh⟩ := hx; exact ⟨r, List.mem_cons_of_mem _ hr, hh⟩⟩
      have hz' : mem (q :: out) z := ⟨hz.1, by obtain ⟨_, r, hr, hh⟩ := hz; exact ⟨r, List.mem_cons_of_mem _ hr, hh⟩⟩
      have hy := h2 p' (List.mem_of_mem_erase hp'L) x y z a1 a2 a3 a4 hx' hz'
      obtain ⟨hr, r, hr0, hr1, hr2⟩ := hy
      rcases List.mem_cons.1 hr0 with rfl | hr0
      · have := hge x hx; omega
      · exact ⟨hr, r, hr0, hr1, hr2⟩)
    rw [List.length_erase_of_mem hpL] at this
    have hpos : 0 < L.length := List.length_pos_of_mem hpL
    simp only [List.length_cons]
    omega
theorem norm_few {W g : List Span} (h : Is W (mem g)) : W.length ≤ g.length :=
  spans_few W g h.1 (fun x hx => ((h.2 x).1 hx).2) (fun p hp x y z a1 a2 a3 a4 hx hz => (h.2 y).2 ⟨by have := hx.1; have := hz.1; unfold Rng at *; omega, p, hp, by omega, by omega⟩)

/-- Marks: a byte for eight sets each. -/
def bitOf (bs : List Nat) (s : Nat) : Bool := (bs.getD (s / 8) 0).testBit (s % 8)
def toggle (bs : List Nat) (s : Nat) : List Nat := bs.set (s / 8) (bs.getD (s / 8) 0 ^^^ (1 <<< (s % 8)))
theorem toggle_length (bs : List Nat) (s : Nat) : (toggle bs s).length = bs.length := by simp [toggle]
theorem toggle_bit {bs : List Nat} {s t : Nat} (hs : s / 8 < bs.length) : bitOf (toggle bs s) t = (bitOf bs t ^^ decide (s = t)) := by
  unfold bitOf toggle
  by_cases h : s / 8 = t / 8
  · rw [← h]
    rw [List.getD_eq_getElem?_getD, List.getElem?_set_self hs]
    simp only [Option.getD_some, Nat.testBit_xor, Nat.one_shiftLeft, Nat.testBit_two_pow]
    congr 1
    have : (s % 8 = t % 8) ↔ s = t := ⟨fun e => by omega, fun e => by rw [e]⟩
    simp [this]
  · rw [List.getD_eq_getElem?_getD, List.getElem?_set_ne h, ← List.getD_eq_getElem?_getD]
    have : s ≠ t := fun e => h (by rw [e])
    simp [this]
theorem xor_bit_lt {a k : Nat} (ha : a < 256) (hk : k < 8) : a ^^^ (1 <<< k) < 256 := by
  rw [Nat.one_shiftLeft]
  exact Nat.xor_lt_two_pow (n := 8) ha (Nat.pow_lt_pow_right (by decide) hk)
theorem toggle_small {bs : List Nat} {s : Nat} (h : ∀ b ∈ bs, b < 256) : ∀ b ∈ toggle bs s, b < 256 := by
  intro b hb
  unfold toggle at hb
  rcases List.mem_or_eq_of_mem_set hb with hb | rfl
  · exact h b hb
  · refine xor_bit_lt ?_ (Nat.mod_lt _ (by decide))
    rw [List.getD_eq_getElem?_getD]
    cases hg : bs[s / 8]? with
    | none => simp
    | some v => exact h v (List.mem_of_getElem? hg)
/-- What is marked behind so many edges. -/
def marksAt (m : Nat) (E : List (Int × Int)) : List Nat := E.foldl (fun bs e => toggle bs e.2.toNat) (List.replicate m 0)
theorem marksAt_snoc (m : Nat) (E : List (Int × Int)) (e : Int × Int) : marksAt m (E ++ [e]) = toggle (marksAt m E) e.2.toNat := by simp [marksAt]
theorem marksAt_take {m : Nat} {E : List (Int × Int)} {i : Nat} (h : i < E.length) : marksAt m (E.take (i + 1)) = toggle (marksAt m (E.take i)) E[i].2.toNat := by
  rw [List.take_succ_eq_append_getElem h, marksAt_snoc]
def parity (n : Nat) : Bool := n % 2 == 1
theorem parity_succ (n : Nat) : parity (n + 1) = !parity n := by
  unfold parity
  rcases Nat.mod_two_eq_zero_or_one n with h | h <;> simp [h, Nat.add_mod]
theorem parity_add (a b : Nat) : parity (a + b) = (parity a ^^ parity b) := by
  unfold parity
  rcases Nat.mod_two_eq_zero_or_one a with h | h <;> rcases Nat.mod_two_eq_zero_or_one b with k | k <;> simp [h, k, Nat.add_mod]
def In (m : Nat) (E : List (Int × Int)) : Prop := ∀ e ∈ E, 0 ≤ e.2 ∧ e.2.toNat / 8 < m
theorem In.take {m : Nat} {E : List (Int × Int)} (h : In m E) (i : Nat) : In m (E.take i) := fun e he => h e (List.mem_of_mem_take he)
theorem marksAt_bits (m : Nat) (E : List (Int × Int)) (h : In m E) : (marksAt m E).length = m ∧ (∀ b ∈ marksAt m E, b < 256) ∧ ∀ t, bitOf (marksAt m E) t = parity (E.countP fun e => e.2 == (t : Int)) := by
  have key : ∀ (n : Nat) (E : List (Int × Int)), E.length = n → In m E → (marksAt m E).length = m ∧ (∀ b ∈ marksAt m E, b < 256) ∧ ∀ t, bitOf (marksAt m E) t = parity (E.countP fun e => e.2 == (t : Int)) := by
    intro n
    induction n with
    | zero =>
      intro E hl h
      have : E = [] := List.length_eq_zero_iff.1 hl
      subst this
      refine ⟨by simp [marksAt], fun b hb => ?_, fun t => ?_⟩
      · have : b = 0 := by simpa [marksAt] using (List.mem_replicate.1 hb).2
        omega
      · simp only [marksAt, List.foldl_nil, List.countP_nil, parity, bitOf]
        rw [List.getD_eq_getElem?_getD, List.getElem?_replicate]
        split <;> simp
    | succ n ih =>
      intro E hl h
      obtain ⟨E', e, rfl⟩ : ∃ E' e, E = E' ++ [e] := by
        rcases List.eq_nil_or_concat E with rfl | ⟨E', e, rfl⟩
        · simp at hl
        · exact ⟨E', e, by simp⟩
      obtain ⟨h1, h2, h3⟩ := ih E' (by simpa using hl) (fun x hx => h x (List.mem_append.2 (.inl hx)))
      obtain ⟨he0, he1⟩ := h e (List.mem_append.2 (.inr (List.mem_singleton.2 rfl)))
      rw [marksAt_snoc]
      refine ⟨by rw [toggle_length, h1], toggle_small h2, fun t => ?_⟩
      rw [toggle_bit (by omega), h3, List.countP_append, List.countP_singleton, parity_add]
      congr 1
      by_cases ht : e.2 = (t : Int)
      · have : e.2.toNat = t := by omega
        simp [ht, parity]
      · have : e.2.toNat ≠ t := by omega
        simp [ht, this, parity]
  exact key E.length E rfl h
theorem marks_eq {a b : List Nat} (hl : a.length = b.length) (ha : ∀ x ∈ a, x < 256) (hb : ∀ x ∈ b, x < 256) (h : ∀ t, t < 8 * a.length → bitOf a t = bitOf b t) : a = b := by
  refine List.ext_getElem hl fun i hi hj => ?_
  refine Nat.eq_of_testBit_eq fun k => ?_
  by_cases hk : k < 8
  · have := h (8 * i + k) (by omega)
    unfold bitOf at this
    rw [show (8 * i + k) / 8 = i by omega, show (8 * i + k) % 8 = k by omega, List.getD_eq_getElem?_getD, List.getD_eq_getElem?_getD, List.getElem?_eq_getElem hi, List.getElem?_eq_getElem hj] at this
    exact this
  · have e : (2 : Nat) ^ 8 ≤ 2 ^ k := Nat.pow_le_pow_right (by decide) (by omega)
    rw [Nat.testBit_lt_two_pow (Nat.lt_of_lt_of_le (ha _ (List.getElem_mem hi)) e), Nat.testBit_lt_two_pow (Nat.lt_of_lt_of_le (hb _ (List.getElem_mem hj)) e)]

/-- A plain list's edges up to x are odd just if x is in it. -/
theorem edge_parity (s : Int) (x : Int) : ∀ p : List Span, Plain p → parity ((layE s p).countP fun e => decide (e.1 ≤ x)) = decide (mem p x) := by
  intro p
  induction p with
  | nil => intro _; simp [layE, parity, mem_nil]
  | cons q p ih =>
    intro hp
    obtain ⟨hq, hp', hc⟩ := hp.cons
    have hcount : (layE s (q :: p)).countP (fun e => decide (e.1 ≤ x)) = ((if q.1 ≤ x then 1 else 0) + (if q.2 + 1 ≤ x then 1 else 0)) + (layE s p).countP (fun e => decide (e.1 ≤ x)) := by
      simp only [layE, List.flatMap_cons, List.countP_append, List.countP_cons, List.countP_nil]
      simp only [decide_eq_true_eq]
      omega
    rw [hcount, parity_add, ih hp']
    unfold Ok at hq
    have hmc : mem (q :: p) x ↔ (Rng x ∧ q.1 ≤ x ∧ x ≤ q.2) ∨ mem p x := mem_cons
    by_cases h1 : q.1 ≤ x
    · by_cases h2 : q.2 + 1 ≤ x
      · have hmc2 : mem (q :: p) x ↔ mem p x := hmc.trans ⟨fun h => h.resolve_left fun h => by omega, .inr⟩
        have hd : decide (mem (q :: p) x) = decide (mem p x) := decide_eq_decide.2 hmc2
        rw [if_pos h1, if_pos h2, hd]
        simp [parity]
      · have hr : Rng x := ⟨by omega, by omega⟩
        have hn : ¬ mem p x := fun h => by
          obtain ⟨_, r, hr, h3, h4⟩ := h
          have := hc r hr
          omega
        have : Rng x ∧ q.1 ≤ x ∧ x ≤ q.2 := ⟨hr, h1, by omega⟩
        simp [h1, h2, hmc, this, hn, parity]
    · have hmc2 : mem (q :: p) x ↔ mem p x := hmc.trans ⟨fun h => h.resolve_left fun h => h1 h.2.1, .inr⟩
      have h2 : ¬ q.2 + 1 ≤ x := by omega
      have hd : decide (mem (q :: p) x) = decide (mem p x) := decide_eq_decide.2 hmc2
      rw [if_neg h1, if_neg h2, hd]
      simp [parity]
theorem layE_set {s : Int} {p : List Span} : ∀ e ∈ layE s p, e.2 = s := by
  intro e he
  obtain ⟨r, _, hr⟩ := List.mem_flatMap.1 he
  simp at hr
  rcases hr with rfl | rfl <;> rfl
theorem countP_layE_ne {s t : Int} {p : List Span} (h : s ≠ t) (f : Int → Bool) : (layE s p).countP (fun e => e.2 == t && f e.1) = 0 := by
  rw [List.countP_eq_zero]
  intro e he
  have := layE_set e he
  have : ¬ e.2 = t := by omega
  simp [this]
theorem countP_layE_eq {s : Int} {p : List Span} (f : Int → Bool) : (layE s p).countP (fun e => e.2 == s && f e.1) = (layE s p).countP (fun e => f e.1) := by
  refine List.countP_congr fun e he => ?_
  simp [layE_set e he]
/-- The list that the number t stands for. -/
def famAt (p0 : List Span) (ps : List (List Span)) (t : Nat) : List Span := ((p0 :: ps)[t]?).getD []
theorem countP_layF (t : Nat) (f : Int → Bool) : ∀ (ps : List (List Span)) (i : Nat), (layF (i : Int) ps).countP (fun e => e.2 == (t : Int) && f e.1) = if i ≤ t then (layE (t : Int) ((ps[t - i]?).getD [])).countP (fun e => f e.1) else 0 := by
  intro ps
  induction ps with
  | nil => intro i; simp [layF, layE]
  | cons p ps ih =>
    intro i
    have hc : ((i : Int) + 1) = ((i + 1 : Nat) : Int) := by omega
    simp only [layF, List.countP_append, hc, ih]
    by_cases h : i ≤ t
    · by_cases h2 : i = t
      · subst h2
        have hn : ¬ i + 1 ≤ i := by omega
        rw [countP_layE_eq]
        simp [hn]
      · rw [countP_layE_ne (by omega) f]
        have h3 : i + 1 ≤ t := by omega
        rw [if_pos h3, if_pos h, show t - i = (t - (i + 1)) + 1 by omega]
        simp
    · have h3 : ¬ i + 1 ≤ t := by omega
      rw [countP_layE_ne (by omega) f, if_neg h3, if_neg h]
theorem countP_all (p0 : List Span) (ps : List (List Span)) (t : Nat) (f : Int → Bool) : (layE 0 p0 ++ layF 1 ps).countP (fun e => e.2 == (t : Int) && f e.1) = (layE (t : Int) (famAt p0 ps t)).countP (fun e => f e.1) := by
  have := countP_layF t f (p0 :: ps) 0
  simpa [layF, famAt] using this
theorem layF_in (ps : List (List Span)) : ∀ (i : Nat), ∀ e ∈ layF (i : Int) ps, (i : Int) ≤ e.2 ∧ e.2 < i + ps.length := by
  induction ps with
  | nil => intro i e he; simp [layF] at he
  | cons p ps ih =>
    intro i e he
    have hc : ((i : Int) + 1) = ((i + 1 : Nat) : Int) := by omega
    simp only [layF, hc, List.mem_append] at he
    rcases he with he | he
    · have := layE_set e he
      simp only [List.length_cons]
      omega
    · have := ih (i + 1) e he
      simp only [List.length_cons]
      omega
/-- The edges of a set and a family, in their order. -/
structure Edges (p0 : List Span) (ps : List (List Span)) (E : List (Int × Int)) : Prop where
  perm : E.Perm (layE 0 p0 ++ layF 1 ps)
  sorted : SortedLo E
  plain0 : Plain p0
  plain : ∀ p ∈ ps, Plain p
theorem Edges.in_ {p0 : List Span} {ps : List (List Span)} {E : List (Int × Int)} (h : Edges p0 ps E) : In (ps.length / 8 + 1) E := by
  intro e he
  have h1 := layF_in (p0 :: ps) 0 e (by simpa [layF] using h.perm.mem_iff.1 he)
  simp only [List.length_cons] at h1
  omega
theorem Edges.plainAt {p0 : List Span} {ps : List (List Span)} {E : List (Int × Int)} (h : Edges p0 ps E) (t : Nat) : Plain (famAt p0 ps t) := by
  unfold famAt
  cases hg : (p0 :: ps)[t]? with
  | none => exact Plain.nil
  | some v =>
    rcases List.mem_cons.1 (List.mem_of_getElem? hg) with rfl | hv
    · exact h.plain0
    · exact h.plain v hv
/-- Between two edges each number has the marks. -/
theorem Edges.marks {p0 : List Span} {ps : List (List Span)} {E : List (Int × Int)} (h : Edges p0 ps E) (i : Nat) (x : Int) (h1 : ∀ e ∈ E.take i, e.1 ≤ x) (h2 : ∀ e ∈ E.drop i, x < e.1) (t : Nat) : bitOf (marksAt (ps.length / 8 + 1) (E.take i)) t = decide (mem (famAt p0 ps t) x) := by
  rw [(marksAt_bits _ _ (h.in_.take i)).2.2 t, ← edge_parity (t : Int) x _ (h.plainAt t), ← countP_all p0 ps t (fun y => decide (y ≤ x)), ← h.perm.countP_eq]
  conv => rhs; rw [← List.take_append_drop i E]
  rw [List.countP_append]
  congr 1
  have hz : (E.drop i).countP (fun e => e.2 == (t : Int) && decide (e.1 ≤ x)) = 0 := by
    rw [List.countP_eq_zero]
    intro e he
    have := h2 e he
    have : ¬ e.1 ≤ x := by omega
    simp [this]
  rw [hz, Nat.add_zero]
  refine List.countP_congr fun e he => ?_
  simp [h1 e he]
theorem Edges.last {p0 : List Span} {ps : List (List Span)} {E : List (Int × Int)} (h : Edges p0 ps E) : bitOf (marksAt (ps.length / 8 + 1) E) 0 = false := by
  obtain ⟨x, hx⟩ : ∃ x : Int, 1073741824 < x ∧ ∀ e ∈ E, e.1 ≤ x := by
    have : ∀ E : List (Int × Int), ∃ x : Int, 1073741824 < x ∧ ∀ e ∈ E, e.1 ≤ x := by
      intro E
      induction E with
      | nil => exact ⟨1073741825, by omega, fun e he => by cases he⟩
      | cons a E ih =>
        obtain ⟨x, hx0, hx⟩ := ih
        refine ⟨max x a.1, by omega, fun e he => ?_⟩
        rcases List.mem_cons.1 he with rfl | he
        · omega
        · have := hx e he
          omega
    exact this E
  have := h.marks E.length x (fun e he => hx.2 e (List.mem_of_mem_take he)) (fun e he => by simp at he) 0
  rw [List.take_length] at this
  rw [this]
  simp only [decide_eq_false_iff_not]
  rintro ⟨⟨_, h2⟩, _⟩
  omega
end Go.Proofs.Ytgmkchkaceciiaa.Mi
