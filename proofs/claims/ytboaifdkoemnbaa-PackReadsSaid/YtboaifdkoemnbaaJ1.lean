/- Texts of this proof, joined: SpMath, PaMath, MiMath, MiGroup. -/
/- Plain mathematics of lists of spans: sets of whole numbers between -2^30 and 2^30, their one plain list, and what meets, differences, moves and counts are. No program is named here. -/
namespace Go.Proofs.Ytboaifdkoemnbaa.Sp
set_option maxRecDepth 100000

abbrev Span := Int × Int
def Rng (x : Int) : Prop := -1073741824 ≤ x ∧ x ≤ 1073741824
def mem (l : List Span) (x : Int) : Prop := Rng x ∧ ∃ p ∈ l, p.1 ≤ x ∧ x ≤ p.2
def Ok (p : Span) : Prop := p.1 ≤ p.2 ∧ -1073741824 ≤ p.1 ∧ p.2 ≤ 1073741824
def Plain (l : List Span) : Prop := l.Pairwise (fun p q => p.2 + 1 < q.1) ∧ ∀ p ∈ l, Ok p
def Is (l : List Span) (S : Int → Prop) : Prop := Plain l ∧ ∀ x, mem l x ↔ S x

theorem Plain.nil : Plain [] := ⟨List.Pairwise.nil, fun _ h => by cases h⟩
theorem mem_nil (x : Int) : ¬ mem [] x := fun h => by obtain ⟨_, p, hp, _⟩ := h; cases hp
theorem mem_append {l r : List Span} {x : Int} : mem (l ++ r) x ↔ mem l x ∨ mem r x := by
  unfold mem
  constructor
  · rintro ⟨h, p, hp, h1⟩
    rcases List.mem_append.1 hp with hp | hp
    · exact .inl ⟨h, p, hp, h1⟩
    · exact .inr ⟨h, p, hp, h1⟩
  · rintro (⟨h, p, hp, h1⟩ | ⟨h, p, hp, h1⟩)
    · exact ⟨h, p, List.mem_append.2 (.inl hp), h1⟩
    · exact ⟨h, p, List.mem_append.2 (.inr hp), h1⟩
theorem mem_one {p : Span} {x : Int} : mem [p] x ↔ Rng x ∧ p.1 ≤ x ∧ x ≤ p.2 := by
  unfold mem
  constructor
  · rintro ⟨h, q, hq, h1⟩
    obtain rfl := List.mem_singleton.1 hq
    exact ⟨h, h1⟩
  · rintro ⟨h, h1⟩
    exact ⟨h, p, List.mem_singleton.2 rfl, h1⟩
theorem mem_cons {p : Span} {l : List Span} {x : Int} : mem (p :: l) x ↔ (Rng x ∧ p.1 ≤ x ∧ x ≤ p.2) ∨ mem l x := by
  rw [show p :: l = [p] ++ l from rfl, mem_append, mem_one]

theorem Plain.snoc {l : List Span} {p : Span} (h : Plain l) (hp : Ok p) (hl : ∀ q ∈ l, q.2 + 1 < p.1) : Plain (l ++ [p]) := by
  refine ⟨List.pairwise_append.2 ⟨h.1, List.pairwise_singleton _ _, ?_⟩, ?_⟩
  · intro a ha b hb
    obtain rfl := List.mem_singleton.1 hb
    exact hl a ha
  · intro q hq
    rcases List.mem_append.1 hq with hq | hq
    · exact h.2 q hq
    · obtain rfl := List.mem_singleton.1 hq
      exact hp
theorem Plain.append {l r : List Span} (h : Plain (l ++ r)) : Plain l ∧ Plain r ∧ ∀ a ∈ l, ∀ b ∈ r, a.2 + 1 < b.1 := by
  obtain ⟨h1, h2⟩ := h
  obtain ⟨a, b, c⟩ := List.pairwise_append.1 h1
  exact ⟨⟨a, fun p hp => h2 p (List.mem_append.2 (.inl hp))⟩, ⟨b, fun p hp => h2 p (List.mem_append.2 (.inr hp))⟩, c⟩
theorem Plain.cons {p : Span} {l : List Span} (h : Plain (p :: l)) : Ok p ∧ Plain l ∧ ∀ b ∈ l, p.2 + 1 < b.1 := by
  obtain ⟨a, b, c⟩ := Plain.append (l := [p]) (r := l) h
  exact ⟨a.2 p (List.mem_singleton.2 rfl), b, c p (List.mem_singleton.2 rfl)⟩
theorem Plain.mk {p : Span} {l : List Span} (hp : Ok p) (h : Plain l) (hl : ∀ b ∈ l, p.2 + 1 < b.1) : Plain (p :: l) :=
  ⟨List.pairwise_cons.2 ⟨hl, h.1⟩, fun q hq => by
    rcases List.mem_cons.1 hq with rfl | hq
    · exact hp
    · exact h.2 q hq⟩

theorem Is.congr {l : List Span} {S T : Int → Prop} (h : Is l S) (hST : ∀ x, S x ↔ T x) : Is l T := ⟨h.1, fun x => (h.2 x).trans (hST x)⟩
/-- A plain list is short. -/
theorem Plain.short_from : ∀ (l : List Span) (lo : Int), Plain l → (∀ p ∈ l, lo ≤ p.1) → lo ≤ 1073741826 → 2 * (l.length : Int) ≤ 1073741826 - lo := by
  intro l
  induction l with
  | nil => intro lo _ _ h; simp; omega
  | cons p l ih =>
    intro lo h hlo _
    obtain ⟨hp, hl, hpl⟩ := h.cons
    have h1 := hlo p (List.mem_cons.2 (.inl rfl))
    unfold Ok at hp
    have := ih (p.2 + 2) hl (fun q hq => by have := hpl q hq; omega) (by omega)
    simp only [List.length_cons, Int.natCast_add, Int.cast_ofNat_Int]
    omega
theorem Plain.short {l : List Span} (h : Plain l) : l.length ≤ 1073741825 := by
  have := Plain.short_from l (-1073741824) h (fun p hp => (h.2 p hp).2.1) (by omega)
  omega

/-- What the program's put lays. -/
def putL (l : List Span) (lo hi : Int) : List Span :=
  if max lo (-1073741824) > min hi 1073741824 then l else l ++ [(max lo (-1073741824), min hi 1073741824)]
theorem putL_mem (l : List Span) (lo hi x : Int) : mem (putL l lo hi) x ↔ mem l x ∨ (Rng x ∧ lo ≤ x ∧ x ≤ hi) := by
  unfold putL
  split
  · constructor
    · exact .inl
    · rintro (h | ⟨h, h1⟩)
      · exact h
      · unfold Rng at h; omega
  · rw [mem_append, mem_one]
    unfold Rng
    constructor
    · rintro (h | h)
      · exact .inl h
      · exact .inr (by simp only at h; omega)
    · rintro (h | h)
      · exact .inl h
      · exact .inr (by simp only; omega)
theorem putL_ok {l : List Span} {lo hi : Int} (h : ∀ p ∈ l, Ok p) : ∀ p ∈ putL l lo hi, Ok p := by
  unfold putL
  split
  · exact h
  · intro p hp
    rcases List.mem_append.1 hp with hp | hp
    · exact h p hp
    · obtain rfl := List.mem_singleton.1 hp
      unfold Ok; simp only; omega
theorem putL_length (l : List Span) (lo hi : Int) : (putL l lo hi).length ≤ l.length + 1 := by
  unfold putL; split <;> simp
theorem putL_plain {l : List Span} {lo hi : Int} (h : Plain l) (hl : lo ≤ hi → ∀ q ∈ l, q.2 + 1 < lo) : Plain (putL l lo hi) := by
  unfold putL
  split
  · exact h
  · refine h.snoc (by unfold Ok; simp only; omega) fun q hq => ?_
    have h1 := hl (by omega) q hq
    simp only; omega
/-- What lies at or behind the ends, after a put. -/
theorem putL_below {l : List Span} {lo hi : Int} {B : Int} (h : ∀ q ∈ l, q.2 < B) (hB : lo ≤ hi → hi < B) : ∀ q ∈ putL l lo hi, q.2 < B := by
  unfold putL
  split
  · exact h
  · intro p hp
    rcases List.mem_append.1 hp with hp | hp
    · exact h p hp
    · obtain rfl := List.mem_singleton.1 hp
      have := hB (by omega)
      simp only; omega


/-- What the program's cut leaves of a span. -/
def cutL (hi : Int) : Int → List Span → List Span → List Span
  | lo, out, [] => putL out lo hi
  | lo, out, x :: q => if hi < x.1 then putL out lo hi else cutL hi (x.2 + 1) (putL out lo (x.1 - 1)) q
theorem cutL_mem (hi : Int) : ∀ (q : List Span) (lo : Int) (out : List Span), Plain q → (∀ b ∈ q, lo ≤ b.2 + 1) → ∀ y, mem (cutL hi lo out q) y ↔ mem out y ∨ (Rng y ∧ lo ≤ y ∧ y ≤ hi ∧ ¬ mem q y) := by
  intro q
  induction q with
  | nil =>
    intro lo out _ _ y
    rw [cutL, putL_mem]
    have := mem_nil y
    constructor
    · rintro (h | ⟨h, h1, h2⟩)
      · exact .inl h
      · exact .inr ⟨h, h1, h2, this⟩
    · rintro (h | ⟨h, h1, h2, _⟩)
      · exact .inl h
      · exact .inr ⟨h, h1, h2⟩
  | cons x q ih =>
    intro lo out hq hb y
    obtain ⟨hx, hq', hxq⟩ := hq.cons
    unfold Ok at hx
    rw [cutL]
    have above : ∀ z, mem q z → x.2 + 1 < z := by
      rintro z ⟨_, b, hb, h1, _⟩
      have := hxq b hb
      omega
    split
    · rw [putL_mem]
      constructor
      · rintro (h | ⟨h, h1, h2⟩)
        · exact .inl h
        · refine .inr ⟨h, h1, h2, fun hm => ?_⟩
          rcases mem_cons.1 hm with h3 | h3
          · omega
          · have := above y h3; omega
      · rintro (h | ⟨h, h1, h2, _⟩)
        · exact .inl h
        · exact .inr ⟨h, h1, h2⟩
    · have h0 := hb x (List.mem_cons.2 (.inl rfl))
      rw [ih (x.2 + 1) _ hq' (fun b hb => by have := hxq b hb; have := hq'.2 b hb; unfold Ok at this; omega) y, putL_mem]
      constructor
      · rintro ((h | ⟨h, h1, h2⟩) | ⟨h, h1, h2, h3⟩)
        · exact .inl h
        · refine .inr ⟨h, h1, by omega, fun hm => ?_⟩
          rcases mem_cons.1 hm with h3 | h3
          · omega
          · have := above y h3; omega
        · refine .inr ⟨h, by omega, h2, fun hm => ?_⟩
          rcases mem_cons.1 hm with h4 | h4
          · omega
          · exact h3 h4
      · rintro (h | ⟨h, h1, h2, h3⟩)
        · exact .inl (.inl h)
        · by_cases hy : y ≤ x.1 - 1
          · exact .inl (.inr ⟨h, h1, hy⟩)
          · refine .inr ⟨h, ?_, h2, fun hm => h3 (mem_cons.2 (.inr hm))⟩
            by_cases hy2 : y ≤ x.2
            · exact absurd (mem_cons.2 (.inl ⟨h, by omega, hy2⟩)) h3
            · omega
theorem cutL_plain (hi : Int) : ∀ (q : List Span) (lo : Int) (out : List Span), Plain q → (∀ b ∈ q, lo ≤ b.2 + 1) → Plain out → (∀ r ∈ out, r.2 + 1 < lo) → Plain (cutL hi lo out q) := by
  intro q
  induction q with
  | nil =>
    intro lo out _ _ ho hr
    rw [cutL]
    exact putL_plain ho fun _ => hr
  | cons x q ih =>
    intro lo out hq hb ho hr
    obtain ⟨hx, hq', hxq⟩ := hq.cons
    unfold Ok at hx
    have h0 := hb x (List.mem_cons.2 (.inl rfl))
    rw [cutL]
    split
    · exact putL_plain ho fun _ => hr
    · refine ih (x.2 + 1) _ hq' (fun b hb => by have := hxq b hb; have := hq'.2 b hb; unfold Ok at this; omega) (putL_plain ho fun _ => hr) ?_
      have := putL_below (l := out) (lo := lo) (hi := x.1 - 1) (B := x.2) (fun r hr' => by have := hr r hr'; omega) (fun _ => by omega)
      exact fun r hr' => by have := this r hr'; omega
theorem cutL_below (hi B : Int) (hB : hi < B) : ∀ (q : List Span) (lo : Int) (out : List Span), (∀ r ∈ out, r.2 < B) → ∀ r ∈ cutL hi lo out q, r.2 < B := by
  intro q
  induction q with
  | nil =>
    intro lo out ho
    rw [cutL]
    exact putL_below ho fun _ => hB
  | cons x q ih =>
    intro lo out ho
    rw [cutL]
    split
    · exact putL_below ho fun _ => hB
    · exact ih _ _ (putL_below ho fun _ => by omega)
theorem mem_take_succ {p : List Span} {k : Nat} (hk : k < p.length) {x : Int} : mem (p.take (k + 1)) x ↔ mem (p.take k) x ∨ (Rng x ∧ p[k].1 ≤ x ∧ x ≤ p[k].2) := by
  rw [List.take_succ_eq_append_getElem hk, mem_append, mem_one]
theorem mem_split {p : List Span} (k : Nat) {x : Int} : mem p x ↔ mem (p.take k) x ∨ mem (p.drop k) x := by
  rw [← mem_append, List.take_append_drop]
theorem Plain.take {p : List Span} (h : Plain p) (k : Nat) : Plain (p.take k) := by
  rw [← List.take_append_drop k p] at h; exact h.append.1
theorem Plain.drop {p : List Span} (h : Plain p) (k : Nat) : Plain (p.drop k) := by
  rw [← List.take_append_drop k p] at h; exact h.append.2.1
theorem drop_cases {p : List Span} {k : Nat} (hk : k < p.length) {b : Span} (h : b ∈ p.drop k) : b = p[k] ∨ b ∈ p.drop (k + 1) := by
  rw [List.drop_eq_getElem_cons hk] at h
  exact List.mem_cons.1 h
theorem drop_head {p : List Span} {k : Nat} (hk : k < p.length) : p[k] ∈ p.drop k := by
  rw [List.drop_eq_getElem_cons hk]; exact List.mem_cons.2 (.inl rfl)
theorem drop_next {p : List Span} {k : Nat} {b : Span} (h : b ∈ p.drop (k + 1)) : b ∈ p.drop k := by
  rw [← List.drop_drop] at h
  exact List.mem_of_mem_drop h
theorem Plain.at_ {p : List Span} (h : Plain p) {k : Nat} (hk : k < p.length) : Ok p[k] ∧ ∀ b ∈ p.drop (k + 1), p[k].2 + 1 < b.1 := by
  have := h.drop k
  rw [List.drop_eq_getElem_cons hk] at this
  obtain ⟨a, _, c⟩ := this.cons
  exact ⟨a, c⟩
theorem take_mem_below {p : List Span} {k : Nat} {x : Int} {B : Int} (h : ∀ a ∈ p.take k, a.2 < B) (hm : mem (p.take k) x) : x < B := by
  obtain ⟨_, a, ha, _, h2⟩ := hm
  have := h a ha
  omega
theorem drop_mem_above {p : List Span} {k : Nat} {x : Int} {B : Int} (h : ∀ a ∈ p.drop k, B < a.1) (hm : mem (p.drop k) x) : B < x := by
  obtain ⟨_, a, ha, h1, _⟩ := hm
  have := h a ha
  omega

/-- Where the difference's loop stands: k spans of the first gone through, j of the second passed by. -/
structure MinusInv (p Q : List Span) (k j : Nat) (out : List Span) : Prop where
  plain : Plain out
  set : ∀ x, mem out x ↔ mem (p.take k) x ∧ ¬ mem Q x
  ahead : ∀ r ∈ out, ∀ b ∈ p.drop k, r.2 + 1 < b.1
  past : ∀ c ∈ Q.take j, ∀ b ∈ p.drop k, c.2 < b.1
theorem MinusInv.start (p Q : List Span) : MinusInv p Q 0 0 [] :=
  ⟨Plain.nil, fun x => ⟨fun h => absurd h (mem_nil x), fun h => absurd h.1 (by simpa using mem_nil x)⟩, fun _ h => (by cases h), fun _ h => (by simp at h)⟩
theorem MinusInv.skip {p Q out : List Span} {k j : Nat} (h : MinusInv p Q k j out) (hp : Plain p) (hk : k < p.length) (hj : j < Q.length) (hlt : Q[j].2 < p[k].1) : MinusInv p Q k (j + 1) out :=
  ⟨h.plain, h.set, h.ahead, fun c hc b hb => by
    rw [List.take_succ_eq_append_getElem hj] at hc
    rcases List.mem_append.1 hc with hc | hc
    · exact h.past c hc b hb
    · obtain rfl := List.mem_singleton.1 hc
      rcases drop_cases hk hb with rfl | hb
      · exact hlt
      · have h1 := (hp.at_ hk).2 b hb
        have h2 := (hp.at_ hk).1
        unfold Ok at h2
        omega⟩
theorem MinusInv.cut {p Q out : List Span} {k j : Nat} (h : MinusInv p Q k j out) (hp : Plain p) (hQ : Plain Q) (hk : k < p.length) (hge : ∀ hj : j < Q.length, p[k].1 ≤ Q[j].2) :
    MinusInv p Q (k + 1) j (cutL p[k].2 p[k].1 out (Q.drop j)) := by
  obtain ⟨hok, hnext⟩ := hp.at_ hk
  unfold Ok at hok
  have hb : ∀ b ∈ Q.drop j, p[k].1 ≤ b.2 + 1 := by
    intro b hb
    by_cases hj : j < Q.length
    · have h1 := hge hj
      rcases drop_cases hj hb with rfl | hb
      · omega
      · have h2 := (hQ.at_ hj).2 b hb
        have h3 := hQ.2 b (List.mem_of_mem_drop hb)
        unfold Ok at h3
        omega
    · rw [List.drop_eq_nil_of_le (by omega)] at hb; cases hb
  have hout : ∀ r ∈ out, r.2 + 1 < p[k].1 := fun r hr => h.ahead r hr _ (drop_head hk)
  refine ⟨cutL_plain _ _ _ _ (hQ.drop j) hb h.plain hout, fun x => ?_, ?_, fun c hc b hb => h.past c hc b (drop_next hb)⟩
  · rw [cutL_mem _ _ _ _ (hQ.drop j) hb, h.set, mem_take_succ hk]
    have hQs := mem_split (p := Q) j (x := x)
    have hpast : mem (Q.take j) x → x < p[k].1 := take_mem_below fun a ha => h.past a ha _ (drop_head hk)
    constructor
    · rintro (⟨h1, h2⟩ | ⟨h0, h1, h2, h3⟩)
      · exact ⟨.inl h1, h2⟩
      · refine ⟨.inr ⟨h0, h1, h2⟩, fun hm => ?_⟩
        rcases hQs.1 hm with hm | hm
        · have := hpast hm; omega
        · exact h3 hm
    · rintro ⟨h1 | ⟨h0, h1, h2⟩, h3⟩
      · exact .inl ⟨h1, h3⟩
      · exact .inr ⟨h0, h1, h2, fun hm => h3 (hQs.2 (.inr hm))⟩
  · intro r hr b hb
    have h1 := hnext b hb
    have := cutL_below p[k].2 (p[k].2 + 1) (by omega) (Q.drop j) p[k].1 out (fun r hr => by have := hout r hr; omega) r hr
    omega
theorem MinusInv.done {p Q out : List Span} {k j : Nat} (h : MinusInv p Q k j out) (hk : p.length ≤ k) : Is out fun x => mem p x ∧ ¬ mem Q x :=
  ⟨h.plain, fun x => by rw [h.set, List.take_of_length_le hk]⟩

/-- Where the meet's loop stands. -/
structure MeetInv (p q : List Span) (i j : Nat) (out : List Span) : Prop where
  plain : Plain out
  set : ∀ x, mem out x ↔ (mem (p.take i) x ∧ mem q x) ∨ (mem p x ∧ mem (q.take j) x)
  ahead : ∀ r ∈ out, ∀ (hi : i < p.length) (hj : j < q.length), r.2 + 1 < max p[i].1 q[j].1
theorem MeetInv.start (p q : List Span) : MeetInv p q 0 0 [] :=
  ⟨Plain.nil, fun x => ⟨fun h => absurd h (mem_nil x), fun h => by rcases h with h | h <;> simp [mem_nil] at h⟩, fun _ h => by cases h⟩
theorem MeetInv.putted {p q out : List Span} {i j : Nat} (h : MeetInv p q i j out) (hi : i < p.length) (hj : j < q.length) : Plain (putL out (max p[i].1 q[j].1) (min p[i].2 q[j].2)) :=
  putL_plain h.plain fun _ r hr => h.ahead r hr hi hj
theorem MeetInv.left {p q out : List Span} {i j : Nat} (h : MeetInv p q i j out) (hp : Plain p) (hq : Plain q) (hi : i < p.length) (hj : j < q.length) (hlt : p[i].2 < q[j].2) :
    MeetInv p q (i + 1) j (putL out (max p[i].1 q[j].1) (min p[i].2 q[j].2)) := by
  obtain ⟨hok, hnext⟩ := hp.at_ hi
  obtain ⟨hok2, hnext2⟩ := hq.at_ hj
  unfold Ok at hok hok2
  refine ⟨h.putted hi hj, fun x => ?_, ?_⟩
  · rw [putL_mem, h.set, mem_take_succ hi]
    have hps := mem_split (p := p) i (x := x)
    have hqs := mem_split (p := q) (j + 1) (x := x)
    rw [mem_take_succ hj] at hqs
    have hpm : Rng x → p[i].1 ≤ x → x ≤ p[i].2 → mem p x := fun a b c => ⟨a, _, List.getElem_mem hi, b, c⟩
    have hqm : Rng x → q[j].1 ≤ x → x ≤ q[j].2 → mem q x := fun a b c => ⟨a, _, List.getElem_mem hj, b, c⟩
    have hab : mem (q.drop (j + 1)) x → q[j].2 + 1 < x := drop_mem_above hnext2
    constructor
    · rintro ((⟨h1, h2⟩ | ⟨h1, h2⟩) | ⟨h1, h2, h3⟩)
      · exact .inl ⟨.inl h1, h2⟩
      · exact .inr ⟨h1, h2⟩
      · exact .inl ⟨.inr ⟨h1, by omega, by omega⟩, hqm h1 (by omega) (by omega)⟩
    · rintro (⟨h1 | ⟨h1, h2, h3⟩, h4⟩ | ⟨h1, h2⟩)
      · exact .inl (.inl ⟨h1, h4⟩)
      · rcases hqs.1 h4 with (h5 | h5) | h5
        · exact .inl (.inr ⟨hpm h1 h2 h3, h5⟩)
        · exact .inr ⟨h1, by omega, by omega⟩
        · have := hab h5; omega
      · exact .inl (.inr ⟨h1, h2⟩)
  · intro r hr hi' hj'
    have h1 := hnext _ (drop_head hi')
    have := putL_below (l := out) (lo := max p[i].1 q[j].1) (hi := min p[i].2 q[j].2) (B := max p[i + 1].1 q[j].1 - 1) (fun r hr => by have := h.ahead r hr hi hj; omega) (fun _ => by omega) r hr
    omega
theorem MeetInv.right {p q out : List Span} {i j : Nat} (h : MeetInv p q i j out) (hp : Plain p) (hq : Plain q) (hi : i < p.length) (hj : j < q.length) (hlt : q[j].2 ≤ p[i].2) :
    MeetInv p q i (j + 1) (putL out (max p[i].1 q[j].1) (min p[i].2 q[j].2)) := by
  obtain ⟨hok, hnext⟩ := hp.at_ hi
  obtain ⟨hok2, hnext2⟩ := hq.at_ hj
  unfold Ok at hok hok2
  refine ⟨h.putted hi hj, fun x => ?_, ?_⟩
  · rw [putL_mem, h.set, mem_take_succ hj]
    have hqs := mem_split (p := q) j (x := x)
    have hps := mem_split (p := p) (i + 1) (x := x)
    rw [mem_take_succ hi] at hps
    have hpm : Rng x → p[i].1 ≤ x → x ≤ p[i].2 → mem p x := fun a b c => ⟨a, _, List.getElem_mem hi, b, c⟩
    have hqm : Rng x → q[j].1 ≤ x → x ≤ q[j].2 → mem q x := fun a b c => ⟨a, _, List.getElem_mem hj, b, c⟩
    have hab : mem (p.drop (i + 1)) x → p[i].2 + 1 < x := drop_mem_above hnext
    constructor
    · rintro ((⟨h1, h2⟩ | ⟨h1, h2⟩) | ⟨h1, h2, h3⟩)
      · exact .inl ⟨h1, h2⟩
      · exact .inr ⟨h1, .inl h2⟩
      · exact .inr ⟨hpm h1 (by omega) (by omega), .inr ⟨h1, by omega, by omega⟩⟩
    · rintro (⟨h1, h2⟩ | ⟨h4, h1 | ⟨h1, h2, h3⟩⟩)
      · exact .inl (.inl ⟨h1, h2⟩)
      · exact .inl (.inr ⟨h4, h1⟩)
      · rcases hps.1 h4 with (h5 | h5) | h5
        · exact .inl (.inl ⟨h5, hqm h1 h2 h3⟩)
        · exact .inr ⟨h1, by omega, by omega⟩
        · have := hab h5; omega
  · intro r hr hi' hj'
    have h1 := hnext2 _ (drop_head hj')
    have := putL_below (l := out) (lo := max p[i].1 q[j].1) (hi := min p[i].2 q[j].2) (B := max p[i].1 q[j + 1].1 - 1) (fun r hr => by have := h.ahead r hr hi hj; omega) (fun _ => by omega) r hr
    omega
theorem MeetInv.done {p q out : List Span} {i j : Nat} (h : MeetInv p q i j out) (hk : p.length ≤ i ∨ q.length ≤ j) : Is out fun x => mem p x ∧ mem q x :=
  ⟨h.plain, fun x => by
    rw [h.set]
    have h1 : mem (p.take i) x → mem p x := fun hm => (mem_split i).2 (.inl hm)
    have h2 : mem (q.take j) x → mem q x := fun hm => (mem_split j).2 (.inl hm)
    rcases hk with hk | hk
    · rw [List.take_of_length_le hk]
      constructor
      · rintro (h | h)
        · exact h
        · exact ⟨h.1, h2 h.2⟩
      · exact .inl
    · rw [List.take_of_length_le (l := q) hk]
      constructor
      · rintro (h | h)
        · exact ⟨h1 h.1, h.2⟩
        · exact h
      · exact .inr⟩

/-- Where the joining loop stands. -/
structure JoinInv (d : List Span) (k : Nat) (out : List Span) : Prop where
  plain : Plain out
  set : ∀ x, mem out x ↔ mem (d.take k) x
  ahead : ∀ r ∈ out, ∀ b ∈ d.drop k, r.1 ≤ b.1
  few : out.length ≤ k
theorem JoinInv.start (d : List Span) : JoinInv d 0 [] := ⟨Plain.nil, fun x => by simp, fun _ h => by (cases h), Nat.le_refl _⟩
def SortedLo (d : List Span) : Prop := d.Pairwise fun a b => a.1 ≤ b.1
theorem SortedLo.at_ {d : List Span} (h : SortedLo d) {k : Nat} (hk : k < d.length) : ∀ b ∈ d.drop (k + 1), d[k].1 ≤ b.1 := by
  have h1 : SortedLo (d.drop k) := List.Pairwise.sublist (List.drop_sublist k d) h
  unfold SortedLo at h1
  rw [List.drop_eq_getElem_cons hk] at h1
  exact (List.pairwise_cons.1 h1).1
theorem JoinInv.more {d out : List Span} {k : Nat} (h : JoinInv d k out) (hs : SortedLo d) (hd : ∀ p ∈ d, Ok p) (hk : k < d.length) (hl : ∀ r, out.getLast? = some r → r.2 + 1 < d[k].1) : JoinInv d (k + 1) (out ++ [d[k]]) := by
  have hok := hd _ (List.getElem_mem hk)
  refine ⟨h.plain.snoc hok ?_, fun x => by rw [mem_append, mem_one, h.set, mem_take_succ hk], ?_, by have := h.few; simp; omega⟩
  · intro q hq
    rcases List.eq_nil_or_concat out with rfl | ⟨o, r, rfl⟩
    · cases hq
    · rw [List.concat_eq_append] at *
      have h1 := hl r (by simp)
      rcases List.mem_append.1 hq with hq | hq
      · have h2 := h.plain.append.2.2 q hq r (List.mem_singleton.2 rfl)
        have h3 := h.plain.2 r (by simp)
        unfold Ok at h3; omega
      · obtain rfl := List.mem_singleton.1 hq; exact h1
  · intro r hr b hb
    rcases List.mem_append.1 hr with hr | hr
    · exact h.ahead r hr b (drop_next hb)
    · obtain rfl := List.mem_singleton.1 hr
      exact hs.at_ hk b hb
theorem JoinInv.done {d out : List Span} {k : Nat} (h : JoinInv d k out) (hk : d.length ≤ k) : Is out (mem d) := ⟨h.plain, fun x => by rw [h.set, List.take_of_length_le hk]⟩

/-- Where the loop that lays the spans stands. -/
structure LayInv (l : List Span) (k : Nat) (out : List Span) : Prop where
  ok : ∀ p ∈ out, Ok p
  set : ∀ x, mem out x ↔ mem (l.take k) x
  few : out.length ≤ k
theorem LayInv.start (l : List Span) : LayInv l 0 [] := ⟨fun _ h => (by cases h), fun x => (by simp), Nat.le_refl _⟩
theorem LayInv.next {l out : List Span} {k : Nat} (h : LayInv l k out) (hk : k < l.length) : LayInv l (k + 1) (putL out l[k].1 l[k].2) :=
  ⟨putL_ok h.ok, fun x => by rw [putL_mem, h.set, mem_take_succ hk], by have := putL_length out l[k].1 l[k].2; have := h.few; omega⟩
/-- Where the moving loop stands. -/
structure MoveInv (p : List Span) (by_ : Int) (k : Nat) (out : List Span) : Prop where
  plain : Plain out
  set : ∀ x, mem out x ↔ Rng x ∧ mem (p.take k) (x - by_)
  ahead : ∀ r ∈ out, ∀ b ∈ p.drop k, r.2 + 1 < b.1 + by_
theorem MoveInv.start (p : List Span) (by_ : Int) : MoveInv p by_ 0 [] := ⟨Plain.nil, fun x => by simp [mem_nil], fun _ h => by (cases h)⟩
theorem MoveInv.next {p out : List Span} {by_ : Int} {k : Nat} (h : MoveInv p by_ k out) (hp : Plain p) (hk : k < p.length) : MoveInv p by_ (k + 1) (putL out (p[k].1 + by_) (p[k].2 + by_)) := by
  obtain ⟨hok, hnext⟩ := hp.at_ hk
  unfold Ok at hok
  refine ⟨putL_plain h.plain fun _ r hr => h.ahead r hr _ (drop_head hk), fun x => ?_, ?_⟩
  · rw [putL_mem, h.set, mem_take_succ hk]
    unfold Rng
    constructor
    · rintro (h1 | h1)
      · exact ⟨h1.1, .inl h1.2⟩
      · exact ⟨h1.1, .inr (by omega)⟩
    · rintro ⟨h1, h2 | h2⟩
      · exact .inl ⟨h1, h2⟩
      · exact .inr (by omega)
  · intro r hr b hb
    have h1 := hnext b hb
    have := putL_below (l := out) (lo := p[k].1 + by_) (hi := p[k].2 + by_) (B := p[k].2 + by_ + 1) (fun r hr => by have := h.ahead r hr _ (drop_head hk); omega) (fun _ => by omega) r hr
    omega
theorem MoveInv.done {p out : List Span} {by_ : Int} {k : Nat} (h : MoveInv p by_ k out) (hk : p.length ≤ k) : Is out fun x => Rng x ∧ mem p (x - by_) := ⟨h.plain, fun x => by rw [h.set, List.take_of_length_le hk]⟩

end Go.Proofs.Ytboaifdkoemnbaa.Sp
/- Parts, plainly: the value of a number, and what becomes of the numbers between two bounds. No function of the program is named here. -/
namespace Go.Proofs.Ytboaifdkoemnbaa.Pa
set_option maxRecDepth 100000
open Go.Proofs.Ytboaifdkoemnbaa.Sp

/-- The bits of a part are right. -/
def Bits (d t u : Int) : Prop := 0 ≤ d ∧ d ≤ 20 ∧ 1 ≤ t ∧ t ≤ 21 ∧ 0 ≤ u ∧ u ≤ 20 ∧ (u = 0 ∨ t ≤ 6)
instance (d t u : Int) : Decidable (Bits d t u) := by unfold Bits; infer_instance
/-- A power of two. -/
def pw (n : Int) : Int := 2 ^ n.toNat
def HasV (d t u x : Int) : Prop := Bits d t u ∧ 0 ≤ x ∧ x ≤ 2097151
instance (d t u x : Int) : Decidable (HasV d t u x) := by unfold HasV; infer_instance
end Go.Proofs.Ytboaifdkoemnbaa.Pa
/- Plain mathematics of minterm: the edges of a set and a family in their order, what is marked behind each, the cells between them, grouped by their marks. No program is named here. -/
namespace Go.Proofs.Ytboaifdkoemnbaa.Mi
set_option maxRecDepth 100000
open Go.Proofs.Ytboaifdkoemnbaa.Sp Classical

def layE (set_ : Int) (p : List Span) : List (Int × Int) := p.flatMap fun r => [(r.1, set_), (r.2 + 1, set_)]
def layF : Int → List (List Span) → List (Int × Int)
  | _, [] => []
  | i, p :: ps => layE i p ++ layF (i + 1) ps

/-- Marks: a byte for eight sets each. -/
def bitOf (bs : List Nat) (s : Nat) : Bool := (bs.getD (s / 8) 0).testBit (s % 8)
def toggle (bs : List Nat) (s : Nat) : List Nat := bs.set (s / 8) (bs.getD (s / 8) 0 ^^^ (1 <<< (s % 8)))
theorem toggle_length (bs : List Nat) (s : Nat) : (toggle bs s).length = bs.length := by simp [toggle]
theorem toggle_bit {bs : List Nat} {s t : Nat} (hs : s / 8 < bs.length) : bitOf (toggle bs s) t = (bitOf bs t ^^ decide (s = t)) := by
  unfold bitOf toggle
  by_cases h : s / 8 = t / 8
  · rw [← h]
    rw [List.getD_eq_getElem?_getD, List.getElem?_set_self hs]
    simp only [Option.getD_some, Nat.testBit_xor, Nat.one_shiftLeft, Nat.testBit_two_pow]
    congr 1
    have : (s % 8 = t % 8) ↔ s = t := ⟨fun e => by omega, fun e => by rw [e]⟩
    simp [this]
  · rw [List.getD_eq_getElem?_getD, List.getElem?_set_ne h, ← List.getD_eq_getElem?_getD]
    have : s ≠ t := fun e => h (by rw [e])
    simp [this]
theorem xor_bit_lt {a k : Nat} (ha : a < 256) (hk : k < 8) : a ^^^ (1 <<< k) < 256 := by
  rw [Nat.one_shiftLeft]
  exact Nat.xor_lt_two_pow (n := 8) ha (Nat.pow_lt_pow_right (by decide) hk)
theorem toggle_small {bs : List Nat} {s : Nat} (h : ∀ b ∈ bs, b < 256) : ∀ b ∈ toggle bs s, b < 256 := by
  intro b hb
  unfold toggle at hb
  rcases List.mem_or_eq_of_mem_set hb with hb | rfl
  · exact h b hb
  · refine xor_bit_lt ?_ (Nat.mod_lt _ (by decide))
    rw [List.getD_eq_getElem?_getD]
    cases hg : bs[s / 8]? with
    | none => simp
    | some v => exact h v (List.mem_of_getElem? hg)
/-- What is marked behind so many edges. -/
def marksAt (m : Nat) (E : List (Int × Int)) : List Nat := E.foldl (fun bs e => toggle bs e.2.toNat) (List.replicate m 0)
theorem marksAt_snoc (m : Nat) (E : List (Int × Int)) (e : Int × Int) : marksAt m (E ++ [e]) = toggle (marksAt m E) e.2.toNat := by simp [marksAt]
def parity (n : Nat) : Bool := n % 2 == 1
theorem parity_add (a b : Nat) : parity (a + b) = (parity a ^^ parity b) := by
  unfold parity
  rcases Nat.mod_two_eq_zero_or_one a with h | h <;> rcases Nat.mod_two_eq_zero_or_one b with k | k <;> simp [h, k, Nat.add_mod]
def In (m : Nat) (E : List (Int × Int)) : Prop := ∀ e ∈ E, 0 ≤ e.2 ∧ e.2.toNat / 8 < m
theorem In.take {m : Nat} {E : List (Int × Int)} (h : In m E) (i : Nat) : In m (E.take i) := fun e he => h e (List.mem_of_mem_take he)
theorem marksAt_bits (m : Nat) (E : List (Int × Int)) (h : In m E) : (marksAt m E).length = m ∧ (∀ b ∈ marksAt m E, b < 256) ∧ ∀ t, bitOf (marksAt m E) t = parity (E.countP fun e => e.2 == (t : Int)) := by
  have key : ∀ (n : Nat) (E : List (Int × Int)), E.length = n → In m E → (marksAt m E).length = m ∧ (∀ b ∈ marksAt m E, b < 256) ∧ ∀ t, bitOf (marksAt m E) t = parity (E.countP fun e => e.2 == (t : Int)) := by
    intro n
    induction n with
    | zero =>
      intro E hl h
      have : E = [] := List.length_eq_zero_iff.1 hl
      subst this
      refine ⟨by simp [marksAt], fun b hb => ?_, fun t => ?_⟩
      · have : b = 0 := by simpa [marksAt] using (List.mem_replicate.1 hb).2
        omega
      · simp only [marksAt, List.foldl_nil, List.countP_nil, parity, bitOf]
        rw [List.getD_eq_getElem?_getD, List.getElem?_replicate]
        split <;> simp
    | succ n ih =>
      intro E hl h
      obtain ⟨E', e, rfl⟩ : ∃ E' e, E = E' ++ [e] := by
        rcases List.eq_nil_or_concat E with rfl | ⟨E', e, rfl⟩
        · simp at hl
        · exact ⟨E', e, by simp⟩
      obtain ⟨h1, h2, h3⟩ := ih E' (by simpa using hl) (fun x hx => h x (List.mem_append.2 (.inl hx)))
      obtain ⟨he0, he1⟩ := h e (List.mem_append.2 (.inr (List.mem_singleton.2 rfl)))
      rw [marksAt_snoc]
      refine ⟨by rw [toggle_length, h1], toggle_small h2, fun t => ?_⟩
      rw [toggle_bit (by omega), h3, List.countP_append, List.countP_singleton, parity_add]
      congr 1
      by_cases ht : e.2 = (t : Int)
      · have : e.2.toNat = t := by omega
        simp [ht, parity]
      · have : e.2.toNat ≠ t := by omega
        simp [ht, this, parity]
  exact key E.length E rfl h
/-- A plain list's edges up to x are odd just if x is in it. -/
theorem edge_parity (s : Int) (x : Int) : ∀ p : List Span, Plain p → parity ((layE s p).countP fun e => decide (e.1 ≤ x)) = decide (mem p x) := by
  intro p
  induction p with
  | nil => intro _; simp [layE, parity, mem_nil]
  | cons q p ih =>
    intro hp
    obtain ⟨hq, hp', hc⟩ := hp.cons
    have hcount : (layE s (q :: p)).countP (fun e => decide (e.1 ≤ x)) = ((if q.1 ≤ x then 1 else 0) + (if q.2 + 1 ≤ x then 1 else 0)) + (layE s p).countP (fun e => decide (e.1 ≤ x)) := by
      simp only [layE, List.flatMap_cons, List.countP_append, List.countP_cons, List.countP_nil]
      simp only [decide_eq_true_eq]
      omega
    rw [hcount, parity_add, ih hp']
    unfold Ok at hq
    have hmc : mem (q :: p) x ↔ (Rng x ∧ q.1 ≤ x ∧ x ≤ q.2) ∨ mem p x := mem_cons
    by_cases h1 : q.1 ≤ x
    · by_cases h2 : q.2 + 1 ≤ x
      · have hmc2 : mem (q :: p) x ↔ mem p x := hmc.trans ⟨fun h => h.resolve_left fun h => by omega, .inr⟩
        have hd : decide (mem (q :: p) x) = decide (mem p x) := decide_eq_decide.2 hmc2
        rw [if_pos h1, if_pos h2, hd]
        simp [parity]
      · have hr : Rng x := ⟨by omega, by omega⟩
        have hn : ¬ mem p x := fun h => by
          obtain ⟨_, r, hr, h3, h4⟩ := h
          have := hc r hr
          omega
        have : Rng x ∧ q.1 ≤ x ∧ x ≤ q.2 := ⟨hr, h1, by omega⟩
        simp [h1, h2, hmc, this, hn, parity]
    · have hmc2 : mem (q :: p) x ↔ mem p x := hmc.trans ⟨fun h => h.resolve_left fun h => h1 h.2.1, .inr⟩
      have h2 : ¬ q.2 + 1 ≤ x := by omega
      have hd : decide (mem (q :: p) x) = decide (mem p x) := decide_eq_decide.2 hmc2
      rw [if_neg h1, if_neg h2, hd]
      simp [parity]
theorem layE_set {s : Int} {p : List Span} : ∀ e ∈ layE s p, e.2 = s := by
  intro e he
  obtain ⟨r, _, hr⟩ := List.mem_flatMap.1 he
  simp at hr
  rcases hr with rfl | rfl <;> rfl
theorem countP_layE_ne {s t : Int} {p : List Span} (h : s ≠ t) (f : Int → Bool) : (layE s p).countP (fun e => e.2 == t && f e.1) = 0 := by
  rw [List.countP_eq_zero]
  intro e he
  have := layE_set e he
  have : ¬ e.2 = t := by omega
  simp [this]
theorem countP_layE_eq {s : Int} {p : List Span} (f : Int → Bool) : (layE s p).countP (fun e => e.2 == s && f e.1) = (layE s p).countP (fun e => f e.1) := by
  refine List.countP_congr fun e he => ?_
  simp [layE_set e he]
/-- The list that the number t stands for. -/
def famAt (p0 : List Span) (ps : List (List Span)) (t : Nat) : List Span := ((p0 :: ps)[t]?).getD []
theorem countP_layF (t : Nat) (f : Int → Bool) : ∀ (ps : List (List Span)) (i : Nat), (layF (i : Int) ps).countP (fun e => e.2 == (t : Int) && f e.1) = if i ≤ t then (layE (t : Int) ((ps[t - i]?).getD [])).countP (fun e => f e.1) else 0 := by
  intro ps
  induction ps with
  | nil => intro i; simp [layF, layE]
  | cons p ps ih =>
    intro i
    have hc : ((i : Int) + 1) = ((i + 1 : Nat) : Int) := by omega
    simp only [layF, List.countP_append, hc, ih]
    by_cases h : i ≤ t
    · by_cases h2 : i = t
      · subst h2
        have hn : ¬ i + 1 ≤ i := by omega
        rw [countP_layE_eq]
        simp [hn]
      · rw [countP_layE_ne (by omega) f]
        have h3 : i + 1 ≤ t := by omega
        rw [if_pos h3, if_pos h, show t - i = (t - (i + 1)) + 1 by omega]
        simp
    · have h3 : ¬ i + 1 ≤ t := by omega
      rw [countP_layE_ne (by omega) f, if_neg h3, if_neg h]
theorem countP_all (p0 : List Span) (ps : List (List Span)) (t : Nat) (f : Int → Bool) : (layE 0 p0 ++ layF 1 ps).countP (fun e => e.2 == (t : Int) && f e.1) = (layE (t : Int) (famAt p0 ps t)).countP (fun e => f e.1) := by
  have := countP_layF t f (p0 :: ps) 0
  simpa [layF, famAt] using this
theorem layF_in (ps : List (List Span)) : ∀ (i : Nat), ∀ e ∈ layF (i : Int) ps, (i : Int) ≤ e.2 ∧ e.2 < i + ps.length := by
  induction ps with
  | nil => intro i e he; simp [layF] at he
  | cons p ps ih =>
    intro i e he
    have hc : ((i : Int) + 1) = ((i + 1 : Nat) : Int) := by omega
    simp only [layF, hc, List.mem_append] at he
    rcases he with he | he
    · have := layE_set e he
      simp only [List.length_cons]
      omega
    · have := ih (i + 1) e he
      simp only [List.length_cons]
      omega
/-- The edges of a set and a family, in their order. -/
structure Edges (p0 : List Span) (ps : List (List Span)) (E : List (Int × Int)) : Prop where
  perm : E.Perm (layE 0 p0 ++ layF 1 ps)
  sorted : SortedLo E
  plain0 : Plain p0
  plain : ∀ p ∈ ps, Plain p
theorem Edges.in_ {p0 : List Span} {ps : List (List Span)} {E : List (Int × Int)} (h : Edges p0 ps E) : In (ps.length / 8 + 1) E := by
  intro e he
  have h1 := layF_in (p0 :: ps) 0 e (by simpa [layF] using h.perm.mem_iff.1 he)
  simp only [List.length_cons] at h1
  omega
theorem Edges.plainAt {p0 : List Span} {ps : List (List Span)} {E : List (Int × Int)} (h : Edges p0 ps E) (t : Nat) : Plain (famAt p0 ps t) := by
  unfold famAt
  cases hg : (p0 :: ps)[t]? with
  | none => exact Plain.nil
  | some v =>
    rcases List.mem_cons.1 (List.mem_of_getElem? hg) with rfl | hv
    · exact h.plain0
    · exact h.plain v hv
/-- Between two edges each number has the marks. -/
theorem Edges.marks {p0 : List Span} {ps : List (List Span)} {E : List (Int × Int)} (h : Edges p0 ps E) (i : Nat) (x : Int) (h1 : ∀ e ∈ E.take i, e.1 ≤ x) (h2 : ∀ e ∈ E.drop i, x < e.1) (t : Nat) : bitOf (marksAt (ps.length / 8 + 1) (E.take i)) t = decide (mem (famAt p0 ps t) x) := by
  rw [(marksAt_bits _ _ (h.in_.take i)).2.2 t, ← edge_parity (t : Int) x _ (h.plainAt t), ← countP_all p0 ps t (fun y => decide (y ≤ x)), ← h.perm.countP_eq]
  conv => rhs; rw [← List.take_append_drop i E]
  rw [List.countP_append]
  congr 1
  have hz : (E.drop i).countP (fun e => e.2 == (t : Int) && decide (e.1 ≤ x)) = 0 := by
    rw [List.countP_eq_zero]
    intro e he
    have := h2 e he
    have : ¬ e.1 ≤ x := by omega
    simp [this]
  rw [hz, Nat.add_zero]
  refine List.countP_congr fun e he => ?_
  simp [h1 e he]
theorem Edges.last {p0 : List Span} {ps : List (List Span)} {E : List (Int × Int)} (h : Edges p0 ps E) : bitOf (marksAt (ps.length / 8 + 1) E) 0 = false := by
  obtain ⟨x, hx⟩ : ∃ x : Int, 1073741824 < x ∧ ∀ e ∈ E, e.1 ≤ x := by
    have : ∀ E : List (Int × Int), ∃ x : Int, 1073741824 < x ∧ ∀ e ∈ E, e.1 ≤ x := by
      intro E
      induction E with
      | nil => exact ⟨1073741825, by omega, fun e he => by cases he⟩
      | cons a E ih =>
        obtain ⟨x, hx0, hx⟩ := ih
        refine ⟨max x a.1, by omega, fun e he => ?_⟩
        rcases List.mem_cons.1 he with rfl | he
        · omega
        · have := hx e he
          omega
    exact this E
  have := h.marks E.length x (fun e he => hx.2 e (List.mem_of_mem_take he)) (fun e he => by simp at he) 0
  rw [List.take_length] at this
  rw [this]
  simp only [decide_eq_false_iff_not]
  rintro ⟨⟨_, h2⟩, _⟩
  omega
end Go.Proofs.Ytboaifdkoemnbaa.Mi
/- Plain mathematics of minterm: the cells between edges grouped by their marks are the blocks of the set, in the order of their least numbers; there is one such list. No program is named here. -/
namespace Go.Proofs.Ytboaifdkoemnbaa.Mi
set_option maxRecDepth 100000
open Go.Proofs.Ytboaifdkoemnbaa.Sp Classical

abbrev Cell := List Nat × Span
abbrev Entry := List Nat × List Span
def placeOf (st : List Entry) (key : List Nat) : Option Nat := st.findIdx? fun e => e.1 == key
def headLo (l : List Span) : Int := (l.head?.map (·.1)).getD 0
structure Grouped (C : List Cell) (st : List Entry) : Prop where
  nodup : st.Pairwise fun a b => a.1 ≠ b.1
  part : ∀ e ∈ st, e.2 = (C.filter fun c => c.1 == e.1).map (·.2) ∧ e.2 ≠ []
  all : ∀ c ∈ C, ∃ e ∈ st, e.1 = c.1
  order : st.Pairwise fun a b => headLo a.2 < headLo b.2
/-- The blocks of a set that a family tells apart. -/
structure IsBlocks (all : List Span) (fam : List (List Span)) (L : List (List Span)) : Prop where
  plain : ∀ l ∈ L, Plain l ∧ l ≠ []
  cover : ∀ x, mem all x ↔ ∃ l ∈ L, mem l x
  alike : ∀ l ∈ L, ∀ r ∈ L, ∀ x y, mem l x → mem r y → (l = r ↔ ∀ s ∈ fam, mem s x ↔ mem s y)
  order : L.Pairwise fun a b => headLo a < headLo b
theorem IsBlocks.congr {all all' : List Span} {fam fam' L : List (List Span)} (h : IsBlocks all fam L) (h1 : ∀ x, mem all x ↔ mem all' x) (h2 : ∀ x y, (∀ s ∈ fam, mem s x ↔ mem s y) ↔ (∀ s ∈ fam', mem s x ↔ mem s y)) : IsBlocks all' fam' L :=
  ⟨h.plain, fun x => (h1 x).symm.trans (h.cover x), fun l hl r hr x y hx hy => (h.alike l hl r hr x y hx hy).trans (h2 x y), h.order⟩

/-- The cell behind an edge. -/
def cellAt (m : Nat) (E : List (Int × Int)) (i : Nat) : Option Cell :=
  match E[i]?, E[i + 1]? with
  | some a, some b => if bitOf (marksAt m (E.take (i + 1))) 0 && a.1 != b.1 then some (marksAt m (E.take (i + 1)), (a.1, b.1 - 1)) else none
  | _, _ => none
variable {p0 : List Span} {ps : List (List Span)} {E : List (Int × Int)}
end Go.Proofs.Ytboaifdkoemnbaa.Mi
