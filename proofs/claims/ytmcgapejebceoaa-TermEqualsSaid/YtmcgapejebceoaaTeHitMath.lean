/- The plain mathematics of the symbols of a stretch whose values are in a set. No walk. -/
import Derived.Test.YtmcgapejebceoaaTeStr
import Derived.Test.YtmcgapejebceoaaSpMath
namespace Go.Proofs.Ytmcgapejebceoaa.Te
open Go Go.RowKit Go.Proofs.Ytmcgapejebceoaa.Sp Go.Proofs.Ytmcgapejebceoaa.Pa

/-- Not more spans than a list has that tells the set piece by piece. -/
theorem cnt_le : ∀ (out L : List Span), Plain out → (∀ x, mem out x → ∃ p ∈ L, p.1 ≤ x ∧ x ≤ p.2) → (∀ p ∈ L, ∀ x y z, p.1 ≤ x → x ≤ y → y ≤ z → z ≤ p.2 → mem out x → mem out z → mem out y) → out.length ≤ L.length
  | [], _, _, _, _ => Nat.zero_le _
  | q :: out, L, hp, h1, h2 => by
    obtain ⟨hq, hp', hgap⟩ := hp.cons
    have hq1 : mem (q :: out) q.1 := ⟨by have := hq.2.1; have := hq.2.2; have := hq.1; unfold Rng; omega, q, List.mem_cons_self .., Int.le_refl _, hq.1⟩
    obtain ⟨p, hpL, hp1, hp2⟩ := h1 _ hq1
    have hno : ¬ mem (q :: out) (q.2 + 1) := by
      rintro ⟨_, r, hr, hr1, hr2⟩
      rcases List.mem_cons.1 hr with rfl | hr
      · omega
      · have := hgap r hr; omega
    have hge : ∀ x, mem out x → q.2 + 1 < x := fun x ⟨_, r, hr, hr1, _⟩ => by have := hgap r hr; omega
    have hfar : ∀ x, mem out x → ¬ (p.1 ≤ x ∧ x ≤ p.2) := fun x hx hc => by
      have hx' : mem (q :: out) x := ⟨hx.1, by obtain ⟨_, r, hr, hh⟩ := hx; exact ⟨r, List.mem_cons_of_mem _ hr, hh⟩⟩
      exact hno (h2 p hpL q.1 (q.2 + 1) x hp1 (by have := hq.1; omega) (by have := hge x hx; omega) hc.2 hq1 hx')
    have := cnt_le out (L.erase p) hp' (fun x hx => by
      obtain ⟨p', hp'L, hh⟩ := h1 x ⟨hx.1, by obtain ⟨_, r, hr, hh⟩ := hx; exact ⟨r, List.mem_cons_of_mem _ hr, hh⟩⟩
      have hne : p' ≠ p := fun e => hfar x hx (by rw [← e]; exact hh)
      exact ⟨p', (List.mem_erase_of_ne hne).2 hp'L, hh⟩) (fun p' hp'L x y z a1 a2 a3 a4 hx hz => by
      have hx' : mem (q :: out) x := ⟨hx.1, by obtain ⟨_, r, hr, hh⟩ := hx; exact ⟨r, List.mem_cons_of_mem _ hr, hh⟩⟩
      have hz' : mem (q :: out) z := ⟨hz.1, by obtain ⟨_, r, hr, hh⟩ := hz; exact ⟨r, List.mem_cons_of_mem _ hr, hh⟩⟩
      have hy := h2 p' (List.mem_of_mem_erase hp'L) x y z a1 a2 a3 a4 hx' hz'
      obtain ⟨hr, r, hr0, hr1, hr2⟩ := hy
      rcases List.mem_cons.1 hr0 with rfl | hr0
      · have := hge x hx; omega
      · exact ⟨hr, r, hr0, hr1, hr2⟩)
    rw [List.length_erase_of_mem hpL] at this
    have hpos : 0 < L.length := List.length_pos_of_mem hpL
    simp only [List.length_cons]
    omega
theorem norm_few {W g : List Span} (h : Is W (mem g)) : W.length ≤ g.length :=
  cnt_le W g h.1 (fun x hx => ((h.2 x).1 hx).2) (fun p hp x y z a1 a2 a3 a4 hx hz => (h.2 y).2 ⟨by have := hx.1; have := hz.1; unfold Rng at *; omega, p, hp, by omega, by omega⟩)
theorem meet_few {m W : List Span} {v hi : Int} (h : Is m (fun z => mem W z ∧ mem [(v, hi)] z)) : m.length ≤ W.length :=
  cnt_le m W h.1 (fun x hx => ((h.2 x).1 hx).1.2) (fun p hp x y z a1 a2 a3 a4 hx hz => (h.2 y).2 (by
    obtain ⟨x1, x2⟩ := (h.2 x).1 hx
    obtain ⟨z1, z2⟩ := (h.2 z).1 hz
    have hy : Rng y := by have := x1.1; have := z1.1; unfold Rng at *; omega
    obtain ⟨_, q, hq, q1, q2⟩ := x2
    obtain ⟨_, r, hr, r1, r2⟩ := z2
    rw [List.mem_singleton] at hq hr
    subst hq hr
    exact ⟨⟨hy, p, hp, by omega, by omega⟩, hy, _, List.mem_singleton.2 rfl, by omega, by omega⟩))
def inL (l : List Span) (y : Int) : Prop := ∃ p ∈ l, p.1 ≤ y ∧ y ≤ p.2
theorem inL_append {l r : List Span} {y : Int} : inL (l ++ r) y ↔ inL l y ∨ inL r y := by
  unfold inL
  constructor
  · rintro ⟨p, hp, h⟩
    rcases List.mem_append.1 hp with hp | hp
    · exact .inl ⟨p, hp, h⟩
    · exact .inr ⟨p, hp, h⟩
  · rintro (⟨p, hp, h⟩ | ⟨p, hp, h⟩)
    · exact ⟨p, List.mem_append_left _ hp, h⟩
    · exact ⟨p, List.mem_append_right _ hp, h⟩
theorem inL_nil {y : Int} : ¬ inL [] y := fun ⟨_, h, _⟩ => by cases h
theorem inL_one {a b y : Int} : inL [(a, b)] y ↔ a ≤ y ∧ y ≤ b := by
  unfold inL
  simp
def HitSpec (g : List Span) (last : Int) (has : Bool) (v gr x : Int) (new : List Span) : Prop := ∀ y, inL new y ↔ (x ≤ y ∧ y ≤ last ∧ has = true ∧ mem g (wrap64 (v + gr * (y - x))))
theorem hit_no {g : List Span} {last v gr x : Int} : HitSpec g last false v gr x [] := fun y => ⟨fun h => absurd h inL_nil, fun h => by have := h.2.2.1; cases this⟩
theorem hit_flat {g : List Span} {last v x : Int} (hv : R64 v) (hm : mem g v) : HitSpec g last true v 0 x [(x, last)] := fun y => by
  rw [inL_one, Int.zero_mul, Int.add_zero, IntWalk.wrap64_in _ hv]
  exact ⟨fun h => ⟨h.1, h.2, rfl, hm⟩, fun h => ⟨h.1, h.2.1⟩⟩
theorem hit_flat0 {g : List Span} {last v x : Int} (hv : R64 v) (hm : ¬ mem g v) : HitSpec g last true v 0 x [] := fun y => by
  rw [Int.zero_mul, Int.add_zero, IntWalk.wrap64_in _ hv]
  exact ⟨fun h => absurd h inL_nil, fun h => absurd h.2.2.2 hm⟩
def hitF (v gr x : Int) (p : Span) : Span := (x + (p.1 - v + gr - 1) / gr, x + (p.2 - v) / gr)
theorem hitF_in {v gr x y : Int} {p : Span} (hg : 0 < gr) : ((hitF v gr x p).1 ≤ y ∧ y ≤ (hitF v gr x p).2) ↔ (p.1 ≤ v + gr * (y - x) ∧ v + gr * (y - x) ≤ p.2) := by
  unfold hitF
  have e1 : (p.1 - v + gr - 1) / gr < y - x + 1 ↔ p.1 - v + gr - 1 < (y - x + 1) * gr := Int.ediv_lt_iff_lt_mul hg
  have e2 : y - x ≤ (p.2 - v) / gr ↔ (y - x) * gr ≤ p.2 - v := Int.le_ediv_iff_mul_le hg
  rw [Int.add_mul, Int.one_mul, Int.mul_comm] at e1
  rw [Int.mul_comm] at e2
  dsimp only
  omega
theorem hit_grow {g W m : List Span} {last v gr x : Int} (hW : Is W (mem g)) (hm : Is m (fun z => mem W z ∧ mem [(v, wrap64 (v + gr * (last - x)))] z)) (hg : 0 < gr) (hv : R64 v) (hx : x ≤ last) (hP : gr * (last - x) ≤ 66060288) : HitSpec g last true v gr x (m.map (hitF v gr x)) := by
  have hP0 : 0 ≤ gr * (last - x) := Int.mul_nonneg (by omega) (by omega)
  intro y
  have key : inL (m.map (hitF v gr x)) y ↔ mem m (v + gr * (y - x)) := by
    constructor
    · rintro ⟨q, hq, h⟩
      obtain ⟨p, hp, rfl⟩ := List.mem_map.1 hq
      have h2 := (hitF_in hg).1 h
      have hok := hm.1.2 p hp
      exact ⟨by have := hok.2.1; have := hok.2.2; unfold Rng; omega, p, hp, h2.1, h2.2⟩
    · rintro ⟨_, p, hp, h⟩
      exact ⟨hitF v gr x p, List.mem_map.2 ⟨p, hp, rfl⟩, (hitF_in hg).2 h⟩
  rw [key, hm.2]
  dsimp only
  have hone : ∀ z, mem [(v, wrap64 (v + gr * (last - x)))] z ↔ Rng z ∧ v ≤ z ∧ z ≤ wrap64 (v + gr * (last - x)) := fun z => by
    unfold mem
    simp
  rw [hone, hW.2]
  unfold R64 at hv
  -- the step's product against the whole's
  have hmono : (x ≤ y ∧ y ≤ last) ↔ (0 ≤ gr * (y - x) ∧ gr * (y - x) ≤ gr * (last - x)) := by
    constructor
    · rintro ⟨a, b⟩
      exact ⟨Int.mul_nonneg (by omega) (by omega), Int.mul_le_mul_of_nonneg_left (by omega) (by omega)⟩
    · rintro ⟨a, b⟩
      constructor
      · have := Int.nonneg_of_mul_nonneg_right (a := gr) (b := y - x) a hg
        omega
      · have := Int.le_of_mul_le_mul_left b hg
        omega
  generalize gr * (last - x) = P at *
  generalize gr * (y - x) = K at *
  by_cases hov : v + P ≤ 9223372036854775807
  · rw [IntWalk.wrap64_in (v + P) (by omega)]
    constructor
    · rintro ⟨h1, h2, h3, h4⟩
      have hr := h1.1
      unfold Rng at hr
      have := hmono.2 ⟨by omega, by omega⟩
      refine ⟨this.1, this.2, rfl, ?_⟩
      rw [IntWalk.wrap64_in (v + K) (by omega)]
      exact h1
    · rintro ⟨h1, h2, _, h4⟩
      have := hmono.1 ⟨h1, h2⟩
      rw [IntWalk.wrap64_in (v + K) (by omega)] at h4
      exact ⟨h4, h4.1, by omega, by omega⟩
  · constructor
    · rintro ⟨h1, h2, h3, h4⟩
      have hr := h1.1
      unfold Rng at hr
      unfold wrap64 at h4
      omega
    · rintro ⟨h1, h2, _, h4⟩
      have := hmono.1 ⟨h1, h2⟩
      have hr := h4.1
      unfold Rng wrap64 at hr
      omega
/-- What a piece of the meeting lies in. -/
theorem meet_piece {W m : List Span} {v hi : Int} {p : Span} (hm : Is m (fun z => mem W z ∧ mem [(v, hi)] z)) (hp : p ∈ m) : v ≤ p.1 ∧ p.1 ≤ p.2 ∧ p.2 ≤ hi ∧ -1073741824 ≤ p.1 ∧ p.2 ≤ 1073741824 := by
  have hok := hm.1.2 p hp
  obtain ⟨h1, h2, h3⟩ := hok
  have a := ((hm.2 p.1).1 ⟨by unfold Rng; omega, p, hp, Int.le_refl _, h1⟩).2
  have b := ((hm.2 p.2).1 ⟨by unfold Rng; omega, p, hp, h1, Int.le_refl _⟩).2
  have e : ∀ z, mem [(v, hi)] z → v ≤ z ∧ z ≤ hi := fun z hz => by
    obtain ⟨_, q, hq, q1, q2⟩ := hz
    rw [List.mem_singleton] at hq
    subst hq
    exact ⟨q1, q2⟩
  have a' := e _ a
  have b' := e _ b
  omega
end Go.Proofs.Ytmcgapejebceoaa.Te
