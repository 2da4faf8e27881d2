/- slices.Clone of parts; the box of a term that is stored into, with what may be written there. -/
import Derived.Test.YtmcgapejebceoaaTePut
import Derived.OwnWalk
import Derived.Deep.RegionHeld3
namespace Go.Proofs.Ytmcgapejebceoaa.Te
set_option maxRecDepth 100000
open Go Go.RowKit Go.Proofs.Ytmcgapejebceoaa.Sp Go.Proofs.Ytmcgapejebceoaa.Pa

theorem below_next {w W W' : World} (h1 : Below w.heap.size w W) (h2 : Below W.heap.size W W') : Below w.heap.size w W' := h1.trans (h2.mono h1.size)
theorem below_al {w W : World} (h1 : Below w.heap.size w W) (o : Obj) : Below w.heap.size w (W.alloc o) := h1.alloc h1.size o

abbrev encP (p : PT) : List Value := [.int .i64 p.1, .int .i64 p.2.1, .int .i64 p.2.2.1, .int .i64 p.2.2.2]
def flatP (l : List PT) : List Value := l.flatMap encP
theorem flatP_cons (p : PT) (l : List PT) : flatP (p :: l) = .int .i64 p.1 :: .int .i64 p.2.1 :: .int .i64 p.2.2.1 :: .int .i64 p.2.2.2 :: flatP l := rfl
theorem flatP_length (l : List PT) : (flatP l).length = l.length * 4 := by
  induction l with
  | nil => rfl
  | cons p l ih => rw [flatP_cons]; simp only [List.length_cons]; omega
theorem flatP_append (l r : List PT) : flatP (l ++ r) = flatP l ++ flatP r := List.flatMap_append
theorem flatP_at : ∀ (l : List PT) (j : Nat) (h : j < l.length), (flatP l)[4 * j]? = some (.int .i64 l[j].1) ∧ (flatP l)[4 * j + 1]? = some (.int .i64 l[j].2.1) ∧ (flatP l)[4 * j + 2]? = some (.int .i64 l[j].2.2.1) ∧ (flatP l)[4 * j + 3]? = some (.int .i64 l[j].2.2.2) := by
  intro l
  induction l with
  | nil => intro j h; simp at h
  | cons p l ih =>
    intro j h
    cases j with
    | zero => exact ⟨rfl, rfl, rfl, rfl⟩
    | succ j =>
      have := ih j (by simpa using h)
      rw [flatP_cons]
      rw [show 4 * (j + 1) = 4 * j + 1 + 1 + 1 + 1 from by omega]
      simpa using this
theorem flatP_one (l : List PT) : ∀ u ∈ flatP l, u.oneCell' = true := by
  intro u hu
  obtain ⟨p, _, hp⟩ := List.mem_flatMap.1 hu
  simp [encP] at hp
  rcases hp with rfl | rfl | rfl | rfl <;> rfl
theorem RP_news {w : World} {B n : Nat} {ad : Addr} {l : List PT} (h : RP w B (some ad) n l) : ∀ j u, (flatP l)[j]? = some u → w.cell? (ad.add j) = some u := by
  intro j u hu
  have hj : j < l.length * 4 := by
    rcases Nat.lt_or_ge j (l.length * 4) with h1 | h1
    · exact h1
    · rw [List.getElem?_eq_none (by rw [flatP_length]; exact h1)] at hu; cases hu
  obtain ⟨b, off, hA, _, hc⟩ := h.2 (by rw [← h.1]; omega)
  injection hA with hA
  subst hA
  have h1 : j / 4 < l.length := by omega
  obtain ⟨a0, a1, a2, a3⟩ := flatP_at l (j / 4) h1
  obtain ⟨c0, c1, c2, c3⟩ := hc (j / 4) h1
  rw [Go.WideShapes.add_plain]
  rcases (show j = 4 * (j / 4) ∨ j = 4 * (j / 4) + 1 ∨ j = 4 * (j / 4) + 2 ∨ j = 4 * (j / 4) + 3 from by omega) with e | e | e | e
  · rw [e, a0] at hu
    rw [show off + j = off + j / 4 * 4 from by omega, c0]; exact hu
  · rw [e, a1] at hu
    rw [show off + j = off + j / 4 * 4 + 1 from by omega, c1]; exact hu
  · rw [e, a2] at hu
    rw [show off + j = off + j / 4 * 4 + 2 from by omega, c2]; exact hu
  · rw [e, a3] at hu
    rw [show off + j = off + j / 4 * 4 + 3 from by omega, c3]; exact hu
def OwnsP (w : World) (base : Nat) (v : Value) (l : List PT) : Prop := w.ownsRow base 33 4 v l.length (flatP l)
theorem infoPart : (Try.prog.info? 33).map (fun i => (i.zero, i.size, i.bytes)) = some (some (.agg #[.int .i64 0, .int .i64 0, .int .i64 0, .int .i64 0]), 4, 32) := by kernel_rfl
theorem own_RP {w : World} {base : Nat} {v : Value} {l : List PT} (h : OwnsP w base v l) : ∃ A c, v = .slice A l.length c ∧ RP w w.heap.size A l.length l ∧ l.length ≤ c ∧ ∀ b off, A = some ⟨b, off, none⟩ → base ≤ b := by
  have h0 := h
  obtain ⟨h1, h2⟩ := h
  rcases h2 with ⟨hv, hn⟩ | ⟨g, cap, cur, hv, hb, hr⟩
  · obtain rfl : l = [] := List.eq_nil_of_length_eq_zero hn
    exact ⟨none, 0, hv, RP.nil_ _ _ _, Nat.le_refl _, fun _ _ e => by cases e⟩
  · subst hv
    refine ⟨some ⟨g, 0, none⟩, cap, rfl, ⟨rfl, fun hn => ?_⟩, hr.2.1, fun b off e => by injection e with e; injection e with e _ _; omega⟩
    refine ⟨g, 0, rfl, (World.ownsRow.lt h0 g rfl).2, fun j hj => ?_⟩
    obtain ⟨a0, a1, a2, a3⟩ := flatP_at l j hj
    have c0 := World.ownsRow.cells h0 (g := g) rfl (4 * j) _ a0
    have c1 := World.ownsRow.cells h0 (g := g) rfl (4 * j + 1) _ a1
    have c2 := World.ownsRow.cells h0 (g := g) rfl (4 * j + 2) _ a2
    have c3 := World.ownsRow.cells h0 (g := g) rfl (4 * j + 3) _ a3
    rw [Go.WideShapes.add_plain] at c0 c1 c2 c3
    simp only [Nat.zero_add] at *
    rw [show j * 4 = 4 * j from by omega]
    exact ⟨c0, c1, c2, c3⟩
def CloneOut (l : List PT) (w : World) (e : Ending) (w' : World) : Prop := ∃ A c, e = .returned (.slice A l.length c) ∧ RP w' w'.heap.size A l.length l ∧ Below w.heap.size w w' ∧ ∀ b off, A = some ⟨b, off, none⟩ → w.heap.size ≤ b
set_option maxHeartbeats 400000 in
theorem clone_any (A : Option Addr) (c : Nat) (l : List PT) (w : World) (h : RP w w.heap.size A l.length l) (hn : l.length ≤ 20) :
    Calls Try.prog 47 #[.slice A l.length c] w (CloneOut l w) := by
  have q := part_nil
  rcases A with _ | ad
  · have hl : l = [] := by
      rcases l with _ | ⟨p, l⟩
      · rfl
      · obtain ⟨b, off, hA, _⟩ := h.2 (by simp)
        cases hA
    subst hl
    simp only [List.length_nil]
    go_enter Try.func47, Try.ntmps47
    go_wp2_with (fail)
    go_ret
    exact ⟨none, 0, rfl, RP.nil_ _ _ _, Below.refl _ _, fun _ _ e => by cases e⟩
  · obtain ⟨i0, hi0, hz0, hz1, hz2⟩ := info_parts infoPart
    have hown0 := Lib.hid (World.ownsRow_made (e := 33) (size := 4) w #[] 0 (Nat.le_refl w.heap.size) (by unfold maxLen; omega) rfl)
    have HR := Lib.hid ((h.below ((Below.refl w.heap.size w).alloc (Nat.le_refl _) (.cells #[] 33)))); clear h
    go_enter Try.func47, Try.ntmps47
    go_wp2_with (at_builtin; go_must (refine wpList_append_own _ rfl _ _ 22 rfl w.heap.size 33 i0 _ 4 32 Try.underlying22 hi0 hz0 hz1 hz2 rfl (by decide) _ 0 [] rfl hown0.out ad l.length c (flatP l) rfl (flatP_length l) (RP_news HR.out) (flatP_one l) ?c3 ?c4 ?c5 ?_))
    case c3 => simp only [maxLen]; omega
    case c4 => omega
    case c5 => simp only [World.size_alloc]; omega
    intro v1 w1 hown1 hg1 _
    have ho : OwnsP w1 w.heap.size v1 l := by
      unfold OwnsP
      simpa using hown1
    have HB := Lib.hid (((Below.refl w.heap.size w).alloc (Nat.le_refl _) (.cells #[] 33)).grown hg1 (by simp) (fun k hk => (World.ownsRow.lt hown0.out k hk).1))
    obtain ⟨A1, c1, hv, hrs, hc1, hfr⟩ := own_RP ho
    subst hv
    have HR1 := Lib.hid hrs
    clear hown1 hg1 ho hrs
    go_wp2_with (fail)
    go_ret
    exact ⟨A1, c1, rfl, HR1.out, HB.out, hfr⟩

/-- Written was to block g alone. -/
def FarB (W W' : World) (g : Nat) : Prop := (∀ p : Addr, p.block ≠ g → W'.cell? p = W.cell? p ∧ W'.frozen? p = W.frozen? p) ∧ W'.heap.size = W.heap.size
theorem FarB.refl (W : World) (g : Nat) : FarB W W g := ⟨fun _ _ => ⟨rfl, rfl⟩, rfl⟩
theorem FarB.set {W W' : World} {g i : Nat} (h : FarB W W' g) (v : Value) : FarB W (W'.setCell ⟨g, i, none⟩ v) g :=
  ⟨fun p hp => ⟨(World.cell?_setCell_far _ _ _ _ (Ne.symm hp)).trans (h.1 p hp).1, (by simp : _ = W'.frozen? p).trans (h.1 p hp).2⟩, (by simp : _ = W'.heap.size).trans h.2⟩
theorem RP.far {W W' : World} {B n g : Nat} {A : Option Addr} {l : List PT} (h : RP W B A n l) (hf : FarB W W' g) (hA : ∀ b off, A = some ⟨b, off, none⟩ → b ≠ g) : RP W' B A n l :=
  ⟨h.1, fun hn => by
    obtain ⟨b, off, e, hb, hc⟩ := h.2 hn
    have k : ∀ i, W'.cell? ⟨b, i, none⟩ = W.cell? ⟨b, i, none⟩ := fun i => (hf.1 ⟨b, i, none⟩ (hA b off e)).1
    exact ⟨b, off, e, hb, fun j hj => ⟨(k _).trans (hc j hj).1, (k _).trans (hc j hj).2.1, (k _).trans (hc j hj).2.2.1, (k _).trans (hc j hj).2.2.2⟩⟩⟩
/-- A box of a term, that may be written. -/
def BoxF (W : World) (g : Nat) (b d t u s : Int) (A : Option Addr) (n c : Nat) : Prop := Boxed6 W g b d t u s A n c ∧ ∀ i, i < 6 → W.frozen? ⟨g, i, none⟩ = false
section
variable {W W' w : World} {g B : Nat} {b d t u s : Int} {A : Option Addr} {n c : Nat} {ty : TypeId}
theorem BoxF.new (w : World) (b d t u s : Int) (A : Option Addr) (n c : Nat) (ty : TypeId) : BoxF (w.alloc (.cells (tcells b d t u s A n c) ty)) w.heap.size b d t u s A n c := ⟨boxed6 (Below.refl _ _), fun i hi => by simp⟩
theorem BoxF.keep (h : BoxF W g b d t u s A n c) (hb : Below B W W') (hg : g < B) : BoxF W' g b d t u s A n c := by
  obtain ⟨⟨h0, h1, h2, h3, h4, h5⟩, hf⟩ := h
  exact ⟨⟨(hb.cell hg).trans h0, (hb.cell hg).trans h1, (hb.cell hg).trans h2, (hb.cell hg).trans h3, (hb.cell hg).trans h4, (hb.cell hg).trans h5⟩, fun i hi => (hb.frozen (p := ⟨g, i, none⟩) hg).trans (hf i hi)⟩
theorem set_frozen (W : World) (p a : Addr) (v : Value) : (W.setCell p v).frozen? a = W.frozen? a := by simp
theorem BoxF.store6 (h : BoxF W g b d t u s A n c) (b' d' t' u' s' : Int) (A' : Option Addr) (n' c' : Nat) :
    ∃ w5, ((((((W.setCell ⟨g, 0, none⟩ (.int .i64 b')).setCell ⟨g, 1, none⟩ (.int .i64 d')).setCell ⟨g, 2, none⟩ (.int .i64 t')).setCell ⟨g, 3, none⟩ (.int .i64 u')).setCell ⟨g, 4, none⟩ (.int .i64 s')).setCell ⟨g, 5, none⟩ (.slice A' n' c')) = w5 ∧ BoxF w5 g b' d' t' u' s' A' n' c' ∧ (∀ B, B ≤ g → Below B W w5) ∧ FarB W w5 g := by
  obtain ⟨⟨g0, g1, g2, g3, g4, g5⟩, hf⟩ := h
  refine ⟨_, rfl, ⟨⟨?_, ?_, ?_, ?_, ?_, ?_⟩, fun i hi => ?_⟩, fun B hB => (((((((Below.refl _ _).setCell (by simpa using hB) _).setCell (by simpa using hB) _).setCell (by simpa using hB) _).setCell (by simpa using hB) _).setCell (by simpa using hB) _).setCell (by simpa using hB) _), ((((((FarB.refl _ _).set _).set _).set _).set _).set _).set _⟩
  case refine_7 => simp only [set_frozen]; exact hf i hi
  all_goals simp [go_sem, g0, g1, g2, g3, g4, g5]
theorem BoxF.store5 (h : BoxF W g b d t u s A n c) (A' : Option Addr) (n' c' : Nat) : ∃ w5, W.setCell ⟨g, 5, none⟩ (.slice A' n' c') = w5 ∧ BoxF w5 g b d t u s A' n' c' ∧ (∀ B, B ≤ g → Below B W w5) ∧ FarB W w5 g := by
  obtain ⟨⟨g0, g1, g2, g3, g4, g5⟩, hf⟩ := h
  refine ⟨_, rfl, ⟨⟨?_, ?_, ?_, ?_, ?_, ?_⟩, fun i hi => ?_⟩, fun B hB => (Below.refl _ _).setCell (by simpa using hB) _, (FarB.refl _ _).set _⟩
  case refine_7 => simp only [set_frozen]; exact hf i hi
  all_goals simp [go_sem, g0, g1, g2, g3, g4, g5]
theorem BoxF.store4 (h : BoxF W g b d t u s A n c) (s' : Int) : ∃ w5, W.setCell ⟨g, 4, none⟩ (.int .i64 s') = w5 ∧ BoxF w5 g b d t u s' A n c ∧ (∀ B, B ≤ g → Below B W w5) ∧ FarB W w5 g := by
  obtain ⟨⟨g0, g1, g2, g3, g4, g5⟩, hf⟩ := h
  refine ⟨_, rfl, ⟨⟨?_, ?_, ?_, ?_, ?_, ?_⟩, fun i hi => ?_⟩, fun B hB => (Below.refl _ _).setCell (by simpa using hB) _, (FarB.refl _ _).set _⟩
  case refine_7 => simp only [set_frozen]; exact hf i hi
  all_goals simp [go_sem, g0, g1, g2, g3, g4, g5]
theorem BoxF.store0 (h : BoxF W g b d t u s A n c) (b' : Int) : ∃ w5, W.setCell ⟨g, 0, none⟩ (.int .i64 b') = w5 ∧ BoxF w5 g b' d t u s A n c ∧ (∀ B, B ≤ g → Below B W w5) ∧ FarB W w5 g := by
  obtain ⟨⟨g0, g1, g2, g3, g4, g5⟩, hf⟩ := h
  refine ⟨_, rfl, ⟨⟨?_, ?_, ?_, ?_, ?_, ?_⟩, fun i hi => ?_⟩, fun B hB => (Below.refl _ _).setCell (by simpa using hB) _, (FarB.refl _ _).set _⟩
  case refine_7 => simp only [set_frozen]; exact hf i hi
  all_goals simp [go_sem, g0, g1, g2, g3, g4, g5]
/-- A store into one box leaves another one as it is. -/
theorem BoxF.far (h : BoxF W g b d t u s A n c) {g' : Nat} (hw : FarB W W' g') (hne : g ≠ g') : BoxF W' g b d t u s A n c := by
  obtain ⟨⟨h0, h1, h2, h3, h4, h5⟩, hf⟩ := h
  have k := fun i => hw.1 ⟨g, i, none⟩ hne
  exact ⟨⟨(k 0).1.trans h0, (k 1).1.trans h1, (k 2).1.trans h2, (k 3).1.trans h3, (k 4).1.trans h4, (k 5).1.trans h5⟩, fun i hi => (k i).2.trans (hf i hi)⟩
end
end Go.Proofs.Ytmcgapejebceoaa.Te
