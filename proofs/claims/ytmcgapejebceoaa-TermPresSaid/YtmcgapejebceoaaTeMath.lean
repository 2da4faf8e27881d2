/- The plain mathematics of P4.6: what Put and Bind make has the value that was told. No walk. -/
import Derived.Test.YtmcgapejebceoaaTePuts
import Derived.Test.YtmcgapejebceoaaTeVal
import Derived.IntWalk
namespace Go.Proofs.Ytmcgapejebceoaa.Te
open Go Go.RowKit Go.Proofs.Ytmcgapejebceoaa.Sp Go.Proofs.Ytmcgapejebceoaa.Pa

def R64 (x : Int) : Prop := -9223372036854775808 ≤ x ∧ x ≤ 9223372036854775807
theorem wrap_R (x : Int) : R64 (wrap64 x) := by unfold R64 wrap64; omega
def sumT (xs : List Int) : List PT → Int
  | [] => 0
  | q :: l => valI q.2.1 q.2.2.1 q.2.2.2 (atI xs q.1) + sumT xs l
theorem sumT_append (xs : List Int) (l r : List PT) : sumT xs (l ++ r) = sumT xs l + sumT xs r := by
  induction l with
  | nil => simp [sumT]
  | cons q l ih => simp only [List.cons_append, sumT, ih]; omega
theorem inner_sum (xs : List Int) (l : List PT) : ∀ s, R64 s → innerT xs s l = wrap64 (s + sumT xs l) := by
  induction l with
  | nil =>
    intro s hs
    show s = wrap64 (s + 0)
    rw [Int.add_zero, IntWalk.wrap64_in _ hs]
  | cons q l ih =>
    intro s hs
    show innerT xs (wrap64 (s + valI q.2.1 q.2.2.1 q.2.2.2 (atI xs q.1))) l = wrap64 (s + (valI q.2.1 q.2.2.1 q.2.2.2 (atI xs q.1) + sumT xs l))
    rw [ih _ (wrap_R _)]
    unfold wrap64
    omega
theorem val_all {x : Int} (h : 0 ≤ x ∧ x ≤ 2097151) : valI 0 21 0 x = x := by
  unfold valI
  rw [pw_zero, pw21]
  omega
theorem sy_val {x : Int} (h : Sy x) : valI 0 21 0 x = x := val_all (by unfold Sy at h; omega)
theorem sm_R {x : Int} (h : Sm x) : R64 x := by unfold Sm at h; unfold R64; omega
theorem sy_R {x : Int} (h : Sy x) : R64 x := by unfold Sy at h; unfold R64; omega
theorem plain_eq {b d t u : Int} (h : plainT b d t u = true) : b = 0 ∧ d = 0 ∧ t = 21 ∧ u = 0 := by
  simpa [plainT] using h
theorem whole_true {b d t u x v : Int} (h : wholeT b d t u x = (v, true)) : Sy x ∧ Bits d t u ∧ v = wrap64 (b + valI d t u x) := by
  unfold wholeT at h
  split at h
  · rename_i hc
    injection h with h1 _
    exact ⟨hc.1, hc.2, h1.symm⟩
  · injection h with _ h2
    cases h2
theorem whole_plain {x v : Int} (h : wholeT 0 0 21 0 x = (v, true)) : Sy x ∧ v = x := by
  obtain ⟨h1, _, h3⟩ := whole_true h
  refine ⟨h1, ?_⟩
  rw [sy_val h1, Int.zero_add, IntWalk.wrap64_in _ (sy_R h1)] at h3
  exact h3
theorem value_true {b d t u s v : Int} {l : List PT} {xs : List Int} (h : valueT b d t u s l xs = (v, true)) : symB xs = true ∧ partsB xs.length l = true ∧ wholeT b d t u (innerT xs s l) = (v, true) := by
  unfold valueT at h
  split at h
  · rename_i hc
    exact ⟨hc.1, hc.2, h⟩
  · injection h with _ h2
    cases h2
theorem value_at {b d t u s : Int} {l : List PT} {xs : List Int} {q : Int × Bool} (h1 : symB xs = true) (h2 : partsB xs.length l = true) (h3 : wholeT b d t u (innerT xs s l) = q) : valueT b d t u s l xs = q := by
  unfold valueT
  rw [if_pos ⟨h1, h2⟩, h3]
theorem add_true {a b v : Int} (h : addT a b = (v, true)) : Sm a ∧ Sm b ∧ v = a + b ∧ Sm v := by
  unfold addT at h
  split at h
  · rename_i hc
    injection h with h1 _
    exact ⟨hc.1, hc.2.1, h1.symm, h1 ▸ hc.2.2⟩
  · injection h with _ h2
    cases h2
theorem put_value (x y : TB) (xs : List Int) (v z : Int) (hs : R64 y.s) (hok : (putT x y).ok = true) (hv : valueT y.b y.d y.t y.u y.s y.l xs = (v, true)) (_hS : Sy v) (hz : valueT x.b x.d x.t x.u x.s x.l [v] = (z, true)) :
    valueT (putT x y).b (putT x y).d (putT x y).t (putT x y).u (putT x y).s (putT x y).l xs = (z, true) := by
  obtain ⟨a1, a2, a3⟩ := value_true hv
  obtain ⟨c1, c2, c3⟩ := value_true hz
  obtain ⟨xb, xd, xt, xu, xS, xl, xok⟩ := x
  obtain ⟨yb, yd, yt, yu, yS, yl, yok⟩ := y
  dsimp only at *
  by_cases e1 : xl = []
  · subst e1
    have e : putT ⟨xb, xd, xt, xu, xS, [], xok⟩ ⟨yb, yd, yt, yu, yS, yl, yok⟩ = ⟨xb, xd, xt, xu, xS, [], true⟩ := rfl
    rw [e]
    exact value_at a1 rfl c3
  by_cases e2 : xl = [(0, 0, 21, 0)]
  · subst e2
    have ei : innerT [v] xS [(0, 0, 21, 0)] = wrap64 (xS + v) := by
      show wrap64 (xS + valI 0 21 0 v) = _
      rw [sy_val _hS]
    rw [ei] at c3
    by_cases hp : plainT yb yd yt yu = true
    · obtain ⟨v', ok, hv'⟩ : ∃ v' ok, addT xS yS = (v', ok) := ⟨_, _, rfl⟩
      have e : putT ⟨xb, xd, xt, xu, xS, [(0, 0, 21, 0)], xok⟩ ⟨yb, yd, yt, yu, yS, yl, yok⟩ = if ok = true then ⟨xb, xd, xt, xu, v', yl, true⟩ else zTB := by
        unfold putT
        rw [if_neg (by simp), if_pos rfl, if_pos hp]
        dsimp only
        rw [hv']
      rw [e] at hok ⊢
      cases ok
      · simp [zTB] at hok
      · rw [if_pos rfl]
        obtain ⟨m1, m2, rfl, m4⟩ := add_true hv'
        obtain ⟨rfl, rfl, rfl, rfl⟩ := plain_eq hp
        obtain ⟨k1, k2⟩ := whole_plain a3
        refine value_at a1 a2 ?_
        dsimp only
        rw [show innerT xs (xS + yS) yl = wrap64 (xS + v) from ?_]
        · exact c3
        · rw [inner_sum _ _ _ (sm_R m4), k2, inner_sum _ _ _ hs]
          unfold wrap64
          omega
    · by_cases hu : plainT xb xd xt xu = true
      · obtain ⟨v', ok, hv'⟩ : ∃ v' ok, addT yb xS = (v', ok) := ⟨_, _, rfl⟩
        have e : putT ⟨xb, xd, xt, xu, xS, [(0, 0, 21, 0)], xok⟩ ⟨yb, yd, yt, yu, yS, yl, yok⟩ = if ok = true then ⟨v', yd, yt, yu, yS, yl, true⟩ else zTB := by
          unfold putT
          rw [if_neg (by simp), if_pos rfl, if_neg hp, if_pos hu]
          dsimp only
          rw [hv']
        rw [e] at hok ⊢
        cases ok
        · simp [zTB] at hok
        · rw [if_pos rfl]
          obtain ⟨m1, m2, rfl, m4⟩ := add_true hv'
          obtain ⟨rfl, rfl, rfl, rfl⟩ := plain_eq hu
          obtain ⟨k1, k2⟩ := whole_plain c3
          obtain ⟨j1, j2, j3⟩ := whole_true a3
          refine value_at a1 a2 ?_
          dsimp only
          unfold wholeT
          rw [if_pos ⟨j1, j2⟩, k2]
          congr 1
          have hb := valI_bound j2 (innerT xs yS yl)
          unfold Sm at m1 m2
          unfold Sy at _hS
          rw [j3]
          unfold wrap64
          omega
      · have e : putT ⟨xb, xd, xt, xu, xS, [(0, 0, 21, 0)], xok⟩ ⟨yb, yd, yt, yu, yS, yl, yok⟩ = zTB := by
          unfold putT
          rw [if_neg (by simp), if_pos rfl, if_neg hp, if_neg hu]
        rw [e] at hok
        simp [zTB] at hok
  · have e : putT ⟨xb, xd, xt, xu, xS, xl, xok⟩ ⟨yb, yd, yt, yu, yS, yl, yok⟩ = zTB := by
      unfold putT
      rw [if_neg e1, if_neg e2]
    rw [e] at hok
    simp [zTB] at hok

/-- Bind, a part after the other. -/
noncomputable def bindF (at_ : Int) (xs : List Int) (acc : Int × List PT) (q : PT) : Int × List PT :=
  if q.1 = at_ then (acc.1, acc.2 ++ [(0, q.2)])
  else if 0 ≤ q.1 ∧ q.1 < xs.length ∧ (valP q.2.1 q.2.2.1 q.2.2.2 (atI xs q.1)).2 = true then (wrap64 (acc.1 + valI q.2.1 q.2.2.1 q.2.2.2 (atI xs q.1)), acc.2)
  else (acc.1, acc.2 ++ [q])
noncomputable def bindT (at_ : Int) (xs : List Int) (s : Int) (l : List PT) : Int × List PT := l.foldl (bindF at_ xs) (s, [])
theorem bind_next {at_ : Int} {xs : List Int} {s : Int} {l : List PT} {k : Nat} {a d t u : Int} (hk : ∃ hl : k < l.length, l[k] = (a, d, t, u)) : bindT at_ xs s (l.take (k + 1)) = bindF at_ xs (bindT at_ xs s (l.take k)) (a, d, t, u) := by
  obtain ⟨hl, e⟩ := hk
  unfold bindT
  rw [List.take_succ_eq_append_getElem hl, List.foldl_append, e]
  rfl
theorem bindF_R {at_ : Int} {xs : List Int} {acc : Int × List PT} {q : PT} (h : R64 acc.1) : R64 (bindF at_ xs acc q).1 := by
  unfold bindF
  split
  · exact h
  · split
    · exact wrap_R _
    · exact h
theorem bindT_R {at_ : Int} {xs : List Int} {s : Int} (l : List PT) (h : R64 s) : R64 (bindT at_ xs s l).1 := by
  unfold bindT
  suffices ∀ acc : Int × List PT, R64 acc.1 → R64 (l.foldl (bindF at_ xs) acc).1 from this _ h
  induction l with
  | nil => exact fun acc h => h
  | cons q l ih => exact fun acc h => ih _ (bindF_R h)
theorem bindF_len {at_ : Int} {xs : List Int} {acc : Int × List PT} {q : PT} : (bindF at_ xs acc q).2.length ≤ acc.2.length + 1 := by
  unfold bindF
  split
  · simp
  · split
    · simp
    · simp
theorem bindT_len {at_ : Int} {xs : List Int} {s : Int} (l : List PT) : (bindT at_ xs s l).2.length ≤ l.length := by
  unfold bindT
  suffices ∀ acc : Int × List PT, (l.foldl (bindF at_ xs) acc).2.length ≤ acc.2.length + l.length from by simpa using this (s, [])
  induction l with
  | nil => intro acc; simp
  | cons q l ih =>
    intro acc
    have h1 := ih (bindF at_ xs acc q)
    have h2 := bindF_len (at_ := at_) (xs := xs) (acc := acc) (q := q)
    simp only [List.foldl_cons, List.length_cons]
    omega
theorem symB_iff {xs : List Int} : symB xs = true ↔ ∀ x ∈ xs, Sy x := by
  unfold symB
  simp
theorem atI_mem {xs : List Int} {a : Int} (h0 : 0 ≤ a) (h1 : a < xs.length) : atI xs a ∈ xs := by
  have hl : a.toNat < xs.length := by omega
  rw [atI_get (k := a.toNat) (by omega) ⟨hl, rfl⟩]
  exact List.getElem_mem hl
theorem bind_fold (xs : List Int) (at_ : Int) (hx : ∀ x ∈ xs, Sy x) (l : List PT) (hl : ∀ q ∈ l, rightB q.1 q.2.1 q.2.2.1 q.2.2.2 xs.length = true) :
    ∀ acc : Int × List PT, R64 acc.1 → (∀ q ∈ acc.2, rightB q.1 q.2.1 q.2.2.1 q.2.2.2 1 = true) →
      wrap64 ((l.foldl (bindF at_ xs) acc).1 + sumT [atI xs at_] (l.foldl (bindF at_ xs) acc).2) = wrap64 (acc.1 + sumT [atI xs at_] acc.2 + sumT xs l) ∧ (∀ q ∈ (l.foldl (bindF at_ xs) acc).2, rightB q.1 q.2.1 q.2.2.1 q.2.2.2 1 = true) := by
  induction l with
  | nil => exact fun acc h1 h2 => ⟨by simp [sumT], h2⟩
  | cons q l ih =>
    intro acc ha hp
    obtain ⟨a, d, t, u⟩ := q
    have hr := hl _ (List.mem_cons_self ..)
    have hb : 0 ≤ a ∧ a < xs.length ∧ Bits d t u := by simpa [rightB] using hr
    have hl' := fun q hq => hl q (List.mem_cons_of_mem _ hq)
    rw [List.foldl_cons]
    by_cases e : a = at_
    · have ef : bindF at_ xs acc (a, d, t, u) = (acc.1, acc.2 ++ [(0, d, t, u)]) := by unfold bindF; rw [if_pos e]
      rw [ef]
      have := ih hl' (acc.1, acc.2 ++ [(0, d, t, u)]) ha (fun q hq => by
        rcases List.mem_append.1 hq with hq | hq
        · exact hp q hq
        · rw [List.mem_singleton] at hq
          subst hq
          simp only [rightB, decide_eq_true_eq]
          exact ⟨by omega, by omega, hb.2.2⟩)
      refine ⟨this.1.trans ?_, this.2⟩
      rw [sumT_append]
      have e3 : atI [atI xs at_] 0 = atI xs a := by rw [e]; rfl
      simp only [sumT, e3]
      congr 1
      omega
    · have hv : (valP d t u (atI xs a)).2 = true := by
        have hm := hx _ (atI_mem hb.1 hb.2.1)
        unfold Sy at hm
        have : HasV d t u (atI xs a) := ⟨hb.2.2, by omega, by omega⟩
        unfold valP
        rw [if_pos this]
      have ef : bindF at_ xs acc (a, d, t, u) = (wrap64 (acc.1 + valI d t u (atI xs a)), acc.2) := by
        unfold bindF
        rw [if_neg e, if_pos ⟨hb.1, hb.2.1, hv⟩]
      rw [ef]
      have := ih hl' (wrap64 (acc.1 + valI d t u (atI xs a)), acc.2) (wrap_R _) hp
      refine ⟨this.1.trans ?_, this.2⟩
      simp only [sumT]
      unfold wrap64
      omega
theorem bind_value (b d t u s v : Int) (l : List PT) (xs : List Int) (at_ : Int) (hs : R64 s) (h0 : 0 ≤ at_) (h1 : at_ < xs.length) (hv : valueT b d t u s l xs = (v, true)) :
    valueT b d t u (bindT at_ xs s l).1 (bindT at_ xs s l).2 [atI xs at_] = (v, true) := by
  obtain ⟨a1, a2, a3⟩ := value_true hv
  have hx := symB_iff.1 a1
  have hp : ∀ q ∈ l, rightB q.1 q.2.1 q.2.2.1 q.2.2.2 xs.length = true := by
    unfold partsB at a2
    exact List.all_eq_true.1 a2
  obtain ⟨k1, k2⟩ := bind_fold xs at_ hx l hp (s, []) hs (fun q hq => by cases hq)
  refine value_at (symB_iff.2 fun x hxm => ?_) ?_ ?_
  · rw [List.mem_singleton] at hxm
    subst hxm
    exact hx _ (atI_mem h0 h1)
  · unfold partsB
    exact List.all_eq_true.2 k2
  · rw [inner_sum _ _ _ (bindT_R l hs)]
    rw [inner_sum _ _ _ hs] at a3
    rw [← a3]
    congr 1
    refine k1.trans ?_
    simp [sumT]
end Go.Proofs.Ytmcgapejebceoaa.Te
