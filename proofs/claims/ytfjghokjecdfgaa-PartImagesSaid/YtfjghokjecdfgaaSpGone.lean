/- The statements' helper gone: a range over span.Each. -/
import Derived.Test.YtfjghokjecdfgaaSpEach
import Derived.Test.YtfjghokjecdfgaaSpRest
import Derived.RangeFuncFrom
import Derived.RangeFuncBox
import Derived.RegionTactic
import Derived.BigRegion
import Derived.Deep.RegionWith
namespace Go.Proofs.Ytfjghokjecdfgaa.Sp
set_option maxRecDepth 100000
open Go Go.RowKit Go.Shelf
attribute [local go_sem] Oper.semAt_some

theorem boxed_kept {A A' : World} {B : Nat} {t : TypeId} {v : Value} {row : Option Nat} (h : Boxed A B t v) (hg : A.grownBy A' row) (hr : ∀ r, row = some r → ∃ o : Obj, A.heap[r]? = some o ∧ o.isCells = false) : Boxed A' B t v :=
  h.kept hg (fun e => by
    obtain ⟨o, ho, hc⟩ := hr _ e.symm
    rw [show A.heap[B]? = _ from h] at ho
    injection ho with ho
    subst ho
    cases hc)
theorem boxed_below {A A' : World} {B K : Nat} {t : TypeId} {v : Value} (h : Boxed A B t v) (hb : Below K A A') (hk : B < K) : Boxed A' B t v := (hb.block B hk).trans h
theorem boxed_far {A : World} {B C : Nat} {t : TypeId} {v : Value} (u : Value) (h : Boxed A B t v) (hne : B ≠ C) : Boxed (A.setCell ⟨C, 0, none⟩ u) B t v := by
  have := heap_setCell_other A ⟨C, 0, none⟩ B u hne
  exact this.trans h
theorem pre_snoc {L pre : List Int} {x : Int} (h : pre <+: L) (hx : ∃ hl : pre.length < L.length, L[pre.length] = x) : pre ++ [x] <+: L := by
  obtain ⟨t, rfl⟩ := h
  obtain ⟨hl, e⟩ := hx
  cases t with
  | nil => simp at hl
  | cons y t =>
    simp at e
    subst e
    exact ⟨t, by simp⟩
theorem pre_snoc_not {L pre : List Int} {x y : Int} (hy : ∃ hl : pre.length < L.length, L[pre.length] = y) (hne : ¬ x = y) : ¬ pre ++ [x] <+: L := by
  rintro ⟨t, rfl⟩
  obtain ⟨hl, e⟩ := hy
  simp at e
  exact hne e
theorem keepX_set {X : Nat → Prop} {W W' : World} (h : Below W.heap.size W W') {B : Nat} (hx : X B) (v : Value) : KeepX X W (W'.setCell ⟨B, 0, none⟩ v) :=
  ⟨by have := h.size; simp [World.size_setCell]; omega, fun k cs t fr hk hc => by
    have hlt := (Array.getElem?_eq_some_iff.1 hc).1
    rw [heap_setCell_other W' ⟨B, 0, none⟩ k v (fun e => hk (by rw [e]; exact hx)), h.block k hlt]
    exact hc⟩
theorem keepsOthers_set {W W' : World} (h : Below W.heap.size W W') {B : Nat} {t : TypeId} {u : Value} (hB : Boxed W B t u) (v : Value) : KeepsOthers W (W'.setCell ⟨B, 0, none⟩ v) :=
  ⟨by have := h.size; simp [World.size_setCell]; omega, fun k o hk hc => by
    have hlt := (Array.getElem?_eq_some_iff.1 hk).1
    have hne : B ≠ k := fun e => by
      subst e
      rw [show W.heap[B]? = _ from hB] at hk
      injection hk with hk
      subst hk
      cases hc
    rw [heap_setCell_other W' ⟨B, 0, none⟩ k v (fun e => hne e.symm), h.block k hlt]
    exact hk⟩

set_option maxRecDepth 100000 in
set_option maxHeartbeats 2000000 in
theorem gone_any (A : Option Addr) (c : Nat) (l : List Span) (A' : Option Addr) (d : Nat) (P : List Span) (n : Nat) (w : World) (h : RS w w.heap.size A l.length l) (hl : l.length ≤ 68719476736) (hnil : A = none → l = [] ∧ c = 0)
    (h' : RS w w.heap.size A' P.length P) (hP : Is P (mem l)) (hn1 : 1 ≤ n) (hn2 : n ≤ 1000) :
    Calls Try.prog 38 #[.slice A l.length c, .slice A' P.length d, .int .i64 n] w (RetB true w) := by
  refine (callsIn_wide (n := 4)).1 ?_
  refine callsIn_of_wp_marks Try.func38 rfl trivial ?_ rfl
  simp only [Try.ntmps38, List.size_toArray, List.length_cons, List.length_nil, Nat.reduceAdd, Nat.reduceSub, Array.replicate_succ, Array.replicate_zero, List.push_toArray, List.append_toArray, List.nil_append, List.cons_append]
  gi_wp2_with (fail)
  refine ⟨trivial, ?_⟩
  have n4 := Boxed.new w 22 (.slice A' P.length d)
  have n5 := Boxed.new (w.alloc (.cells #[.slice A' P.length d] 22)) 3 (.int .i64 n)
  have n6 := Boxed.new ((w.alloc (.cells #[.slice A' P.length d] 22)).alloc (.cells #[.int .i64 n] 3)) 4 (.bool false)
  have n7 := Boxed.new (((w.alloc (.cells #[.slice A' P.length d] 22)).alloc (.cells #[.int .i64 n] 3)).alloc (.cells #[.bool false] 4)) 3 (.int .i64 0)
  simp only [World.size_alloc] at n5 n6 n7
  have hc4 := (((n4.alloc (.cells #[.int .i64 n] 3)).alloc (.cells #[.bool false] 4)).alloc (.cells #[.int .i64 0] 3))
  have hc5 := ((n5.alloc (.cells #[.bool false] 4)).alloc (.cells #[.int .i64 0] 3))
  have hc6 := (n6.alloc (.cells #[.int .i64 0] 3))
  have hc7 := n7
  clear n4 n5 n6 n7
  have hsz : ((((w.alloc (.cells #[.slice A' P.length d] 22)).alloc (.cells #[.int .i64 n] 3)).alloc (.cells #[.bool false] 4)).alloc (.cells #[.int .i64 0] 3)).heap.size = w.heap.size + 4 := by simp
  have hb0 : Below w.heap.size w ((((w.alloc (.cells #[.slice A' P.length d] 22)).alloc (.cells #[.int .i64 n] 3)).alloc (.cells #[.bool false] 4)).alloc (.cells #[.int .i64 0] 3)) := ((((Below.refl _ w).alloc (Nat.le_refl _) _).alloc (by simp) _).alloc (by simp; omega) _).alloc (by simp; omega) _
  generalize ((((w.alloc (.cells #[.slice A' P.length d] 22)).alloc (.cells #[.int .i64 n] 3)).alloc (.cells #[.bool false] 4)).alloc (.cells #[.int .i64 0] 3)) = w0 at *
  refine (callsIn_wide.2 (copied_any A c l w0 (h.belowM hb0) hl hnil)).mono ?_
  rintro e w1 ⟨A1, c1, rfl, hcl1, hr1, hb1⟩
  have hb1' := hb1
  have EA := Lib.hid (each_any A1 l.length c1 l P w1 hr1 (by omega) hP)
  have HB0 := Lib.hid hb0
  have HB1 := Lib.hid hb1
  clear hr1 hb1 hb1' hb0
  gi_wp2_with (fail)
  refine ⟨trivial, ?_⟩
  refine (callsIn_wide.2 EA.out).mono ?_
  rintro e w2 ⟨Bs, A2, c2, rfl, hcs, hge, hge2, hr2, hb2⟩
  have HB2 := Lib.hid (HB1.out.trans (hb2.mono HB1.out.size))
  have hsz1 := HB1.out.size
  have hsz2 := hb2.size
  have hBs := World.block_lt_of_cell? w2 _ hcs
  simp only at hBs
  have k4 := boxed_below hc4 HB2.out (by omega)
  have k5 := boxed_below hc5 HB2.out (by omega)
  have k6 := boxed_below hc6 HB2.out (by omega)
  have k7 := boxed_below hc7 HB2.out (by omega)
  have hbW : Below w.heap.size w w2 := HB0.out.trans (HB2.out.mono HB0.out.size)
  have hst := each_stops 3 (by omega) Bs A2 c2 P hP.1 (fun k => k = w.heap.size + 1 + 1 ∨ k = w.heap.size + 1 + 1 + 1) w2 (fun k hk => ⟨by omega, by omega, fun b off e => by have := hge2 b off e; omega⟩) hcs hr2
  clear hcs hge hge2 hr2 hb2 EA HB1 HB2 HB0 hc4 hc5 hc6 hc7
  gi_wp2_with (fail)
  refine wpIn_rangeFunc_ownF (F := Fence.wide) rfl (by omega) (gf := 78) (lb := #[.pointer (some ⟨Bs, 0, none⟩)]) rfl trivial (enters_of Try.func78 (by kernel_rfl) rfl)
    hst (fun h k => h.trans k) (fun W l o o' _ ho hc _ => KeepX.put ho hc) (Below.refl _ _) (fun _ => rfl)
    (fun pre W => (pre <+: numsL P ∧ pre.length < n ∧ Boxed W w.heap.size 22 (.slice A' P.length d) ∧ Boxed W (w.heap.size + 1) 3 (.int .i64 n) ∧ Boxed W (w.heap.size + 1 + 1) 4 (.bool false) ∧ Boxed W (w.heap.size + 1 + 1 + 1) 3 (.int .i64 (pre.length : Int))) ∧ Below w.heap.size w W)
    (fun cd pre W => (¬ pre <+: numsL P ∨ (cd = .exit 0 ∧ pre.length = n ∧ Boxed W w.heap.size 22 (.slice A' P.length d) ∧ Boxed W (w.heap.size + 1) 3 (.int .i64 n) ∧ Boxed W (w.heap.size + 1 + 1) 4 (.bool false) ∧ Boxed W (w.heap.size + 1 + 1 + 1) 3 (.int .i64 (pre.length : Int)))) ∧ Below w.heap.size w W)
    (OwnFrom.and (Own.from (fun s A B row hs hg hr => ⟨hs.1, hs.2.1, boxed_kept hs.2.2.1 hg hr, boxed_kept hs.2.2.2.1 hg hr, boxed_kept hs.2.2.2.2.1 hg hr, boxed_kept hs.2.2.2.2.2 hg hr⟩) _) (ownFrom_below (Nat.le_refl _) (by omega)))
    (fun cd => OwnFrom.and (Own.from (fun s A B row hs hg hr => hs.imp id (fun hs => ⟨hs.1, hs.2.1, boxed_kept hs.2.2.1 hg hr, boxed_kept hs.2.2.2.1 hg hr, boxed_kept hs.2.2.2.2.1 hg hr, boxed_kept hs.2.2.2.2.2 hg hr⟩)) _) (ownFrom_below (Nat.le_refl _) (by omega)))
    ⟨⟨List.nil_prefix, by simp; omega, k4, k5, k6, k7⟩, hbW⟩
    (fun x => { tmps := #[.slice A l.length c, .slice A' P.length d, .int .i64 n, undef, .pointer (some ⟨w.heap.size, 0, none⟩), .pointer (some ⟨w.heap.size + 1, 0, none⟩), .pointer (some ⟨w.heap.size + 1 + 1, 0, none⟩), .pointer (some ⟨w.heap.size + 1 + 1 + 1, 0, none⟩), .int .i64 x, undef, undef, .slice A l.length c, .slice A1 l.length c1, .func (.func 78) #[] #[.pointer (some ⟨Bs, 0, none⟩)], .int .i64 x, undef, undef, undef, undef, undef, undef, undef, undef, undef, undef, undef, undef, undef, undef, undef, undef, undef, undef, undef, undef, undef, undef, undef, undef], defers := [] }) ?assign ?body ?done ?stop
  case assign =>
    intro l x W K hK
    gi_wp2
    exact hK
  case body =>
    rintro lp pre x W ⟨⟨hp1, hp2, q4, q5, q6, q7⟩, hB⟩ hlen
    have hP1 := hP.1
    obtain ⟨y, hy⟩ : ∃ y, (numsL P)[pre.length] = y := ⟨_, rfl⟩
    have HY := Lib.hid (show ∃ hl : pre.length < (numsL P).length, (numsL P)[pre.length] = y from ⟨hlen, hy⟩)
    have hnv : nthB P (pre.length : Int) = (y, true) := by
      unfold nthB
      rw [if_neg (by omega), numsL_nth P pre.length hP1, List.getElem?_eq_getElem hlen, hy]
    have HC := Lib.hid (rnth_any A' d P (pre.length : Int) W (h'.belowM hB) hP1 (by omega))
    rw [hnv] at HC
    have HP1 := Lib.hid hp1
    have HB := Lib.hid hB
    have Q4 := Lib.hid q4
    have Q5 := Lib.hid q5
    have Q6 := Lib.hid q6
    have Q7 := Lib.hid q7
    have z4 := q4.cell
    have z7 := q7.cell
    clear hnv hy hp1 hB hlen q4 q5 q6 q7 hst hP1
    gi_wp2_with (fail)
    refine ⟨trivial, ?_⟩
    refine (CallsIn.inRound lp (callsIn_wide.2 HC.out)).mono ?_
    rintro e W2 ⟨rfl, hb2⟩
    have hWsz := HB.out.size
    have r5 := boxed_below Q5.out hb2 (Q5.out.lt)
    have r6 := boxed_below Q6.out hb2 (Q6.out.lt)
    have r7 := boxed_below Q7.out hb2 (Q7.out.lt)
    have r4 := boxed_below Q4.out hb2 (Q4.out.lt)
    have HB2 := Lib.hid (HB.out.trans (hb2.mono HB.out.size))
    have HK := Lib.hid hb2
    have R4 := Lib.hid r4
    have R5 := Lib.hid r5
    have R6 := Lib.hid r6
    have R7 := Lib.hid r7
    have y5 := r5.cell
    have y6 := r6.cell
    have y6f := r6.frozen
    have y7 := r7.cell
    have y7f := r7.frozen
    clear z4 z7 hb2 r4 r5 r6 r7 HC
    by_cases hxy : x = y
    · have hbe : (x != y) = false := by simp [hxy]
      have hps : pre ++ [x] <+: numsL P := by rw [hxy]; exact pre_snoc HP1.out HY.out
      have HPS := Lib.hid hps
      clear hxy hps
      by_cases hq : pre.length + 1 = n
      · have hqe : ((pre.length : Int) + 1 == (n : Int)) = true := by simp; omega
        gi_wp2_with (fail)
        refine ⟨keepsOthers_set HK.out Q7.out _, .inr ⟨rfl, by simp; omega, boxed_far _ R4.out (by omega), boxed_far _ R5.out (by omega), boxed_far _ R6.out (by omega), ?_⟩, HB2.out.setCell (p := ⟨w.heap.size + 1 + 1 + 1, 0, none⟩) (by simp; omega) _⟩
        rw [List.length_append]
        exact R7.out.set _
      · have hqe : ((pre.length : Int) + 1 == (n : Int)) = false := by simp; omega
        gi_wp2_with (fail)
        refine ⟨keepsOthers_set HK.out Q7.out _, keepX_set HK.out (.inr rfl) _, ⟨HPS.out, by simp; omega, boxed_far _ R4.out (by omega), boxed_far _ R5.out (by omega), boxed_far _ R6.out (by omega), ?_⟩, HB2.out.setCell (p := ⟨w.heap.size + 1 + 1 + 1, 0, none⟩) (by simp; omega) _⟩
        rw [List.length_append]
        exact R7.out.set _
    · have hbe : (x != y) = true := by simp [hxy]
      have HXY := Lib.hid hxy
      clear hxy
      gi_wp2_with (fail)
      exact ⟨keepsOthers_set HK.out Q6.out _, .inl (pre_snoc_not HY.out HXY.out), HB2.out.setCell (p := ⟨w.heap.size + 1 + 1, 0, none⟩) (by simp; omega) _⟩
  case done =>
    rintro D ys W hD rfl ⟨⟨_, hp2, q4, q5, q6, q7⟩, hB⟩ hK
    have HCT := Lib.hid (fun W' (hb : Below w.heap.size w W') => rcount_any A' P.length d P P W' (h'.belowM hb) (by have := hP.1.short; omega) (Is.self hP.1))
    rw [← numsL_length P hP.1] at HCT
    have HB := Lib.hid hB
    have Q4 := Lib.hid q4
    have Q5 := Lib.hid q5
    have Q6 := Lib.hid q6
    have Q7 := Lib.hid q7
    have z4 := q4.cell
    have z5 := q5.cell
    have z7 := q7.cell
    have hlt : ((numsL P).length : Int) < (n : Int) := by omega
    clear hB q4 q5 q6 q7 hst k4 k5 k6 k7 hbW
    gi_wp2_with (fail)
    refine wpIn_wide.2 ?_
    have l4 := Q4.out.lt
    have l5 := Q5.out.lt
    have l6 := Q6.out.lt
    have l7 := Q7.out.lt
    have n1 : ¬ w.heap.size + 1 + 1 = w.heap.size := by omega
    go_region_held3 (fun w' => w'.cell? ⟨w.heap.size, 0, none⟩ = some (.slice A' P.length d) ∧ w'.cell? ⟨w.heap.size + 1, 0, none⟩ = some (.int .i64 n) ∧ w'.cell? ⟨w.heap.size + 1 + 1 + 1, 0, none⟩ = some (.int .i64 ((numsL P).length : Int)))
      (first | go_keep | (go_split_ands; refine ⟨?_, ?_, ?_⟩; all_goals (rw [hb2.cell (by simp <;> omega)]; assumption)))
      (first | (go_at_call 22; refine (HCT.out _ HB.out.drew).mono ?_; rintro e W2 ⟨rfl, hb2⟩; have y6 := (boxed_below (A := W.drew) Q6.out hb2 Q6.out.lt).cell; have y6f := (boxed_below (A := W.drew) Q6.out hb2 Q6.out.lt).frozen))
    rw [show (((numsL P).length : Int) == min (n : Int) ((numsL P).length : Int)) = true from by simp; omega]
    have hK2 : (W2.setCell ⟨w.heap.size + 1 + 1, 0, none⟩ (.bool true)).heap[D]? = some (.deferred (some [])) := by
      rw [heap_setCell_other W2 ⟨w.heap.size + 1 + 1, 0, none⟩ D (.bool true) (by simp; omega), hb2.block D (Array.getElem?_eq_some_iff.1 hK).1]
      exact hK
    have HK2 := Lib.hid hK2
    have HBF := Lib.hid ((HB.out.drew.trans (hb2.mono HB.out.size)).setCell (p := ⟨w.heap.size + 1 + 1, 0, none⟩) (by simp; omega) (.bool true))
    have HC6 := Lib.hid (World.cell?_setCell_same' W2 ⟨w.heap.size + 1 + 1, 0, none⟩ (.bool true) (by rw [y6]; rfl))
    clear hK2 hb2 y6 y6f
    gi_wp2_with (fail)
    refine ⟨by simp, .inl ⟨_, _, rfl, run_takeDeferred HK2.out, ?_⟩⟩
    have hc5 := cell_kept HC6.out (grownBy_putObj' _ D (.deferred none)) (fun r e => by cases e; exact ⟨_, HK2.out, rfl⟩)
    refine ⟨.bool true, ?_, rfl, HBF.out.trans (belowK_b (w := w) (Nat.le_refl _) _ D _ _ (by omega) HK2.out rfl rfl)⟩
    simp [results, Try.f38, go_sem, hc5]
  case stop =>
    rintro D cd pre W hD hpre ⟨hx, hB⟩ hK
    rcases hx with hx | ⟨rfl, hpn, q4, q5, q6, q7⟩
    · exact absurd hpre hx
    subst hpn
    have hle := hpre.length_le
    have HCT := Lib.hid (fun W' (hb : Below w.heap.size w W') => rcount_any A' P.length d P P W' (h'.belowM hb) (by have := hP.1.short; omega) (Is.self hP.1))
    rw [← numsL_length P hP.1] at HCT
    have HB := Lib.hid hB
    have Q4 := Lib.hid q4
    have Q5 := Lib.hid q5
    have Q6 := Lib.hid q6
    have Q7 := Lib.hid q7
    have z4 := q4.cell
    have z5 := q5.cell
    have z7 := q7.cell
    clear hB q4 q5 q6 q7 hst k4 k5 k6 k7 hbW hpre
    gi_wp2_with (fail)
    refine wpIn_wide.2 ?_
    have l4 := Q4.out.lt
    have l5 := Q5.out.lt
    have l6 := Q6.out.lt
    have l7 := Q7.out.lt
    have n1 : ¬ w.heap.size + 1 + 1 = w.heap.size := by omega
    go_region_held3 (fun w' => w'.cell? ⟨w.heap.size, 0, none⟩ = some (.slice A' P.length d) ∧ w'.cell? ⟨w.heap.size + 1, 0, none⟩ = some (.int .i64 pre.length) ∧ w'.cell? ⟨w.heap.size + 1 + 1 + 1, 0, none⟩ = some (.int .i64 (pre.length : Int)))
      (first | go_keep | (go_split_ands; refine ⟨?_, ?_, ?_⟩; all_goals (rw [hb2.cell (by simp <;> omega)]; assumption)))
      (first | (go_at_call 22; refine (HCT.out _ HB.out.drew).mono ?_; rintro e W2 ⟨rfl, hb2⟩; have y6 := (boxed_below (A := W.drew) Q6.out hb2 Q6.out.lt).cell; have y6f := (boxed_below (A := W.drew) Q6.out hb2 Q6.out.lt).frozen))
    rw [show ((pre.length : Int) == min (pre.length : Int) ((numsL P).length : Int)) = true from by simp; omega]
    have hK2 : (W2.setCell ⟨w.heap.size + 1 + 1, 0, none⟩ (.bool true)).heap[D]? = some (.deferred (some [])) := by
      rw [heap_setCell_other W2 ⟨w.heap.size + 1 + 1, 0, none⟩ D (.bool true) (by simp; omega), hb2.block D (Array.getElem?_eq_some_iff.1 hK).1]
      exact hK
    have HK2 := Lib.hid hK2
    have HBF := Lib.hid ((HB.out.drew.trans (hb2.mono HB.out.size)).setCell (p := ⟨w.heap.size + 1 + 1, 0, none⟩) (by simp; omega) (.bool true))
    have HC6 := Lib.hid (World.cell?_setCell_same' W2 ⟨w.heap.size + 1 + 1, 0, none⟩ (.bool true) (by rw [y6]; rfl))
    clear hK2 hb2 y6 y6f
    gi_wp2_with (fail)
    refine ⟨by simp, .inl ⟨_, _, rfl, run_takeDeferred HK2.out, ?_⟩⟩
    have hc5 := cell_kept HC6.out (grownBy_putObj' _ D (.deferred none)) (fun r e => by cases e; exact ⟨_, HK2.out, rfl⟩)
    refine ⟨.bool true, ?_, rfl, HBF.out.trans (belowK_b (w := w) (Nat.le_refl _) _ D _ _ (by omega) HK2.out rfl rfl)⟩
    simp [results, Try.f38, go_sem, hc5]
end Go.Proofs.Ytfjghokjecdfgaa.Sp
