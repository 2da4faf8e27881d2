/- The walks of the document's Symbols, add and Pre. -/
import Derived.Test.YtmcgapejebceoaaTePre
import Derived.Test.YtmcgapejebceoaaTeRVal
import Derived.Test.YtmcgapejebceoaaSpMake1
import Derived.Test.YtmcgapejebceoaaSpHelp
namespace Go.Proofs.Ytmcgapejebceoaa.Te
set_option maxRecDepth 100000
open Go Go.RowKit Go.Proofs.Ytmcgapejebceoaa.Sp Go.Proofs.Ytmcgapejebceoaa.Pa

set_option maxHeartbeats 1000000 in
theorem rsymbols_any (A : Option Addr) (c : Nat) (l : List Span) (w : World) (h : RS w w.heap.size A l.length l) (hn : l.length ≤ 1000000) :
    Calls Try.prog 24 #[.slice A l.length c] w (SetOut (fun y => mem l y ∧ Sy y) w) := by
  obtain ⟨w1, hw1⟩ : ∃ w1, w.alloc (.cells #[.int .i64 0, .int .i64 1114111] 69) = w1 := ⟨_, rfl⟩
  have hs1 : w1.heap.size = w.heap.size + 1 := by rw [← hw1]; simp
  have h01 : Below w.heap.size w w1 := by rw [← hw1]; exact (Below.refl _ _).alloc (Nat.le_refl _) _
  have hr1 : RS w1 w1.heap.size (some ⟨w.heap.size, 0, none⟩) 1 [(0, 1114111)] := ⟨rfl, fun _ => ⟨w.heap.size, 0, rfl, by omega, fun j hj => by
    obtain rfl : j = 0 := by simp at hj; omega
    rw [← hw1]
    constructor <;> simp⟩⟩
  have HM := Lib.hid (rmake1 A (some ⟨w.heap.size, 0, none⟩) l.length 1 c 1 l [(0, 1114111)] w1 (h.belowM h01) hr1 (by omega) (by omega))
  have H01 := Lib.hid h01
  have HE := Lib.hid (show ∀ y, (Rng y ∧ inP 1 (memB l y) (memB [(0, 1114111)] y) = true) ↔ mem l y ∧ Sy y from fun y => by
    have e4 : mem [(0, 1114111)] y ↔ Rng y ∧ Sy y := by unfold mem Sy; simp
    unfold inP
    simp only [if_true, Bool.and_eq_true, memB_iff]
    rw [e4]
    exact ⟨fun q => ⟨q.2.1, q.2.2.2⟩, fun q => ⟨q.1.1, q.1, q.1.1, q.2⟩⟩)
  clear h hr1 h01
  go_enter Try.func24, Try.ntmps24
  go_wp2_with (fail)
  refine HM.out.mono ?_
  rintro q2 w2 ⟨v2, o2, rfl, hi2, ho2, hb2⟩
  have HI := Lib.hid hi2
  clear hi2
  go_wp2_with (fail)
  go_ret
  exact ⟨v2, o2, rfl, HI.out.congr HE.out, own_mono ho2 (by omega), below_next H01.out hb2⟩

/-- A number more behind a rising list of spans. -/
def addL (xs : List Span) (x : Int) : List Span := match xs.reverse with
  | [] => [(x, x)]
  | (lo, hi) :: r => if hi = x - 1 then r.reverse ++ [(lo, x)] else xs ++ [(x, x)]
theorem addL_nil (x : Int) : addL [] x = [(x, x)] := rfl
theorem addL_snoc (ys : List Span) (lo hi x : Int) : addL (ys ++ [(lo, hi)]) x = if hi = x - 1 then ys ++ [(lo, x)] else ys ++ [(lo, hi)] ++ [(x, x)] := by
  unfold addL
  rw [List.reverse_append]
  simp
theorem snoc_cases (xs : List Span) : xs = [] ∨ ∃ ys lo hi, xs = ys ++ [(lo, hi)] := by
  rcases List.eq_nil_or_concat xs with h | ⟨ys, ⟨lo, hi⟩, h⟩
  · exact .inl h
  · exact .inr ⟨ys, lo, hi, by rw [h, List.concat_eq_append]⟩
/-- What the loops keep: a plain list of numbers below x. -/
def RisL (xs : List Span) (x : Int) : Prop := Plain xs ∧ ∀ p ∈ xs, p.2 < x
theorem addL_ok {xs : List Span} {x : Int} (h : RisL xs x) (hx : Sy x) : RisL (addL xs x) (x + 1) ∧ ∀ y, inL (addL xs x) y ↔ inL xs y ∨ y = x := by
  obtain ⟨hp, hlt⟩ := h
  unfold Sy at hx
  rcases snoc_cases xs with rfl | ⟨ys, lo, hi, rfl⟩
  · rw [addL_nil]
    refine ⟨⟨Plain.snoc (l := []) Plain.nil ⟨Int.le_refl _, by omega, by omega⟩ (fun q hq => by cases hq), fun p hp => ?_⟩, fun y => ?_⟩
    · rw [List.mem_singleton] at hp
      subst hp
      omega
    · rw [inL_one]
      constructor
      · intro h; exact .inr (by omega)
      · rintro (h | h)
        · exact absurd h inL_nil
        · omega
  · rw [addL_snoc]
    obtain ⟨py, pl, pg⟩ := hp.append
    have hok : Ok (lo, hi) := pl.2 _ (List.mem_singleton.2 rfl)
    have hhi := hlt (lo, hi) (List.mem_append_right _ (List.mem_singleton.2 rfl))
    obtain ⟨o1, o2, o3⟩ := hok
    dsimp only at hhi o1 o2 o3
    split
    · rename_i he
      subst he
      refine ⟨⟨Plain.snoc py ⟨by dsimp only; omega, o2, by dsimp only; omega⟩ (fun q hq => by have := pg q hq (lo, x - 1) (List.mem_singleton.2 rfl); dsimp only at this ⊢; exact this), fun p hp => ?_⟩, fun y => ?_⟩
      · rcases List.mem_append.1 hp with hp | hp
        · have := hlt p (List.mem_append_left _ hp); omega
        · rw [List.mem_singleton] at hp
          subst hp
          dsimp only
          omega
      · rw [inL_append, inL_append, inL_one, inL_one]
        constructor
        · rintro (h | h)
          · exact .inl (.inl h)
          · by_cases e : y = x
            · exact .inr e
            · exact .inl (.inr (by omega))
        · rintro ((h | h) | h)
          · exact .inl h
          · exact .inr (by omega)
          · exact .inr (by omega)
    · rename_i he
      refine ⟨⟨Plain.snoc hp ⟨Int.le_refl _, by dsimp only; omega, by dsimp only; omega⟩ (fun q hq => ?_), fun p hp => ?_⟩, fun y => ?_⟩
      · rcases List.mem_append.1 hq with hq | hq
        · have := pg q hq _ (List.mem_singleton.2 rfl)
          dsimp only at this ⊢
          omega
        · rw [List.mem_singleton] at hq
          subst hq
          dsimp only
          omega
      · rcases List.mem_append.1 hp with hp | hp
        · have := hlt p hp; omega
        · rw [List.mem_singleton] at hp
          subst hp
          dsimp only
          omega
      · rw [inL_append (l := ys ++ [(lo, hi)]), inL_one]
        constructor
        · rintro (h | h)
          · exact .inl h
          · exact .inr (by omega)
        · rintro (h | h)
          · exact .inl h
          · exact .inr (by omega)
def AddOut (base : Nat) (xs : List Span) (w : World) (e : Ending) (w' : World) : Prop := ∃ v', e = .returned v' ∧ OwnsL w' base v' xs ∧ Below base w w'
set_option maxHeartbeats 2000000 in
theorem add_any (base : Nat) (v : Value) (xs : List Span) (x : Int) (w : World) (hown : OwnsL w base v xs) (hbase : base ≤ w.heap.size) (hlen : xs.length ≤ 1000000000000) (hx : Sy x) :
    Calls Try.prog 57 #[v, .int .i64 x] w (AddOut base (addL xs x) w) := by
  obtain ⟨i0, hi0, hz0, hz1, hz2⟩ := info_parts infoSpan
  have hwx : IntKind.i64.wrap (x - 1) = x - 1 := IntWalk.i64_in _ (by unfold Sy at hx; omega)
  rcases snoc_cases xs with rfl | ⟨ys, lo, hi, rfl⟩
  · obtain ⟨A, c, rfl, hc, hr⟩ := own_RS hown
    simp only [List.length_nil] at *
    have HO := Lib.hid hown
    clear hown hr
    go_enter Try.func57, Try.ntmps57
    go_wp2_with (at_builtin; go_must (refine wpList_append_own _ rfl _ _ 44 rfl base 69 i0 _ 2 16 Try.underlying44 hi0 hz0 hz1 hz2 rfl (by decide) (.slice A 0 c) 0 [] rfl (World.ownsRow.alloc HO.out _) ⟨w.heap.size, 0, none⟩ 1 1 [.int .i64 x, .int .i64 x] rfl rfl (cell_two _ _ _ _) ?c2 ?c3 ?c4 ?c5 ?_))
    case c2 => first | exact ⟨rfl, rfl⟩ | exact flat_one [(_, _)] | rfl
    case c3 => simp only [maxLen]; omega
    case c4 => omega
    case c5 => first | omega | (simp only [World.size_alloc]; omega)
    intro v1 w1 hown1 hg1 _
    go_wp2_with (fail)
    go_ret
    exact ⟨v1, rfl, ownS_more (l := []) hown1, ((Below.refl base w).alloc hbase _).grown hg1 (by simp; omega) (own_ge HO.out)⟩
  · obtain ⟨A, c, rfl, hc, hr⟩ := own_RS hown
    obtain ⟨g, rfl, hbg, hgl⟩ := own_of_form hown (by simp)
    have hlast := own_last hown
    have hj : (ys ++ [(lo, hi)]).length = ys.length + 1 := by simp
    have HE := Lib.hid (addL_snoc ys lo hi x)
    have HO := Lib.hid hown
    have hfz : w.frozen? ⟨g, ys.length * 2 + 1, none⟩ = false := World.ownsRow.frozenAt hown _
    rw [hj] at hlen
    obtain ⟨j, hjE⟩ : ∃ j, ys.length = j := ⟨_, rfl⟩
    rw [hjE] at hj hlen hlast hfz
    have hw1 : IntKind.i64.wrap (((j + 1 : Nat) : Int) - 1) = (j : Int) := by rw [IntWalk.i64_in _ (by omega)]; omega
    have hw1' : IntKind.i64.wrap ((j : Int) + 1 - 1) = (j : Int) := by rw [IntWalk.i64_in _ (by omega)]; omega
    have hpos : decide ((0 : Int) < ((j + 1 : Nat) : Int)) = true := decide_eq_true (by omega)
    have hpos' : decide ((0 : Int) < (j : Int) + 1) = true := decide_eq_true (by omega)
    have HJ := Lib.hid hjE
    rw [hj]
    clear hown hr
    by_cases he : hi = x - 1
    · have he' : (hi == x - 1) = true := by simp [he]
      have HE2 := Lib.hid (HE.out.trans (if_pos he))
      have HT := Lib.hid (own_turn0 (j := j) (by rw [← hj]; exact HO.out) hjE x)
      clear hj hjE he
      go_enter Try.func57, Try.ntmps57
      go_wp2_with (fail)
      go_ret
      refine ⟨_, rfl, ?_, (Below.refl base w).setCell (by simp only; omega) _⟩
      rw [HE2.out]
      have := HT.out
      rw [List.length_append, HJ.out] at this
      exact this
    · have he' : (hi == x - 1) = false := by simp [he]
      have HE2 := Lib.hid (HE.out.trans (if_neg he))
      have HO2 := Lib.hid (show w.ownsRow base 69 2 (.slice (some ⟨g, 0, none⟩) (j + 1) c) (j + 1) (flat (ys ++ [(lo, hi)])) from by rw [← hj]; exact HO.out)
      have HJ1 := Lib.hid hj
      clear hj hjE he
      go_enter Try.func57, Try.ntmps57
      go_wp2_with (at_builtin; go_must (refine wpList_append_own _ rfl _ _ 44 rfl base 69 i0 _ 2 16 Try.underlying44 hi0 hz0 hz1 hz2 rfl (by decide) (.slice (some ⟨g, 0, none⟩) (j + 1) c) (j + 1) (flat (ys ++ [(lo, hi)])) rfl (World.ownsRow.alloc HO2.out _) ⟨w.heap.size, 0, none⟩ 1 1 [.int .i64 x, .int .i64 x] rfl rfl (cell_two _ _ _ _) ?c2 ?c3 ?c4 ?c5 ?_))
      case c2 => first | exact ⟨rfl, rfl⟩ | exact flat_one [(_, _)] | rfl
      case c3 => simp only [maxLen]; omega
      case c4 => omega
      case c5 => first | omega | (simp only [World.size_alloc]; omega)
      intro v1 w1 hown1 hg1 _
      go_wp2_with (fail)
      go_ret
      refine ⟨v1, rfl, ?_, ((Below.refl base w).alloc hbase _).grown hg1 (by simp; omega) (World.ownsRow.lt HO2.out · · |>.1)⟩
      rw [HE2.out]
      exact ownS_more (by rw [HJ1.out]; exact hown1)
end Go.Proofs.Ytmcgapejebceoaa.Te
