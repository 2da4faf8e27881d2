/-
  WordOrders holds for every two words: the law answers true and each word reads afterwards as it read before. No condition.
-/
import Derived.Test.YtoofeiogjheknaaWoFrame
import Derived.Test.YtoofeiogjheknaaWoOrd
namespace Go.Proofs.Ytoofeiogjheknaa.Wo
open Go Go.RowKit Go.ChangeShapes Go.WideShapes Go.ChangeAt

set_option maxHeartbeats 2000000 in
theorem walk_WordOrders (A : Option Addr) (c : Nat) (l : List Int) (B : Option Addr) (d : Nat) (r : List Int) (w : World) (h : RR w w.heap.size A l.length l) (h' : RR w w.heap.size B r.length r) (hm : l.length ≤ maxLen) (hm' : r.length ≤ maxLen) :
    Calls Try.prog 7 #[.slice A l.length c, .slice B r.length d] w (RetB true w) := by
  unfold maxLen at hm hm'
  by_cases g1 : 2000 < l.length
  · clear h h'
    go_enter Try.func7, Try.ntmps7
    go_wp2_with (fail)
    refine (awake_any _).mono ?_
    rintro e w9 ⟨rfl, hb9⟩
    go_wp2_with (fail)
    go_ret
    exact ⟨rfl, hb9⟩
  by_cases g2 : 2000 < r.length
  · clear h h'
    go_enter Try.func7, Try.ntmps7
    go_wp2_with (fail)
    refine (awake_any _).mono ?_
    rintro e w9 ⟨rfl, hb9⟩
    go_wp2_with (fail)
    go_ret
    exact ⟨rfl, hb9⟩
  have hrng := cmpL_rng l r
  obtain ⟨m, hmm⟩ : ∃ m, cmpL l r = m := ⟨_, rfl⟩
  rw [hmm] at hrng
  have hsw : cmpL r l = -m := by rw [cmpL_swap, hmm]
  have H1 := Lib.hid (fun W (a : RR W W.heap.size A l.length l) (b : RR W W.heap.size B r.length r) => wcmp_any A B c d l r W a b (by omega) (by omega))
  have H2 := Lib.hid (fun W (a : RR W W.heap.size A l.length l) (b : RR W W.heap.size B r.length r) => rcmp_any A B c d l r W a b (by omega) (by omega))
  have H3 := Lib.hid (fun W (a : RR W W.heap.size A l.length l) (b : RR W W.heap.size B r.length r) => wcmp_any B A d c r l W b a (by omega) (by omega))
  have H4 := Lib.hid (fun W (a : RR W W.heap.size A l.length l) (b : RR W W.heap.size B r.length r) => front_any A B c d l r W a b (by omega) (by omega))
  have H5 := Lib.hid (fun W (a : RR W W.heap.size A l.length l) (b : RR W W.heap.size B r.length r) => rfront_any A B c d l r W a b (by omega) (by omega))
  rw [hmm] at H1 H2
  rw [hsw] at H3
  have X := Lib.hid h
  have Y := Lib.hid h'
  clear h h' hmm hsw
  go_enter Try.func7, Try.ntmps7
  go_wp2_with (fail)
  refine (H1.out _ X.out Y.out).mono ?_
  rintro e w1 ⟨rfl, rfl⟩
  go_wp2_with (fail)
  refine (H2.out _ X.out Y.out).mono ?_
  rintro e w2 ⟨rfl, hb2⟩
  have HB2 := Lib.hid hb2
  have X2 := Lib.hid (X.out.belowM hb2)
  have Y2 := Lib.hid (Y.out.belowM hb2)
  clear hb2
  go_wp2_with (fail)
  refine (H3.out _ X2.out Y2.out).mono ?_
  rintro e w3 ⟨rfl, rfl⟩
  go_wp2_with (fail)
  refine (H2.out _ X2.out Y2.out).mono ?_
  rintro e w4 ⟨rfl, hb4⟩
  have HB4 := Lib.hid (HB2.out.trans (hb4.mono HB2.out.size))
  have X4 := Lib.hid (X2.out.belowM hb4)
  have Y4 := Lib.hid (Y2.out.belowM hb4)
  clear hb4
  go_wp2_with (fail)
  refine (H4.out _ X4.out Y4.out).mono ?_
  rintro e w5 ⟨rfl, hb5⟩
  have HB5 := Lib.hid (HB4.out.trans (hb5.mono HB4.out.size))
  have X5 := Lib.hid (X4.out.belowM hb5)
  have Y5 := Lib.hid (Y4.out.belowM hb5)
  clear hb5
  go_wp2_with (fail)
  refine (H5.out _ X5.out Y5.out).mono ?_
  rintro e w6 ⟨rfl, hb6⟩
  have HB6 := Lib.hid (HB5.out.trans (hb6.mono HB5.out.size))
  clear hb6
  go_wp2_with (fail)
  refine (awake_any _).mono ?_
  rintro e w9 ⟨rfl, hb9⟩
  go_wp2_with (fail)
  go_ret
  exact ⟨rfl, HB6.out.trans (hb9.mono HB6.out.size)⟩

set_option maxRecDepth 100000 in
theorem lifted_WordOrders (os : Os) (started : os.Started) (H : Type) (enc : TypeId × Value → H) :
    ReturnsInHanded {} Try.checked os 7 .any (Rows.wordOrdersSpec.pre6 enc Try.prog Try.f7 Rows.wordOrdersRow.domain false) (Rows.wordOrdersSpec.post enc Try.prog Try.f7 false true false false) := by
  refine returnsInHanded_of_change (C := Try.checked) own started (by kernel_rfl) Try.func7
    (ChangeSpec.witness6 (enc := enc) (C := Try.checked) false ⟨#[], #[.slice none 0 0, .slice none 0 0], []⟩ 8 (by kernel_rfl) (by kernel_rfl) (by kernel_rfl) (by kernel_rfl)) ?_
  intro W base args ds gs before hval0 hW hcnd _
  have hval : ∀ (j : Nat) t v, Try.f7.params[j]? = some t → args[j]? = some v → Value.okWide Try.prog W .any base t v := hval0
  have hW' := hW
  obtain ⟨p, q, hA0, hV, rfl, hfz, hnd⟩ := hW
  have hA : DataW.TrodAll enc Try.prog W 0 (fun _ => true) true Try.f7.params.toList args.toList ds p := hA0
  rw [Try.params7] at hA hval
  obtain ⟨v0, v1, d0, d1, p0, p1, rfl, rfl, rfl, h0, h1⟩ := trodAll_two hA
  obtain ⟨rfl, rfl⟩ := trodVars_none hV
  clear hA0 hval0
  simp only [List.append_nil] at hW'
  have hlt := fun x hx => hW'.lt (p := x) hx
  obtain ⟨A, c, l, rfl, hr0, hc0, hm0, hn0, hx0⟩ := open_runes (hval 0 _ v0 rfl rfl) h0
  obtain ⟨B, d, r, rfl, hr1, hc1, hm1, hn1, hx1⟩ := open_runes (hval 1 _ v1 rfl rfl) h1
  refine (walk_WordOrders A c l B d r W hr0 hr1 hm0 hm1).mono fun e W' ⟨he, hb⟩ => ?_
  subst he
  exact ⟨_, rfl, _, _, _, [], _, [], hW', trodAll_mk1 (shut_bool Try.underlying4 true), trodAll_mk2 (kept readableR rowR h0 hb fun x hx => hlt x (by simp [hx])) (kept readableR rowR h1 hb fun x hx => hlt x (by simp [hx])), rfl, World.keptBut_mono (fun x hx => ⟨hx, .inr (.inl (by simpa using hx))⟩) (hb.frame (· ∈ _)), fun h => by cases h⟩

theorem holds_WordOrders : Rows.WordOrdersSaid :=
  OpenClaim.holds_of_wide 7 Try.f7 rfl rfl rfl rfl rfl rfl rfl ⟨rfl, rfl, rfl, rfl, rfl⟩ rfl rfl rfl rfl rfl (by kernel_rfl) Try.func7 (by kernel_rfl)
    (of_decide_eq_true (by kernel_rfl)) (by unfold Func.isWrapper; first | (rw [if_pos (by decide +kernel)]; kernel_rfl) | (rw [if_neg (by decide +kernel)]; exact ⟨rfl, rfl⟩))
    (fun os started H enc _ => lifted_WordOrders os started H enc)
end Go.Proofs.Ytoofeiogjheknaa.Wo
