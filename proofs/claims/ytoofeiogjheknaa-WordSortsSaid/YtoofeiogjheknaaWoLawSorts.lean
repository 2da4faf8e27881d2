/-
  WordSorts holds for every sort, every symbol and every word: the law answers true and the word reads afterwards as it read before. No condition.
-/
import Derived.Test.YtoofeiogjheknaaWoFrame
import Derived.Test.YtoofeiogjheknaaWoDom
namespace Go.Proofs.Ytoofeiogjheknaa.Wo
open Go Go.RowKit Go.ChangeShapes Go.WideShapes Go.ChangeAt

set_option maxHeartbeats 2000000 in
theorem walk_WordSorts (k x : Int) (A : Option Addr) (c : Nat) (l : List Int) (w : World) (h : RR w w.heap.size A l.length l) (hm : l.length ≤ maxLen) :
    Calls Try.prog 6 #[.int .i64 k, .int .i32 x, .slice A l.length c] w (RetB true w) := by
  unfold maxLen at hm
  by_cases g1 : 2000 < l.length
  · clear h
    go_enter Try.func6, Try.ntmps6
    go_wp2_with (fail)
    refine (awake_any _).mono ?_
    rintro e w9 ⟨rfl, hb9⟩
    go_wp2_with (fail)
    go_ret
    exact ⟨rfl, hb9⟩
  have hdl : (domL k).length ≤ 2 := by unfold domL; split; decide; split <;> decide
  obtain ⟨bi, hbi⟩ : ∃ b, inS k x = b := ⟨_, rfl⟩
  obtain ⟨bf, hbf⟩ : ∃ b, fitsS k l = b := ⟨_, rfl⟩
  have H1 := Lib.hid (fun W => in_any k x W)
  have H2 := Lib.hid (fun W => rin_any k x W)
  rw [hbi] at H1 H2
  have H3 := Lib.hid (fun W (a : RR W W.heap.size A l.length l) => fits_any k A l.length c l W a (by omega))
  have H4 := Lib.hid (fun W (a : RR W W.heap.size A l.length l) => rfits_any k A l.length c l W a (by omega))
  rw [hbf] at H3 H4
  have h1 : (bi == bi) = true := by cases bi <;> rfl
  have h2 : (bf == bf) = true := by cases bf <;> rfl
  have X := Lib.hid h
  clear h hbi hbf
  go_enter Try.func6, Try.ntmps6
  go_wp2_with (fail)
  refine (domain_any k _).mono ?_
  rintro e w1 ⟨A1, c1, rfl, hr1, hb1⟩
  have HB1 := Lib.hid hb1
  have X1 := Lib.hid (X.out.belowM hb1)
  have D1 := Lib.hid hr1
  clear hb1 hr1
  go_wp2_with (fail)
  refine (rdomain_any k _).mono ?_
  rintro e w2 ⟨A2, c2, rfl, hr2, hb2⟩
  have HB2 := Lib.hid (HB1.out.trans (hb2.mono HB1.out.size))
  have X2 := Lib.hid (X1.out.belowM hb2)
  have D12 := Lib.hid (D1.out.belowM hb2)
  have D2 := Lib.hid hr2
  clear hb2 hr2
  have HS := Lib.hid (Sp.same_any A1 A2 (domL k).length (domL k).length c1 c2 (domL k) (domL k) w2 D12.out D2.out (by omega) (by omega))
  rw [decide_eq_true (rfl : domL k = domL k)] at HS
  go_wp2_with (fail)
  refine HS.out.mono ?_
  rintro e w3 ⟨rfl, hb3⟩
  have HB3 := Lib.hid (HB2.out.trans (hb3.mono HB2.out.size))
  have X3 := Lib.hid (X2.out.belowM hb3)
  clear hb3
  go_wp2_with (fail)
  refine (H1.out _).mono ?_
  rintro e w4 ⟨rfl, rfl⟩
  go_wp2_with (fail)
  refine (H2.out _).mono ?_
  rintro e w4 ⟨rfl, rfl⟩
  go_wp2_with (fail)
  refine (H3.out _ X3.out).mono ?_
  rintro e w4 ⟨rfl, rfl⟩
  go_wp2_with (fail)
  refine (H4.out _ X3.out).mono ?_
  rintro e w4 ⟨rfl, rfl⟩
  go_wp2_with (fail)
  refine (awake_any _).mono ?_
  rintro e w9 ⟨rfl, hb9⟩
  go_wp2_with (fail)
  go_ret
  exact ⟨rfl, HB3.out.trans (hb9.mono HB3.out.size)⟩

set_option maxRecDepth 100000 in
theorem lifted_WordSorts (os : Os) (started : os.Started) (H : Type) (enc : TypeId × Value → H) :
    ReturnsInHanded {} Try.checked os 6 .any (Rows.wordSortsSpec.pre6 enc Try.prog Try.f6 Rows.wordSortsRow.domain false) (Rows.wordSortsSpec.post enc Try.prog Try.f6 false true false false) := by
  refine returnsInHanded_of_change (C := Try.checked) own started (by kernel_rfl) Try.func6
    (ChangeSpec.witness6 (enc := enc) (C := Try.checked) false ⟨#[], #[.int .i64 0, .int .i32 0, .slice none 0 0], []⟩ 8 (by kernel_rfl) (by kernel_rfl) (by kernel_rfl) (by kernel_rfl)) ?_
  intro W base args ds gs before hval0 hW hcnd _
  have hval : ∀ (j : Nat) t v, Try.f6.params[j]? = some t → args[j]? = some v → Value.okWide Try.prog W .any base t v := hval0
  have hW' := hW
  obtain ⟨p, q, hA0, hV, rfl, hfz, hnd⟩ := hW
  have hA : DataW.TrodAll enc Try.prog W 0 (fun _ => true) true Try.f6.params.toList args.toList ds p := hA0
  rw [Try.params6] at hA hval
  obtain ⟨v0, v1, v2, d0, d1, d2, p0, p1, p2, rfl, rfl, rfl, h0, h1, h2⟩ := trodAll_three hA
  obtain ⟨rfl, rfl⟩ := trodVars_none hV
  clear hA0 hval0
  simp only [List.append_nil] at hW'
  have hlt := fun x hx => hW'.lt (p := x) hx
  obtain ⟨k, rfl, rfl, rfl, hw0⟩ := open_int Try.underlying3 (hval 0 _ v0 rfl rfl) h0
  obtain ⟨x, rfl, rfl, rfl, hw1⟩ := open_int Try.underlying21 (hval 1 _ v1 rfl rfl) h1
  obtain ⟨A, c, l, rfl, hr2, hc2, hm2, hn2, hx2⟩ := open_runes (hval 2 _ v2 rfl rfl) h2
  refine (walk_WordSorts k x A c l W hr2 hm2).mono fun e W' ⟨he, hb⟩ => ?_
  subst he
  exact ⟨_, rfl, _, _, _, [], _, [], hW', trodAll_mk1 (shut_bool Try.underlying4 true), trodAll_mk3 (shut_int Try.underlying3 hw0) (shut_int Try.underlying21 hw1) (kept readableR rowR h2 hb fun x hx => hlt x (by simp [hx])), rfl, World.keptBut_mono (fun x hx => ⟨hx, .inr (.inl (by simpa using hx))⟩) (hb.frame (· ∈ _)), fun h => by cases h⟩

theorem holds_WordSorts : Rows.WordSortsSaid :=
  OpenClaim.holds_of_wide 6 Try.f6 rfl rfl rfl rfl rfl rfl rfl ⟨rfl, rfl, rfl, rfl, rfl⟩ rfl rfl rfl rfl rfl (by kernel_rfl) Try.func6 (by kernel_rfl)
    (of_decide_eq_true (by kernel_rfl)) (by unfold Func.isWrapper; first | (rw [if_pos (by decide +kernel)]; kernel_rfl) | (rw [if_neg (by decide +kernel)]; exact ⟨rfl, rfl⟩))
    (fun os started H enc _ => lifted_WordSorts os started H enc)
end Go.Proofs.Ytoofeiogjheknaa.Wo
