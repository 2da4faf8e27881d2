/-
  PartValues holds for every part and every two numbers: the law answers true and the arguments read afterwards as they read before. No condition.
-/
import Derived.Test.YtldpoaknddhjfaaPaFrame
namespace Go.Proofs.Ytldpoaknddhjfaa.Pa
set_option maxRecDepth 100000
open Go Go.RowKit Go.ChangeShapes Go.WideShapes Go.ChangeAt Go.Proofs.Ytldpoaknddhjfaa.Sp

attribute [local go_sem] part_guard part_eq
set_option maxHeartbeats 4000000 in
theorem walk_PartValues (a d t u n x : Int) (w : World) (hx : x ≤ 9223372036854775807) :
    Calls Try.prog 3 #[prt a d t u, .int .i64 n, .int .i64 x] w (RetB true w) := by
  obtain ⟨⟨v, b⟩, hv⟩ : ∃ v, valP d t u x = v := ⟨_, rfl⟩
  obtain ⟨r, hr⟩ : ∃ r, rightB a d t u n = r := ⟨_, rfl⟩
  have H1 := Lib.hid (fun W => value_any a d t u x W hx)
  have H2 := Lib.hid (fun W => rvalue_any a d t u x W hx)
  have H3 := Lib.hid (fun W => right_any a d t u n W)
  have H4 := Lib.hid (fun W => rright_any a d t u n W)
  rw [hv] at H1 H2
  rw [hr] at H3 H4
  have hbb : (b == b) = true := by cases b <;> rfl
  have hrr : (r == r) = true := by cases r <;> rfl
  clear hv hr
  go_enter Try.func3, Try.ntmps3
  go_wp2_with (fail)
  refine (H1.out _).mono ?_
  rintro e w1 ⟨rfl, hb1⟩
  have q1 := boxed4 hb1
  have HB1 := Lib.hid hb1
  go_wp2_with (fail)
  refine (H2.out _).mono ?_
  rintro e w2 ⟨rfl, hb2⟩
  have hb12 := hb1.trans (hb2.mono hb1.size)
  have q2 := boxed4 hb12
  have HB2 := Lib.hid hb12
  have hz2 : w.heap.size + 1 ≤ w2.heap.size := by have := hb12.size; simp at this; omega
  have HBD := Lib.hid (((Below.refl w.heap.size w).alloc (Nat.le_refl _) _).trans (hb12.mono (by simp))).drew
  clear hb1 hb2 hb12 q1
  go_wp2_with (fail)
  go_region_held3 (fun w' => w'.cell? ⟨w.heap.size, 0, none⟩ = some (.int .i64 a) ∧ w'.cell? ⟨w.heap.size, 1, none⟩ = some (.int .i64 d) ∧ w'.cell? ⟨w.heap.size, 2, none⟩ = some (.int .i64 t) ∧ w'.cell? ⟨w.heap.size, 3, none⟩ = some (.int .i64 u))
    (first
      | go_keep
      | (go_split_ands; refine ⟨?_, ?_, ?_, ?_⟩; all_goals (rw [hb6.cell (by simp; omega)]; assumption))
      | (go_split_ands; refine ⟨?_, ?_, ?_, ?_⟩; all_goals (rw [hb5.cell (by simp; omega)]; assumption))
      | (go_split_ands; refine ⟨?_, ?_, ?_, ?_⟩; all_goals (rw [hb4.cell (by simp; omega)]; assumption))
      | (go_split_ands; refine ⟨?_, ?_, ?_, ?_⟩; all_goals (rw [hb3.cell (by simp; omega)]; assumption)))
    (first
      | (go_at_call 7; refine (H3.out _).mono ?_; rintro e w3 ⟨rfl, hb3⟩; have hz3 := hb3.size; (try simp at hz3))
      | (go_at_call 8; refine (H4.out _).mono ?_; rintro e w4 ⟨rfl, hb4⟩; have hz4 := hb4.size; (try simp at hz4))
      | (go_at_call 9; refine (whole_any n _).mono ?_; rintro e w5 ⟨rfl, hb5⟩; have hz5 := hb5.size; (try simp at hz5))
      | (go_at_call 10; refine (pawake_any _).mono ?_; rintro e w6 ⟨rfl, hb6⟩))
  all_goals
    have hz6 := hb6.size
    go_wp2_with (fail)
    go_ret
    first
      | exact ⟨rfl, (((HBD.out.trans (hb3.mono (by simp; omega))).trans (hb4.mono (by omega))).trans (hb5.mono (by omega))).trans (hb6.mono (by omega))⟩
      | exact ⟨rfl, (((HBD.out.trans (hb4.mono (by simp; omega))).trans (hb3.mono (by omega))).trans (hb5.mono (by omega))).trans (hb6.mono (by omega))⟩

set_option maxRecDepth 100000 in
theorem lifted_PartValues (os : Os) (started : os.Started) (H : Type) (enc : TypeId × Value → H) :
    ReturnsInHanded {} Try.checked os 3 .any (Rows.partValuesSpec.pre6 enc Try.prog Try.f3 Rows.partValuesRow.domain false) (Rows.partValuesSpec.post enc Try.prog Try.f3 false true false false) := by
  refine returnsInHanded_of_change (C := Try.checked) own started (by kernel_rfl) Try.func3
    (ChangeSpec.witness6 (enc := enc) (C := Try.checked) false ⟨#[], #[.agg #[.int .i64 0, .int .i64 0, .int .i64 0, .int .i64 0], .int .i64 0, .int .i64 0], []⟩ 8 (by kernel_rfl) (by kernel_rfl) (by kernel_rfl) (by kernel_rfl)) ?_
  intro W base args ds gs before hval0 hW hcnd _
  have hval : ∀ (j : Nat) t v, Try.f3.params[j]? = some t → args[j]? = some v → Value.okWide Try.prog W .any base t v := hval0
  have hW' := hW
  obtain ⟨p, q, hA0, hV, rfl, hfz, hnd⟩ := hW
  have hA : DataW.TrodAll enc Try.prog W 0 (fun _ => true) true Try.f3.params.toList args.toList ds p := hA0
  rw [Try.params3] at hA hval
  obtain ⟨v0, v1, v2, d0, d1, d2, p0, p1, p2, rfl, rfl, rfl, h0, h1, h2⟩ := trodAll_three hA
  obtain ⟨rfl, rfl⟩ := trodVars_none hV
  clear hA0 hval0
  simp only [List.append_nil] at hW'
  have hlt := fun x hx => hW'.lt (p := x) hx
  obtain ⟨a, d, t, u, rfl⟩ := open_part (hval 0 _ v0 rfl rfl) h0
  obtain ⟨n, rfl, rfl, rfl, hw1⟩ := open_int Try.underlying3 (hval 1 _ v1 rfl rfl) h1
  have hbn : -9223372036854775808 ≤ n ∧ n ≤ 9223372036854775807 := by simpa [Lit.wf, IntKind.min, IntKind.max, IntKind.signed, IntKind.bits] using hw1
  obtain ⟨x, rfl, rfl, rfl, hw2⟩ := open_int Try.underlying3 (hval 2 _ v2 rfl rfl) h2
  have hbx : -9223372036854775808 ≤ x ∧ x ≤ 9223372036854775807 := by simpa [Lit.wf, IntKind.min, IntKind.max, IntKind.signed, IntKind.bits] using hw2
  refine (walk_PartValues a d t u n x W hbx.2).mono fun e W' ⟨he, hb⟩ => ?_
  subst he
  exact ⟨_, rfl, _, _, _, [], _, [], hW', trodAll_mk1 (shut_bool Try.underlying4 true), trodAll_mk3 (kept readablePart rowPart h0 hb fun x hx => hlt x (by simp [hx])) (shut_int Try.underlying3 hw1) (shut_int Try.underlying3 hw2), rfl, World.keptBut_mono (fun x hx => ⟨hx, .inr (.inl (by simpa using hx))⟩) (hb.frame (· ∈ _)), fun h => by cases h⟩

theorem holds_PartValues : Rows.PartValuesSaid :=
  OpenClaim.holds_of_wide 3 Try.f3 rfl rfl rfl rfl rfl rfl rfl ⟨rfl, rfl, rfl, rfl, rfl⟩ rfl rfl rfl rfl rfl (by kernel_rfl) Try.func3 (by kernel_rfl)
    (of_decide_eq_true (by kernel_rfl)) (by unfold Func.isWrapper; first | (rw [if_pos (by decide +kernel)]; kernel_rfl) | (rw [if_neg (by decide +kernel)]; exact ⟨rfl, rfl⟩))
    (fun os started H enc _ => lifted_PartValues os started H enc)
end Go.Proofs.Ytldpoaknddhjfaa.Pa
