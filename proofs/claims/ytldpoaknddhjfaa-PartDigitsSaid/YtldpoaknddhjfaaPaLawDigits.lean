/-
  PartDigits holds for every number and every byte: the law answers true and the arguments read afterwards as they read before. No condition.
-/
import Derived.Test.YtldpoaknddhjfaaPaFrame
namespace Go.Proofs.Ytldpoaknddhjfaa.Pa
set_option maxRecDepth 100000
open Go Go.RowKit Go.ChangeShapes Go.WideShapes Go.ChangeAt Go.Proofs.Ytldpoaknddhjfaa.Sp

def DigRel (n : Int) (w : World) (s i : Value) (wr : World) : Prop := Below w.heap.size w wr ∧ ((s = .int .i64 0 ∧ i = .int .i64 0) ∨ (s = .int .i64 (n % 64) ∧ i = .int .i64 6) ∨ (s = .int .i64 (n % 4096) ∧ i = .int .i64 12) ∨ (s = .int .i64 n ∧ i = .int .i64 18))
theorem val_ok {d t u x : Int} (h : HasV d t u x) (y : Int) (hy : valI d t u x = y) : valP d t u x = (y, true) := by rw [← hy]; exact if_pos h
theorem u64_rng3 (n : Int) : 0 ≤ IntKind.u64.wrap n := by
  simp only [IntKind.wrap, IntKind.signed, IntKind.bits]
  simp
  omega
theorem dig_val (x : Int) : ∃ n : Int, 0 ≤ n ∧ n ≤ 262143 ∧ RowKit.wrap64 ((IntKind.u64.wrap x).tmod 262144) = n := by
  have h := u64_rng3 x
  generalize IntKind.u64.wrap x = m at h ⊢
  rw [Int.tmod_eq_emod_of_nonneg h]
  exact ⟨m % 262144, by omega, by omega, IntWalk.wrap64_in _ (by omega)⟩
set_option maxHeartbeats 4000000 in
theorem walk_PartDigits (x cut : Int) (w : World) (h0 : 0 ≤ cut) (h1 : cut ≤ 255) :
    Calls Try.prog 4 #[.int .i64 x, .int .u8 cut] w (RetB true w) := by
  obtain ⟨n, n0, n1, hn⟩ := dig_val x
  have HN := Lib.hid hn
  clear hn
  go_enter Try.func4, Try.ntmps4
  go_wp2_with (fail)
  rw [HN.out]
  obtain ⟨L, hL, hLc⟩ : ∃ L, cut % 3 * 6 + 6 = L ∧ (L = 6 ∨ L = 12 ∨ L = 18) := ⟨_, rfl, by omega⟩
  rw [hL]
  have HLC := Lib.hid hLc
  clear hL hLc HN
  go_loopw [7, 8] (fun s i wr => DigRel n w s i wr) (fun _ i _ => (18 - intOf i).toNat)
  case atStart => exact ⟨Below.refl _ _, .inl ⟨rfl, rfl⟩⟩
  case round =>
    obtain ⟨hb, hc⟩ := hrel
    have hz := hb.size
    have HB := Lib.hid hb
    rcases hc with ⟨rfl, rfl⟩ | ⟨rfl, rfl⟩ | ⟨rfl, rfl⟩ | ⟨rfl, rfl⟩
    · have HV := Lib.hid (fun W => value_any 0 0 6 0 n W (by omega))
      rw [val_ok (show HasV 0 6 0 n from ⟨by decide, by omega, by omega⟩) (n % 64) (by unfold valI; rw [pw_zero, pw6]; simp)] at HV
      clear hb
      go_wp2_with (fail)
      refine (HV.out _).mono ?_
      rintro e w2 ⟨rfl, hb2⟩
      have HB2 := Lib.hid (HB.out.trans (hb2.mono hz))
      clear hb2
      go_wp2_with (fail)
      go_roundw
      case rel => exact ⟨HB2.out, .inr (.inl ⟨by go_num, rfl⟩)⟩
      case measure => simp [intOf]
    · have HV := Lib.hid (fun W => value_any 0 6 6 6 n W (by omega))
      rw [val_ok (show HasV 6 6 6 n from ⟨by decide, by omega, by omega⟩) (n / 64 % 64 * 64) (by unfold valI; rw [pw6])] at HV
      clear hb
      go_wp2_with (fail)
      refine (HV.out _).mono ?_
      rintro e w2 ⟨rfl, hb2⟩
      have HB2 := Lib.hid (HB.out.trans (hb2.mono hz))
      clear hb2
      go_wp2_with (fail)
      go_roundw
      case rel => exact ⟨HB2.out, .inr (.inr (.inl ⟨by congr 1; omega, rfl⟩))⟩
      case measure => simp [intOf]
    · have HV := Lib.hid (fun W => value_any 0 12 6 12 n W (by omega))
      rw [val_ok (show HasV 12 6 12 n from ⟨by decide, by omega, by omega⟩) (n / 4096 % 64 * 4096) (by unfold valI; rw [pw6, show pw 12 = 4096 by decide])] at HV
      clear hb
      go_wp2_with (fail)
      refine (HV.out _).mono ?_
      rintro e w2 ⟨rfl, hb2⟩
      have HB2 := Lib.hid (HB.out.trans (hb2.mono hz))
      clear hb2
      go_wp2_with (fail)
      go_roundw
      case rel => exact ⟨HB2.out, .inr (.inr (.inr ⟨by congr 1; omega, rfl⟩))⟩
      case measure => simp [intOf]
    · clear hb
      rcases HLC.out with rfl | rfl | rfl
      · have HA := Lib.hid (fun W => value_any 0 0 6 0 n W (by omega))
        rw [val_ok (show HasV 0 6 0 n from ⟨by decide, by omega, by omega⟩) (n % 64) (by unfold valI; rw [pw_zero, show pw 6 = 64 by decide]; simp)] at HA
        have HC := Lib.hid (fun W => value_any 0 6 21 0 n W (by omega))
        rw [val_ok (show HasV 6 21 0 n from ⟨by decide, by omega, by omega⟩) (n / 64) (by unfold valI; rw [pw_zero, show pw 6 = 64 by decide, pw21]; omega)] at HC
        have hfin : (n % 64 + n / 64 * 64 == n) = true := by simp; omega
        go_wp2_with (fail)
        refine (HA.out _).mono ?_
        rintro e w2 ⟨rfl, hb2⟩
        have HB2 := Lib.hid (HB.out.trans (hb2.mono hz))
        clear hb2
        go_wp2_with (fail)
        refine (HC.out _).mono ?_
        rintro e w3 ⟨rfl, hb3⟩
        have HB3 := Lib.hid (HB2.out.trans (hb3.mono HB2.out.size))
        clear hb3
        go_wp2_with (fail)
        refine (pawake_any _).mono ?_
        rintro e w4 ⟨rfl, hb4⟩
        go_wp2_with (fail)
        go_ret
        exact ⟨rfl, HB3.out.trans (hb4.mono HB3.out.size)⟩
      · have HA := Lib.hid (fun W => value_any 0 0 12 0 n W (by omega))
        rw [val_ok (show HasV 0 12 0 n from ⟨by decide, by omega, by omega⟩) (n % 4096) (by unfold valI; rw [pw_zero, show pw 12 = 4096 by decide]; simp)] at HA
        have HC := Lib.hid (fun W => value_any 0 12 21 0 n W (by omega))
        rw [val_ok (show HasV 12 21 0 n from ⟨by decide, by omega, by omega⟩) (n / 4096) (by unfold valI; rw [pw_zero, show pw 12 = 4096 by decide, pw21]; omega)] at HC
        have hfin : (n % 4096 + n / 4096 * 4096 == n) = true := by simp; omega
        go_wp2_with (fail)
        refine (HA.out _).mono ?_
        rintro e w2 ⟨rfl, hb2⟩
        have HB2 := Lib.hid (HB.out.trans (hb2.mono hz))
        clear hb2
        go_wp2_with (fail)
        refine (HC.out _).mono ?_
        rintro e w3 ⟨rfl, hb3⟩
        have HB3 := Lib.hid (HB2.out.trans (hb3.mono HB2.out.size))
        clear hb3
        go_wp2_with (fail)
        refine (pawake_any _).mono ?_
        rintro e w4 ⟨rfl, hb4⟩
        go_wp2_with (fail)
        go_ret
        exact ⟨rfl, HB3.out.trans (hb4.mono HB3.out.size)⟩
      · have HA := Lib.hid (fun W => value_any 0 0 18 0 n W (by omega))
        rw [val_ok (show HasV 0 18 0 n from ⟨by decide, by omega, by omega⟩) (n % 262144) (by unfold valI; rw [pw_zero, show pw 18 = 262144 by decide]; simp)] at HA
        have HC := Lib.hid (fun W => value_any 0 18 21 0 n W (by omega))
        rw [val_ok (show HasV 18 21 0 n from ⟨by decide, by omega, by omega⟩) (n / 262144) (by unfold valI; rw [pw_zero, show pw 18 = 262144 by decide, pw21]; omega)] at HC
        have hfin : (n % 262144 + n / 262144 * 262144 == n) = true := by simp; omega
        go_wp2_with (fail)
        refine (HA.out _).mono ?_
        rintro e w2 ⟨rfl, hb2⟩
        have HB2 := Lib.hid (HB.out.trans (hb2.mono hz))
        clear hb2
        go_wp2_with (fail)
        refine (HC.out _).mono ?_
        rintro e w3 ⟨rfl, hb3⟩
        have HB3 := Lib.hid (HB2.out.trans (hb3.mono HB2.out.size))
        clear hb3
        go_wp2_with (fail)
        refine (pawake_any _).mono ?_
        rintro e w4 ⟨rfl, hb4⟩
        go_wp2_with (fail)
        go_ret
        exact ⟨rfl, HB3.out.trans (hb4.mono HB3.out.size)⟩

set_option maxRecDepth 100000 in
theorem lifted_PartDigits (os : Os) (started : os.Started) (H : Type) (enc : TypeId × Value → H) :
    ReturnsInHanded {} Try.checked os 4 .any (Rows.partDigitsSpec.pre6 enc Try.prog Try.f4 Rows.partDigitsRow.domain false) (Rows.partDigitsSpec.post enc Try.prog Try.f4 false true false false) := by
  refine returnsInHanded_of_change (C := Try.checked) own started (by kernel_rfl) Try.func4
    (ChangeSpec.witness6 (enc := enc) (C := Try.checked) false ⟨#[], #[.int .i64 0, .int .u8 0], []⟩ 8 (by kernel_rfl) (by kernel_rfl) (by kernel_rfl) (by kernel_rfl)) ?_
  intro W base args ds gs before hval0 hW hcnd _
  have hval : ∀ (j : Nat) t v, Try.f4.params[j]? = some t → args[j]? = some v → Value.okWide Try.prog W .any base t v := hval0
  have hW' := hW
  obtain ⟨p, q, hA0, hV, rfl, hfz, hnd⟩ := hW
  have hA : DataW.TrodAll enc Try.prog W 0 (fun _ => true) true Try.f4.params.toList args.toList ds p := hA0
  rw [Try.params4] at hA hval
  obtain ⟨v0, v1, d0, d1, p0, p1, rfl, rfl, rfl, h0, h1⟩ := trodAll_two hA
  obtain ⟨rfl, rfl⟩ := trodVars_none hV
  clear hA0 hval0
  simp only [List.append_nil] at hW'
  have hlt := fun x hx => hW'.lt (p := x) hx
  obtain ⟨x, rfl, rfl, rfl, hw0⟩ := open_int Try.underlying3 (hval 0 _ v0 rfl rfl) h0
  have hbx : -9223372036854775808 ≤ x ∧ x ≤ 9223372036854775807 := by simpa [Lit.wf, IntKind.min, IntKind.max, IntKind.signed, IntKind.bits] using hw0
  obtain ⟨cut, rfl, rfl, rfl, hw1⟩ := open_int Try.underlying5 (hval 1 _ v1 rfl rfl) h1
  have hbcut : 0 ≤ cut ∧ cut ≤ 255 := by simpa [Lit.wf, IntKind.min, IntKind.max, IntKind.signed, IntKind.bits] using hw1
  refine (walk_PartDigits x cut W hbcut.1 hbcut.2).mono fun e W' ⟨he, hb⟩ => ?_
  subst he
  exact ⟨_, rfl, _, _, _, [], _, [], hW', trodAll_mk1 (shut_bool Try.underlying4 true), trodAll_mk2 (shut_int Try.underlying3 hw0) (shut_int Try.underlying5 hw1), rfl, World.keptBut_mono (fun x hx => ⟨hx, .inr (.inl (by simp at hx))⟩) (hb.frame (· ∈ _)), fun h => by cases h⟩

theorem holds_PartDigits : Rows.PartDigitsSaid :=
  OpenClaim.holds_of_wide 4 Try.f4 rfl rfl rfl rfl rfl rfl rfl ⟨rfl, rfl, rfl, rfl, rfl⟩ rfl rfl rfl rfl rfl (by kernel_rfl) Try.func4 (by kernel_rfl)
    (of_decide_eq_true (by kernel_rfl)) (by unfold Func.isWrapper; first | (rw [if_pos (by decide +kernel)]; kernel_rfl) | (rw [if_neg (by decide +kernel)]; exact ⟨rfl, rfl⟩))
    (fun os started H enc _ => lifted_PartDigits os started H enc)
end Go.Proofs.Ytldpoaknddhjfaa.Pa
