/-
  PartPres holds for every part and every two lists of spans: the law answers true and the arguments read afterwards as they read before. No condition.
-/
import Derived.Test.YtfjghokjecdfgaaPaFrame
import Derived.Test.YtfjghokjecdfgaaPaRPre
import Derived.Test.YtfjghokjecdfgaaPaGreat
namespace Go.Proofs.Ytfjghokjecdfgaa.Pa
set_option maxRecDepth 100000
open Go Go.RowKit Go.ChangeShapes Go.WideShapes Go.ChangeAt Go.Proofs.Ytfjghokjecdfgaa.Sp

set_option maxHeartbeats 8000000 in
theorem walk_PartPres (a d t u : Int) (A : Option Addr) (c : Nat) (s : List Span) (B : Option Addr) (e : Nat) (g : List Span) (w : World) (hs : RS w w.heap.size A s.length s) (hcs : s.length ≤ c) (hms : s.length ≤ maxLen) (hg : RS w w.heap.size B g.length g) (hcg : g.length ≤ e) (hmg : g.length ≤ maxLen) :
    Calls Try.prog 12 #[prt a d t u, .slice A s.length c, .slice B g.length e] w (RetB true w) := by
  unfold maxLen at hms hmg
  by_cases g1 : 50 < s.length
  · have HG := Lib.hid (pgreat_any A B s.length g.length c e true (w.alloc (.cells #[.int .i64 a, .int .i64 d, .int .i64 t, .int .i64 u] 43)) (by simp; omega))
    clear hs hg
    go_enter Try.func12, Try.ntmps12
    go_wp2_with (fail)
    refine HG.out.mono ?_
    rintro e w8 ⟨rfl, rfl⟩
    go_wp2_with (fail)
    refine (pawake_any _).mono ?_
    rintro e w9 ⟨rfl, hb9⟩
    go_wp2_with (fail)
    go_ret
    exact ⟨rfl, ((Below.refl _ _).alloc (Nat.le_refl _) _).trans (hb9.mono (by simp))⟩
  by_cases g2 : 8 < g.length
  · have HG := Lib.hid (pgreat_any A B s.length g.length c e true (w.alloc (.cells #[.int .i64 a, .int .i64 d, .int .i64 t, .int .i64 u] 43)) (by simp; omega))
    clear hs hg
    go_enter Try.func12, Try.ntmps12
    go_wp2_with (fail)
    refine HG.out.mono ?_
    rintro e w8 ⟨rfl, rfl⟩
    go_wp2_with (fail)
    refine (pawake_any _).mono ?_
    rintro e w9 ⟨rfl, hb9⟩
    go_wp2_with (fail)
    go_ret
    exact ⟨rfl, ((Below.refl _ _).alloc (Nat.le_refl _) _).trans (hb9.mono (by simp))⟩
  have HG := Lib.hid (pgreat_any A B s.length g.length c e false (w.alloc (.cells #[.int .i64 a, .int .i64 d, .int .i64 t, .int .i64 u] 43)) (by simp; omega))
  obtain ⟨w0, hw0⟩ : ∃ w0, w.alloc (.cells #[.int .i64 a, .int .i64 d, .int .i64 t, .int .i64 u] 43) = w0 := ⟨_, rfl⟩
  rw [hw0] at HG
  have hbw : Below w.heap.size w w0 := by rw [← hw0]; exact (Below.refl _ w).alloc (Nat.le_refl _) _
  have q0 : ∀ (W : World), Below w0.heap.size w0 W → W.cell? ⟨w.heap.size, 0, none⟩ = some (.int .i64 a) ∧ W.cell? ⟨w.heap.size, 1, none⟩ = some (.int .i64 d) ∧ W.cell? ⟨w.heap.size, 2, none⟩ = some (.int .i64 t) ∧ W.cell? ⟨w.heap.size, 3, none⟩ = some (.int .i64 u) := by
    rw [← hw0]; exact fun W hW => boxed4 hW
  have Q0 := Lib.hid q0
  have HW := Lib.hid hbw
  have HB0 := Lib.hid (Below.refl w0.heap.size w0)
  have Xs := Lib.hid (hs.belowM hbw)
  have Xg := Lib.hid (hg.belowM hbw)
  clear q0 hbw hs hg
  go_enter Try.func12, Try.ntmps12
  go_wp2_with (fail)
  refine HG.out.mono ?_
  rintro e w1 ⟨rfl, rfl⟩
  go_wp2_with (fail)
  obtain ⟨r0, r1, r2, r3⟩ := Q0.out _ (Below.refl _ w0)
  go_region_held3 (fun w' => w'.cell? ⟨w.heap.size, 0, none⟩ = some (.int .i64 a) ∧ w'.cell? ⟨w.heap.size, 1, none⟩ = some (.int .i64 d) ∧ w'.cell? ⟨w.heap.size, 2, none⟩ = some (.int .i64 t) ∧ w'.cell? ⟨w.heap.size, 3, none⟩ = some (.int .i64 u))
    (first | go_keep | exact Q0.out _ hB5 | exact Q0.out _ hB4 | exact Q0.out _ hB3 | exact Q0.out _ hB2)
    (first
      | (go_at_call 44; (with_reducible refine (pre_any a d t u A B s.length g.length c e s g _ (Xs.out.belowM (Below.refl _ w0).drew) (Xg.out.belowM (Below.refl _ w0).drew) (by omega) hcs (by omega) hcg).mono ?_); rintro q2 w2 ⟨v2, o2, rfl, his2, ho2, hb2⟩; obtain ⟨A2, c2, hv2, hc2, hr2⟩ := own_RS ho2; subst hv2; have hs2 := his2.1.short; have hB2 : Below w0.heap.size w0 w2 := (Below.refl _ w0).drew.trans (hb2.mono (by simp)))
      | (go_at_call 45; (with_reducible refine (rpre_any a d t u A B s.length g.length c e s g _ (Xs.out.belowM hB2) (Xg.out.belowM hB2) (by omega) (by omega)).mono ?_); rintro q3 w3 ⟨v3, o3, rfl, his3, ho3, hb3⟩; obtain rfl : o2 = o3 := his2.eq his3 (fun _ => Iff.rfl); obtain ⟨A3, c3, hv3, hc3, hr3⟩ := own_RS ho3; subst hv3; have hB3 : Below w0.heap.size w0 w3 := hB2.trans (hb3.mono hB2.size))
      | (go_at_call 20; have HSM := Lib.hid (same_any A2 A3 o2.length o2.length c2 c3 o2 o2 w3 (hr2.belowM hb3) hr3 (by omega) (by omega)); rw [decide_eq_true (rfl : o2 = o2)] at HSM; refine HSM.out.mono ?_; rintro q4 w4 ⟨rfl, hb4⟩; have hB4 : Below w0.heap.size w0 w4 := hB3.trans (hb4.mono hB3.size))
      | (go_at_call 40; refine (pawake_any _).mono ?_; rintro q5 w5 ⟨rfl, hb5⟩; have hB5 : Below w0.heap.size w0 w5 := hB4.trans (hb5.mono hB4.size)))
  have HF := Lib.hid hB5
  clear hB2 hB3 hB4 hB5 hb2 hb3 hb4 hb5 his2 his3 ho2 ho3 hr2 hr3
  go_wp2_with (fail)
  go_ret
  exact ⟨rfl, HW.out.trans (HF.out.mono HW.out.size)⟩

set_option maxRecDepth 100000 in
theorem lifted_PartPres (os : Os) (started : os.Started) (H : Type) (enc : TypeId × Value → H) :
    ReturnsInHanded {} Try.checked os 12 .any (Rows.partPresSpec.pre6 enc Try.prog Try.f12 Rows.partPresRow.domain false) (Rows.partPresSpec.post enc Try.prog Try.f12 false true false false) := by
  refine returnsInHanded_of_change (C := Try.checked) own started (by kernel_rfl) Try.func12
    (ChangeSpec.witness6 (enc := enc) (C := Try.checked) false ⟨#[], #[.agg #[.int .i64 0, .int .i64 0, .int .i64 0, .int .i64 0], .slice none 0 0, .slice none 0 0], []⟩ 8 (by kernel_rfl) (by kernel_rfl) (by kernel_rfl) (by kernel_rfl)) ?_
  intro W base args ds gs before hval0 hW hcnd _
  have hval : ∀ (j : Nat) t v, Try.f12.params[j]? = some t → args[j]? = some v → Value.okWide Try.prog W .any base t v := hval0
  have hW' := hW
  obtain ⟨p, q, hA0, hV, rfl, hfz, hnd⟩ := hW
  have hA : DataW.TrodAll enc Try.prog W 0 (fun _ => true) true Try.f12.params.toList args.toList ds p := hA0
  rw [Try.params12] at hA hval
  obtain ⟨v0, v1, v2, d0, d1, d2, p0, p1, p2, rfl, rfl, rfl, h0, h1, h2⟩ := trodAll_three hA
  obtain ⟨rfl, rfl⟩ := trodVars_none hV
  clear hA0 hval0
  simp only [List.append_nil] at hW'
  have hlt := fun x hx => hW'.lt (p := x) hx
  obtain ⟨a, d, t, u, rfl⟩ := open_part (hval 0 _ v0 rfl rfl) h0
  obtain ⟨A, c, s, rfl, hr1, hc1, hm1, hn1⟩ := open_spans (hval 1 _ v1 rfl rfl) h1
  obtain ⟨B, e, g, rfl, hr2, hc2, hm2, hn2⟩ := open_spans (hval 2 _ v2 rfl rfl) h2
  refine (walk_PartPres a d t u A c s B e g W hr1 hc1 hm1 hr2 hc2 hm2).mono fun e W' ⟨he, hb⟩ => ?_
  subst he
  exact ⟨_, rfl, _, _, _, [], _, [], hW', trodAll_mk1 (shut_bool Try.underlying4 true), trodAll_mk3 (kept readablePart rowPart h0 hb fun x hx => hlt x (by simp [hx])) (kept readable22 row22 h1 hb fun x hx => hlt x (by simp [hx])) (kept readable22 row22 h2 hb fun x hx => hlt x (by simp [hx])), rfl, World.keptBut_mono (fun x hx => ⟨hx, .inr (.inl (by simpa using hx))⟩) (hb.frame (· ∈ _)), fun h => by cases h⟩

theorem holds_PartPres : Rows.PartPresSaid :=
  OpenClaim.holds_of_wide 12 Try.f12 rfl rfl rfl rfl rfl rfl rfl ⟨rfl, rfl, rfl, rfl, rfl⟩ rfl rfl rfl rfl rfl (by kernel_rfl) Try.func12 (by kernel_rfl)
    (of_decide_eq_true (by kernel_rfl)) (by unfold Func.isWrapper; first | (rw [if_pos (by decide +kernel)]; kernel_rfl) | (rw [if_neg (by decide +kernel)]; exact ⟨rfl, rfl⟩))
    (fun os started H enc _ => lifted_PartPres os started H enc)
end Go.Proofs.Ytfjghokjecdfgaa.Pa
