/-
  SpanBack holds for every list of spans and every two numbers: the law answers true and the list reads afterwards as it read before. No condition.
-/
import Derived.Test.YtfjghokjecdfgaaSpFrame
import Derived.Test.YtfjghokjecdfgaaSpMeet
namespace Go.Proofs.Ytfjghokjecdfgaa.Sp
set_option maxRecDepth 100000
open Go Go.RowKit Go.ChangeShapes Go.WideShapes Go.ChangeAt

theorem u64_rng (n : Int) : 0 ≤ IntKind.u64.wrap n := by
  simp only [IntKind.wrap, IntKind.signed, IntKind.bits]
  simp
  omega
theorem dval (n : Int) : -1073741824 ≤ RowKit.wrap64 (RowKit.wrap64 ((IntKind.u64.wrap n).tmod 2147483648) - 1073741824) ∧ RowKit.wrap64 (RowKit.wrap64 ((IntKind.u64.wrap n).tmod 2147483648) - 1073741824) < 1073741824 := by
  have h := u64_rng n
  generalize IntKind.u64.wrap n = m at h ⊢
  rw [Int.tmod_eq_emod_of_nonneg h]
  have h1 : RowKit.wrap64 (m % 2147483648) = m % 2147483648 := IntWalk.wrap64_in _ (by omega)
  rw [h1, IntWalk.wrap64_in (m % 2147483648 - 1073741824) (by omega)]
  omega
theorem yval (n : Int) : 0 ≤ RowKit.wrap64 ((IntKind.u64.wrap n).tmod 1073741824) ∧ RowKit.wrap64 ((IntKind.u64.wrap n).tmod 1073741824) < 1073741824 := by
  have h := u64_rng n
  generalize IntKind.u64.wrap n = m at h ⊢
  rw [Int.tmod_eq_emod_of_nonneg h, IntWalk.wrap64_in (m % 1073741824) (by omega)]
  omega
theorem back_set {l o r : List Span} {d : Int} (h : Is o fun x => Rng x ∧ mem l (x - d)) (k : Is r fun x => Rng x ∧ mem [(-1073741824, 1073741824)] (x - -d)) (x : Int) : (Rng x ∧ mem o (x - -d)) ↔ (mem l x ∧ mem r x) := by
  rw [h.2, k.2]
  show Rng x ∧ (Rng (x - -d) ∧ mem l (x - -d - d)) ↔ mem l x ∧ (Rng x ∧ mem [(-1073741824, 1073741824)] (x - -d))
  rw [mem_one, show x - -d - d = x from by omega]
  unfold Rng
  simp only
  constructor
  · rintro ⟨h1, h2, h3⟩
    exact ⟨h3, h1, h2, by omega, by omega⟩
  · rintro ⟨h1, h2, h3, _⟩
    exact ⟨h2, h3, h1⟩
theorem one_on {l o : List Span} {y : Int} (h : Is o fun x => Rng x ∧ mem l (x - 1)) (hy : 0 ≤ y ∧ y < 1073741824) : memB o y = memB l (y - 1) :=
  Bool.eq_iff_iff.2 (by rw [memB_iff, memB_iff, h.2]; exact ⟨fun a => a.2, fun a => ⟨by unfold Rng; omega, a⟩⟩)

set_option maxHeartbeats 4000000 in
theorem walk_SpanBack (A : Option Addr) (c : Nat) (l : List Span) (by_ : Int) (x : Int) (w : World) (hl : RS w w.heap.size A l.length l) (hcl : l.length ≤ c) (hml : l.length ≤ maxLen) (hnl : A = none → l = [] ∧ c = 0) :
    Calls Try.prog 10 #[.slice A l.length c, .int .i64 by_, .int .i64 x] w (RetB true w) := by
  unfold maxLen at hml
  have hz0 : Below w.heap.size w (w.alloc (.cells #[.slice A l.length c] 22)) := (Below.refl _ _).alloc (Nat.le_refl _) _
  by_cases hgr : 300 < l.length
  · have HG := Lib.hid (great_any w.heap.size 1 [l.length] true _ (lens_one w A l.length c 22) (by simp) (by simp; exact hgr) (by simp; omega))
    have HB0 := Lib.hid hz0
    clear hz0 hgr
    go_enter Try.func10, Try.ntmps10
    go_wp2_with (fail)
    refine HG.out.mono ?_
    rintro e w1 ⟨rfl, rfl⟩
    go_wp2_with (fail)
    refine (awake_any _).mono ?_
    rintro e w2 ⟨rfl, hb⟩
    go_wp2_with (fail)
    go_ret
    exact ⟨rfl, HB0.out.trans (hb.mono HB0.out.size)⟩
  · have HG := Lib.hid (great_any w.heap.size 1 [l.length] false _ (lens_one w A l.length c 22) (by simp) (by simp; omega) (by simp; omega))
    have HB0 := Lib.hid hz0
    have hll : l.length ≤ 300 := by omega
    have Xl := Lib.hid (hl.belowM hz0)
    have Nl := Lib.hid hnl
    clear hz0 hgr hl hnl hml
    go_enter Try.func10, Try.ntmps10
    go_wp2_with (fail)
    refine HG.out.mono ?_
    rintro e w1 ⟨rfl, rfl⟩
    go_wp2_with (fail)
    have hd := dval by_
    generalize RowKit.wrap64 (RowKit.wrap64 ((IntKind.u64.wrap by_).tmod 2147483648) - 1073741824) = d at hd ⊢
    go_wp2_with (fail)
    refine (move_any A l.length c l d _ Xl.out (by omega) hcl).mono ?_
    rintro e w2 ⟨v2, o2, rfl, his2, ho2, hb2⟩
    obtain ⟨A2, c2, hv2, hc2, hr2⟩ := own_RS ho2
    subst hv2
    have HB2 := Lib.hid (HB0.out.trans (hb2.mono HB0.out.size))
    have Xl_2 := Lib.hid (Xl.out.belowM hb2)
    clear Xl
    have HI2 := Lib.hid his2
    have hs2 := HI2.out.1.short
    have L2 := Lib.hid hr2
    clear hb2 his2 ho2 hr2
    have hal : Below w2.heap.size w2 (w2.alloc (.cells #[.int .i64 (-1073741824), .int .i64 1073741824] 40)) := (Below.refl _ _).alloc (Nat.le_refl _) _
    have HBa := Lib.hid (HB2.out.trans (hal.mono HB2.out.size))
    have Xla := Lib.hid (Xl_2.out.belowM hal)
    clear Xl_2
    have L2a := Lib.hid (L2.out.belowM hal)
    clear L2
    have LR := Lib.hid (lit_RS (w := w2.alloc (.cells #[.int .i64 (-1073741824), .int .i64 1073741824] 40)) (g := w2.heap.size) (B := w2.heap.size + 1) (lo := -1073741824) (hi := 1073741824) (Nat.lt_succ_self _) (heap_alloc_new w2 _))
    have LR := Lib.hid (show RS _ (w2.alloc (.cells #[.int .i64 (-1073741824), .int .i64 1073741824] 40)).heap.size _ _ _ by rw [World.size_alloc]; exact LR.out)
    clear hal
    go_wp2_with (fail)
    refine (move_any (some ⟨w2.heap.size, 0, none⟩) 1 1 [(-1073741824, 1073741824)] (-d) _ LR.out (by omega) (Nat.le_refl _)).mono ?_
    rintro e w3 ⟨v3, o3, rfl, his3, ho3, hb3⟩
    obtain ⟨A3, c3, hv3, hc3, hr3⟩ := own_RS ho3
    subst hv3
    have HB3 := Lib.hid (HBa.out.trans (hb3.mono HBa.out.size))
    have Xl_3 := Lib.hid (Xla.out.belowM hb3)
    clear Xla
    have L2_3 := Lib.hid (L2a.out.belowM hb3)
    clear L2a
    have HI3 := Lib.hid his3
    have hs3 := HI3.out.1.short
    have L3 := Lib.hid hr3
    clear hb3 his3 ho3 hr3
    go_wp2_with (fail)
    have hy := yval x
    generalize RowKit.wrap64 ((IntKind.u64.wrap x).tmod 1073741824) = y at hy ⊢
    go_wp2_with (fail)
    refine (move_any A2 o2.length c2 o2 (-d) _ L2_3.out (by omega) hc2).mono ?_
    rintro e w4 ⟨v4, o4, rfl, his4, ho4, hb4⟩
    obtain ⟨A4, c4, hv4, hc4, hr4⟩ := own_RS ho4
    subst hv4
    have HB4 := Lib.hid (HB3.out.trans (hb4.mono HB3.out.size))
    have Xl_4 := Lib.hid (Xl_3.out.belowM hb4)
    clear Xl_3
    have L2_4 := Lib.hid (L2_3.out.belowM hb4)
    clear L2_3
    have L3_4 := Lib.hid (L3.out.belowM hb4)
    clear L3
    have HI4 := Lib.hid his4
    have hs4 := HI4.out.1.short
    have L4 := Lib.hid hr4
    clear hb4 his4 ho4 hr4
    go_wp2_with (fail)
    refine (meet_any A A3 l.length o3.length c c3 l o3 _ Xl_4.out L3_4.out (by omega) (by omega) hcl hc3).mono ?_
    rintro e w5 ⟨v5, o5, rfl, his5, ho5, hb5⟩
    obtain rfl : o4 = o5 := HI4.out.eq his5 (back_set HI2.out HI3.out)
    obtain ⟨A5, c5, hv5, hc5, hr5⟩ := own_RS ho5
    subst hv5
    have HB5 := Lib.hid (HB4.out.trans (hb5.mono HB4.out.size))
    have Xl_5 := Lib.hid (Xl_4.out.belowM hb5)
    clear Xl_4
    have L2_5 := Lib.hid (L2_4.out.belowM hb5)
    clear L2_4
    have L3_5 := Lib.hid (L3_4.out.belowM hb5)
    clear L3_4
    have L4_5 := Lib.hid (L4.out.belowM hb5)
    clear L4
    have HI5 := Lib.hid his5
    have hs5 := HI5.out.1.short
    have L5 := Lib.hid hr5
    clear hb5 his5 ho5 hr5
    have HS := Lib.hid (same_any A4 A5 o4.length o4.length c4 c5 o4 o4 w5 L4_5.out L5.out (by omega) (by omega))
    rw [decide_eq_true (rfl : o4 = o4)] at HS
    clear L4_5
    clear L5
    clear L2_5
    clear L3_5
    go_wp2_with (fail)
    refine (HS.out).mono ?_
    rintro e w6 ⟨rfl, hb6⟩
    have HB6 := Lib.hid (HB5.out.trans (hb6.mono HB5.out.size))
    have Xl_6 := Lib.hid (Xl_5.out.belowM hb6)
    clear Xl_5
    clear hb6
    go_wp2_with (fail)
    refine (move_any A l.length c l 1 _ Xl_6.out (by omega) hcl).mono ?_
    rintro e w7 ⟨v7, o7, rfl, his7, ho7, hb7⟩
    obtain ⟨A7, c7, hv7, hc7, hr7⟩ := own_RS ho7
    subst hv7
    have HB7 := Lib.hid (HB6.out.trans (hb7.mono HB6.out.size))
    have Xl_7 := Lib.hid (Xl_6.out.belowM hb7)
    clear Xl_6
    have HI7 := Lib.hid his7
    have hs7 := HI7.out.1.short
    have L7 := Lib.hid hr7
    clear hb7 his7 ho7 hr7
    obtain ⟨bm, hbm⟩ : ∃ b, memB l (y - 1) = b := ⟨_, rfl⟩
    have hbo : memB o7 y = bm := by rw [← hbm]; exact one_on HI7.out hy
    have HH1 := Lib.hid (fun W (hW : RS W W.heap.size A7 o7.length o7) => has_any A7 o7.length c7 o7 y W hW (by omega))
    rw [hbo] at HH1
    have HH2 := Lib.hid (fun W (hW : RS W W.heap.size A l.length l) => has_any A l.length c l (y - 1) W hW (by omega))
    rw [hbm] at HH2
    clear hbm hbo
    have hbb : (bm == bm) = true := by cases bm <;> rfl
    go_wp2_with (fail)
    refine (HH1.out _ L7.out).mono ?_
    rintro e w8 ⟨rfl, hb8⟩
    have HB8 := Lib.hid (HB7.out.trans (hb8.mono HB7.out.size))
    have Xl_8 := Lib.hid (Xl_7.out.belowM hb8)
    clear Xl_7
    have L7_8 := Lib.hid (L7.out.belowM hb8)
    clear L7
    clear hb8
    go_wp2_with (fail)
    refine (HH2.out _ Xl_8.out).mono ?_
    rintro e w9 ⟨rfl, hb9⟩
    have HB9 := Lib.hid (HB8.out.trans (hb9.mono HB8.out.size))
    have Xl_9 := Lib.hid (Xl_8.out.belowM hb9)
    clear Xl_8
    have L7_9 := Lib.hid (L7_8.out.belowM hb9)
    clear L7_8
    clear hb9
    go_wp2_with (fail)
    refine (awake_any _).mono ?_
    rintro e w10 ⟨rfl, hb10⟩
    go_wp2_with (fail)
    go_ret
    exact ⟨rfl, HB9.out.trans (hb10.mono HB9.out.size)⟩

set_option maxRecDepth 100000 in
theorem lifted_SpanBack (os : Os) (started : os.Started) (H : Type) (enc : TypeId × Value → H) :
    ReturnsInHanded {} Try.checked os 10 .any (Rows.spanBackSpec.pre6 enc Try.prog Try.f10 Rows.spanBackRow.domain false) (Rows.spanBackSpec.post enc Try.prog Try.f10 false true false false) := by
  refine returnsInHanded_of_change (C := Try.checked) own started (by kernel_rfl) Try.func10
    (ChangeSpec.witness6 (enc := enc) (C := Try.checked) false ⟨#[], #[.slice none 0 0, .int .i64 0, .int .i64 0], []⟩ 8 (by kernel_rfl) (by kernel_rfl) (by kernel_rfl) (by kernel_rfl)) ?_
  intro W base args ds gs before hval0 hW hcnd _
  have hval : ∀ (j : Nat) t v, Try.f10.params[j]? = some t → args[j]? = some v → Value.okWide Try.prog W .any base t v := hval0
  have hW' := hW
  obtain ⟨p, q, hA0, hV, rfl, hfz, hnd⟩ := hW
  have hA : DataW.TrodAll enc Try.prog W 0 (fun _ => true) true Try.f10.params.toList args.toList ds p := hA0
  rw [Try.params10] at hA hval
  obtain ⟨v0, v1, v2, d0, d1, d2, p0, p1, p2, rfl, rfl, rfl, h0, h1, h2⟩ := trodAll_three hA
  obtain ⟨rfl, rfl⟩ := trodVars_none hV
  clear hA0 hval0
  simp only [List.append_nil] at hW'
  have hlt := fun x hx => hW'.lt (p := x) hx
  obtain ⟨A, c, l, rfl, hr0, hc0, hm0, hn0⟩ := open_spans (hval 0 _ v0 rfl rfl) h0
  obtain ⟨by_, rfl, rfl, rfl, hw1⟩ := open_int Try.underlying3 (hval 1 _ v1 rfl rfl) h1
  obtain ⟨x, rfl, rfl, rfl, hw2⟩ := open_int Try.underlying3 (hval 2 _ v2 rfl rfl) h2
  have hbby_ : -9223372036854775808 ≤ by_ ∧ by_ ≤ 9223372036854775807 := by simpa [Lit.wf, IntKind.min, IntKind.max, IntKind.signed, IntKind.bits] using hw1
  have hbx : -9223372036854775808 ≤ x ∧ x ≤ 9223372036854775807 := by simpa [Lit.wf, IntKind.min, IntKind.max, IntKind.signed, IntKind.bits] using hw2
  refine (walk_SpanBack A c l by_ x W hr0 hc0 hm0 hn0 ).mono fun e W' ⟨he, hb⟩ => ?_
  subst he
  exact ⟨_, rfl, _, _, _, [], _, [], hW', trodAll_mk1 (shut_bool Try.underlying4 true), trodAll_mk3 (kept readable22 row22 h0 hb fun x hx => hlt x (by simp [hx])) (shut_int Try.underlying3 hw1) (shut_int Try.underlying3 hw2), rfl, World.keptBut_mono (fun x hx => ⟨hx, .inr (.inl (by simpa using hx))⟩) (hb.frame (· ∈ _)), fun h => by cases h⟩

theorem holds_SpanBack : Rows.SpanBackSaid :=
  OpenClaim.holds_of_wide 10 Try.f10 rfl rfl rfl rfl rfl rfl rfl ⟨rfl, rfl, rfl, rfl, rfl⟩ rfl rfl rfl rfl rfl (by kernel_rfl) Try.func10 (by kernel_rfl)
    (of_decide_eq_true (by kernel_rfl)) (by unfold Func.isWrapper; first | (rw [if_pos (by decide +kernel)]; kernel_rfl) | (rw [if_neg (by decide +kernel)]; exact ⟨rfl, rfl⟩))
    (fun os started H enc _ => lifted_SpanBack os started H enc)
end Go.Proofs.Ytfjghokjecdfgaa.Sp
