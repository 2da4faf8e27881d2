/-
  SpanAsks holds for every list of spans, every number and every place: the law answers true and the list reads afterwards as it read before. No condition.
-/
import Derived.Test.YtfjghokjecdfgaaSpFrame
import Derived.Test.YtfjghokjecdfgaaSpRest
namespace Go.Proofs.Ytfjghokjecdfgaa.Sp
set_option maxRecDepth 100000
open Go Go.RowKit Go.ChangeShapes Go.WideShapes Go.ChangeAt

theorem exists_lay (l : List Span) : ∀ k, k ≤ l.length → ∃ out, LayInv l k out := by
  intro k
  induction k with
  | zero => exact fun _ => ⟨[], LayInv.start l⟩
  | succ k ih =>
    intro hk
    obtain ⟨out, h⟩ := ih (by omega)
    exact ⟨_, h.next (by omega)⟩
theorem exists_join (d : List Span) (hs : SortedLo d) (hd : ∀ p ∈ d, Ok p) : ∀ k, k ≤ d.length → ∃ out, JoinInv d k out := by
  intro k
  induction k with
  | zero => exact fun _ => ⟨[], JoinInv.start d⟩
  | succ k ih =>
    intro hk
    obtain ⟨out, h⟩ := ih (by omega)
    rcases List.eq_nil_or_concat out with rfl | ⟨o, r, rfl⟩
    · exact ⟨_, h.more hs hd (by omega) (fun r hr => by simp at hr)⟩
    · rw [List.concat_eq_append] at h
      by_cases hle : d[k].1 ≤ r.2 + 1
      · exact ⟨_, h.merge hd (by omega) hle⟩
      · exact ⟨_, h.more hs hd (by omega) (fun q hq => by simp at hq; subst hq; omega)⟩
theorem exists_plain (l : List Span) : ∃ p, Is p (mem l) := by
  obtain ⟨out, h⟩ := exists_lay l l.length (Nat.le_refl _)
  have hperm := List.mergeSort_perm out (fun a b => decide (a.1 ≤ b.1))
  have hsort : SortedLo (out.mergeSort fun a b => decide (a.1 ≤ b.1)) := by
    have := List.pairwise_mergeSort (le := fun (a b : Span) => decide (a.1 ≤ b.1)) (fun a b c h1 h2 => by simp at *; omega) (fun a b => by simp; omega) out
    exact this.imp fun h => by simpa using h
  obtain ⟨q, hq⟩ := exists_join _ hsort (fun p hp => h.ok p (hperm.mem_iff.1 hp)) _ (Nat.le_refl _)
  refine ⟨q, (hq.done (Nat.le_refl _)).congr fun x => ?_⟩
  rw [mem_perm hperm x, h.set, List.take_length]
theorem nth_first (p : List Span) (hp : Plain p) : nthB p 0 = fstP p := by
  cases p with
  | nil => rfl
  | cons q p =>
    have := hp.cons.1
    unfold Ok at this
    simp [nthB, nth, fstP, show 0 < q.2 - q.1 + 1 from by omega]
theorem nth_last : ∀ (p : List Span), Plain p → p ≠ [] → ∃ q, p.getLast? = some q ∧ nth p (cnt p - 1) = some q.2 := by
  intro p
  induction p with
  | nil => exact fun _ h => absurd rfl h
  | cons q p ih =>
    intro hp _
    obtain ⟨hq, hp', _⟩ := hp.cons
    unfold Ok at hq
    by_cases he : p = []
    · subst he
      refine ⟨q, rfl, ?_⟩
      have e : cnt [q] - 1 = q.2 - q.1 := by simp only [cnt]; omega
      rw [e, nth, if_pos (by omega)]
      congr 1; omega
    · obtain ⟨r, hr, hn⟩ := ih hp' he
      refine ⟨r, by rw [List.getLast?_cons, hr]; rfl, ?_⟩
      have h1 : 1 ≤ cnt p := by
        cases p with
        | nil => exact absurd rfl he
        | cons s p =>
          obtain ⟨hs, hp2, _⟩ := hp'.cons
          unfold Ok at hs
          have := cnt_nonneg hp2
          simp only [cnt]; omega
      have e : cnt (q :: p) - 1 = (q.2 - q.1 + 1) + (cnt p - 1) := by simp only [cnt]; omega
      rw [e, nth, if_neg (by omega), ← hn]
      congr 1; omega
theorem nth_lastB (p : List Span) (hp : Plain p) : nthB p (cnt p - 1) = lstP p := by
  by_cases he : p = []
  · subst he; rfl
  · obtain ⟨q, h1, h2⟩ := nth_last p hp he
    have : 1 ≤ cnt p := by
      cases p with
      | nil => exact absurd rfl he
      | cons s p =>
        obtain ⟨hs, hp2, _⟩ := hp.cons
        unfold Ok at hs
        have := cnt_nonneg hp2
        simp only [cnt]; omega
    simp [nthB, lstP, h1, h2, show ¬ cnt p - 1 < 0 from by omega]
theorem ends_alike (p : List Span) (hp : Plain p) : ∃ a0 a1 b0, fstP p = (a0, b0) ∧ lstP p = (a1, b0) ∧ (b0 = true → 0 < cnt p) ∧ (b0 = false → cnt p = 0) := by
  cases p with
  | nil => exact ⟨0, 0, false, rfl, rfl, fun h => (by cases h), fun _ => rfl⟩
  | cons s p =>
    obtain ⟨q, h1, _⟩ := nth_last (s :: p) hp (by simp)
    obtain ⟨hs, hp2, _⟩ := hp.cons
    unfold Ok at hs
    have := cnt_nonneg hp2
    exact ⟨s.1, q.2, true, rfl, by simp [lstP, h1], fun _ => by simp only [cnt]; omega, fun h => by cases h⟩

set_option maxHeartbeats 4000000 in
theorem walk_SpanAsks (A : Option Addr) (c : Nat) (l : List Span) (x : Int) (i : Int) (w : World) (hl : RS w w.heap.size A l.length l) (hcl : l.length ≤ c) (hml : l.length ≤ maxLen) (hnl : A = none → l = [] ∧ c = 0) (p : List Span) (a0 a1 a2 m : Int) (b0 b2 bm : Bool) (hp : Is p (mem l)) (hx : memB l x = bm) (hm : cnt p = m) (hf : fstP p = (a0, b0)) (ht : lstP p = (a1, b0)) (hi : nthB p i = (a2, b2)) (hm0 : 0 ≤ m) (hm1 : m ≤ 2147483650) (hb0 : b0 = true → 0 < m) (hb1 : b0 = false → m = 0) (hn0 : nthB p 0 = (a0, b0)) (hn1 : nthB p (m - 1) = (a1, b0)) (hilo : -9223372036854775808 ≤ i ∧ i ≤ 9223372036854775807) :
    Calls Try.prog 4 #[.slice A l.length c, .int .i64 x, .int .i64 i] w (RetB true w) := by
  unfold maxLen at hml
  have hz0 : Below w.heap.size w (w.alloc (.cells #[.slice A l.length c] 22)) := (Below.refl _ _).alloc (Nat.le_refl _) _
  by_cases hgr : 300 < l.length
  · have HG := Lib.hid (great_any w.heap.size 1 [l.length] true _ (lens_one w A l.length c 22) (by simp) (by simp; exact hgr) (by simp; omega))
    have HB0 := Lib.hid hz0
    clear hz0 hgr hp hx hm hf ht hi hn0 hn1 hb0 hb1 hcl hl hnl hml
    go_enter Try.func4, Try.ntmps4
    go_wp2_with (fail)
    refine HG.out.mono ?_
    rintro e w1 ⟨rfl, rfl⟩
    go_wp2_with (fail)
    refine (awake_any _).mono ?_
    rintro e w2 ⟨rfl, hb⟩
    go_wp2_with (fail)
    go_ret
    exact ⟨rfl, HB0.out.trans (hb.mono HB0.out.size)⟩
  · have HG := Lib.hid (great_any w.heap.size 1 [l.length] false _ (lens_one w A l.length c 22) (by simp) (by simp; omega) (by simp; omega))
    have HB0 := Lib.hid hz0
    have hll : l.length ≤ 300 := by omega
    have Xl := Lib.hid (hl.belowM hz0)
    have Nl := Lib.hid hnl
    clear hz0 hgr hl hnl hml
    have HRC := Lib.hid (fun W (hW : RS W W.heap.size A l.length l) => rcount_any A l.length c l p W hW (by omega) hp)
    rw [hm] at HRC
    have HCC := Lib.hid (fun W (hW : RS W W.heap.size A l.length l) => count_any A l.length c l p W hW (by omega) hcl hp)
    rw [hm] at HCC
    have HFI := Lib.hid (fun W (hW : RS W W.heap.size A l.length l) => first_any A l.length c l p W hW (by omega) hcl hp)
    rw [hf] at HFI
    have HLA := Lib.hid (fun W (hW : RS W W.heap.size A l.length l) => last_any A l.length c l p W hW (by omega) hcl hp)
    rw [ht] at HLA
    have HAT := Lib.hid (fun W (hW : RS W W.heap.size A l.length l) => at_any A l.length c l p i W hW (by omega) hcl hp (by omega))
    rw [hi] at HAT
    have HRA := Lib.hid (fun W (hW : RS W W.heap.size A l.length l) => rat_any A l.length c l p i W hW (by omega) hp (by omega))
    rw [hi] at HRA
    have HR0 := Lib.hid (fun W (hW : RS W W.heap.size A l.length l) => rat_any A l.length c l p 0 W hW (by omega) hp (by omega))
    rw [hn0] at HR0
    have HR1 := Lib.hid (fun W (hW : RS W W.heap.size A l.length l) => rat_any A l.length c l p (m - 1) W hW (by omega) hp (by omega))
    rw [hn1] at HR1
    have HHA := Lib.hid (fun W (hW : RS W W.heap.size A l.length l) => has_any A l.length c l x W hW (by omega))
    rw [hx] at HHA
    have HRH := Lib.hid (fun W (hW : RS W W.heap.size A l.length l) => rhas_any A l.length c l x W hW (by omega))
    rw [hx] at HRH
    have HM1 := Lib.hid hb0
    have HM2 := Lib.hid hb1
    clear hp hx hm hf ht hi hn0 hn1 hb0 hb1 hcl
    go_enter Try.func4, Try.ntmps4
    go_wp2_with (fail)
    refine HG.out.mono ?_
    rintro e w1 ⟨rfl, rfl⟩
    go_wp2_with (fail)
    refine (HRC.out _ Xl.out).mono ?_
    rintro e w2 ⟨rfl, hb2⟩
    have HB2 := Lib.hid (HB0.out.trans (hb2.mono HB0.out.size))
    have Xl_2 := Lib.hid (Xl.out.belowM hb2)
    clear Xl
    clear hb2
    go_wp2_with (fail)
    refine (HFI.out _ Xl_2.out).mono ?_
    rintro e w3 ⟨rfl, hb3⟩
    have HB3 := Lib.hid (HB2.out.trans (hb3.mono HB2.out.size))
    have Xl_3 := Lib.hid (Xl_2.out.belowM hb3)
    clear Xl_2
    clear hb3
    go_wp2_with (fail)
    refine (HLA.out _ Xl_3.out).mono ?_
    rintro e w4 ⟨rfl, hb4⟩
    have HB4 := Lib.hid (HB3.out.trans (hb4.mono HB3.out.size))
    have Xl_4 := Lib.hid (Xl_3.out.belowM hb4)
    clear Xl_3
    clear hb4
    go_wp2_with (fail)
    refine (HAT.out _ Xl_4.out).mono ?_
    rintro e w5 ⟨rfl, hb5⟩
    have HB5 := Lib.hid (HB4.out.trans (hb5.mono HB4.out.size))
    have Xl_5 := Lib.hid (Xl_4.out.belowM hb5)
    clear Xl_4
    clear hb5
    go_wp2_with (fail)
    refine (HRA.out _ Xl_5.out).mono ?_
    rintro e w6 ⟨rfl, hb6⟩
    have HB6 := Lib.hid (HB5.out.trans (hb6.mono HB5.out.size))
    have Xl_6 := Lib.hid (Xl_5.out.belowM hb6)
    clear Xl_5
    clear hb6
    go_wp2_with (fail)
    refine (HR0.out _ Xl_6.out).mono ?_
    rintro e w7 ⟨rfl, hb7⟩
    have HB7 := Lib.hid (HB6.out.trans (hb7.mono HB6.out.size))
    have Xl_7 := Lib.hid (Xl_6.out.belowM hb7)
    clear Xl_6
    clear hb7
    go_wp2_with (fail)
    refine (HR1.out _ Xl_7.out).mono ?_
    rintro e w8 ⟨rfl, hb8⟩
    have HB8 := Lib.hid (HB7.out.trans (hb8.mono HB7.out.size))
    have Xl_8 := Lib.hid (Xl_7.out.belowM hb8)
    clear Xl_7
    clear hb8
    go_wp2_with (fail)
    refine (HHA.out _ Xl_8.out).mono ?_
    rintro e w9 ⟨rfl, hb9⟩
    have HB9 := Lib.hid (HB8.out.trans (hb9.mono HB8.out.size))
    have Xl_9 := Lib.hid (Xl_8.out.belowM hb9)
    clear Xl_8
    clear hb9
    go_wp2_with (fail)
    refine (HRH.out _ Xl_9.out).mono ?_
    rintro e w90 ⟨rfl, rfl⟩
    have hbb : (bm == bm) = true := by cases bm <;> rfl
    have hbc : (b2 == b2) = true := by cases b2 <;> rfl
    go_wp2_with (fail)
    refine (HCC.out _ Xl_9.out).mono ?_
    rintro e w10 ⟨rfl, hb10⟩
    have HB10 := Lib.hid (HB9.out.trans (hb10.mono HB9.out.size))
    have Xl_10 := Lib.hid (Xl_9.out.belowM hb10)
    clear Xl_9
    rcases b0 with _ | _
    · obtain rfl : m = 0 := HM2.out rfl
      go_wp2_with (fail)
      refine (awake_any _).mono ?_
      rintro e w11 ⟨rfl, hb11⟩
      go_wp2_with (fail)
      go_ret
      exact ⟨rfl, HB10.out.trans (hb11.mono HB10.out.size)⟩
    · have hm2 : 0 < m := HM1.out rfl
      go_wp2_with (fail)
      refine (awake_any _).mono ?_
      rintro e w11 ⟨rfl, hb11⟩
      go_wp2_with (fail)
      go_ret
      exact ⟨rfl, HB10.out.trans (hb11.mono HB10.out.size)⟩

set_option maxRecDepth 100000 in
theorem lifted_SpanAsks (os : Os) (started : os.Started) (H : Type) (enc : TypeId × Value → H) :
    ReturnsInHanded {} Try.checked os 4 .any (Rows.spanAsksSpec.pre6 enc Try.prog Try.f4 Rows.spanAsksRow.domain false) (Rows.spanAsksSpec.post enc Try.prog Try.f4 false true false false) := by
  refine returnsInHanded_of_change (C := Try.checked) own started (by kernel_rfl) Try.func4
    (ChangeSpec.witness6 (enc := enc) (C := Try.checked) false ⟨#[], #[.slice none 0 0, .int .i64 0, .int .i64 0], []⟩ 8 (by kernel_rfl) (by kernel_rfl) (by kernel_rfl) (by kernel_rfl)) ?_
  intro W base args ds gs before hval0 hW hcnd _
  have hval : ∀ (j : Nat) t v, Try.f4.params[j]? = some t → args[j]? = some v → Value.okWide Try.prog W .any base t v := hval0
  have hW' := hW
  obtain ⟨p, q, hA0, hV, rfl, hfz, hnd⟩ := hW
  have hA : DataW.TrodAll enc Try.prog W 0 (fun _ => true) true Try.f4.params.toList args.toList ds p := hA0
  rw [Try.params4] at hA hval
  obtain ⟨v0, v1, v2, d0, d1, d2, p0, p1, p2, rfl, rfl, rfl, h0, h1, h2⟩ := trodAll_three hA
  obtain ⟨rfl, rfl⟩ := trodVars_none hV
  clear hA0 hval0
  simp only [List.append_nil] at hW'
  have hlt := fun x hx => hW'.lt (p := x) hx
  obtain ⟨A, c, l, rfl, hr0, hc0, hm0, hn0⟩ := open_spans (hval 0 _ v0 rfl rfl) h0
  obtain ⟨x, rfl, rfl, rfl, hw1⟩ := open_int Try.underlying3 (hval 1 _ v1 rfl rfl) h1
  obtain ⟨i, rfl, rfl, rfl, hw2⟩ := open_int Try.underlying3 (hval 2 _ v2 rfl rfl) h2
  have hbi : -9223372036854775808 ≤ i ∧ i ≤ 9223372036854775807 := by simpa [Lit.wf, IntKind.min, IntKind.max, IntKind.signed, IntKind.bits] using hw2
  obtain ⟨pl, hpl⟩ := exists_plain l
  obtain ⟨a0, a1, b0, hf, ht, hb0, hb1⟩ := ends_alike pl hpl.1
  have hn0' := (nth_first pl hpl.1).trans hf
  have hn1' := (nth_lastB pl hpl.1).trans ht
  obtain ⟨⟨a2, b2⟩, hi2⟩ : ∃ q, nthB pl i = q := ⟨_, rfl⟩
  refine (walk_SpanAsks A c l x i W hr0 hc0 hm0 hn0 pl a0 a1 a2 (cnt pl) b0 b2 (memB l x) hpl rfl rfl hf ht hi2 (cnt_nonneg hpl.1) (cnt_le hpl.1) hb0 hb1 hn0' hn1' hbi).mono fun e W' ⟨he, hb⟩ => ?_
  subst he
  exact ⟨_, rfl, _, _, _, [], _, [], hW', trodAll_mk1 (shut_bool Try.underlying4 true), trodAll_mk3 (kept readable22 row22 h0 hb fun x hx => hlt x (by simp [hx])) (shut_int Try.underlying3 hw1) (shut_int Try.underlying3 hw2), rfl, World.keptBut_mono (fun x hx => ⟨hx, .inr (.inl (by simpa using hx))⟩) (hb.frame (· ∈ _)), fun h => by cases h⟩

theorem holds_SpanAsks : Rows.SpanAsksSaid :=
  OpenClaim.holds_of_wide 4 Try.f4 rfl rfl rfl rfl rfl rfl rfl ⟨rfl, rfl, rfl, rfl, rfl⟩ rfl rfl rfl rfl rfl (by kernel_rfl) Try.func4 (by kernel_rfl)
    (of_decide_eq_true (by kernel_rfl)) (by unfold Func.isWrapper; first | (rw [if_pos (by decide +kernel)]; kernel_rfl) | (rw [if_neg (by decide +kernel)]; exact ⟨rfl, rfl⟩))
    (fun os started H enc _ => lifted_SpanAsks os started H enc)
end Go.Proofs.Ytfjghokjecdfgaa.Sp
