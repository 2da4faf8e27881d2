/-
  PartPoints holds for every part, every two lists of spans and every number: the law answers true and the arguments read afterwards as they read before. No condition.
-/
import Derived.Test.YtfjghokjecdfgaaPaFrame
namespace Go.Proofs.Ytfjghokjecdfgaa.Pa
set_option maxRecDepth 100000
open Go Go.RowKit Go.ChangeShapes Go.WideShapes Go.ChangeAt Go.Proofs.Ytfjghokjecdfgaa.Sp

theorem pre_point {d t u : Int} {s g : List Span} (x : Int) : PreS d t u s g x ↔ (HasV d t u x ∧ mem s x ∧ mem g (valI d t u x)) := by
  unfold PreS DomS HasV
  exact ⟨fun h => ⟨⟨h.1.1, h.1.2.2⟩, h.1.2.1, h.2⟩, fun h => ⟨⟨h.1.1, h.2.1, h.1.2⟩, h.2.2⟩⟩
theorem img_point {d t u : Int} {s : List Span} (x : Int) (h : HasV d t u x) (hm : mem s x) : ImgS d t u s (valI d t u x) := ⟨x, ⟨h.1, hm, h.2⟩, rfl⟩
set_option maxHeartbeats 8000000 in
theorem walk_PartPoints (a d t u : Int) (A : Option Addr) (c : Nat) (s : List Span) (B : Option Addr) (e : Nat) (g : List Span) (x : Int) (w : World) (hs : RS w w.heap.size A s.length s) (hg : RS w w.heap.size B g.length g) (hcs : s.length ≤ c) (hcg : g.length ≤ e) (hms : s.length ≤ maxLen) (hmg : g.length ≤ maxLen) (hx : x ≤ 9223372036854775807) :
    Calls Try.prog 13 #[prt a d t u, .slice A s.length c, .slice B g.length e, .int .i64 x] w (RetB true w) := by
  unfold maxLen at hms hmg
  by_cases g1 : 300 < s.length
  · clear hs hg
    go_enter Try.func13, Try.ntmps13
    go_wp2_with (fail)
    refine (pawake_any _).mono ?_
    rintro e w9 ⟨rfl, hb9⟩
    go_wp2_with (fail)
    go_ret
    exact ⟨rfl, ((Below.refl _ _).alloc (Nat.le_refl _) _).trans (hb9.mono (by simp))⟩
  by_cases g2 : 300 < g.length
  · clear hs hg
    go_enter Try.func13, Try.ntmps13
    go_wp2_with (fail)
    refine (pawake_any _).mono ?_
    rintro e w9 ⟨rfl, hb9⟩
    go_wp2_with (fail)
    go_ret
    exact ⟨rfl, ((Below.refl _ _).alloc (Nat.le_refl _) _).trans (hb9.mono (by simp))⟩
  obtain ⟨w0, hw0⟩ : ∃ w0, w.alloc (.cells #[.int .i64 a, .int .i64 d, .int .i64 t, .int .i64 u] 43) = w0 := ⟨_, rfl⟩
  have hbw : Below w.heap.size w w0 := by rw [← hw0]; exact (Below.refl _ w).alloc (Nat.le_refl _) _
  have q0 : ∀ (W : World), Below w0.heap.size w0 W → W.cell? ⟨w.heap.size, 0, none⟩ = some (.int .i64 a) ∧ W.cell? ⟨w.heap.size, 1, none⟩ = some (.int .i64 d) ∧ W.cell? ⟨w.heap.size, 2, none⟩ = some (.int .i64 t) ∧ W.cell? ⟨w.heap.size, 3, none⟩ = some (.int .i64 u) := by
    rw [← hw0]; exact fun W hW => boxed4 hW
  have Q0 := Lib.hid q0
  have HW := Lib.hid hbw
  have HB0 := Lib.hid (Below.refl w0.heap.size w0)
  have Xs := Lib.hid (hs.belowM hbw)
  have Xg := Lib.hid (hg.belowM hbw)
  clear q0 hbw hs hg
  obtain ⟨⟨v, b⟩, hv⟩ : ∃ v, valP d t u x = v := ⟨_, rfl⟩
  have H1 := Lib.hid (fun W => value_any a d t u x W hx)
  rw [hv] at H1
  have hok : b = true → HasV d t u x ∧ v = valI d t u x := fun hb => by
    unfold valP at hv
    split at hv
    · rename_i h; injection hv with h1 h2; exact ⟨h, h1.symm⟩
    · injection hv with h1 h2; rw [← h2] at hb; cases hb
  have hno : b = false → ¬ HasV d t u x := fun hb h => by
    unfold valP at hv
    rw [if_pos h] at hv
    injection hv with h1 h2
    rw [← h2] at hb; cases hb
  have HOK := Lib.hid hok
  have HNO := Lib.hid hno
  obtain ⟨bi, hbi⟩ : ∃ q, memB s x = q := ⟨_, rfl⟩
  obtain ⟨bg, hbg⟩ : ∃ q, memB g v = q := ⟨_, rfl⟩
  have HBI := Lib.hid hbi
  have HBG := Lib.hid hbg
  have hbgg : (bg != bg) = false := by cases bg <;> rfl
  clear hok hno hv hbi hbg
  go_enter Try.func13, Try.ntmps13
  obtain ⟨r0, r1, r2, r3⟩ := Q0.out _ HB0.out
  go_wp2_with (fail)
  refine (H1.out _).mono ?_
  rintro e w2 ⟨rfl, hb2⟩
  have HB2 := Lib.hid (HB0.out.trans (hb2.mono HB0.out.size))
  have Xs_2 := Lib.hid (Xs.out.belowM hb2)
  clear Xs
  have Xg_2 := Lib.hid (Xg.out.belowM hb2)
  clear Xg
  clear hb2
  clear r0 r1 r2 r3
  have HHS := Lib.hid (has_any A s.length c s x _ Xs_2.out (by omega))
  rw [HBI.out] at HHS
  go_wp2_with (fail)
  refine (HHS.out).mono ?_
  rintro e w3 ⟨rfl, hb3⟩
  have HB3 := Lib.hid (HB2.out.trans (hb3.mono HB2.out.size))
  have Xs_3 := Lib.hid (Xs_2.out.belowM hb3)
  clear Xs_2
  have Xg_3 := Lib.hid (Xg_2.out.belowM hb3)
  clear Xg_2
  clear hb3
  obtain ⟨r0, r1, r2, r3⟩ := Q0.out _ HB3.out
  go_wp2_with (fail)
  refine (pre_any a d t u A B s.length g.length c e s g _ Xs_3.out Xg_3.out (by omega) hcs (by omega) hcg).mono ?_
  rintro e w4 ⟨v4, o4, rfl, his4, ho4, hb4⟩
  obtain ⟨A4, c4, hv4, hc4, hr4⟩ := own_RS ho4
  subst hv4
  have HB4 := Lib.hid (HB3.out.trans (hb4.mono HB3.out.size))
  have Xs_4 := Lib.hid (Xs_3.out.belowM hb4)
  clear Xs_3
  have Xg_4 := Lib.hid (Xg_3.out.belowM hb4)
  clear Xg_3
  have HI4 := Lib.hid his4
  have hs4 := HI4.out.1.short
  have L4 := Lib.hid hr4
  clear hb4 his4 ho4 hr4
  clear r0 r1 r2 r3
  have HHP := Lib.hid (has_any A4 o4.length c4 o4 x _ L4.out (by omega))
  have HPM := Lib.hid (show ∀ q : Bool, (q = true ↔ (HasV d t u x ∧ mem s x ∧ mem g (valI d t u x))) → memB o4 x = q from fun q hq => by rw [Bool.eq_iff_iff, memB_iff, HI4.out.2, hq]; exact pre_point x)
  rcases b with _ | _
  · rw [HPM.out false ⟨fun h => (by cases h), fun h => absurd h.1 (HNO.out rfl)⟩] at HHP
    go_wp2_with (fail)
    refine (HHP.out).mono ?_
    rintro e w5 ⟨rfl, hb5⟩
    have HB5 := Lib.hid (HB4.out.trans (hb5.mono HB4.out.size))
    have Xs_5 := Lib.hid (Xs_4.out.belowM hb5)
    clear Xs_4
    have Xg_5 := Lib.hid (Xg_4.out.belowM hb5)
    clear Xg_4
    have L4_5 := Lib.hid (L4.out.belowM hb5)
    clear L4
    clear hb5
    obtain ⟨r0, r1, r2, r3⟩ := Q0.out _ HB5.out
    go_wp2_with (fail)
    refine (image_any a d t u A4 o4.length c4 o4 _ L4_5.out (by omega) hc4).mono ?_
    rintro e w6 ⟨v6, o6, rfl, his6, ho6, hb6⟩
    obtain ⟨A6, c6, hv6, hc6, hr6⟩ := own_RS ho6
    subst hv6
    have HB6 := Lib.hid (HB5.out.trans (hb6.mono HB5.out.size))
    have Xs_6 := Lib.hid (Xs_5.out.belowM hb6)
    clear Xs_5
    have Xg_6 := Lib.hid (Xg_5.out.belowM hb6)
    clear Xg_5
    have L4_6 := Lib.hid (L4_5.out.belowM hb6)
    clear L4_5
    have HI6 := Lib.hid his6
    have hs6 := HI6.out.1.short
    have L6 := Lib.hid hr6
    clear hb6 his6 ho6 hr6
    clear r0 r1 r2 r3
    have HWI := Lib.hid (within_any A6 B o6.length g.length c6 e o6 g true _ L6.out Xg_6.out (by omega) (by omega) hc6 hcg ⟨fun _ y hy => by obtain ⟨z, hz, rfl⟩ := (HI6.out.2 y).1 hy.1; exact hy.2 ((HI4.out.2 z).1 hz.2.1).2, fun _ => rfl⟩)
    go_wp2_with (fail)
    refine (HWI.out).mono ?_
    rintro e w7 ⟨rfl, hb7⟩
    have HB7 := Lib.hid (HB6.out.trans (hb7.mono HB6.out.size))
    have Xs_7 := Lib.hid (Xs_6.out.belowM hb7)
    clear Xs_6
    have Xg_7 := Lib.hid (Xg_6.out.belowM hb7)
    clear Xg_6
    have L4_7 := Lib.hid (L4_6.out.belowM hb7)
    clear L4_6
    have L6_7 := Lib.hid (L6.out.belowM hb7)
    clear L6
    clear hb7
    have HWJ := Lib.hid (within_any A4 A o4.length s.length c4 c o4 s true _ L4_7.out Xs_7.out (by omega) (by omega) hc4 hcs ⟨fun _ y hy => hy.2 ((HI4.out.2 y).1 hy.1).1.2.1, fun _ => rfl⟩)
    go_wp2_with (fail)
    refine (HWJ.out).mono ?_
    rintro e w8 ⟨rfl, hb8⟩
    have HB8 := Lib.hid (HB7.out.trans (hb8.mono HB7.out.size))
    have Xs_8 := Lib.hid (Xs_7.out.belowM hb8)
    clear Xs_7
    have Xg_8 := Lib.hid (Xg_7.out.belowM hb8)
    clear Xg_7
    have L4_8 := Lib.hid (L4_7.out.belowM hb8)
    clear L4_7
    have L6_8 := Lib.hid (L6_7.out.belowM hb8)
    clear L6_7
    clear hb8
    go_wp2_with (fail)
    refine (pawake_any _).mono ?_
    rintro e w9 ⟨rfl, hb9⟩
    go_wp2_with (fail)
    go_ret
    exact ⟨rfl, HW.out.trans ((HB8.out.trans (hb9.mono HB8.out.size)).mono HW.out.size)⟩
  · rcases bi with _ | _
    · rw [HPM.out false ⟨fun h => (by cases h), fun h => by have := HBI.out; rw [memB_true h.2.1] at this; cases this⟩] at HHP
      go_wp2_with (fail)
      refine (HHP.out).mono ?_
      rintro e w5 ⟨rfl, hb5⟩
      have HB5 := Lib.hid (HB4.out.trans (hb5.mono HB4.out.size))
      have Xs_5 := Lib.hid (Xs_4.out.belowM hb5)
      clear Xs_4
      have Xg_5 := Lib.hid (Xg_4.out.belowM hb5)
      clear Xg_4
      have L4_5 := Lib.hid (L4.out.belowM hb5)
      clear L4
      clear hb5
      obtain ⟨r0, r1, r2, r3⟩ := Q0.out _ HB5.out
      go_wp2_with (fail)
      refine (image_any a d t u A4 o4.length c4 o4 _ L4_5.out (by omega) hc4).mono ?_
      rintro e w6 ⟨v6, o6, rfl, his6, ho6, hb6⟩
      obtain ⟨A6, c6, hv6, hc6, hr6⟩ := own_RS ho6
      subst hv6
      have HB6 := Lib.hid (HB5.out.trans (hb6.mono HB5.out.size))
      have Xs_6 := Lib.hid (Xs_5.out.belowM hb6)
      clear Xs_5
      have Xg_6 := Lib.hid (Xg_5.out.belowM hb6)
      clear Xg_5
      have L4_6 := Lib.hid (L4_5.out.belowM hb6)
      clear L4_5
      have HI6 := Lib.hid his6
      have hs6 := HI6.out.1.short
      have L6 := Lib.hid hr6
      clear hb6 his6 ho6 hr6
      clear r0 r1 r2 r3
      have HWI := Lib.hid (within_any A6 B o6.length g.length c6 e o6 g true _ L6.out Xg_6.out (by omega) (by omega) hc6 hcg ⟨fun _ y hy => by obtain ⟨z, hz, rfl⟩ := (HI6.out.2 y).1 hy.1; exact hy.2 ((HI4.out.2 z).1 hz.2.1).2, fun _ => rfl⟩)
      go_wp2_with (fail)
      refine (HWI.out).mono ?_
      rintro e w7 ⟨rfl, hb7⟩
      have HB7 := Lib.hid (HB6.out.trans (hb7.mono HB6.out.size))
      have Xs_7 := Lib.hid (Xs_6.out.belowM hb7)
      clear Xs_6
      have Xg_7 := Lib.hid (Xg_6.out.belowM hb7)
      clear Xg_6
      have L4_7 := Lib.hid (L4_6.out.belowM hb7)
      clear L4_6
      have L6_7 := Lib.hid (L6.out.belowM hb7)
      clear L6
      clear hb7
      have HWJ := Lib.hid (within_any A4 A o4.length s.length c4 c o4 s true _ L4_7.out Xs_7.out (by omega) (by omega) hc4 hcs ⟨fun _ y hy => hy.2 ((HI4.out.2 y).1 hy.1).1.2.1, fun _ => rfl⟩)
      go_wp2_with (fail)
      refine (HWJ.out).mono ?_
      rintro e w8 ⟨rfl, hb8⟩
      have HB8 := Lib.hid (HB7.out.trans (hb8.mono HB7.out.size))
      have Xs_8 := Lib.hid (Xs_7.out.belowM hb8)
      clear Xs_7
      have Xg_8 := Lib.hid (Xg_7.out.belowM hb8)
      clear Xg_7
      have L4_8 := Lib.hid (L4_7.out.belowM hb8)
      clear L4_7
      have L6_8 := Lib.hid (L6_7.out.belowM hb8)
      clear L6_7
      clear hb8
      go_wp2_with (fail)
      refine (pawake_any _).mono ?_
      rintro e w9 ⟨rfl, hb9⟩
      go_wp2_with (fail)
      go_ret
      exact ⟨rfl, HW.out.trans ((HB8.out.trans (hb9.mono HB8.out.size)).mono HW.out.size)⟩
    · obtain ⟨hv1, rfl⟩ := HOK.out rfl
      rw [HPM.out bg ⟨fun h => ⟨hv1, memB_iff.1 HBI.out, memB_iff.1 (HBG.out.trans h)⟩, fun h => HBG.out.symm.trans (memB_iff.2 h.2.2)⟩] at HHP
      have HV1 := Lib.hid hv1
      clear hv1
      go_wp2_with (fail)
      refine (HHP.out).mono ?_
      rintro e w5 ⟨rfl, hb5⟩
      have HB5 := Lib.hid (HB4.out.trans (hb5.mono HB4.out.size))
      have Xs_5 := Lib.hid (Xs_4.out.belowM hb5)
      clear Xs_4
      have Xg_5 := Lib.hid (Xg_4.out.belowM hb5)
      clear Xg_4
      have L4_5 := Lib.hid (L4.out.belowM hb5)
      clear L4
      clear hb5
      have HHG := Lib.hid (has_any B g.length e g (valI d t u x) _ Xg_5.out (by omega))
      rw [HBG.out] at HHG
      go_wp2_with (fail)
      refine (HHG.out).mono ?_
      rintro e w6 ⟨rfl, hb6⟩
      have HB6 := Lib.hid (HB5.out.trans (hb6.mono HB5.out.size))
      have Xs_6 := Lib.hid (Xs_5.out.belowM hb6)
      clear Xs_5
      have Xg_6 := Lib.hid (Xg_5.out.belowM hb6)
      clear Xg_5
      have L4_6 := Lib.hid (L4_5.out.belowM hb6)
      clear L4_5
      clear hb6
      obtain ⟨r0, r1, r2, r3⟩ := Q0.out _ HB6.out
      go_wp2_with (fail)
      refine (image_any a d t u A s.length c s _ Xs_6.out (by omega) hcs).mono ?_
      rintro e w7 ⟨v7, o7, rfl, his7, ho7, hb7⟩
      obtain ⟨A7, c7, hv7, hc7, hr7⟩ := own_RS ho7
      subst hv7
      have HB7 := Lib.hid (HB6.out.trans (hb7.mono HB6.out.size))
      have Xs_7 := Lib.hid (Xs_6.out.belowM hb7)
      clear Xs_6
      have Xg_7 := Lib.hid (Xg_6.out.belowM hb7)
      clear Xg_6
      have L4_7 := Lib.hid (L4_6.out.belowM hb7)
      clear L4_6
      have HI7 := Lib.hid his7
      have hs7 := HI7.out.1.short
      have L7 := Lib.hid hr7
      clear hb7 his7 ho7 hr7
      clear r0 r1 r2 r3
      have HHI := Lib.hid (has_any A7 o7.length c7 o7 (valI d t u x) _ L7.out (by omega))
      rw [memB_true ((HI7.out.2 _).2 (img_point x HV1.out (memB_iff.1 HBI.out)))] at HHI
      go_wp2_with (fail)
      refine (HHI.out).mono ?_
      rintro e w8 ⟨rfl, hb8⟩
      have HB8 := Lib.hid (HB7.out.trans (hb8.mono HB7.out.size))
      have Xs_8 := Lib.hid (Xs_7.out.belowM hb8)
      clear Xs_7
      have Xg_8 := Lib.hid (Xg_7.out.belowM hb8)
      clear Xg_7
      have L4_8 := Lib.hid (L4_7.out.belowM hb8)
      clear L4_7
      have L7_8 := Lib.hid (L7.out.belowM hb8)
      clear L7
      clear hb8
      obtain ⟨r0, r1, r2, r3⟩ := Q0.out _ HB8.out
      go_wp2_with (fail)
      refine (image_any a d t u A4 o4.length c4 o4 _ L4_8.out (by omega) hc4).mono ?_
      rintro e w9 ⟨v9, o9, rfl, his9, ho9, hb9⟩
      obtain ⟨A9, c9, hv9, hc9, hr9⟩ := own_RS ho9
      subst hv9
      have HB9 := Lib.hid (HB8.out.trans (hb9.mono HB8.out.size))
      have Xs_9 := Lib.hid (Xs_8.out.belowM hb9)
      clear Xs_8
      have Xg_9 := Lib.hid (Xg_8.out.belowM hb9)
      clear Xg_8
      have L4_9 := Lib.hid (L4_8.out.belowM hb9)
      clear L4_8
      have L7_9 := Lib.hid (L7_8.out.belowM hb9)
      clear L7_8
      have HI9 := Lib.hid his9
      have hs9 := HI9.out.1.short
      have L9 := Lib.hid hr9
      clear hb9 his9 ho9 hr9
      clear r0 r1 r2 r3
      have HWI := Lib.hid (within_any A9 B o9.length g.length c9 e o9 g true _ L9.out Xg_9.out (by omega) (by omega) hc9 hcg ⟨fun _ y hy => by obtain ⟨z, hz, rfl⟩ := (HI9.out.2 y).1 hy.1; exact hy.2 ((HI4.out.2 z).1 hz.2.1).2, fun _ => rfl⟩)
      go_wp2_with (fail)
      refine (HWI.out).mono ?_
      rintro e w10 ⟨rfl, hb10⟩
      have HB10 := Lib.hid (HB9.out.trans (hb10.mono HB9.out.size))
      have Xs_10 := Lib.hid (Xs_9.out.belowM hb10)
      clear Xs_9
      have Xg_10 := Lib.hid (Xg_9.out.belowM hb10)
      clear Xg_9
      have L4_10 := Lib.hid (L4_9.out.belowM hb10)
      clear L4_9
      have L7_10 := Lib.hid (L7_9.out.belowM hb10)
      clear L7_9
      have L9_10 := Lib.hid (L9.out.belowM hb10)
      clear L9
      clear hb10
      have HWJ := Lib.hid (within_any A4 A o4.length s.length c4 c o4 s true _ L4_10.out Xs_10.out (by omega) (by omega) hc4 hcs ⟨fun _ y hy => hy.2 ((HI4.out.2 y).1 hy.1).1.2.1, fun _ => rfl⟩)
      go_wp2_with (fail)
      refine (HWJ.out).mono ?_
      rintro e w11 ⟨rfl, hb11⟩
      have HB11 := Lib.hid (HB10.out.trans (hb11.mono HB10.out.size))
      have Xs_11 := Lib.hid (Xs_10.out.belowM hb11)
      clear Xs_10
      have Xg_11 := Lib.hid (Xg_10.out.belowM hb11)
      clear Xg_10
      have L4_11 := Lib.hid (L4_10.out.belowM hb11)
      clear L4_10
      have L7_11 := Lib.hid (L7_10.out.belowM hb11)
      clear L7_10
      have L9_11 := Lib.hid (L9_10.out.belowM hb11)
      clear L9_10
      clear hb11
      go_wp2_with (fail)
      refine (pawake_any _).mono ?_
      rintro e w12 ⟨rfl, hb12⟩
      go_wp2_with (fail)
      go_ret
      exact ⟨rfl, HW.out.trans ((HB11.out.trans (hb12.mono HB11.out.size)).mono HW.out.size)⟩

set_option maxRecDepth 100000 in
theorem lifted_PartPoints (os : Os) (started : os.Started) (H : Type) (enc : TypeId × Value → H) :
    ReturnsInHanded {} Try.checked os 13 .any (Rows.partPointsSpec.pre6 enc Try.prog Try.f13 Rows.partPointsRow.domain false) (Rows.partPointsSpec.post enc Try.prog Try.f13 false true false false) := by
  refine returnsInHanded_of_change (C := Try.checked) own started (by kernel_rfl) Try.func13
    (ChangeSpec.witness6 (enc := enc) (C := Try.checked) false ⟨#[], #[.agg #[.int .i64 0, .int .i64 0, .int .i64 0, .int .i64 0], .slice none 0 0, .slice none 0 0, .int .i64 0], []⟩ 8 (by kernel_rfl) (by kernel_rfl) (by kernel_rfl) (by kernel_rfl)) ?_
  intro W base args ds gs before hval0 hW hcnd _
  have hval : ∀ (j : Nat) t v, Try.f13.params[j]? = some t → args[j]? = some v → Value.okWide Try.prog W .any base t v := hval0
  have hW' := hW
  obtain ⟨p, q, hA0, hV, rfl, hfz, hnd⟩ := hW
  have hA : DataW.TrodAll enc Try.prog W 0 (fun _ => true) true Try.f13.params.toList args.toList ds p := hA0
  rw [Try.params13] at hA hval
  obtain ⟨v0, v1, v2, v3, d0, d1, d2, d3, p0, p1, p2, p3, rfl, rfl, rfl, h0, h1, h2, h3⟩ := trodAll_four hA
  obtain ⟨rfl, rfl⟩ := trodVars_none hV
  clear hA0 hval0
  simp only [List.append_nil] at hW'
  have hlt := fun x hx => hW'.lt (p := x) hx
  obtain ⟨a, d, t, u, rfl⟩ := open_part (hval 0 _ v0 rfl rfl) h0
  obtain ⟨A, c, s, rfl, hr1, hc1, hm1, hn1⟩ := open_spans (hval 1 _ v1 rfl rfl) h1
  obtain ⟨B, e, g, rfl, hr2, hc2, hm2, hn2⟩ := open_spans (hval 2 _ v2 rfl rfl) h2
  obtain ⟨x, rfl, rfl, rfl, hw3⟩ := open_int Try.underlying3 (hval 3 _ v3 rfl rfl) h3
  have hbx : -9223372036854775808 ≤ x ∧ x ≤ 9223372036854775807 := by simpa [Lit.wf, IntKind.min, IntKind.max, IntKind.signed, IntKind.bits] using hw3
  refine (walk_PartPoints a d t u A c s B e g x W hr1 hr2 hc1 hc2 hm1 hm2 hbx.2).mono fun e W' ⟨he, hb⟩ => ?_
  subst he
  exact ⟨_, rfl, _, _, _, [], _, [], hW', trodAll_mk1 (shut_bool Try.underlying4 true), trodAll_mk4 (kept readablePart rowPart h0 hb fun x hx => hlt x (by simp [hx])) (kept readable22 row22 h1 hb fun x hx => hlt x (by simp [hx])) (kept readable22 row22 h2 hb fun x hx => hlt x (by simp [hx])) (shut_int Try.underlying3 hw3), rfl, World.keptBut_mono (fun x hx => ⟨hx, .inr (.inl (by simpa using hx))⟩) (hb.frame (· ∈ _)), fun h => by cases h⟩

theorem holds_PartPoints : Rows.PartPointsSaid :=
  OpenClaim.holds_of_wide 13 Try.f13 rfl rfl rfl rfl rfl rfl rfl ⟨rfl, rfl, rfl, rfl, rfl⟩ rfl rfl rfl rfl rfl (by kernel_rfl) Try.func13 (by kernel_rfl)
    (of_decide_eq_true (by kernel_rfl)) (by unfold Func.isWrapper; first | (rw [if_pos (by decide +kernel)]; kernel_rfl) | (rw [if_neg (by decide +kernel)]; exact ⟨rfl, rfl⟩))
    (fun os started H enc _ => lifted_PartPoints os started H enc)
end Go.Proofs.Ytfjghokjecdfgaa.Pa
