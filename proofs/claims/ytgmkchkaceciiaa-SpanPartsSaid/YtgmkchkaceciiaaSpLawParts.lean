/-
  SpanParts holds for every two lists of spans and every number: the law answers true and each list reads afterwards as it read before. No condition.
-/
import Derived.Test.YtgmkchkaceciiaaSpFrame
import Derived.Test.YtgmkchkaceciiaaSpMeet
import Derived.Test.YtgmkchkaceciiaaSpUnion
namespace Go.Proofs.Ytgmkchkaceciiaa.Sp
set_option maxRecDepth 100000
open Go Go.RowKit Go.ChangeShapes Go.WideShapes Go.ChangeAt

/-- How many of n numbers from lo on f takes. -/
def cntF (f : Int → Bool) : Int → Nat → Int
  | _, 0 => 0
  | lo, n + 1 => (if f lo then 1 else 0) + cntF f (lo + 1) n
theorem cntF_congr (f g : Int → Bool) : ∀ (n : Nat) (lo : Int), (∀ x, lo ≤ x → x < lo + n → f x = g x) → cntF f lo n = cntF g lo n := by
  intro n
  induction n with
  | zero => intro lo _; rfl
  | succ n ih =>
    intro lo h
    rw [cntF, cntF, h lo (by omega) (by omega), ih (lo + 1) fun x h1 h2 => h x (by omega) (by omega)]
theorem cntF_add (f : Int → Bool) : ∀ (n m : Nat) (lo : Int), cntF f lo (n + m) = cntF f lo n + cntF f (lo + n) m := by
  intro n
  induction n with
  | zero => intro m lo; simp [cntF]
  | succ n ih =>
    intro m lo
    rw [show n + 1 + m = (n + m) + 1 from by omega, cntF, cntF, ih m (lo + 1), show lo + 1 + (n : Int) = lo + ((n + 1 : Nat) : Int) from by omega]
    omega
theorem cntF_all (f : Int → Bool) : ∀ (n : Nat) (lo : Int), (∀ x, lo ≤ x → x < lo + n → f x = true) → cntF f lo n = n := by
  intro n
  induction n with
  | zero => intro lo _; rfl
  | succ n ih =>
    intro lo h
    rw [cntF, h lo (by omega) (by omega), ih (lo + 1) fun x h1 h2 => h x (by omega) (by omega)]
    simp only [if_true]; omega
theorem cntF_none (f : Int → Bool) : ∀ (n : Nat) (lo : Int), (∀ x, lo ≤ x → x < lo + n → f x = false) → cntF f lo n = 0 := by
  intro n
  induction n with
  | zero => intro lo _; rfl
  | succ n ih =>
    intro lo h
    rw [cntF, h lo (by omega) (by omega), ih (lo + 1) fun x h1 h2 => h x (by omega) (by omega)]
    simp
theorem cntF_sum (f g h : Int → Bool) : ∀ (n : Nat) (lo : Int), (∀ x, h x = (f x || g x) ∧ (f x = true → g x = true → False)) → cntF h lo n = cntF f lo n + cntF g lo n := by
  intro n
  induction n with
  | zero => intro lo _; rfl
  | succ n ih =>
    intro lo k
    rw [cntF, cntF, cntF, ih (lo + 1) k, (k lo).1]
    have := (k lo).2
    cases hf : f lo <;> cases hg : g lo
    · simp
    · simp; omega
    · simp; omega
    · exact (this hf hg).elim
theorem cnt_cntF : ∀ (p : List Span) (lo : Int), Plain p → (∀ q ∈ p, lo ≤ q.1) → lo ≤ 1073741826 → -1073741824 ≤ lo → cnt p = cntF (memB p) lo (1073741826 - lo).toNat := by
  intro p
  induction p with
  | nil =>
    intro lo _ _ _ _
    rw [cntF_none _ _ _ fun x _ _ => memB_false (mem_nil x)]
    rfl
  | cons q p ih =>
    intro lo hp hlo h1 h2
    obtain ⟨hq, hp', hqp⟩ := hp.cons
    have h3 := hlo q (List.mem_cons.2 (.inl rfl))
    unfold Ok at hq
    have ihp := ih (q.2 + 1) hp' (fun s hs => by have := hqp s hs; omega) (by omega) (by omega)
    have above : ∀ z, mem p z → q.2 + 1 < z := by
      rintro z ⟨_, b, hb, h4, _⟩
      have := hqp b hb
      omega
    rw [show (1073741826 - lo).toNat = (q.1 - lo).toNat + ((q.2 - q.1 + 1).toNat + (1073741826 - (q.2 + 1)).toNat) from by omega, cntF_add, cntF_add]
    have e1 : lo + ((q.1 - lo).toNat : Int) = q.1 := by omega
    have e2 : q.1 + ((q.2 - q.1 + 1).toNat : Int) = q.2 + 1 := by omega
    rw [e1, e2]
    rw [cntF_none (memB (q :: p)) _ lo fun x a b => memB_false fun hm => by
      rcases mem_cons.1 hm with hm | hm
      · omega
      · have := above x hm; omega]
    rw [cntF_all (memB (q :: p)) _ q.1 fun x a b => memB_true (mem_cons.2 (.inl ⟨by unfold Rng; omega, a, by omega⟩))]
    rw [cntF_congr (memB (q :: p)) (memB p) _ (q.2 + 1) fun x a _ => Bool.eq_iff_iff.2 (by
      rw [memB_iff, memB_iff, mem_cons]
      exact ⟨fun h => h.elim (fun h => by omega) id, .inr⟩)]
    rw [← ihp]
    simp only [cnt]
    omega
theorem cnt_parts {i o u : List Span} (hi : Plain i) (ho : Plain o) (hu : Plain u) (h : ∀ x, mem u x ↔ (mem i x ∨ mem o x)) (hd : ∀ x, ¬ (mem i x ∧ mem o x)) : cnt u = cnt i + cnt o := by
  rw [cnt_cntF u (-1073741824) hu (fun q hq => (hu.2 q hq).2.1) (by omega) (by omega), cnt_cntF i (-1073741824) hi (fun q hq => (hi.2 q hq).2.1) (by omega) (by omega), cnt_cntF o (-1073741824) ho (fun q hq => (ho.2 q hq).2.1) (by omega) (by omega)]
  refine cntF_sum _ _ _ _ _ fun x => ⟨Bool.eq_iff_iff.2 (by rw [Bool.or_eq_true, memB_iff, memB_iff, memB_iff]; exact h x), ?_⟩
  rw [memB_iff, memB_iff]
  exact fun a b => hd x ⟨a, b⟩
theorem parts_u {a b i o : Prop} (h1 : i ↔ (a ∧ b)) (h2 : o ↔ (a ∧ ¬ b)) : (i ∨ o) ↔ a := by
  rw [h1, h2]
  exact ⟨fun h => h.elim (fun h => h.1) (fun h => h.1), fun h => (Classical.em b).elim (fun k => .inl ⟨h, k⟩) (fun k => .inr ⟨h, k⟩)⟩
theorem parts_no {a b i o : Prop} (h1 : i ↔ (a ∧ b)) (h2 : o ↔ (a ∧ ¬ b)) : ¬ (i ∧ o) := by
  rw [h1, h2]
  exact fun ⟨h, k⟩ => k.2 h.2
theorem parts_b {l r i o : List Span} (h1 : Is i fun x => mem l x ∧ mem r x) (h2 : Is o fun x => mem l x ∧ ¬ mem r x) (x : Int) : memB l x = (memB i x || memB o x) :=
  Bool.eq_iff_iff.2 (by rw [Bool.or_eq_true, memB_iff, memB_iff, memB_iff]; exact (parts_u (h1.2 x) (h2.2 x)).symm)

set_option maxRecDepth 100000 in
set_option maxHeartbeats 8000000 in
theorem walk_SpanParts (A : Option Addr) (c : Nat) (l : List Span) (B : Option Addr) (d : Nat) (r : List Span) (x : Int) (w : World) (hl : RS w w.heap.size A l.length l) (hcl : l.length ≤ c) (hml : l.length ≤ maxLen) (hnl : A = none → l = [] ∧ c = 0) (hr : RS w w.heap.size B r.length r) (hcr : r.length ≤ d) (hmr : r.length ≤ maxLen) (hnr : B = none → r = [] ∧ d = 0) :
    Calls Try.prog 4 #[.slice A l.length c, .slice B r.length d, .int .i64 x] w (RetB true w) := by
  unfold maxLen at hml
  unfold maxLen at hmr
  have hz0 : Below w.heap.size w (w.alloc (.cells #[.slice A l.length c, .slice B r.length d] 22)) := (Below.refl _ _).alloc (Nat.le_refl _) _
  by_cases hgr : 300 < l.length ∨ 300 < r.length
  · have HG := Lib.hid (great_any w.heap.size 2 [l.length, r.length] true _ (lens_two w A B l.length r.length c d 22) (by simp) (by simp; exact hgr) (by simp; omega))
    have HB0 := Lib.hid hz0
    clear hz0 hgr
    go_enter Try.func4, Try.ntmps4
    go_wp2_with (fail)
    refine HG.out.mono ?_
    rintro e w1 ⟨rfl, rfl⟩
    go_wp2_with (fail)
    refine (awake_any _).mono ?_
    rintro e w2 ⟨rfl, hb⟩
    go_wp2_with (fail)
    go_ret
    exact ⟨rfl, HB0.out.trans (hb.mono HB0.out.size)⟩
  · have HG := Lib.hid (great_any w.heap.size 2 [l.length, r.length] false _ (lens_two w A B l.length r.length c d 22) (by simp) (by simp; omega) (by simp; omega))
    have HB0 := Lib.hid hz0
    have hll : l.length ≤ 300 := by omega
    have Xl := Lib.hid (hl.belowM hz0)
    have Nl := Lib.hid hnl
    have hlr : r.length ≤ 300 := by omega
    have Xr := Lib.hid (hr.belowM hz0)
    have Nr := Lib.hid hnr
    clear hz0 hgr hl hnl hml hr hnr hmr
    go_enter Try.func4, Try.ntmps4
    go_wp2_with (fail)
    refine HG.out.mono ?_
    rintro e w1 ⟨rfl, rfl⟩
    go_wp2_with (fail)
    refine (meet_any A B l.length r.length c d l r _ Xl.out Xr.out (by omega) (by omega) hcl hcr).mono ?_
    rintro e w2 ⟨v2, o2, rfl, his2, ho2, hb2⟩
    obtain ⟨A2, c2, hv2, hc2, hr2⟩ := own_RS ho2
    subst hv2
    have HB2 := Lib.hid (HB0.out.trans (hb2.mono HB0.out.size))
    have Xl_2 := Lib.hid (Xl.out.belowM hb2)
    clear Xl
    have Xr_2 := Lib.hid (Xr.out.belowM hb2)
    clear Xr
    have HI2 := Lib.hid his2
    have hs2 := HI2.out.1.short
    have N2 := Lib.hid (own_nil ho2)
    have L2 := Lib.hid hr2
    clear hb2 his2 ho2 hr2
    go_wp2_with (fail)
    refine (minus_any A B l.length r.length c d l r _ Xl_2.out Xr_2.out (by omega) (by omega) hcl hcr).mono ?_
    rintro e w3 ⟨v3, o3, rfl, his3, ho3, hb3⟩
    obtain ⟨A3, c3, hv3, hc3, hr3⟩ := own_RS ho3
    subst hv3
    have HB3 := Lib.hid (HB2.out.trans (hb3.mono HB2.out.size))
    have Xl_3 := Lib.hid (Xl_2.out.belowM hb3)
    clear Xl_2
    have Xr_3 := Lib.hid (Xr_2.out.belowM hb3)
    clear Xr_2
    have L2_3 := Lib.hid (L2.out.belowM hb3)
    clear L2
    have HI3 := Lib.hid his3
    have hs3 := HI3.out.1.short
    have N3 := Lib.hid (own_nil ho3)
    have L3 := Lib.hid hr3
    clear hb3 his3 ho3 hr3
    go_wp2_with (fail)
    refine (union_any A2 A3 c2 c3 o2 o3 _ L2_3.out L3.out (by omega) (by omega) N2.out N3.out).mono ?_
    rintro e w4 ⟨v4, o4, rfl, his4, ho4, hb4⟩
    obtain ⟨A4, c4, hv4, hc4, hr4⟩ := own_RS ho4
    subst hv4
    have HB4 := Lib.hid (HB3.out.trans (hb4.mono HB3.out.size))
    have Xl_4 := Lib.hid (Xl_3.out.belowM hb4)
    clear Xl_3
    have Xr_4 := Lib.hid (Xr_3.out.belowM hb4)
    clear Xr_3
    have L2_4 := Lib.hid (L2_3.out.belowM hb4)
    clear L2_3
    have L3_4 := Lib.hid (L3.out.belowM hb4)
    clear L3
    have HI4 := Lib.hid his4
    have hs4 := HI4.out.1.short
    have N4 := Lib.hid (own_nil ho4)
    have L4 := Lib.hid hr4
    clear hb4 his4 ho4 hr4
    go_wp2_with (fail)
    refine (norm_any A l.length c l _ Xl_4.out (by omega)).mono ?_
    rintro e w5 ⟨v5, o5, rfl, his5, ho5, hb5⟩
    obtain rfl : o4 = o5 := HI4.out.eq his5 fun z => parts_u (HI2.out.2 z) (HI3.out.2 z)
    obtain ⟨A5, c5, hv5, hc5, hr5⟩ := own_RS ho5
    subst hv5
    have HB5 := Lib.hid (HB4.out.trans (hb5.mono HB4.out.size))
    have Xl_5 := Lib.hid (Xl_4.out.belowM hb5)
    clear Xl_4
    have Xr_5 := Lib.hid (Xr_4.out.belowM hb5)
    clear Xr_4
    have L2_5 := Lib.hid (L2_4.out.belowM hb5)
    clear L2_4
    have L3_5 := Lib.hid (L3_4.out.belowM hb5)
    clear L3_4
    have L4_5 := Lib.hid (L4.out.belowM hb5)
    clear L4
    have HI5 := Lib.hid his5
    have hs5 := HI5.out.1.short
    have N5 := Lib.hid (own_nil ho5)
    have L5 := Lib.hid hr5
    clear hb5 his5 ho5 hr5
    have HPL := Lib.hid (HI4.out.congr fun z => parts_u (HI2.out.2 z) (HI3.out.2 z))
    have HS1 := Lib.hid (same_any A4 A5 o4.length o4.length c4 c5 o4 o4 _ L4_5.out L5.out (by omega) (by omega))
    rw [decide_eq_true (rfl : o4 = o4)] at HS1
    go_wp2_with (fail)
    refine (HS1.out).mono ?_
    rintro e w6 ⟨rfl, hb6⟩
    have HB6 := Lib.hid (HB5.out.trans (hb6.mono HB5.out.size))
    have Xl_6 := Lib.hid (Xl_5.out.belowM hb6)
    clear Xl_5
    have Xr_6 := Lib.hid (Xr_5.out.belowM hb6)
    clear Xr_5
    have L2_6 := Lib.hid (L2_5.out.belowM hb6)
    clear L2_5
    have L3_6 := Lib.hid (L3_5.out.belowM hb6)
    clear L3_5
    have L4_6 := Lib.hid (L4_5.out.belowM hb6)
    clear L4_5
    have L5_6 := Lib.hid (L5.out.belowM hb6)
    clear L5
    clear hb6
    clear L4_6
    clear L5_6
    have HM1 := Lib.hid (fun W (h1 : RS W W.heap.size A2 o2.length o2) (h2 : RS W W.heap.size A3 o3.length o3) => meets_any A2 A3 o2.length o3.length c2 c3 o2 o3 false W h1 h2 (by omega) (by omega) hc2 hc3 ⟨fun _ z => parts_no (HI2.out.2 z) (HI3.out.2 z), fun _ => rfl⟩)
    obtain ⟨m1, hm1⟩ : ∃ m, cnt o2 = m := ⟨_, rfl⟩
    obtain ⟨m2, hm2⟩ : ∃ m, cnt o3 = m := ⟨_, rfl⟩
    have hm3 : cnt o4 = m1 + m2 := by rw [← hm1, ← hm2]; exact cnt_parts HI2.out.1 HI3.out.1 HI4.out.1 HI4.out.2 fun z => parts_no (HI2.out.2 z) (HI3.out.2 z)
    have hb1 : 0 ≤ m1 ∧ m1 ≤ 2147483650 := by rw [← hm1]; exact ⟨cnt_nonneg HI2.out.1, cnt_le HI2.out.1⟩
    have hb2 : 0 ≤ m2 ∧ m2 ≤ 2147483650 := by rw [← hm2]; exact ⟨cnt_nonneg HI3.out.1, cnt_le HI3.out.1⟩
    have HC1 := Lib.hid (fun W (h1 : RS W W.heap.size A2 o2.length o2) => count_any A2 o2.length c2 o2 o2 W h1 (by omega) hc2 (Is.self HI2.out.1))
    rw [hm1] at HC1
    have HC2 := Lib.hid (fun W (h1 : RS W W.heap.size A3 o3.length o3) => count_any A3 o3.length c3 o3 o3 W h1 (by omega) hc3 (Is.self HI3.out.1))
    rw [hm2] at HC2
    have HC3 := Lib.hid (fun W (h1 : RS W W.heap.size A l.length l) => count_any A l.length c l o4 W h1 (by omega) hcl HPL.out)
    rw [hm3] at HC3
    obtain ⟨bi, hbi⟩ : ∃ b, memB o2 x = b := ⟨_, rfl⟩
    obtain ⟨bo, hbo⟩ : ∃ b, memB o3 x = b := ⟨_, rfl⟩
    have hba : memB l x = (bi || bo) := by rw [← hbi, ← hbo]; exact parts_b HI2.out HI3.out x
    have hno : bi = true → bo = true → False := by rw [← hbi, ← hbo, memB_iff, memB_iff]; exact fun a b => parts_no (HI2.out.2 x) (HI3.out.2 x) ⟨a, b⟩
    have HH1 := Lib.hid (fun W (h1 : RS W W.heap.size A2 o2.length o2) => has_any A2 o2.length c2 o2 x W h1 (by omega))
    rw [hbi] at HH1
    have HH2 := Lib.hid (fun W (h1 : RS W W.heap.size A3 o3.length o3) => has_any A3 o3.length c3 o3 x W h1 (by omega))
    rw [hbo] at HH2
    have HH3 := Lib.hid (fun W (h1 : RS W W.heap.size A l.length l) => has_any A l.length c l x W h1 (by omega))
    rw [hba] at HH3
    have HW := Lib.hid (fun W (h1 : RS W W.heap.size A2 o2.length o2) (h2 : RS W W.heap.size B r.length r) => within_any A2 B o2.length r.length c2 d o2 r true W h1 h2 (by omega) (by omega) hc2 hcr ⟨fun _ z hz => hz.2 ((HI2.out.2 z).1 hz.1).2, fun _ => rfl⟩)
    have HM2 := Lib.hid (fun W (h1 : RS W W.heap.size A3 o3.length o3) (h2 : RS W W.heap.size B r.length r) => meets_any A3 B o3.length r.length c3 d o3 r false W h1 h2 (by omega) (by omega) hc3 hcr ⟨fun _ z hz => ((HI3.out.2 z).1 hz.1).2 hz.2, fun _ => rfl⟩)
    have HNO := Lib.hid hno
    clear hm1 hm2 hm3 hbi hbo hba hno
    go_wp2_with (fail)
    refine (HM1.out _ L2_6.out L3_6.out).mono ?_
    rintro e w7 ⟨rfl, hb7⟩
    have HB7 := Lib.hid (HB6.out.trans (hb7.mono HB6.out.size))
    have Xl_7 := Lib.hid (Xl_6.out.belowM hb7)
    clear Xl_6
    have Xr_7 := Lib.hid (Xr_6.out.belowM hb7)
    clear Xr_6
    have L2_7 := Lib.hid (L2_6.out.belowM hb7)
    clear L2_6
    have L3_7 := Lib.hid (L3_6.out.belowM hb7)
    clear L3_6
    clear hb7
    go_wp2_with (fail)
    refine (HC1.out _ L2_7.out).mono ?_
    rintro e w8 ⟨rfl, hb8⟩
    have HB8 := Lib.hid (HB7.out.trans (hb8.mono HB7.out.size))
    have Xl_8 := Lib.hid (Xl_7.out.belowM hb8)
    clear Xl_7
    have Xr_8 := Lib.hid (Xr_7.out.belowM hb8)
    clear Xr_7
    have L2_8 := Lib.hid (L2_7.out.belowM hb8)
    clear L2_7
    have L3_8 := Lib.hid (L3_7.out.belowM hb8)
    clear L3_7
    clear hb8
    go_wp2_with (fail)
    refine (HC2.out _ L3_8.out).mono ?_
    rintro e w9 ⟨rfl, hb9⟩
    have HB9 := Lib.hid (HB8.out.trans (hb9.mono HB8.out.size))
    have Xl_9 := Lib.hid (Xl_8.out.belowM hb9)
    clear Xl_8
    have Xr_9 := Lib.hid (Xr_8.out.belowM hb9)
    clear Xr_8
    have L2_9 := Lib.hid (L2_8.out.belowM hb9)
    clear L2_8
    have L3_9 := Lib.hid (L3_8.out.belowM hb9)
    clear L3_8
    clear hb9
    go_wp2_with (fail)
    refine (HC3.out _ Xl_9.out).mono ?_
    rintro e w10 ⟨rfl, hb10⟩
    have HB10 := Lib.hid (HB9.out.trans (hb10.mono HB9.out.size))
    have Xl_10 := Lib.hid (Xl_9.out.belowM hb10)
    clear Xl_9
    have Xr_10 := Lib.hid (Xr_9.out.belowM hb10)
    clear Xr_9
    have L2_10 := Lib.hid (L2_9.out.belowM hb10)
    clear L2_9
    have L3_10 := Lib.hid (L3_9.out.belowM hb10)
    clear L3_9
    clear hb10
    rcases bi with _ | _
    · rcases bo with _ | _
      · go_wp2_with (fail)
        refine (HH1.out _ L2_10.out).mono ?_
        rintro e w11 ⟨rfl, hb11⟩
        have HB11 := Lib.hid (HB10.out.trans (hb11.mono HB10.out.size))
        have Xl_11 := Lib.hid (Xl_10.out.belowM hb11)
        clear Xl_10
        have Xr_11 := Lib.hid (Xr_10.out.belowM hb11)
        clear Xr_10
        have L2_11 := Lib.hid (L2_10.out.belowM hb11)
        clear L2_10
        have L3_11 := Lib.hid (L3_10.out.belowM hb11)
        clear L3_10
        clear hb11
        go_wp2_with (fail)
        refine (HH2.out _ L3_11.out).mono ?_
        rintro e w12 ⟨rfl, hb12⟩
        have HB12 := Lib.hid (HB11.out.trans (hb12.mono HB11.out.size))
        have Xl_12 := Lib.hid (Xl_11.out.belowM hb12)
        clear Xl_11
        have Xr_12 := Lib.hid (Xr_11.out.belowM hb12)
        clear Xr_11
        have L2_12 := Lib.hid (L2_11.out.belowM hb12)
        clear L2_11
        have L3_12 := Lib.hid (L3_11.out.belowM hb12)
        clear L3_11
        clear hb12
        go_wp2_with (fail)
        refine (HH3.out _ Xl_12.out).mono ?_
        rintro e w13 ⟨rfl, hb13⟩
        have HB13 := Lib.hid (HB12.out.trans (hb13.mono HB12.out.size))
        have Xl_13 := Lib.hid (Xl_12.out.belowM hb13)
        clear Xl_12
        have Xr_13 := Lib.hid (Xr_12.out.belowM hb13)
        clear Xr_12
        have L2_13 := Lib.hid (L2_12.out.belowM hb13)
        clear L2_12
        have L3_13 := Lib.hid (L3_12.out.belowM hb13)
        clear L3_12
        clear hb13
        go_wp2_with (fail)
        refine (HH1.out _ L2_13.out).mono ?_
        rintro e w14 ⟨rfl, hb14⟩
        have HB14 := Lib.hid (HB13.out.trans (hb14.mono HB13.out.size))
        have Xl_14 := Lib.hid (Xl_13.out.belowM hb14)
        clear Xl_13
        have Xr_14 := Lib.hid (Xr_13.out.belowM hb14)
        clear Xr_13
        have L2_14 := Lib.hid (L2_13.out.belowM hb14)
        clear L2_13
        have L3_14 := Lib.hid (L3_13.out.belowM hb14)
        clear L3_13
        clear hb14
        go_wp2_with (fail)
        refine (HW.out _ L2_14.out Xr_14.out).mono ?_
        rintro e w15 ⟨rfl, hb15⟩
        have HB15 := Lib.hid (HB14.out.trans (hb15.mono HB14.out.size))
        have Xl_15 := Lib.hid (Xl_14.out.belowM hb15)
        clear Xl_14
        have Xr_15 := Lib.hid (Xr_14.out.belowM hb15)
        clear Xr_14
        have L2_15 := Lib.hid (L2_14.out.belowM hb15)
        clear L2_14
        have L3_15 := Lib.hid (L3_14.out.belowM hb15)
        clear L3_14
        clear hb15
        go_wp2_with (fail)
        refine (HM2.out _ L3_15.out Xr_15.out).mono ?_
        rintro e w16 ⟨rfl, hb16⟩
        have HB16 := Lib.hid (HB15.out.trans (hb16.mono HB15.out.size))
        have Xl_16 := Lib.hid (Xl_15.out.belowM hb16)
        clear Xl_15
        have Xr_16 := Lib.hid (Xr_15.out.belowM hb16)
        clear Xr_15
        have L2_16 := Lib.hid (L2_15.out.belowM hb16)
        clear L2_15
        have L3_16 := Lib.hid (L3_15.out.belowM hb16)
        clear L3_15
        clear hb16
        go_wp2_with (fail)
        refine (awake_any _).mono ?_
        rintro e w17 ⟨rfl, hb17⟩
        go_wp2_with (fail)
        go_ret
        exact ⟨rfl, HB16.out.trans (hb17.mono HB16.out.size)⟩
      · go_wp2_with (fail)
        refine (HH1.out _ L2_10.out).mono ?_
        rintro e w11 ⟨rfl, hb11⟩
        have HB11 := Lib.hid (HB10.out.trans (hb11.mono HB10.out.size))
        have Xl_11 := Lib.hid (Xl_10.out.belowM hb11)
        clear Xl_10
        have Xr_11 := Lib.hid (Xr_10.out.belowM hb11)
        clear Xr_10
        have L2_11 := Lib.hid (L2_10.out.belowM hb11)
        clear L2_10
        have L3_11 := Lib.hid (L3_10.out.belowM hb11)
        clear L3_10
        clear hb11
        go_wp2_with (fail)
        refine (HH2.out _ L3_11.out).mono ?_
        rintro e w12 ⟨rfl, hb12⟩
        have HB12 := Lib.hid (HB11.out.trans (hb12.mono HB11.out.size))
        have Xl_12 := Lib.hid (Xl_11.out.belowM hb12)
        clear Xl_11
        have Xr_12 := Lib.hid (Xr_11.out.belowM hb12)
        clear Xr_11
        have L2_12 := Lib.hid (L2_11.out.belowM hb12)
        clear L2_11
        have L3_12 := Lib.hid (L3_11.out.belowM hb12)
        clear L3_11
        clear hb12
        go_wp2_with (fail)
        refine (HH3.out _ Xl_12.out).mono ?_
        rintro e w13 ⟨rfl, hb13⟩
        have HB13 := Lib.hid (HB12.out.trans (hb13.mono HB12.out.size))
        have Xl_13 := Lib.hid (Xl_12.out.belowM hb13)
        clear Xl_12
        have Xr_13 := Lib.hid (Xr_12.out.belowM hb13)
        clear Xr_12
        have L2_13 := Lib.hid (L2_12.out.belowM hb13)
        clear L2_12
        have L3_13 := Lib.hid (L3_12.out.belowM hb13)
        clear L3_12
        clear hb13
        go_wp2_with (fail)
        refine (HH1.out _ L2_13.out).mono ?_
        rintro e w14 ⟨rfl, hb14⟩
        have HB14 := Lib.hid (HB13.out.trans (hb14.mono HB13.out.size))
        have Xl_14 := Lib.hid (Xl_13.out.belowM hb14)
        clear Xl_13
        have Xr_14 := Lib.hid (Xr_13.out.belowM hb14)
        clear Xr_13
        have L2_14 := Lib.hid (L2_13.out.belowM hb14)
        clear L2_13
        have L3_14 := Lib.hid (L3_13.out.belowM hb14)
        clear L3_13
        clear hb14
        go_wp2_with (fail)
        refine (HW.out _ L2_14.out Xr_14.out).mono ?_
        rintro e w15 ⟨rfl, hb15⟩
        have HB15 := Lib.hid (HB14.out.trans (hb15.mono HB14.out.size))
        have Xl_15 := Lib.hid (Xl_14.out.belowM hb15)
        clear Xl_14
        have Xr_15 := Lib.hid (Xr_14.out.belowM hb15)
        clear Xr_14
        have L2_15 := Lib.hid (L2_14.out.belowM hb15)
        clear L2_14
        have L3_15 := Lib.hid (L3_14.out.belowM hb15)
        clear L3_14
        clear hb15
        go_wp2_with (fail)
        refine (HM2.out _ L3_15.out Xr_15.out).mono ?_
        rintro e w16 ⟨rfl, hb16⟩
        have HB16 := Lib.hid (HB15.out.trans (hb16.mono HB15.out.size))
        have Xl_16 := Lib.hid (Xl_15.out.belowM hb16)
        clear Xl_15
        have Xr_16 := Lib.hid (Xr_15.out.belowM hb16)
        clear Xr_15
        have L2_16 := Lib.hid (L2_15.out.belowM hb16)
        clear L2_15
        have L3_16 := Lib.hid (L3_15.out.belowM hb16)
        clear L3_15
        clear hb16
        go_wp2_with (fail)
        refine (awake_any _).mono ?_
        rintro e w17 ⟨rfl, hb17⟩
        go_wp2_with (fail)
        go_ret
        exact ⟨rfl, HB16.out.trans (hb17.mono HB16.out.size)⟩
    · rcases bo with _ | _
      · go_wp2_with (fail)
        refine (HH1.out _ L2_10.out).mono ?_
        rintro e w11 ⟨rfl, hb11⟩
        have HB11 := Lib.hid (HB10.out.trans (hb11.mono HB10.out.size))
        have Xl_11 := Lib.hid (Xl_10.out.belowM hb11)
        clear Xl_10
        have Xr_11 := Lib.hid (Xr_10.out.belowM hb11)
        clear Xr_10
        have L2_11 := Lib.hid (L2_10.out.belowM hb11)
        clear L2_10
        have L3_11 := Lib.hid (L3_10.out.belowM hb11)
        clear L3_10
        clear hb11
        go_wp2_with (fail)
        refine (HH3.out _ Xl_11.out).mono ?_
        rintro e w12 ⟨rfl, hb12⟩
        have HB12 := Lib.hid (HB11.out.trans (hb12.mono HB11.out.size))
        have Xl_12 := Lib.hid (Xl_11.out.belowM hb12)
        clear Xl_11
        have Xr_12 := Lib.hid (Xr_11.out.belowM hb12)
        clear Xr_11
        have L2_12 := Lib.hid (L2_11.out.belowM hb12)
        clear L2_11
        have L3_12 := Lib.hid (L3_11.out.belowM hb12)
        clear L3_11
        clear hb12
        go_wp2_with (fail)
        refine (HH1.out _ L2_12.out).mono ?_
        rintro e w13 ⟨rfl, hb13⟩
        have HB13 := Lib.hid (HB12.out.trans (hb13.mono HB12.out.size))
        have Xl_13 := Lib.hid (Xl_12.out.belowM hb13)
        clear Xl_12
        have Xr_13 := Lib.hid (Xr_12.out.belowM hb13)
        clear Xr_12
        have L2_13 := Lib.hid (L2_12.out.belowM hb13)
        clear L2_12
        have L3_13 := Lib.hid (L3_12.out.belowM hb13)
        clear L3_12
        clear hb13
        go_wp2_with (fail)
        refine (HH2.out _ L3_13.out).mono ?_
        rintro e w14 ⟨rfl, hb14⟩
        have HB14 := Lib.hid (HB13.out.trans (hb14.mono HB13.out.size))
        have Xl_14 := Lib.hid (Xl_13.out.belowM hb14)
        clear Xl_13
        have Xr_14 := Lib.hid (Xr_13.out.belowM hb14)
        clear Xr_13
        have L2_14 := Lib.hid (L2_13.out.belowM hb14)
        clear L2_13
        have L3_14 := Lib.hid (L3_13.out.belowM hb14)
        clear L3_13
        clear hb14
        go_wp2_with (fail)
        refine (HW.out _ L2_14.out Xr_14.out).mono ?_
        rintro e w15 ⟨rfl, hb15⟩
        have HB15 := Lib.hid (HB14.out.trans (hb15.mono HB14.out.size))
        have Xl_15 := Lib.hid (Xl_14.out.belowM hb15)
        clear Xl_14
        have Xr_15 := Lib.hid (Xr_14.out.belowM hb15)
        clear Xr_14
        have L2_15 := Lib.hid (L2_14.out.belowM hb15)
        clear L2_14
        have L3_15 := Lib.hid (L3_14.out.belowM hb15)
        clear L3_14
        clear hb15
        go_wp2_with (fail)
        refine (HM2.out _ L3_15.out Xr_15.out).mono ?_
        rintro e w16 ⟨rfl, hb16⟩
        have HB16 := Lib.hid (HB15.out.trans (hb16.mono HB15.out.size))
        have Xl_16 := Lib.hid (Xl_15.out.belowM hb16)
        clear Xl_15
        have Xr_16 := Lib.hid (Xr_15.out.belowM hb16)
        clear Xr_15
        have L2_16 := Lib.hid (L2_15.out.belowM hb16)
        clear L2_15
        have L3_16 := Lib.hid (L3_15.out.belowM hb16)
        clear L3_15
        clear hb16
        go_wp2_with (fail)
        refine (awake_any _).mono ?_
        rintro e w17 ⟨rfl, hb17⟩
        go_wp2_with (fail)
        go_ret
        exact ⟨rfl, HB16.out.trans (hb17.mono HB16.out.size)⟩
      · exact (HNO.out rfl rfl).elim

set_option maxRecDepth 100000 in
theorem lifted_SpanParts (os : Os) (started : os.Started) (H : Type) (enc : TypeId × Value → H) :
    ReturnsInHanded {} Try.checked os 4 .any (Rows.spanPartsSpec.pre6 enc Try.prog Try.f4 Rows.spanPartsRow.domain false) (Rows.spanPartsSpec.post enc Try.prog Try.f4 false true false false) := by
  refine returnsInHanded_of_change (C := Try.checked) own started (by kernel_rfl) Try.func4
    (ChangeSpec.witness6 (enc := enc) (C := Try.checked) false ⟨#[], #[.slice none 0 0, .slice none 0 0, .int .i64 0], []⟩ 8 (by kernel_rfl) (by kernel_rfl) (by kernel_rfl) (by kernel_rfl)) ?_
  intro W base args ds gs before hval0 hW hcnd _
  have hval : ∀ (j : Nat) t v, Try.f4.params[j]? = some t → args[j]? = some v → Value.okWide Try.prog W .any base t v := hval0
  have hW' := hW
  obtain ⟨p, q, hA0, hV, rfl, hfz, hnd⟩ := hW
  have hA : DataW.TrodAll enc Try.prog W 0 (fun _ => true) true Try.f4.params.toList args.toList ds p := hA0
  rw [Try.params4] at hA hval
  obtain ⟨v0, v1, v2, d0, d1, d2, p0, p1, p2, rfl, rfl, rfl, h0, h1, h2⟩ := trodAll_three hA
  obtain ⟨rfl, rfl⟩ := trodVars_none hV
  clear hA0 hval0
  simp only [List.append_nil] at hW'
  have hlt := fun x hx => hW'.lt (p := x) hx
  obtain ⟨A, c, l, rfl, hr0, hc0, hm0, hn0⟩ := open_spans (hval 0 _ v0 rfl rfl) h0
  obtain ⟨B, d, r, rfl, hr1, hc1, hm1, hn1⟩ := open_spans (hval 1 _ v1 rfl rfl) h1
  obtain ⟨x, rfl, rfl, rfl, hw2⟩ := open_int Try.underlying3 (hval 2 _ v2 rfl rfl) h2
  have hbx : -9223372036854775808 ≤ x ∧ x ≤ 9223372036854775807 := by simpa [Lit.wf, IntKind.min, IntKind.max, IntKind.signed, IntKind.bits] using hw2
  refine (walk_SpanParts A c l B d r x W hr0 hc0 hm0 hn0 hr1 hc1 hm1 hn1 ).mono fun e W' ⟨he, hb⟩ => ?_
  subst he
  exact ⟨_, rfl, _, _, _, [], _, [], hW', trodAll_mk1 (shut_bool Try.underlying4 true), trodAll_mk3 (kept readable22 row22 h0 hb fun x hx => hlt x (by simp [hx])) (kept readable22 row22 h1 hb fun x hx => hlt x (by simp [hx])) (shut_int Try.underlying3 hw2), rfl, World.keptBut_mono (fun x hx => ⟨hx, .inr (.inl (by simpa using hx))⟩) (hb.frame (· ∈ _)), fun h => by cases h⟩

theorem holds_SpanParts : Rows.SpanPartsSaid :=
  OpenClaim.holds_of_wide 4 Try.f4 rfl rfl rfl rfl rfl rfl rfl ⟨rfl, rfl, rfl, rfl, rfl⟩ rfl rfl rfl rfl rfl (by kernel_rfl) Try.func4 (by kernel_rfl)
    (of_decide_eq_true (by kernel_rfl)) (by unfold Func.isWrapper; first | (rw [if_pos (by decide +kernel)]; kernel_rfl) | (rw [if_neg (by decide +kernel)]; exact ⟨rfl, rfl⟩))
    (fun os started H enc _ => lifted_SpanParts os started H enc)
end Go.Proofs.Ytgmkchkaceciiaa.Sp
