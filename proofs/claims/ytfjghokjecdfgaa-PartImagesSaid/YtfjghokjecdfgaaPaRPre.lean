/- The walk of the document's Pre: number by number. -/
import Derived.Test.YtfjghokjecdfgaaPaAwake
namespace Go.Proofs.Ytfjghokjecdfgaa.Pa
set_option maxRecDepth 100000
open Go Go.RowKit Go.Proofs.Ytfjghokjecdfgaa.Sp

/-- What has been laid of a set: its numbers below X. -/
structure PI (S : Int → Prop) (X : Int) (out : List Span) : Prop where
  plain : Plain out
  set : ∀ y, mem out y ↔ (S y ∧ y < X)
theorem PI.move {S : Int → Prop} {X X' : Int} {out : List Span} (h : PI S X out) (h1 : ∀ y, X ≤ y → y < X' → ¬ S y) (h2 : ∀ y, X' ≤ y → y < X → ¬ S y) : PI S X' out :=
  ⟨h.plain, fun y => by
    rw [h.set]
    constructor
    · rintro ⟨a, b⟩
      exact ⟨a, (Int.lt_or_le y X').elim id fun q => absurd a (h2 y q b)⟩
    · rintro ⟨a, b⟩
      exact ⟨a, (Int.lt_or_le y X).elim id fun q => absurd a (h1 y q b)⟩⟩
theorem PI.below {S : Int → Prop} {X : Int} {out : List Span} (h : PI S X out) : ∀ q ∈ out, q.2 < X := fun q hq => by
  obtain ⟨a, b, c⟩ := h.plain.2 q hq
  exact ((h.set q.2).1 ⟨by unfold Rng; omega, q, hq, a, Int.le_refl _⟩).2
theorem PI.new {S : Int → Prop} {x : Int} {out : List Span} (h : PI S x out) (hS : S x) (hr : Rng x) (hl : ∀ q ∈ out, q.2 ≠ x - 1) : PI S (x + 1) (out ++ [(x, x)]) :=
  ⟨h.plain.snoc ⟨Int.le_refl _, hr.1, hr.2⟩ (fun q hq => by have := h.below q hq; have := hl q hq; simp only; omega), fun y => by
    rw [mem_append, h.set, mem_one]
    simp only
    constructor
    · rintro (⟨a, b⟩ | ⟨a, b, c⟩)
      · exact ⟨a, by omega⟩
      · obtain rfl : y = x := by omega
        exact ⟨hS, by omega⟩
    · rintro ⟨a, b⟩
      rcases Int.lt_or_le y x with c | c
      · exact .inl ⟨a, c⟩
      · obtain rfl : y = x := by omega
        exact .inr ⟨hr, by omega⟩⟩
theorem PI.ext {S : Int → Prop} {x rl : Int} {o : List Span} (h : PI S x (o ++ [(rl, x - 1)])) (hS : S x) (hr : Rng x) : PI S (x + 1) (o ++ [(rl, x)]) := by
  have hp := h.plain.append
  have ho := (h.plain.2 (rl, x - 1) (by simp))
  unfold Ok at ho
  simp only at ho
  refine ⟨hp.1.snoc ⟨by simp only; omega, by simp only; omega, hr.2⟩ (fun q hq => by have := hp.2.2 q hq (rl, x - 1) (by simp); simpa using this), fun y => ?_⟩
  have h1 := h.set y
  rw [mem_append, mem_one] at h1
  rw [mem_append, mem_one]
  simp only at h1 ⊢
  constructor
  · rintro (a | ⟨a, b, c⟩)
    · have := h1.1 (.inl a)
      exact ⟨this.1, by omega⟩
    · rcases Int.lt_or_le y x with e | e
      · have := h1.1 (.inr ⟨a, b, by omega⟩)
        exact ⟨this.1, by omega⟩
      · obtain rfl : y = x := by omega
        exact ⟨hS, by omega⟩
  · rintro ⟨a, b⟩
    rcases Int.lt_or_le y x with e | e
    · rcases h1.2 ⟨a, e⟩ with k | ⟨k1, k2, k3⟩
      · exact .inl k
      · exact .inr ⟨k1, k2, by omega⟩
    · obtain rfl : y = x := by omega
      exact .inr ⟨hr, by omega⟩
theorem last_apart {out : List Span} {x : Int} {o : List Span} {rl rh : Int} (he : out = o ++ [(rl, rh)]) (hp : Plain out) (hb : ∀ q ∈ out, q.2 < x) (hne : rh ≠ x - 1) : ∀ q ∈ out, q.2 ≠ x - 1 := by
  subst he
  intro q hq
  rcases List.mem_append.1 hq with h | h
  · have h1 := hp.append.2.2 q h (rl, rh) (by simp)
    have h2 := hp.2 (rl, rh) (by simp)
    have h3 := hb (rl, rh) (by simp)
    unfold Ok at h2
    simp only at h1 h2 h3
    omega
  · obtain rfl := List.mem_singleton.1 h
    exact hne
def OutRel (S : Int → Prop) (l : List Span) (base : Nat) (w2 : World) (v i : Value) (wr : World) : Prop :=
  ∃ (k : Nat) (o : List Span) (A : Option Addr) (c : Nat) (X : Int), k ≤ l.length ∧ i = .int .i64 k ∧ v = .slice A o.length c ∧ OwnsL wr base (.slice A o.length c) o ∧ PI S X o ∧ (∀ y, mem (l.take k) y → y < X) ∧ (∀ q ∈ l.drop k, X ≤ q.1) ∧ Below base w2 wr
def InRel (S : Int → Prop) (lo hi : Int) (base : Nat) (w2 : World) (v i : Value) (wr : World) : Prop :=
  ∃ (x : Int) (o : List Span) (A : Option Addr) (c : Nat), i = .int .i64 x ∧ v = .slice A o.length c ∧ OwnsL wr base (.slice A o.length c) o ∧ PI S x o ∧ max lo 0 ≤ x ∧ (x ≤ hi + 1 ∨ x ≤ 0 ∨ x = lo) ∧ x ≤ 1073741825 ∧ Below base w2 wr

theorem rpre_none (a d t u : Int) (A B : Option Addr) (n m c e : Nat) (s g : List Span) (w : World) (h0 : ¬ Bits d t u) :
    Calls Try.prog 45 #[prt a d t u, .slice A n c, .slice B m e] w (SetOut (PreS d t u s g) w) := by
  have HB := Lib.hid (rbits_any a d t u)
  rw [decide_eq_false h0] at HB
  have HN := Lib.hid (show ∀ x, ¬ PreS d t u s g x from fun x hx => h0 hx.1.1)
  clear h0
  go_enter Try.func45, Try.ntmps45
  go_wp2_with (fail)
  refine (HB.out _).mono ?_
  rintro e w1 ⟨rfl, hb1⟩
  go_wp2_with (fail)
  go_ret
  exact setOut_nil HN.out (((Below.refl _ _).alloc (Nat.le_refl _) _).trans (hb1.mono (by simp)))

set_option maxHeartbeats 8000000 in
theorem rpre_any (a d t u : Int) (A B : Option Addr) (n m c e : Nat) (s g : List Span) (w : World) (h : RS w w.heap.size A n s) (h' : RS w w.heap.size B m g) (hn : n ≤ 68719476736) (hm : m ≤ 68719476736) :
    Calls Try.prog 45 #[prt a d t u, .slice A n c, .slice B m e] w (SetOut (PreS d t u s g) w) := by
  by_cases h0 : Bits d t u
  case neg => exact rpre_none a d t u A B n m c e s g w h0
  have HB := Lib.hid (rbits_any a d t u)
  rw [decide_eq_true h0] at HB
  have hvb := fun x => valI_bound h0 x
  have HVB := Lib.hid hvb
  have HBI := Lib.hid h0
  obtain ⟨b1, b2, b3, b4, b5, b6, b7⟩ := h0
  obtain ⟨i0, hi0, hz0, hz1, hz2⟩ := info_parts infoSpan
  have p1 := pw_pos d
  have p2 := pw_pos t
  have p3 := pw_pos u
  have e1 : (pw d == 0) = false := by simp; omega
  have e2 : (pw t == 0) = false := by simp; omega
  have H := Lib.hid h
  have H' := Lib.hid h'
  clear b7 h h' hvb
  go_enter Try.func45, Try.ntmps45
  go_wp2_with (fail)
  refine (HB.out _).mono ?_
  rintro e w1 ⟨rfl, hb1⟩
  have q := boxed4 hb1
  have HB1 := Lib.hid (((Below.refl _ w).alloc (Nat.le_refl _) _).trans (hb1.mono (by simp)))
  clear hb1
  go_wp2_with (fail)
  go_quiet ((go_at_call 62; exact quiet_two (two_any _ (by omega) (by omega) _)))
  have HB2 := Lib.hid (below_drewN HB1.out nq)
  obtain ⟨w2, hw2⟩ : ∃ w2, w1.drewN nq = w2 := ⟨_, rfl⟩
  rw [hw2] at HB2 ⊢
  clear hw2 q HB1
  go_wp2_with (fail)
  refine (rnorm_any A n c s w2 (H.out.belowM HB2.out) (by omega)).mono ?_
  rintro e w3 ⟨v3, l, rfl, his3, ho3, hb3⟩
  obtain ⟨A3, c3, hv3, hc3, hr3⟩ := own_RS ho3
  subst hv3
  have HB3 := Lib.hid (HB2.out.trans (hb3.mono HB2.out.size))
  have HI3 := Lib.hid his3
  have HR3 := Lib.hid hr3
  have hs3 := his3.1.short
  clear his3 ho3 hb3 hr3
  go_wp2_with (fail)
  refine (rnorm_any B m _ g w3 (H'.out.belowM HB3.out) (by omega)).mono ?_
  rintro e w4 ⟨v4, gg, rfl, his4, ho4, hb4⟩
  obtain ⟨A4, c4, hv4, hc4, hr4⟩ := own_RS ho4
  subst hv4
  have HB4 := Lib.hid (HB3.out.trans (hb4.mono HB3.out.size))
  have HI4 := Lib.hid his4
  have HR4 := Lib.hid hr4
  have HL4 := Lib.hid (HR3.out.belowM hb4)
  have hs4 := his4.1.short
  have HS := Lib.hid (show ∀ x, 0 ≤ x → x < 2097152 → mem l x → (PreS d t u s g x ↔ mem gg (valI d t u x)) from fun x x0 x1 hx => by
    rw [HI4.out.2]
    exact ⟨fun k => k.2, fun k => ⟨⟨HBI.out, (HI3.out.2 x).1 hx, x0, by omega⟩, k⟩⟩)
  have HSR := Lib.hid (show ∀ x, PreS d t u s g x → 0 ≤ x ∧ x ≤ 2097151 ∧ mem l x from fun x hx => ⟨hx.1.2.2.1, hx.1.2.2.2, (HI3.out.2 x).2 hx.1.2.1⟩)
  have HPL := Lib.hid HI3.out.1
  obtain ⟨S, hSe⟩ : ∃ S, PreS d t u s g = S := ⟨_, rfl⟩
  rw [hSe] at HS HSR
  have HSE := Lib.hid hSe
  clear his4 ho4 hb4 hr4 HI3 HI4 HR3 HB2 HB3 hSe
  go_wp2_with (fail)
  go_loopw [12, 13] (fun v i wr => OutRel S l w4.heap.size w4 v i wr) (fun _ i _ => l.length - (intOf i).toNat)
  case atStart => exact ⟨0, [], none, 0, -1073741824, Nat.zero_le _, rfl, rfl, World.ownsRow_nil _ _ _ _, ⟨Plain.nil, fun y => ⟨fun k => absurd k (mem_nil y), fun k => by have := HSR.out y k.1; omega⟩⟩, fun y k => absurd k (mem_nil y), fun q hq => by have := HPL.out.2 q hq; unfold Ok at this; omega, Below.refl _ _⟩
  case round =>
    obtain ⟨k, o, Ao, co, X, hk, rfl, rfl, ho, hPI, hX1, hX2, hb⟩ := hrel
    have hz := hb.size
    have HO := Lib.hid ho
    have HPI := Lib.hid hPI
    have HX1 := Lib.hid hX1
    have HX2 := Lib.hid hX2
    have HBo := Lib.hid hb
    by_cases hlt : k < l.length
    · obtain ⟨b, off, lo, hi, hA, hbB, hlk, hc1, hc2⟩ := (HL4.out.below hb).at_ hlt
      have hok := ok_at HPL.out hlk
      have HLK := Lib.hid hlk
      have hin : ∀ y, lo ≤ y → y ≤ hi → mem l y := fun y y1 y2 => by
        obtain ⟨hl, e⟩ := HLK.out
        exact ⟨by unfold Rng; omega, l[k], List.getElem_mem hl, by rw [e]; exact ⟨y1, y2⟩⟩
      have HIN := Lib.hid hin
      have hstart : PI S (max lo 0) o := HPI.out.move (fun y y1 y2 hS => by
        obtain ⟨z0, z1, z2⟩ := HSR.out y hS
        rcases (mem_split k).1 z2 with z | z
        · have := HX1.out y z; omega
        · obtain ⟨hl, e⟩ := HLK.out
          have : lo - 1 < y := drop_mem_above (B := lo - 1) (fun q hq => by
            rcases drop_cases hl hq with rfl | hq
            · rw [e]; simp only; omega
            · have := (HPL.out.at_ hl).2 q hq
              rw [e] at this
              simp only at this
              omega) z
          omega) (fun y y1 y2 hS => by
        obtain ⟨hl, e⟩ := HLK.out
        have := HX2.out l[k] (drop_head hl)
        rw [e] at this
        simp only at this
        omega)
      have HST := Lib.hid hstart
      subst hA
      clear hlk hin hstart ho hPI hX1 hX2 hb
      go_wp2_with (fail)
      go_loopw [12, 14] (fun v i wr2 => InRel S lo hi w4.heap.size w4 v i wr2) (fun _ i _ => (1073741826 - intOf i).toNat)
      case atStart => exact ⟨max lo 0, o, Ao, co, rfl, rfl, HO.out, HST.out, Int.le_refl _, by omega, by omega, HBo.out⟩
      case round =>
        obtain ⟨x, o2, A2, c2, rfl, rfl, ho, hPI, hx1, hx2, hx3, hb⟩ := hrel
        have hz2' := hb.size
        have HO2 := Lib.hid ho
        have HPI2 := Lib.hid hPI
        have HB5 := Lib.hid hb
        have hcl : wr.cell? ⟨b, off + k * 2 + 1, none⟩ = some (.int .i64 hi) := by
          obtain ⟨b', off', lo', hi', hA', hbB', hlk', hc1', hc2'⟩ := (HL4.out.below hb).at_ hlt
          injection hA' with hA'
          injection hA' with q1 q2 _
          subst q1 q2
          obtain ⟨hl, e⟩ := HLK.out
          obtain ⟨hl', e'⟩ := hlk'
          rw [e] at e'
          injection e' with q1 q2
          subst q1 q2
          exact hc2'
        have hbs : b < wr.heap.size := by omega
        clear ho hPI hb
        have nx : ∀ X', X' = hi + 1 → ¬ (x ≤ hi ∧ x < 2097152) → PI S X' o2 ∧ (∀ y, mem (l.take (k + 1)) y → y < X') ∧ (∀ q ∈ l.drop (k + 1), X' ≤ q.1) := fun X' hX' hout => by
          subst hX'
          obtain ⟨hl, e⟩ := HLK.out
          have hd := (HPL.out.at_ hl).2
          rw [e] at hd
          simp only at hd
          refine ⟨HPI2.out.move (fun y y1 y2 hS => ?_) (fun y y1 y2 hS => ?_), fun y hy => ?_, fun q hq => by have := hd q hq; omega⟩
          · have := HSR.out y hS; omega
          · have := HSR.out y hS; omega
          · rcases (mem_take_next HLK.out).1 hy with h1 | h1
            · have := HX1.out y h1
              have := HX2.out l[k] (drop_head hl)
              rw [e] at this
              simp only at this
              omega
            · omega
        have NX := Lib.hid nx
        clear nx
        by_cases hc : x ≤ hi ∧ x < 2097152
        · obtain ⟨hh1, hh2⟩ := hc
          have hx0 : 0 ≤ x := by omega
          have hxm := HIN.out x (by omega) hh1
          have HSX := Lib.hid (HS.out x hx0 hh2 hxm)
          have HNS := Lib.hid hxm.1
          have lo1 := lo_bound (d := d) hx0
          have m1 := mod_lt (x / pw d) t
          have hv := HVB.out x
          unfold valI at hv
          have HHA := Lib.hid (rhas_any A4 gg.length c4 gg (valI d t u x) wr (HR4.out.below HB5.out |>.more hz2') (by omega))
          unfold valI at HHA
          clear hxm
          by_cases hS : S x
          · have HSS := Lib.hid hS
            rw [show memB gg (x / pw d % pw t * pw u) = true from memB_true (HSX.out.1 hS)] at HHA
            clear hS
            rcases List.eq_nil_or_concat o2 with rfl | ⟨o3, ⟨rl, rh⟩, rfl⟩
            · have hd0 : decide ((0 : Int) < ((0 : Nat) : Int)) = false := by simp
              simp only [List.length_nil]
              go_wp2_with (fail)
              refine HHA.out.mono ?_
              rintro e w5 ⟨rfl, rfl⟩
              go_wp2_with (at_builtin; go_must (refine wpList_append_own _ rfl _ _ 22 rfl w4.heap.size 40 i0 _ 2 16 Try.underlying22 hi0 hz0 hz1 hz2 rfl (by decide) _ ([]).length (flat []) rfl (by exact World.ownsRow.alloc HO2.out _) ⟨wr.heap.size, 0, none⟩ 1 1 [.int .i64 x, .int .i64 x] rfl rfl (cell_two _ _ _ _) ?c2 ?c3 ?c4 ?c5 ?_))
              case c2 => intro u hu; simp at hu; subst hu; rfl
              case c3 => simp only [List.length_nil, maxLen]; omega
              case c4 => simp only [List.length_nil]; omega
              case c5 => simp only [World.size_alloc]; exact Nat.le_succ_of_le hz2'
              intro v1 w6 hown1 hg1 _
              have hown2 : OwnsL w6 w4.heap.size v1 ([] ++ [(x, x)]) := by
                unfold OwnsL; rw [flat_append, List.length_append]; exact hown1
              have HG1 := Lib.hid ((HB5.out.alloc hz2' _).grown hg1 (by simp; omega) (own_ge HO2.out))
              obtain ⟨A5, c5, hv5, _, _⟩ := own_RS hown2
              subst hv5
              have HO5 := Lib.hid hown2; clear hown2 hown1 hg1
              go_wp2_with (fail)
              go_roundw
              case rel => exact ⟨x + 1, _, A5, c5, rfl, rfl, HO5.out, HPI2.out.new HSS.out HNS.out (fun q hq => by cases hq), by omega, by omega, by omega, HG1.out⟩
              case measure => simp [intOf]; omega
            · simp only [List.concat_eq_append] at *
              have hoK := HPI2.out.plain.short
              obtain ⟨g2, hA2, hbg, hgl⟩ := own_of_form HO2.out (by simp)
              subst hA2
              have hcr := own_last HO2.out
              have hfz := World.ownsRow.frozenAt HO2.out (o3.length * 2 + 1)
              simp only [List.length_append, List.length_singleton] at *
              have hrb : -1073741824 ≤ rh ∧ rh ≤ 1073741824 := by have := HPI2.out.plain.2 (rl, rh) (by simp); unfold Ok at this; simp only at this; omega
              have hd0 : decide ((0 : Int) < ((o3.length + 1 : Nat) : Int)) = true := by simp
              generalize hj : o3.length = j at *
              have HJ := Lib.hid hj; clear hj
              by_cases e : rh = x - 1
              · have hd1 : (rh == x - 1) = true := by simpa using e
                have HE := Lib.hid e; clear e
                go_wp2_with (fail)
                refine HHA.out.mono ?_
                rintro e w5 ⟨rfl, rfl⟩
                go_wp2_with (fail)
                go_roundw
                case rel => exact ⟨x + 1, o3 ++ [(rl, x)], _, _, rfl, by simp only [List.length_append, List.length_singleton, HJ.out], own_turn0 HO2.out HJ.out _, (by have := HPI2.out; rw [HE.out] at this; exact this.ext HSS.out HNS.out), by omega, by omega, by omega, HB5.out.setCell hbg _⟩
                case measure => simp [intOf]; omega
              · have hd1 : (rh == x - 1) = false := by simpa using e
                have HE := Lib.hid e; clear e
                go_wp2_with (fail)
                refine HHA.out.mono ?_
                rintro e w5 ⟨rfl, rfl⟩
                go_wp2_with (at_builtin; go_must (refine wpList_append_own _ rfl _ _ 22 rfl w4.heap.size 40 i0 _ 2 16 Try.underlying22 hi0 hz0 hz1 hz2 rfl (by decide) _ (o3 ++ [(rl, rh)]).length (flat (o3 ++ [(rl, rh)])) rfl (by exact World.ownsRow.alloc HO2.out _) ⟨wr.heap.size, 0, none⟩ 1 1 [.int .i64 x, .int .i64 x] rfl rfl (cell_two _ _ _ _) ?c2 ?c3 ?c4 ?c5 ?_))
                case c2 => intro u hu; simp at hu; subst hu; rfl
                case c3 => have := HJ.out; simp only [List.length_append, List.length_singleton, maxLen]; omega
                case c4 => have := HJ.out; simp only [List.length_append, List.length_singleton]; omega
                case c5 => simp only [World.size_alloc]; exact Nat.le_succ_of_le hz2'
                intro v1 w6 hown1 hg1 _
                have hown2 : OwnsL w6 w4.heap.size v1 ((o3 ++ [(rl, rh)]) ++ [(x, x)]) := by
                  unfold OwnsL; rw [flat_append, List.length_append, List.length_append]; exact hown1
                have HG1 := Lib.hid ((HB5.out.alloc hz2' _).grown hg1 (by simp; omega) (own_ge HO2.out))
                obtain ⟨A5, c5, hv5, _, _⟩ := own_RS hown2
                subst hv5
                have HO5 := Lib.hid hown2; clear hown2 hown1 hg1
                go_wp2_with (fail)
                go_roundw
                case rel => exact ⟨x + 1, _, A5, c5, rfl, rfl, HO5.out, HPI2.out.new HSS.out HNS.out (last_apart rfl HPI2.out.plain HPI2.out.below HE.out), by omega, by omega, by omega, HG1.out⟩
                case measure => simp [intOf]; omega
          · have HSN := Lib.hid hS
            rw [show memB gg (x / pw d % pw t * pw u) = false from memB_false (fun h => hS (HSX.out.2 h))] at HHA
            clear hS
            go_wp2_with (fail)
            refine HHA.out.mono ?_
            rintro e w5 ⟨rfl, rfl⟩
            go_wp2_with (fail)
            go_roundw
            case rel => exact ⟨x + 1, o2, A2, c2, rfl, rfl, HO2.out, HPI2.out.move (fun y y1 y2 hy => HSN.out ((show y = x by omega) ▸ hy)) (fun y y1 y2 => by omega), by omega, by omega, by omega, HB5.out⟩
            case measure => simp [intOf]; omega
        · obtain ⟨n1, n2, n3⟩ := NX.out _ rfl hc
          have N1 := Lib.hid n1
          have N2 := Lib.hid n2
          have N3 := Lib.hid n3
          clear n1 n2 n3
          by_cases hh1 : x ≤ hi
          · have hh2 : 2097152 ≤ x := by omega
            clear hc
            go_wp2_with (fail)
            go_roundw
            case rel => exact ⟨k + 1, o2, A2, c2, hi + 1, by omega, by go_num, rfl, HO2.out, N1.out, N2.out, N3.out, HB5.out⟩
            case measure => simp [intOf]; omega
          · clear hc
            go_wp2_with (fail)
            go_roundw
            case rel => exact ⟨k + 1, o2, A2, c2, hi + 1, by omega, by go_num, rfl, HO2.out, N1.out, N2.out, N3.out, HB5.out⟩
            case measure => simp [intOf]; omega
    · have hkl : k = l.length := by omega
      subst hkl
      have hfin : Is o S := ⟨HPI.out.plain, fun y => by
        rw [HPI.out.set]
        refine ⟨fun q => q.1, fun q => ⟨q, HX1.out y ?_⟩⟩
        rw [List.take_length]
        exact (HSR.out y q).2.2⟩
      have HF := Lib.hid hfin
      clear ho hPI hX1 hX2 hb hfin
      go_wp2_with (fail)
      go_ret
      refine ⟨_, o, rfl, by rw [HSE.out]; exact HF.out, own_mono HO.out HB4.out.size, HB4.out.trans (HBo.out.mono HB4.out.size)⟩
end Go.Proofs.Ytfjghokjecdfgaa.Pa
