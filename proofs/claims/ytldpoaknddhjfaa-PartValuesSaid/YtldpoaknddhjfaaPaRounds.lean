/- The walks of part.valued, part.rounds and part.lower. -/
import Derived.Test.YtldpoaknddhjfaaPaTake
import Derived.Test.YtldpoaknddhjfaaPaSet
import Derived.Test.YtldpoaknddhjfaaSpHelp
import Derived.Test.YtldpoaknddhjfaaSpMeet
import Derived.Deep.RegionHeld3
import Derived.Deep.AppendLies
namespace Go.Proofs.Ytldpoaknddhjfaa.Pa
set_option maxRecDepth 100000
open Go Go.RowKit Go.Proofs.Ytldpoaknddhjfaa.Sp

theorem setOut_imp {S T : Int → Prop} {w : World} {e : Ending} {w' : World} (h : SetOut S w e w') (hST : ∀ x, S x ↔ T x) : SetOut T w e w' := by
  obtain ⟨v, out, he, his, ho, hb⟩ := h
  exact ⟨v, out, he, his.congr hST, ho, hb⟩
theorem setOut_nil {S : Int → Prop} {w w' : World} (hS : ∀ x, ¬ S x) (hb : Below w.heap.size w w') : SetOut S w (.returned (.slice none 0 0)) w' :=
  ⟨_, [], rfl, ⟨Plain.nil, fun x => ⟨fun h => absurd h (mem_nil x), fun h => absurd h (hS x)⟩⟩, World.ownsRow_nil _ _ _ _, hb⟩
theorem setOut_from {S : Int → Prop} {w w1 w' : World} {e : Ending} (h : SetOut S w1 e w') (hb : Below w.heap.size w w1) : SetOut S w e w' := by
  obtain ⟨v, out, he, his, ho, hb'⟩ := h
  exact ⟨v, out, he, his, own_mono ho hb.size, hb.trans (hb'.mono hb.size)⟩

set_option maxHeartbeats 1000000 in
theorem valued_any (a d t u : Int) (A : Option Addr) (n c : Nat) (s : List Span) (w : World) (h : RS w w.heap.size A n s) (hn : n ≤ 1099511627776) (hc : n ≤ c) :
    Calls Try.prog 17 #[prt a d t u, .slice A n c] w (SetOut (DomS d t u s) w) := by
  have HB := Lib.hid (bits_any a d t u)
  have H := Lib.hid h
  clear h
  by_cases h0 : Bits d t u
  · have HS := Lib.hid (show ∀ x, (mem s x ∧ mem [((0 : Int), (2097151 : Int))] x) ↔ DomS d t u s x from fun x => by
      rw [mem_one]
      unfold DomS
      constructor
      · rintro ⟨p, q, r⟩; exact ⟨h0, p, r⟩
      · rintro ⟨_, p, r⟩; exact ⟨p, p.1, r⟩)
    rw [decide_eq_true h0] at HB
    clear h0
    go_enter Try.func17, Try.ntmps17
    go_wp2_with (fail)
    refine (HB.out _).mono ?_
    rintro e w1 ⟨rfl, hb1⟩
    have hbB : Below w.heap.size w w1 := ((Below.refl _ w).alloc (Nat.le_refl _) _).trans (hb1.mono (by simp))
    have HBB := Lib.hid hbB
    clear hb1 hbB
    go_wp2_with (fail)
    refine (meet_any A (some ⟨w1.heap.size, 0, none⟩) n 1 c 1 s [(0, 2097151)] _ ((H.out.belowM HBB.out).belowM ((Below.refl _ _).alloc (Nat.le_refl _) _)) (lit_RS (by simp) (heap_alloc_new w1 _)) hn (by omega) hc (by omega)).mono ?_
    rintro e w2 hq
    have HQ := Lib.hid (setOut_from (setOut_imp hq HS.out) (HBB.out.trans ((Below.refl _ _).alloc HBB.out.size _)))
    clear hq
    obtain ⟨v, out, rfl, hq⟩ := HQ.out
    have HQ2 := Lib.hid hq
    clear hq
    go_wp2_with (fail)
    go_ret
    exact ⟨v, out, rfl, HQ2.out⟩
  · have HN := Lib.hid (show ∀ x, ¬ DomS d t u s x from fun x hx => h0 hx.1)
    rw [decide_eq_false h0] at HB
    clear h0
    go_enter Try.func17, Try.ntmps17
    go_wp2_with (fail)
    refine (HB.out _).mono ?_
    rintro e w1 ⟨rfl, hb1⟩
    go_wp2_with (fail)
    go_ret
    exact setOut_nil HN.out (((Below.refl _ w).alloc (Nat.le_refl _) _).trans (hb1.mono (by simp)))

theorem two_new (w : World) (o p : Obj) : ((w.alloc o).alloc p).heap[w.heap.size + 1]? = some p := by
  have := heap_alloc_new (w.alloc o) p
  rwa [World.size_alloc] at this
theorem map_len (f : Span → Span) (p : List Span) (k : Nat) (hk : k ≤ p.length) : ((p.take k).map f).length = k := by simp; omega
def MapRel (f : Span → Span) (p : List Span) (w2 : World) (v i : Value) (wr : World) : Prop := ∃ k : Nat, k ≤ p.length ∧ i = .int .i64 k ∧ OwnsL wr w2.heap.size v ((p.take k).map f) ∧ Below w2.heap.size w2 wr

set_option maxHeartbeats 2000000 in
theorem rounds_any (a d t u : Int) (A : Option Addr) (c : Nat) (p : List Span) (w : World) (h : RS w w.heap.size A p.length p) (hp : Plain p) (hlow : Low p) (hb : Bits d t u) :
    Calls Try.prog 23 #[prt a d t u, .slice A p.length c] w (SetOut (fun y => ∃ x, mem p x ∧ x / (pw d * pw t) = y) w) := by
  obtain ⟨b1, b2, b3, b4, b5, b6, b7⟩ := hb
  obtain ⟨i0, hi0, hz0, hz1, hz2⟩ := info_parts infoSpan
  have hs := hp.short
  have HF := Lib.hid (show ∀ y, mem (p.map (shrF (pw d * pw t))) y ↔ ∃ x, mem p x ∧ x / (pw d * pw t) = y from shr_mem (by have := Int.mul_pos (show 0 < pw d from by have := pw_pos d; omega) (show 0 < pw t from by have := pw_pos t; omega); omega) hlow)
  have HK := Lib.hid (show (2 : Int) ^ (d + t).toNat = pw d * pw t from pw_add d t b1 (by omega))
  have HL := Lib.hid hlow
  have H := Lib.hid h
  have c1 : d + t ≤ 64 := by omega
  have c2 : 0 ≤ d + t := by omega
  clear b7 hlow h hp
  obtain ⟨w0, hw0⟩ : ∃ w0, w.alloc (.cells #[.int .i64 a, .int .i64 d, .int .i64 t, .int .i64 u] 23) = w0 := ⟨_, rfl⟩
  go_enter Try.func23, Try.ntmps23
  go_wp2_with (fail)
  have hbw : Below w.heap.size w w0 := by rw [← hw0]; exact (Below.refl _ w).alloc (Nat.le_refl _) _
  have q0 : ∀ (W : World), Below w0.heap.size w0 W → W.cell? ⟨w.heap.size, 0, none⟩ = some (.int .i64 a) ∧ W.cell? ⟨w.heap.size, 1, none⟩ = some (.int .i64 d) ∧ W.cell? ⟨w.heap.size, 2, none⟩ = some (.int .i64 t) ∧ W.cell? ⟨w.heap.size, 3, none⟩ = some (.int .i64 u) := by
    rw [← hw0]; exact fun W hW => boxed4 hW
  have hz0' : w.heap.size + 1 = w0.heap.size := by rw [← hw0]; simp
  have Q0 := Lib.hid q0
  have HW := Lib.hid hbw
  clear hw0 q0 hbw
  go_loopw [5, 10] (fun v i wr => MapRel (shrF (pw d * pw t)) p w0 v i wr) (fun _ i _ => p.length - (intOf i).toNat)
  case atStart => exact ⟨0, Nat.zero_le _, rfl, World.ownsRow_nil _ _ _ _, Below.refl _ _⟩
  case round =>
    obtain ⟨k, hk, rfl, ho, hb⟩ := hrel
    have hz := hb.size
    have HO := Lib.hid ho; clear ho
    by_cases hlt : k < p.length
    · obtain ⟨b, off, lo, hi, hA, hbB, hlk, hc1, hc2⟩ := ((H.out.belowM HW.out).below hb).at_ hlt
      have hbs : b < wr.heap.size := by omega
      have hq := HL.out p[k] (List.getElem_mem hlt)
      have hq0 : 0 ≤ lo ∧ lo ≤ hi ∧ hi ≤ 2097151 := by obtain ⟨hl1, e1⟩ := hlk; rw [e1] at hq; exact hq
      have HNX := Lib.hid (map_next (f := shrF (pw d * pw t)) hlk)
      have HLEN := Lib.hid (map_len (shrF (pw d * pw t)) p k hk)
      clear hlk hq
      subst hA
      obtain ⟨r0, r1, r2, r3⟩ := Q0.out wr hb
      have hag : u5.ownBlock ≠ some b := fun e => by have := (HO.out.lt _ e).1; omega
      have hag2 : u5.ownBlock ≠ some w.heap.size := fun e => by have := (HO.out.lt _ e).1; omega
      have hag3 : u5.ownBlock ≠ some wr.heap.size := fun e => by have := (HO.out.lt _ e).2; omega
      have hk1 := HK.out
      have s1 : IntKind.i64.wrap (d + t) = d + t := IntWalk.i64_in _ (by omega)
      have i1 : (0 : Int) ≤ (k : Int) := Int.natCast_nonneg _
      have i2 : (k : Int) < (p.length : Int) := by omega
      have hr5 : w.heap.size < wr.heap.size := by omega
      go_wp2_with (fail)
      go_region_held3 (fun w' => w'.cell? ⟨w.heap.size, 1, none⟩ = some (.int .i64 d) ∧ w'.cell? ⟨w.heap.size, 2, none⟩ = some (.int .i64 t) ∧ w'.cell? ⟨wr.heap.size, 0, none⟩ = some (.int .i64 lo) ∧ w'.cell? ⟨wr.heap.size, 1, none⟩ = some (.int .i64 hi))
        (first
          | go_keep
          | (go_split_ands
             refine ⟨?_, ?_, ?_, ?_⟩
             · (rw [hgrow.cell_far _ (by simp; omega) (Ne.symm hag2)]; assumption)
             · (rw [hgrow.cell_far _ (by simp; omega) (Ne.symm hag2)]; assumption)
             · (rw [hgrow.cell_far _ (by simp; omega) (Ne.symm hag3)]; assumption)
             · (rw [hgrow.cell_far _ (by simp; omega) (Ne.symm hag3)]; assumption)))
        ((refine step_append_lies _ (by rfl) _ _ _ (by rfl) w0.heap.size 38 i0 _ 2 16 Try.underlying35 hi0 hz0 hz1 hz2 rfl (by omega) u5 ((p.take k).map (shrF (pw d * pw t))).length (flat ((p.take k).map (shrF (pw d * pw t)))) (by rfl) (((HO.out.alloc _).alloc _).drew)
            ⟨wr.heap.size + 1, 0, none⟩ 1 1 [.int .i64 (lo / (pw d * pw t)), .int .i64 (hi / (pw d * pw t))] (by rfl) (by rfl) (World.news_of_block (cs := #[.int .i64 (lo / (pw d * pw t)), .int .i64 (hi / (pw d * pw t))]) (t := 38) (fr := (0, 0)) (two_new wr _ _)) (by simp [Value.oneCell'])
            (by omega) (by rw [HLEN.out]; simp only [maxLen]; omega) (by rw [HLEN.out]; omega) (by simp; omega) (wr.heap.size + 1 + 1) (by simp) ?_; intro gg cap w4 hown1 hgrow hat hlt))
      have hown2 : OwnsL w4 w0.heap.size (.slice (some ⟨gg, 0, none⟩) (((p.take k).map (shrF (pw d * pw t))).length + 1) cap) ((p.take k).map (shrF (pw d * pw t)) ++ [shrF (pw d * pw t) (lo, hi)]) := by
        unfold OwnsL; rw [flat_append, List.length_append]; exact hown1
      rw [← HNX.out, HLEN.out] at hown2
      have HG1 := Lib.hid ((((hb.alloc hz _).alloc (by simp; omega) _).drew).grown hgrow (by simp; omega) (own_ge HO.out))
      have HO5 := Lib.hid hown2
      clear hown2 hown1 hgrow hat hlt
      go_wp2_with (fail)
      go_roundw
      case rel => exact ⟨k + 1, by omega, by go_num, HO5.out, HG1.out⟩
      case measure => simp [intOf]; omega
    · have hT : p.take k = p := List.take_of_length_le (by omega)
      have ho := HO.out
      rw [hT] at ho
      obtain ⟨A5, c5, hv5, hc5, hr5⟩ := own_RS ho
      subst hv5
      have HB := Lib.hid (HW.out.trans (hb.mono HW.out.size))
      have hlen5 : (p.map (shrF (pw d * pw t))).length = p.length := List.length_map _
      rw [hlen5] at hr5 ⊢
      have HR5 := Lib.hid hr5
      clear hT ho hr5 hb HO hlen5
      go_wp2_with (fail)
      refine (norm_any A5 p.length c5 (p.map (shrF (pw d * pw t))) _ HR5.out (by omega)).mono ?_
      rintro e w5 hq
      have HQ := Lib.hid (setOut_from (setOut_imp hq HF.out) HB.out)
      clear hq
      obtain ⟨v, out, rfl, hq⟩ := HQ.out
      have HQ2 := Lib.hid hq
      clear hq
      go_wp2_with (fail)
      go_ret
      exact ⟨v, out, rfl, HQ2.out⟩

attribute [local go_sem] pw_fold
set_option maxHeartbeats 2000000 in
theorem lower_any (a d t u : Int) (A : Option Addr) (n c : Nat) (g : List Span) (w : World) (h : RS w w.heap.size A n g) (hn : n ≤ 1099511627776) (hc : n ≤ c) (hb : Bits d t u) :
    Calls Try.prog 21 #[prt a d t u, .slice A n c] w (SetOut (fun y => 0 ≤ y ∧ y ≤ pw t - 1 ∧ mem g (y * pw u)) w) := by
  have hv : 0 ≤ (pw t - 1) * pw u ∧ (pw t - 1) * pw u ≤ 66060288 := by
    obtain ⟨h1, h2, h3, h4, h5, h6, h7⟩ := hb
    have hu := pw_pos u
    have ht := pw_pos t
    rcases h7 with rfl | h7
    · rw [pw_zero]
      have := pw_le h4 pw21
      omega
    · have a := pw_le h7 pw6
      have b := pw_le h6 pw20
      exact mul_bound (a := pw t - 1) (b := pw u) (A := 63) (B := 1048576) (by omega) (by omega) (by omega) b
  obtain ⟨b1, b2, b3, b4, b5, b6, b7⟩ := hb
  obtain ⟨i0, hi0, hz0, hz1, hz2⟩ := info_parts infoSpan
  have hu := pw_pos u
  have hu2 := pw_le b6 pw20
  have ht := pw_pos t
  have HM := Lib.hid (most_any a d t u b3 b4)
  have HS := Lib.hid (fun y : Int => show (0 ≤ y ∧ (mem g (y * pw u) ∧ mem [((0 : Int), (pw t - 1) * pw u)] (y * pw u))) ↔ (0 ≤ y ∧ y ≤ pw t - 1 ∧ mem g (y * pw u)) from by
    rw [mem_one]
    constructor
    · rintro ⟨h0, h1, h2, h3, h4⟩
      exact ⟨h0, Int.le_of_mul_le_mul_right h4 (by omega), h1⟩
    · rintro ⟨h0, h1, h2⟩
      exact ⟨h0, h2, h2.1, Int.mul_nonneg h0 (by omega), Int.mul_le_mul_of_nonneg_right h1 (by omega)⟩)
  have H := Lib.hid h
  have c1 : u ≤ 64 := by omega
  clear b7 h
  obtain ⟨w0, hw0⟩ : ∃ w0, w.alloc (.cells #[.int .i64 a, .int .i64 d, .int .i64 t, .int .i64 u] 23) = w0 := ⟨_, rfl⟩
  have hbw : Below w.heap.size w w0 := by rw [← hw0]; exact (Below.refl _ w).alloc (Nat.le_refl _) _
  have q0 : ∀ (W : World), Below w0.heap.size w0 W → W.cell? ⟨w.heap.size, 0, none⟩ = some (.int .i64 a) ∧ W.cell? ⟨w.heap.size, 1, none⟩ = some (.int .i64 d) ∧ W.cell? ⟨w.heap.size, 2, none⟩ = some (.int .i64 t) ∧ W.cell? ⟨w.heap.size, 3, none⟩ = some (.int .i64 u) := by
    rw [← hw0]; exact fun W hW => boxed4 hW
  have hz0' : w.heap.size + 1 = w0.heap.size := by rw [← hw0]; simp
  have qq := q0 w0 (Below.refl _ _)
  have Q0 := Lib.hid q0
  have HW := Lib.hid hbw
  have sp : IntKind.i64.wrap ((pw t - 1) * pw u) = (pw t - 1) * pw u := IntWalk.i64_in _ (by omega)
  clear q0 hbw
  go_enter Try.func21, Try.ntmps21
  go_wp2_with (fail)
  go_region_held3 (fun w' => w'.cell? ⟨w.heap.size, 0, none⟩ = some (.int .i64 a) ∧ w'.cell? ⟨w.heap.size, 1, none⟩ = some (.int .i64 d) ∧ w'.cell? ⟨w.heap.size, 2, none⟩ = some (.int .i64 t) ∧ w'.cell? ⟨w.heap.size, 3, none⟩ = some (.int .i64 u))
    (first
      | go_keep
      | (go_split_ands; refine ⟨?_, ?_, ?_, ?_⟩; all_goals (rw [hb3.cell (by simp; omega)]; assumption))
      | (go_split_ands; refine ⟨?_, ?_, ?_, ?_⟩; all_goals (rw [hb2.cell (by simp; omega)]; assumption)))
    (first
      | (go_at_call 12; refine (HM.out _).mono ?_; rintro e w2 ⟨rfl, hb2⟩; have hz2' : w.heap.size + 1 ≤ w2.heap.size := by (have := hb2.size; simp at this; omega))
      | (go_at_call 24; (with_reducible refine (meet_any A (some ⟨w2.heap.size, 0, none⟩) n 1 c 1 g [(0, (pw t - 1) * pw u)] _ (H.out.belowM ((HW.out.drew.trans (hb2.mono (by simp; omega))).alloc (by have := hb2.size; simp at this; omega) _)) (lit_RS (by simp) (heap_alloc_new w2 _)) hn (by omega) hc (by omega)).mono ?_); rintro e w3 ⟨v3, o3, rfl, his3, ho3, hb3⟩; obtain ⟨A3, c3, hv3, hc3, hr3⟩ := own_RS ho3; subst hv3))
  rename_i hHeld
  have hlow : ∀ q ∈ o3, 0 ≤ q.1 ∧ q.1 ≤ q.2 ∧ q.2 ≤ (pw t - 1) * pw u := fun q hq => by
    obtain ⟨x1, x2, x3⟩ := his3.1.2 q hq
    have y1 := (mem_one.1 ((his3.2 q.1).1 ⟨by unfold Rng; omega, q, hq, Int.le_refl _, x1⟩).2).2
    have y2 := (mem_one.1 ((his3.2 q.2).1 ⟨by unfold Rng; omega, q, hq, x1, Int.le_refl _⟩).2).2
    simp only at y1 y2
    omega
  have hF : ∀ y, mem (o3.map (lowF (pw u))) y ↔ (0 ≤ y ∧ y ≤ pw t - 1 ∧ mem g (y * pw u)) := fun y => by
    rw [low_mem hu (fun q hq => ⟨(hlow q hq).1, by have := (hlow q hq).2.2; omega⟩), his3.2]
    exact HS.out y
  have hs3 := his3.1.short
  have hw3 : Below w.heap.size w w3 := ((HW.out.drew.trans (hb2.mono (by simp; omega))).alloc (by omega) _).trans (hb3.mono (by simp; omega))
  have hb3' : w.heap.size < w3.heap.size := by have := hb3.size; simp at this; omega
  have HF := Lib.hid hF
  have HL := Lib.hid hlow
  have H3 := Lib.hid hr3
  have HW3 := Lib.hid hw3
  obtain ⟨r0, r1, r2, r3⟩ := hHeld
  have R3 := Lib.hid r3
  clear hF hlow hr3 hw3 his3 ho3 hb3 hb2 qq Q0 hw0 r0 r1 r2 r3 HS HM sp
  go_wp2_with (fail)
  go_loopw [5, 18] (fun v i wr => MapRel (lowF (pw u)) o3 w3 v i wr) (fun _ i _ => o3.length - (intOf i).toNat)
  case atStart => exact ⟨0, Nat.zero_le _, rfl, World.ownsRow_nil _ _ _ _, Below.refl _ _⟩
  case round =>
    obtain ⟨k, hk, rfl, ho, hb⟩ := hrel
    have hz := hb.size
    have HO := Lib.hid ho; clear ho
    by_cases hlt : k < o3.length
    · obtain ⟨b, off, lo, hi, hA, hbB, hlk, hc1, hc2⟩ := (H3.out.below hb).at_ hlt
      have hbs : b < wr.heap.size := by omega
      have hq := HL.out o3[k] (List.getElem_mem hlt)
      have hq0 : 0 ≤ lo ∧ lo ≤ hi ∧ hi ≤ 66060288 := by obtain ⟨hl1, e1⟩ := hlk; rw [e1] at hq; simp only at hq; omega
      have HNX := Lib.hid (map_next (f := lowF (pw u)) hlk)
      have HLEN := Lib.hid (map_len (lowF (pw u)) o3 k hk)
      clear hlk hq
      subst hA
      have r3 : wr.cell? ⟨w.heap.size, 3, none⟩ = some (.int .i64 u) := (hb.cell (p := ⟨w.heap.size, 3, none⟩) hb3').trans R3.out
      have hag2 : u5.ownBlock ≠ some w.heap.size := fun e => by have := (HO.out.lt _ e).1; omega
      have hag3 : u5.ownBlock ≠ some wr.heap.size := fun e => by have := (HO.out.lt _ e).2; omega
      have s0 : IntKind.i64.wrap (pw u) = pw u := IntWalk.i64_in _ (by omega)
      have s1 : IntKind.i64.wrap (lo + pw u) = lo + pw u := IntWalk.i64_in _ (by omega)
      have s2 : IntKind.i64.wrap (lo + pw u - 1) = lo + pw u - 1 := IntWalk.i64_in _ (by omega)
      have i1 : (0 : Int) ≤ (k : Int) := Int.natCast_nonneg _
      have i2 : (k : Int) < (o3.length : Int) := by omega
      have hr5 : w.heap.size < wr.heap.size := by omega
      go_wp2_with (fail)
      go_region_held3 (fun w' => w'.cell? ⟨w.heap.size, 3, none⟩ = some (.int .i64 u) ∧ w'.cell? ⟨wr.heap.size, 0, none⟩ = some (.int .i64 lo) ∧ w'.cell? ⟨wr.heap.size, 1, none⟩ = some (.int .i64 hi))
        (first
          | go_keep
          | (go_split_ands
             refine ⟨?_, ?_, ?_⟩
             · (rw [hgrow.cell_far _ (by simp; omega) (Ne.symm hag2)]; assumption)
             · (rw [hgrow.cell_far _ (by simp; omega) (Ne.symm hag3)]; assumption)
             · (rw [hgrow.cell_far _ (by simp; omega) (Ne.symm hag3)]; assumption)))
        ((refine step_append_lies _ (by rfl) _ _ _ (by rfl) w3.heap.size 38 i0 _ 2 16 Try.underlying35 hi0 hz0 hz1 hz2 rfl (by omega) u5 ((o3.take k).map (lowF (pw u))).length (flat ((o3.take k).map (lowF (pw u)))) (by rfl) (((HO.out.alloc _).alloc _).drew)
            ⟨wr.heap.size + 1, 0, none⟩ 1 1 [.int .i64 ((lo + pw u - 1) / pw u), .int .i64 (hi / pw u)] (by rfl) (by rfl) (World.news_of_block (cs := #[.int .i64 ((lo + pw u - 1) / pw u), .int .i64 (hi / pw u)]) (t := 38) (fr := (0, 0)) (two_new wr _ _)) (by simp [Value.oneCell'])
            (by omega) (by rw [HLEN.out]; simp only [maxLen]; omega) (by rw [HLEN.out]; omega) (by simp; omega) (wr.heap.size + 1 + 1) (by simp) ?_; intro gg cap w4 hown1 hgrow hat hlt))
      have hown2 : OwnsL w4 w3.heap.size (.slice (some ⟨gg, 0, none⟩) (((o3.take k).map (lowF (pw u))).length + 1) cap) ((o3.take k).map (lowF (pw u)) ++ [lowF (pw u) (lo, hi)]) := by
        unfold OwnsL; rw [flat_append, List.length_append]; exact hown1
      rw [← HNX.out, HLEN.out] at hown2
      have HG1 := Lib.hid ((((hb.alloc hz _).alloc (by simp; omega) _).drew).grown hgrow (by simp; omega) (own_ge HO.out))
      have HO5 := Lib.hid hown2
      clear hown2 hown1 hgrow hat hlt
      go_wp2_with (fail)
      go_roundw
      case rel => exact ⟨k + 1, by omega, by go_num, HO5.out, HG1.out⟩
      case measure => simp [intOf]; omega
    · have hT : o3.take k = o3 := List.take_of_length_le (by omega)
      have ho := HO.out
      rw [hT] at ho
      obtain ⟨A5, c5, hv5, hc5, hr5⟩ := own_RS ho
      subst hv5
      have HB := Lib.hid (HW3.out.trans (hb.mono HW3.out.size))
      have hlen5 : (o3.map (lowF (pw u))).length = o3.length := List.length_map _
      rw [hlen5] at hr5 ⊢
      have HR5 := Lib.hid hr5
      clear hT ho hr5 hb HO hlen5
      go_wp2_with (fail)
      refine (norm_any A5 o3.length c5 (o3.map (lowF (pw u))) _ HR5.out (by omega)).mono ?_
      rintro e w5 hq
      have HQ := Lib.hid (setOut_from (setOut_imp hq HF.out) HB.out)
      clear hq
      obtain ⟨v, out, rfl, hq⟩ := HQ.out
      have HQ2 := Lib.hid hq
      clear hq
      go_wp2_with (fail)
      go_ret
      exact ⟨v, out, rfl, HQ2.out⟩
end Go.Proofs.Ytldpoaknddhjfaa.Pa
