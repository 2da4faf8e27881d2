/- The walk of ref.borders: the numbers at which something may begin or end, rising, each once. -/
import Derived.Test.YtgmkchkaceciiaaSpRPut
namespace Go.Proofs.Ytgmkchkaceciiaa.Sp
set_option maxRecDepth 100000
open Go Go.RowKit

structure BInv (done : List Span) (ys : List Int) : Prop where
  srt : Srt ys
  rng : ∀ y ∈ ys, Rng y
  least : -1073741824 ∈ ys
  lo : ∀ p ∈ done, -1073741824 < p.1 → p.1 ≤ 1073741824 → p.1 ∈ ys
  hi : ∀ p ∈ done, -1073741824 ≤ p.2 → p.2 < 1073741824 → p.2 + 1 ∈ ys
  few : ys.length ≤ 1 + 2 * done.length
theorem BInv.start : BInv [] [-1073741824] :=
  ⟨List.pairwise_singleton _ _, fun y h => by obtain rfl := List.mem_singleton.1 h; unfold Rng; omega, List.mem_singleton.2 rfl, fun _ h => (by cases h), fun _ h => (by cases h), by simp⟩
theorem BInv.step {done : List Span} {ys zs : List Int} {lo hi : Int} (h : BInv done ys) (hs : Srt zs) (h1 : ∀ y ∈ ys, y ∈ zs) (h2 : ∀ y ∈ zs, y ∈ ys ∨ Rng y) (h3 : -1073741824 < lo → lo ≤ 1073741824 → lo ∈ zs) (h4 : -1073741824 ≤ hi → hi < 1073741824 → hi + 1 ∈ zs) (hl : zs.length ≤ ys.length + 2) : BInv (done ++ [(lo, hi)]) zs := by
  refine ⟨hs, fun y hy => ?_, h1 _ h.least, fun p hp => ?_, fun p hp => ?_, ?_⟩
  · rcases h2 y hy with h5 | h5
    · exact h.rng y h5
    · exact h5
  · rcases List.mem_append.1 hp with hp | hp
    · exact fun a b => h1 _ (h.lo p hp a b)
    · obtain rfl := List.mem_singleton.1 hp
      exact h3
  · rcases List.mem_append.1 hp with hp | hp
    · exact fun a b => h1 _ (h.hi p hp a b)
    · obtain rfl := List.mem_singleton.1 hp
      exact h4
  · have := h.few
    rw [List.length_append, List.length_singleton]
    omega
theorem BInv.pos {done : List Span} {ys : List Int} (h : BInv done ys) : 0 < ys.length := List.length_pos_of_mem h.least

def RPut2 (w : World) (base : Nat) (xs : List Int) (x : Int) (e : Ending) (w' : World) : Prop := ∃ g cap ys, e = .returned (.slice (some ⟨g, 0, none⟩) ys.length cap) ∧ OwnsI w' base (.slice (some ⟨g, 0, none⟩) ys.length cap) ys ∧ Srt ys ∧ (∀ y, y ∈ ys ↔ y = x ∨ y ∈ xs) ∧ ys.length ≤ xs.length + 1 ∧ Below base w w'
theorem rput_lit (base g cap : Nat) (xs : List Int) (x : Int) (w : World) (hown : OwnsI w base (.slice (some ⟨g, 0, none⟩) xs.length cap) xs) (hbase : base ≤ w.heap.size) (hs : Srt xs) (hlen : xs.length ≤ 1099511627776) :
    Calls Try.prog 70 #[.slice (some ⟨g, 0, none⟩) xs.length cap, .int .i64 x] w (RPut2 w base xs x) :=
  (rput_any base g cap xs x w hown hbase hs hlen).mono fun e w' ⟨v, ys, he, ho, hs, hm, hl, hb⟩ => by
    have hp : 0 < ys.length := List.length_pos_of_mem ((hm x).2 (.inl rfl))
    obtain ⟨g', cap', hv, _, _⟩ := World.ownsRow.form ho hp
    subst hv
    exact ⟨g', cap', ys, he, ho, hs, hm, hl, hb⟩

def BRel (done : List Span) (base : Nat) (w : World) (v : Value) (wr : World) : Prop := ∃ (g cap : Nat) (ys : List Int), v = .slice (some ⟨g, 0, none⟩) ys.length cap ∧ OwnsI wr base (.slice (some ⟨g, 0, none⟩) ys.length cap) ys ∧ BInv done ys ∧ Below base w wr
def BOuter (l r : List Span) (base : Nat) (w : World) (v k : Value) (wr : World) : Prop := (k = .int .i64 0 ∧ BRel [] base w v wr) ∨ (k = .int .i64 1 ∧ BRel l base w v wr) ∨ (k = .int .i64 2 ∧ BRel (l ++ r) base w v wr)
def BInner (pre s : List Span) (base : Nat) (w : World) (v i : Value) (wr : World) : Prop := ∃ j : Nat, j ≤ s.length ∧ i = .int .i64 j ∧ BRel (pre ++ s.take j) base w v wr
def BordersOut (w : World) (l r : List Span) (e : Ending) (w' : World) : Prop := ∃ g cap ys, e = .returned (.slice (some ⟨g, 0, none⟩) ys.length cap) ∧ OwnsI w' w.heap.size (.slice (some ⟨g, 0, none⟩) ys.length cap) ys ∧ BInv (l ++ r) ys ∧ Below w.heap.size w w'
theorem pre_next {pre s : List Span} {k : Nat} {lo hi : Int} (hk : ∃ hl : k < s.length, s[k] = (lo, hi)) : pre ++ s.take (k + 1) = (pre ++ s.take k) ++ [(lo, hi)] := by
  obtain ⟨hl, e⟩ := hk
  rw [List.take_succ_eq_append_getElem hl, e, List.append_assoc]
theorem own_lit (w : World) (x : Int) : OwnsI (w.alloc (.cells #[.int .i64 x] 3)) w.heap.size (.slice (some ⟨w.heap.size, 0, none⟩) [x].length 1) [x] :=
  ⟨rfl, .inr ⟨w.heap.size, 1, _, rfl, Nat.le_refl _, heap_alloc_new w _, Nat.le_refl _, by unfold maxLen; omega, rfl, rfl⟩⟩


set_option maxHeartbeats 4000000 in
theorem rborders_any (A A' : Option Addr) (n n' c c' : Nat) (l r : List Span) (w : World) (h : RS w w.heap.size A n l) (h' : RS w w.heap.size A' n' r) (hn : n ≤ 68719476736) (hn' : n' ≤ 68719476736) :
    Calls Try.prog 39 #[.slice A n c, .slice A' n' c'] w (BordersOut w l r) := by
  have el := h.1
  have el' := h'.1
  subst el el'
  go_enter Try.func39, Try.ntmps39
  go_wp2_with (fail)
  go_loopw [5, 6] (fun v k wr => BOuter l r w.heap.size w v k wr) (fun _ k _ => 2 - (intOf k).toNat)
  case atStart => exact .inl ⟨rfl, w.heap.size, 1, [-1073741824], rfl, own_lit w _, BInv.start, (Below.refl _ _).alloc (Nat.le_refl _) _⟩
  case round =>
    obtain ⟨wo, rfl⟩ : ∃ wo : World, wo = wr := ⟨_, rfl⟩
    rcases hrel with ⟨rfl, g0, cap0, ys0, rfl, ho0, hB0, hb0⟩ | ⟨rfl, g0, cap0, ys0, rfl, ho0, hB0, hb0⟩ | ⟨rfl, g0, cap0, ys0, rfl, ho0, hB0, hb0⟩
    · have HO0 := Lib.hid ho0; clear ho0
      have HB0 := Lib.hid hB0; clear hB0
      have hz0 := hb0.size
      go_wp2_with (fail)
      go_loopw [5, 8] (fun v i wr => BInner [] l w.heap.size w v i wr) (fun _ i _ => l.length - (intOf i).toNat)
      case atStart => exact ⟨0, Nat.zero_le _, rfl, g0, cap0, ys0, rfl, HO0.out, HB0.out, hb0⟩
      case round =>
        obtain ⟨k, hk, rfl, g, cap, ys, rfl, ho, hB, hb⟩ := hrel
        have hfew := hB.few
        simp only [List.length_take, List.nil_append] at hfew
        have hz := hb.size
        have HO := Lib.hid ho; clear ho
        have HB := Lib.hid hB; clear hB
        by_cases hlt : k < l.length
        · obtain ⟨b, off, lo, hi, hA, hbB, hlk, hc1, hc2⟩ := (h.below hb).at_ (k := k) (by omega)
          have HL := Lib.hid hlk; clear hlk
          rw [hA]
          have hbs : b < wr.heap.size := by omega
          clear hA
          by_cases a1 : -1073741824 < lo
          · by_cases a2 : lo ≤ 1073741824
            · by_cases b1 : -1073741824 ≤ hi
              · by_cases b2 : hi < 1073741824
                · go_wp2_with (fail)
                  refine (rput_lit _ _ _ ys lo _ HO.out (by omega) HB.out.srt (by omega)).mono ?_
                  rintro e w1 ⟨g1, cap1, ys1, rfl, ho1, hs1, hm1, hl1, hb1⟩
                  have hz1 := hb1.size
                  have hc1' : w1.cell? ⟨b, off + k * 2, none⟩ = some (.int .i64 lo) := (hb1.cell hbB).trans hc1
                  have hc2' : w1.cell? ⟨b, off + k * 2 + 1, none⟩ = some (.int .i64 hi) := (hb1.cell hbB).trans hc2
                  have hb1 := hb.trans hb1
                  have HO1 := Lib.hid ho1; clear ho1
                  have HS1 := Lib.hid hs1; clear hs1
                  have HM1 := Lib.hid hm1; clear hm1
                  go_wp2_with (fail)
                  refine (rput_lit _ _ _ ys1 (hi + 1) _ HO1.out (by omega) HS1.out (by omega)).mono ?_
                  rintro e w2 ⟨g2, cap2, ys2, rfl, ho2, hs2, hm2, hl2, hb2⟩
                  have hb2 := hb1.trans hb2
                  have HO2 := Lib.hid ho2; clear ho2
                  have HS2 := Lib.hid hs2; clear hs2
                  have HM2 := Lib.hid hm2; clear hm2
                  go_wp2_with (fail)
                  go_roundw
                  case rel => exact ⟨k + 1, by omega, by go_num, g2, cap2, ys2, rfl, HO2.out, by rw [pre_next HL.out]; exact HB.out.step HS2.out (fun y hy => (HM2.out y).2 (.inr ((HM1.out y).2 (.inr hy)))) (fun y hy => by rcases (HM2.out y).1 hy with rfl | hy; exact .inr ⟨by omega, by omega⟩; rcases (HM1.out y).1 hy with rfl | hy; exact .inr ⟨by omega, by omega⟩; exact .inl hy) (fun _ _ => (HM2.out _).2 (.inr ((HM1.out _).2 (.inl rfl)))) (fun _ _ => (HM2.out _).2 (.inl rfl)) (by omega), hb2⟩
                  case measure => simp [intOf]; omega
                · go_wp2_with (fail)
                  refine (rput_lit _ _ _ ys lo _ HO.out (by omega) HB.out.srt (by omega)).mono ?_
                  rintro e w1 ⟨g1, cap1, ys1, rfl, ho1, hs1, hm1, hl1, hb1⟩
                  have hz1 := hb1.size
                  have hc1' : w1.cell? ⟨b, off + k * 2, none⟩ = some (.int .i64 lo) := (hb1.cell hbB).trans hc1
                  have hc2' : w1.cell? ⟨b, off + k * 2 + 1, none⟩ = some (.int .i64 hi) := (hb1.cell hbB).trans hc2
                  have hb1 := hb.trans hb1
                  have HO1 := Lib.hid ho1; clear ho1
                  have HS1 := Lib.hid hs1; clear hs1
                  have HM1 := Lib.hid hm1; clear hm1
                  go_wp2_with (fail)
                  go_roundw
                  case rel => exact ⟨k + 1, by omega, by go_num, g1, cap1, ys1, rfl, HO1.out, by rw [pre_next HL.out]; exact HB.out.step HS1.out (fun y hy => (HM1.out y).2 (.inr hy)) (fun y hy => by rcases (HM1.out y).1 hy with rfl | hy; exact .inr ⟨by omega, by omega⟩; exact .inl hy) (fun _ _ => (HM1.out _).2 (.inl rfl)) (fun _ _ => by omega) (by omega), hb1⟩
                  case measure => simp [intOf]; omega
              · go_wp2_with (fail)
                refine (rput_lit _ _ _ ys lo _ HO.out (by omega) HB.out.srt (by omega)).mono ?_
                rintro e w1 ⟨g1, cap1, ys1, rfl, ho1, hs1, hm1, hl1, hb1⟩
                have hz1 := hb1.size
                have hc1' : w1.cell? ⟨b, off + k * 2, none⟩ = some (.int .i64 lo) := (hb1.cell hbB).trans hc1
                have hc2' : w1.cell? ⟨b, off + k * 2 + 1, none⟩ = some (.int .i64 hi) := (hb1.cell hbB).trans hc2
                have hb1 := hb.trans hb1
                have HO1 := Lib.hid ho1; clear ho1
                have HS1 := Lib.hid hs1; clear hs1
                have HM1 := Lib.hid hm1; clear hm1
                go_wp2_with (fail)
                go_roundw
                case rel => exact ⟨k + 1, by omega, by go_num, g1, cap1, ys1, rfl, HO1.out, by rw [pre_next HL.out]; exact HB.out.step HS1.out (fun y hy => (HM1.out y).2 (.inr hy)) (fun y hy => by rcases (HM1.out y).1 hy with rfl | hy; exact .inr ⟨by omega, by omega⟩; exact .inl hy) (fun _ _ => (HM1.out _).2 (.inl rfl)) (fun _ _ => by omega) (by omega), hb1⟩
                case measure => simp [intOf]; omega
            · by_cases b1 : -1073741824 ≤ hi
              · by_cases b2 : hi < 1073741824
                · go_wp2_with (fail)
                  refine (rput_lit _ _ _ ys (hi + 1) _ HO.out (by omega) HB.out.srt (by omega)).mono ?_
                  rintro e w2 ⟨g2, cap2, ys2, rfl, ho2, hs2, hm2, hl2, hb2⟩
                  have hb2 := hb.trans hb2
                  have HO2 := Lib.hid ho2; clear ho2
                  have HS2 := Lib.hid hs2; clear hs2
                  have HM2 := Lib.hid hm2; clear hm2
                  go_wp2_with (fail)
                  go_roundw
                  case rel => exact ⟨k + 1, by omega, by go_num, g2, cap2, ys2, rfl, HO2.out, by rw [pre_next HL.out]; exact HB.out.step HS2.out (fun y hy => (HM2.out y).2 (.inr hy)) (fun y hy => by rcases (HM2.out y).1 hy with rfl | hy; exact .inr ⟨by omega, by omega⟩; exact .inl hy) (fun _ _ => by omega) (fun _ _ => (HM2.out _).2 (.inl rfl)) (by omega), hb2⟩
                  case measure => simp [intOf]; omega
                · go_wp2_with (fail)
                  go_roundw
                  case rel => exact ⟨k + 1, by omega, by go_num, g, cap, ys, rfl, HO.out, by rw [pre_next HL.out]; exact HB.out.step HB.out.srt (fun y hy => hy) (fun y hy => .inl hy) (fun _ _ => by omega) (fun _ _ => by omega) (by omega), hb⟩
                  case measure => simp [intOf]; omega
              · go_wp2_with (fail)
                go_roundw
                case rel => exact ⟨k + 1, by omega, by go_num, g, cap, ys, rfl, HO.out, by rw [pre_next HL.out]; exact HB.out.step HB.out.srt (fun y hy => hy) (fun y hy => .inl hy) (fun _ _ => by omega) (fun _ _ => by omega) (by omega), hb⟩
                case measure => simp [intOf]; omega
          · by_cases b1 : -1073741824 ≤ hi
            · by_cases b2 : hi < 1073741824
              · go_wp2_with (fail)
                refine (rput_lit _ _ _ ys (hi + 1) _ HO.out (by omega) HB.out.srt (by omega)).mono ?_
                rintro e w2 ⟨g2, cap2, ys2, rfl, ho2, hs2, hm2, hl2, hb2⟩
                have hb2 := hb.trans hb2
                have HO2 := Lib.hid ho2; clear ho2
                have HS2 := Lib.hid hs2; clear hs2
                have HM2 := Lib.hid hm2; clear hm2
                go_wp2_with (fail)
                go_roundw
                case rel => exact ⟨k + 1, by omega, by go_num, g2, cap2, ys2, rfl, HO2.out, by rw [pre_next HL.out]; exact HB.out.step HS2.out (fun y hy => (HM2.out y).2 (.inr hy)) (fun y hy => by rcases (HM2.out y).1 hy with rfl | hy; exact .inr ⟨by omega, by omega⟩; exact .inl hy) (fun _ _ => by omega) (fun _ _ => (HM2.out _).2 (.inl rfl)) (by omega), hb2⟩
                case measure => simp [intOf]; omega
              · go_wp2_with (fail)
                go_roundw
                case rel => exact ⟨k + 1, by omega, by go_num, g, cap, ys, rfl, HO.out, by rw [pre_next HL.out]; exact HB.out.step HB.out.srt (fun y hy => hy) (fun y hy => .inl hy) (fun _ _ => by omega) (fun _ _ => by omega) (by omega), hb⟩
                case measure => simp [intOf]; omega
            · go_wp2_with (fail)
              go_roundw
              case rel => exact ⟨k + 1, by omega, by go_num, g, cap, ys, rfl, HO.out, by rw [pre_next HL.out]; exact HB.out.step HB.out.srt (fun y hy => hy) (fun y hy => .inl hy) (fun _ _ => by omega) (fun _ _ => by omega) (by omega), hb⟩
              case measure => simp [intOf]; omega
        · have hkl : l.take k = l := List.take_of_length_le (by omega)
          have HK := Lib.hid hkl; clear hkl
          go_wp2_with (fail)
          go_roundw
          case rel => exact .inr (.inl ⟨rfl, g, cap, ys, rfl, HO.out, by have := HB.out; rw [HK.out] at this; exact this, hb⟩)
          case measure => simp [intOf]
    · have HO0 := Lib.hid ho0; clear ho0
      have HB0 := Lib.hid hB0; clear hB0
      have hz0 := hb0.size
      go_wp2_with (fail)
      go_loopw [5, 8] (fun v i wr => BInner l r w.heap.size w v i wr) (fun _ i _ => r.length - (intOf i).toNat)
      case atStart => exact ⟨0, Nat.zero_le _, rfl, g0, cap0, ys0, rfl, HO0.out, by have := HB0.out; simpa using this, hb0⟩
      case round =>
        obtain ⟨k, hk, rfl, g, cap, ys, rfl, ho, hB, hb⟩ := hrel
        have hfew := hB.few
        simp only [List.length_append, List.length_take] at hfew
        have hz := hb.size
        have HO := Lib.hid ho; clear ho
        have HB := Lib.hid hB; clear hB
        by_cases hlt : k < r.length
        · obtain ⟨b, off, lo, hi, hA, hbB, hlk, hc1, hc2⟩ := (h'.below hb).at_ (k := k) (by omega)
          have HL := Lib.hid hlk; clear hlk
          rw [hA]
          have hbs : b < wr.heap.size := by omega
          clear hA
          by_cases a1 : -1073741824 < lo
          · by_cases a2 : lo ≤ 1073741824
            · by_cases b1 : -1073741824 ≤ hi
              · by_cases b2 : hi < 1073741824
                · go_wp2_with (fail)
                  refine (rput_lit _ _ _ ys lo _ HO.out (by omega) HB.out.srt (by omega)).mono ?_
                  rintro e w1 ⟨g1, cap1, ys1, rfl, ho1, hs1, hm1, hl1, hb1⟩
                  have hz1 := hb1.size
                  have hc1' : w1.cell? ⟨b, off + k * 2, none⟩ = some (.int .i64 lo) := (hb1.cell hbB).trans hc1
                  have hc2' : w1.cell? ⟨b, off + k * 2 + 1, none⟩ = some (.int .i64 hi) := (hb1.cell hbB).trans hc2
                  have hb1 := hb.trans hb1
                  have HO1 := Lib.hid ho1; clear ho1
                  have HS1 := Lib.hid hs1; clear hs1
                  have HM1 := Lib.hid hm1; clear hm1
                  go_wp2_with (fail)
                  refine (rput_lit _ _ _ ys1 (hi + 1) _ HO1.out (by omega) HS1.out (by omega)).mono ?_
                  rintro e w2 ⟨g2, cap2, ys2, rfl, ho2, hs2, hm2, hl2, hb2⟩
                  have hb2 := hb1.trans hb2
                  have HO2 := Lib.hid ho2; clear ho2
                  have HS2 := Lib.hid hs2; clear hs2
                  have HM2 := Lib.hid hm2; clear hm2
                  go_wp2_with (fail)
                  go_roundw
                  case rel => exact ⟨k + 1, by omega, by go_num, g2, cap2, ys2, rfl, HO2.out, by rw [pre_next HL.out]; exact HB.out.step HS2.out (fun y hy => (HM2.out y).2 (.inr ((HM1.out y).2 (.inr hy)))) (fun y hy => by rcases (HM2.out y).1 hy with rfl | hy; exact .inr ⟨by omega, by omega⟩; rcases (HM1.out y).1 hy with rfl | hy; exact .inr ⟨by omega, by omega⟩; exact .inl hy) (fun _ _ => (HM2.out _).2 (.inr ((HM1.out _).2 (.inl rfl)))) (fun _ _ => (HM2.out _).2 (.inl rfl)) (by omega), hb2⟩
                  case measure => simp [intOf]; omega
                · go_wp2_with (fail)
                  refine (rput_lit _ _ _ ys lo _ HO.out (by omega) HB.out.srt (by omega)).mono ?_
                  rintro e w1 ⟨g1, cap1, ys1, rfl, ho1, hs1, hm1, hl1, hb1⟩
                  have hz1 := hb1.size
                  have hc1' : w1.cell? ⟨b, off + k * 2, none⟩ = some (.int .i64 lo) := (hb1.cell hbB).trans hc1
                  have hc2' : w1.cell? ⟨b, off + k * 2 + 1, none⟩ = some (.int .i64 hi) := (hb1.cell hbB).trans hc2
                  have hb1 := hb.trans hb1
                  have HO1 := Lib.hid ho1; clear ho1
                  have HS1 := Lib.hid hs1; clear hs1
                  have HM1 := Lib.hid hm1; clear hm1
                  go_wp2_with (fail)
                  go_roundw
                  case rel => exact ⟨k + 1, by omega, by go_num, g1, cap1, ys1, rfl, HO1.out, by rw [pre_next HL.out]; exact HB.out.step HS1.out (fun y hy => (HM1.out y).2 (.inr hy)) (fun y hy => by rcases (HM1.out y).1 hy with rfl | hy; exact .inr ⟨by omega, by omega⟩; exact .inl hy) (fun _ _ => (HM1.out _).2 (.inl rfl)) (fun _ _ => by omega) (by omega), hb1⟩
                  case measure => simp [intOf]; omega
              · go_wp2_with (fail)
                refine (rput_lit _ _ _ ys lo _ HO.out (by omega) HB.out.srt (by omega)).mono ?_
                rintro e w1 ⟨g1, cap1, ys1, rfl, ho1, hs1, hm1, hl1, hb1⟩
                have hz1 := hb1.size
                have hc1' : w1.cell? ⟨b, off + k * 2, none⟩ = some (.int .i64 lo) := (hb1.cell hbB).trans hc1
                have hc2' : w1.cell? ⟨b, off + k * 2 + 1, none⟩ = some (.int .i64 hi) := (hb1.cell hbB).trans hc2
                have hb1 := hb.trans hb1
                have HO1 := Lib.hid ho1; clear ho1
                have HS1 := Lib.hid hs1; clear hs1
                have HM1 := Lib.hid hm1; clear hm1
                go_wp2_with (fail)
                go_roundw
                case rel => exact ⟨k + 1, by omega, by go_num, g1, cap1, ys1, rfl, HO1.out, by rw [pre_next HL.out]; exact HB.out.step HS1.out (fun y hy => (HM1.out y).2 (.inr hy)) (fun y hy => by rcases (HM1.out y).1 hy with rfl | hy; exact .inr ⟨by omega, by omega⟩; exact .inl hy) (fun _ _ => (HM1.out _).2 (.inl rfl)) (fun _ _ => by omega) (by omega), hb1⟩
                case measure => simp [intOf]; omega
            · by_cases b1 : -1073741824 ≤ hi
              · by_cases b2 : hi < 1073741824
                · go_wp2_with (fail)
                  refine (rput_lit _ _ _ ys (hi + 1) _ HO.out (by omega) HB.out.srt (by omega)).mono ?_
                  rintro e w2 ⟨g2, cap2, ys2, rfl, ho2, hs2, hm2, hl2, hb2⟩
                  have hb2 := hb.trans hb2
                  have HO2 := Lib.hid ho2; clear ho2
                  have HS2 := Lib.hid hs2; clear hs2
                  have HM2 := Lib.hid hm2; clear hm2
                  go_wp2_with (fail)
                  go_roundw
                  case rel => exact ⟨k + 1, by omega, by go_num, g2, cap2, ys2, rfl, HO2.out, by rw [pre_next HL.out]; exact HB.out.step HS2.out (fun y hy => (HM2.out y).2 (.inr hy)) (fun y hy => by rcases (HM2.out y).1 hy with rfl | hy; exact .inr ⟨by omega, by omega⟩; exact .inl hy) (fun _ _ => by omega) (fun _ _ => (HM2.out _).2 (.inl rfl)) (by omega), hb2⟩
                  case measure => simp [intOf]; omega
                · go_wp2_with (fail)
                  go_roundw
                  case rel => exact ⟨k + 1, by omega, by go_num, g, cap, ys, rfl, HO.out, by rw [pre_next HL.out]; exact HB.out.step HB.out.srt (fun y hy => hy) (fun y hy => .inl hy) (fun _ _ => by omega) (fun _ _ => by omega) (by omega), hb⟩
                  case measure => simp [intOf]; omega
              · go_wp2_with (fail)
                go_roundw
                case rel => exact ⟨k + 1, by omega, by go_num, g, cap, ys, rfl, HO.out, by rw [pre_next HL.out]; exact HB.out.step HB.out.srt (fun y hy => hy) (fun y hy => .inl hy) (fun _ _ => by omega) (fun _ _ => by omega) (by omega), hb⟩
                case measure => simp [intOf]; omega
          · by_cases b1 : -1073741824 ≤ hi
            · by_cases b2 : hi < 1073741824
              · go_wp2_with (fail)
                refine (rput_lit _ _ _ ys (hi + 1) _ HO.out (by omega) HB.out.srt (by omega)).mono ?_
                rintro e w2 ⟨g2, cap2, ys2, rfl, ho2, hs2, hm2, hl2, hb2⟩
                have hb2 := hb.trans hb2
                have HO2 := Lib.hid ho2; clear ho2
                have HS2 := Lib.hid hs2; clear hs2
                have HM2 := Lib.hid hm2; clear hm2
                go_wp2_with (fail)
                go_roundw
                case rel => exact ⟨k + 1, by omega, by go_num, g2, cap2, ys2, rfl, HO2.out, by rw [pre_next HL.out]; exact HB.out.step HS2.out (fun y hy => (HM2.out y).2 (.inr hy)) (fun y hy => by rcases (HM2.out y).1 hy with rfl | hy; exact .inr ⟨by omega, by omega⟩; exact .inl hy) (fun _ _ => by omega) (fun _ _ => (HM2.out _).2 (.inl rfl)) (by omega), hb2⟩
                case measure => simp [intOf]; omega
              · go_wp2_with (fail)
                go_roundw
                case rel => exact ⟨k + 1, by omega, by go_num, g, cap, ys, rfl, HO.out, by rw [pre_next HL.out]; exact HB.out.step HB.out.srt (fun y hy => hy) (fun y hy => .inl hy) (fun _ _ => by omega) (fun _ _ => by omega) (by omega), hb⟩
                case measure => simp [intOf]; omega
            · go_wp2_with (fail)
              go_roundw
              case rel => exact ⟨k + 1, by omega, by go_num, g, cap, ys, rfl, HO.out, by rw [pre_next HL.out]; exact HB.out.step HB.out.srt (fun y hy => hy) (fun y hy => .inl hy) (fun _ _ => by omega) (fun _ _ => by omega) (by omega), hb⟩
              case measure => simp [intOf]; omega
        · have hkl : r.take k = r := List.take_of_length_le (by omega)
          have HK := Lib.hid hkl; clear hkl
          go_wp2_with (fail)
          go_roundw
          case rel => exact .inr (.inr ⟨rfl, g, cap, ys, rfl, HO.out, by have := HB.out; rw [HK.out] at this; exact this, hb⟩)
          case measure => simp [intOf]
    · have HO0 := Lib.hid ho0; clear ho0
      have HB0 := Lib.hid hB0; clear hB0
      have hz0 := hb0.size
      go_wp2_with (fail)
      go_ret
      exact ⟨g0, cap0, ys0, rfl, HO0.out, HB0.out, hb0⟩
end Go.Proofs.Ytgmkchkaceciiaa.Sp
