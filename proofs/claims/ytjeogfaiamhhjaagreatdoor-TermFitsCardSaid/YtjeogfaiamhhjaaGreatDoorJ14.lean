/- Texts of this proof, joined: SpRest, TfSym, FiRow, FiRowB. -/
import Derived.Test.YtjeogfaiamhhjaaGreatDoorJ3
import Derived.Test.YtjeogfaiamhhjaaGreatDoorJ4
import Derived.Test.YtjeogfaiamhhjaaGreatDoorJ9
import Derived.Test.YtjeogfaiamhhjaaGreatDoorJ10
import Derived.Deep.RegionHeld3
import Derived.Deep.AppendLies
import Derived.IntWalk
/- The walks of ref.Count, ref.Nth, ref.At and ref.Move. -/
namespace Go.Proofs.YtjeogfaiamhhjaaGreatDoor.Sp
set_option maxRecDepth 100000
open Go Go.RowKit

def RCountRel (p : List Span) (w2 : World) (n i : Value) (wr : World) : Prop := ∃ k : Nat, k ≤ p.length ∧ i = .int .i64 k ∧ n = .int .i64 (cnt (p.take k)) ∧ Below w2.heap.size w2 wr
set_option maxHeartbeats 1000000 in
theorem rcount_any (A : Option Addr) (n c : Nat) (l p0 : List Span) (w : World) (h : RS w w.heap.size A n l) (hn : n ≤ 68719476736) (hp0 : Is p0 (mem l)) :
    Calls Tryz.prog 31 #[.slice A n c] w (RetI (cnt p0) w) := by
  have HP0 := Lib.hid hp0; clear hp0
  go_enter Tryz.func31, Tryz.ntmps31
  go_wp2_with (fail)
  refine (rnorm_any A n c l _ h hn).mono ?_
  rintro e w2 ⟨v2, p, rfl, hP, ho2, hb2⟩
  obtain rfl : p0 = p := HP0.out.eq hP fun _ => Iff.rfl
  obtain ⟨A2, c2, hv2, hc2, hr2⟩ := own_RS ho2
  subst hv2
  have HP := Lib.hid hP.1
  have hs2 := hP.1.short
  clear hP ho2
  go_wp2_with (fail)
  go_loopw [3, 5] (fun n i wr => RCountRel p0 w2 n i wr) (fun _ i _ => p0.length - (intOf i).toNat)
  case atStart => exact ⟨0, Nat.zero_le _, rfl, by simp [cnt], Below.refl _ _⟩
  case round =>
    obtain ⟨k, hk, rfl, rfl, hb⟩ := hrel
    have hz := hb.size
    by_cases hlt : k < p0.length
    · obtain ⟨b, off, lo, hi, hA, hbB, hlk, hc1, hc2'⟩ := (hr2.below hb).at_ hlt
      have hbs : b < wr.heap.size := by omega
      have hok := ok_at HP.out hlk
      have h1 := cnt_nonneg (HP.out.take k)
      have h2 := cnt_le (HP.out.take k)
      have HL := Lib.hid hlk; clear hlk
      rw [hA]
      clear hA
      generalize hcn : cnt (p0.take k) = m at *
      have HCN := Lib.hid hcn; clear hcn
      go_wp2_with (fail)
      go_quiet (fail)
      go_wp2_with (fail)
      go_roundw
      case rel => exact ⟨k + 1, by omega, by go_num, by rw [cnt_take HL.out, HCN.out]; congr 1; omega, below_drewN hb _⟩
      case measure => simp [intOf]; omega
    · have HT := Lib.hid (show p0.take k = p0 from List.take_of_length_le (by omega))
      go_wp2_with (fail)
      go_ret
      exact ⟨ret_int (by rw [HT.out]), hb2.trans (hb.mono hb2.size)⟩

def RNthRel (p : List Span) (i0 : Int) (w2 : World) (v i : Value) (wr : World) : Prop := ∃ (k : Nat) (j : Int), k ≤ p.length ∧ i = .int .i64 k ∧ v = .int .i64 j ∧ j ≤ i0 ∧ (0 ≤ i0 → 0 ≤ j) ∧ (i0 < 0 → k = 0 ∧ j = i0) ∧ nth p i0 = nth (p.drop k) j ∧ Below w2.heap.size w2 wr
set_option maxHeartbeats 1000000 in
theorem rnth_any (A : Option Addr) (c : Nat) (p0 : List Span) (i0 : Int) (w : World) (h : RS w w.heap.size A p0.length p0) (hp : Plain p0) (hi0 : i0 ≤ 9223372036854775807) :
    Calls Tryz.prog 82 #[.slice A p0.length c, .int .i64 i0] w (RetIB (nthB p0 i0) w) := by
  have hs := hp.short
  have HP := Lib.hid hp; clear hp
  go_enter Tryz.func82, Tryz.ntmps82
  go_wp2_with (fail)
  go_loopw [1, 6] (fun v i wr => RNthRel p0 i0 w v i wr) (fun _ i _ => p0.length - (intOf i).toNat)
  case atStart => exact ⟨0, i0, Nat.zero_le _, rfl, rfl, by omega, fun h => h, fun _ => ⟨rfl, rfl⟩, rfl, Below.refl _ _⟩
  case round =>
    obtain ⟨k, j, hk, rfl, rfl, hj1, hj0, hjn, hnth, hb⟩ := hrel
    have hz := hb.size
    have HN := Lib.hid hnth; clear hnth
    by_cases hneg : i0 < 0
    · have HV := Lib.hid (show nthB p0 i0 = (0, false) from if_pos hneg)
      have hj : j < 0 := by have := hjn hneg; omega
      clear hj0 hjn
      by_cases hlt : k < p0.length
      · go_wp2_with (fail)
        go_ret2
        exact ⟨ret_ib HV.out.symm, hb⟩
      · go_wp2_with (fail)
        go_ret2
        exact ⟨ret_ib HV.out.symm, hb⟩
    · have hj : 0 ≤ j := hj0 (by omega)
      clear hj0 hjn
      by_cases hlt : k < p0.length
      · obtain ⟨b, off, lo, hi, hA, hbB, hlk, hc1, hc2⟩ := (h.below hb).at_ hlt
        have hbs : b < wr.heap.size := by omega
        have hok := ok_at HP.out hlk
        have HL := Lib.hid hlk; clear hlk
        rw [hA]
        clear hA
        by_cases hji : j < hi - lo + 1
        · have hv : nthB p0 i0 = (lo + j, true) := by
            unfold nthB
            rw [if_neg hneg, HN.out, nth_drop HL.out, if_pos hji]
          have HV := Lib.hid hv; clear hv
          go_wp2_with (fail)
          go_quiet (fail)
          go_wp2_with (fail)
          go_ret2
          exact ⟨ret_ib HV.out.symm, below_drewN hb _⟩
        · have hv := HN.out
          rw [nth_drop HL.out, if_neg hji] at hv
          have HV := Lib.hid hv; clear hv
          go_wp2_with (fail)
          go_quiet (fail)
          go_wp2_with (fail)
          go_roundw
          case rel => exact ⟨k + 1, j - (hi - lo + 1), by omega, by go_num, rfl, by omega, fun _ => by omega, fun h => absurd h (by omega), HV.out, below_drewN hb _⟩
          case measure => simp [intOf]; omega
      · have hv : nthB p0 i0 = (0, false) := by
          unfold nthB
          rw [if_neg hneg, HN.out, List.drop_eq_nil_of_le (by omega), nth]
        have HV := Lib.hid hv; clear hv
        go_wp2_with (fail)
        go_ret2
        exact ⟨ret_ib HV.out.symm, hb⟩

/-- A list of spans, each moved. -/
def shift (d : Int) (p : List Span) : List Span := p.map fun q => (q.1 + d, q.2 + d)
theorem shift_mem (d : Int) (p : List Span) (hp : Plain p) (x : Int) : mem (shift d p) x ↔ Rng x ∧ mem p (x - d) := by
  unfold mem shift
  constructor
  · rintro ⟨h, q, hq, h1, h2⟩
    obtain ⟨q', hq', rfl⟩ := List.mem_map.1 hq
    have := hp.2 q' hq'
    unfold Ok at this
    simp only at h1 h2
    exact ⟨h, by unfold Rng; omega, q', hq', by omega, by omega⟩
  · rintro ⟨h, _, q, hq, h1, h2⟩
    exact ⟨h, _, List.mem_map.2 ⟨q, hq, rfl⟩, by simp only; omega, by simp only; omega⟩
theorem shift_next {d lo hi : Int} {p : List Span} {k : Nat} (hk : ∃ hl : k < p.length, p[k] = (lo, hi)) : shift d (p.take (k + 1)) = shift d (p.take k) ++ [(lo + d, hi + d)] := by
  obtain ⟨hl, e⟩ := hk
  rw [List.take_succ_eq_append_getElem hl, e]
  simp [shift]
def RMoveRel (p : List Span) (d : Int) (w2 : World) (v i : Value) (wr : World) : Prop := ∃ k : Nat, k ≤ p.length ∧ i = .int .i64 k ∧ OwnsL wr w2.heap.size v (shift d (p.take k)) ∧ Below w2.heap.size w2 wr
theorem shift_len (d : Int) (p : List Span) (k : Nat) (hk : k ≤ p.length) : (shift d (p.take k)).length = k := by simp [shift]; omega
set_option maxHeartbeats 1000000 in
theorem rmove_any (A : Option Addr) (n c : Nat) (l : List Span) (d : Int) (w : World) (h : RS w w.heap.size A n l) (hn : n ≤ 68719476736) :
    Calls Tryz.prog 138 #[.slice A n c, .int .i64 d] w (SetOut (fun x => Rng x ∧ mem l (x - d)) w) := by
  obtain ⟨i0, hi0, hz0, hz1, hz2⟩ := info_parts infoSpan
  by_cases h2 : 2147483648 < d
  · go_enter Tryz.func138, Tryz.ntmps138
    go_wp2_with (fail)
    go_ret
    exact ⟨_, [], rfl, moved_none (.inr h2), World.ownsRow_nil _ _ _ _, Below.refl _ _⟩
  by_cases h1 : d < -2147483648
  · go_enter Tryz.func138, Tryz.ntmps138
    go_wp2_with (fail)
    go_ret
    exact ⟨_, [], rfl, moved_none (.inl h1), World.ownsRow_nil _ _ _ _, Below.refl _ _⟩
  go_enter Tryz.func138, Tryz.ntmps138
  go_wp2_with (fail)
  refine (rnorm_any A n c l _ h hn).mono ?_
  rintro e w2 ⟨v2, p, rfl, hP, ho2, hb2⟩
  obtain ⟨A2, c2, hv2, hc2, hr2⟩ := own_RS ho2
  subst hv2
  have hz2' := hb2.size
  have hs2 := hP.1.short
  have HPS := Lib.hid hP.2
  have HP := Lib.hid hP.1
  clear hP ho2
  go_wp2_with (fail)
  go_loopw [6, 7] (fun v i wr => RMoveRel p d w2 v i wr) (fun _ i _ => p.length - (intOf i).toNat)
  case atStart => exact ⟨0, Nat.zero_le _, rfl, World.ownsRow_nil _ _ _ _, Below.refl _ _⟩
  case round =>
    obtain ⟨k, hk, rfl, ho, hb⟩ := hrel
    have hz := hb.size
    have HLEN := Lib.hid (shift_len d p k hk)
    have HO := Lib.hid ho; clear ho
    by_cases hlt : k < p.length
    · obtain ⟨b, off, lo, hi, hA, hbB, hlk, hc1, hc2'⟩ := (hr2.below hb).at_ hlt
      have hbs : b < wr.heap.size := by omega
      have hok := ok_at HP.out hlk
      have HNX := Lib.hid (shift_next (d := d) hlk)
      clear hlk
      rw [hA]
      clear hA
      have hag : u6.ownBlock ≠ some b := fun e => by have := (HO.out.lt _ e).1; omega
      have s1 : IntKind.i64.wrap (lo + d) = lo + d := IntWalk.i64_in _ (by omega)
      have s2 : IntKind.i64.wrap (hi + d) = hi + d := IntWalk.i64_in _ (by omega)
      have i1 : (0 : Int) ≤ (k : Int) := Int.natCast_nonneg _
      have i2 : (k : Int) < (p.length : Int) := by omega
      go_wp2_with (fail)
      go_region_held3 (fun w' => w'.cell? ⟨b, off + k * 2, none⟩ = some (.int .i64 lo) ∧ w'.cell? ⟨b, off + k * 2 + 1, none⟩ = some (.int .i64 hi))
        (first
          | go_keep
          | (go_split_ands
             refine ⟨?_, ?_⟩
             · (rw [hgrow.cell_far _ (by simp; omega) (Ne.symm hag)]; assumption)
             · (rw [hgrow.cell_far _ (by simp; omega) (Ne.symm hag)]; assumption)))
        ((refine step_append_lies _ (by rfl) _ _ _ (by rfl) w2.heap.size 54 i0 _ 2 16 Tryz.underlying55 hi0 hz0 hz1 hz2 rfl (by omega) u6 (shift d (p.take k)).length (flat (shift d (p.take k))) (by rfl) ((HO.out.alloc _).drew)
            ⟨wr.heap.size, 0, none⟩ 1 1 [.int .i64 (lo + d), .int .i64 (hi + d)] (by rfl) (by rfl) (World.news_of_block (cs := #[.int .i64 (lo + d), .int .i64 (hi + d)]) (t := 54) (fr := (0, 0)) (heap_alloc_new wr _)) (by simp [Value.oneCell'])
            (by omega) (by rw [HLEN.out]; simp only [maxLen]; omega) (by rw [HLEN.out]; omega) (by simp; omega) (wr.heap.size + 1) (by simp) ?_; intro gg cap w4 hown1 hgrow hat hlt))
      have hown2 : OwnsL w4 w2.heap.size (.slice (some ⟨gg, 0, none⟩) ((shift d (p.take k)).length + 1) cap) (shift d (p.take k) ++ [(lo + d, hi + d)]) := by
        unfold OwnsL; rw [flat_append, List.length_append]; exact hown1
      rw [← HNX.out] at hown2
      have HG1 := Lib.hid (((hb.alloc hz _).drew).grown hgrow (by simp; omega) (own_ge HO.out))
      have HO5 := Lib.hid hown2; clear hown2 hown1 hgrow hat hlt s1 s2 i1 i2
      go_wp2_with (fail)
      go_roundw
      case rel => exact ⟨k + 1, by omega, by go_num, HO5.out, HG1.out⟩
      case measure => simp [intOf]; omega
    · have hT : p.take k = p := List.take_of_length_le (by omega)
      have ho := HO.out
      rw [hT] at ho
      obtain ⟨A5, c5, hv5, hc5, hr5⟩ := own_RS ho
      have hl5 : (shift d p).length ≤ 1073741825 := by simp [shift]; omega
      have H := Lib.hid (rnorm_any A5 (shift d p).length c5 (shift d p) wr hr5 (by omega))
      have HV := Lib.hid hv5
      clear hT ho hr5 hv5
      rw [HV.out]
      go_wp2_with (fail)
      refine H.out.mono ?_
      rintro e w6 ⟨v6, o6, rfl, his6, ho6, hb6⟩
      have HI6 := Lib.hid his6; clear his6
      go_wp2_with (fail)
      go_ret
      exact ⟨v6, o6, rfl, HI6.out.congr fun x => by rw [shift_mem d p HP.out, HPS.out], own_mono ho6 (by omega), hb2.trans ((hb.mono hz2').trans (hb6.mono (by omega)))⟩
end Go.Proofs.YtjeogfaiamhhjaaGreatDoor.Sp
/- The walk of the document's Symbols. -/
namespace Go.Proofs.YtjeogfaiamhhjaaGreatDoor.Tf
set_option maxRecDepth 100000
open Go Go.RowKit Go.Proofs.YtjeogfaiamhhjaaGreatDoor.Sp Go.Proofs.YtjeogfaiamhhjaaGreatDoor.Pa Go.Proofs.YtjeogfaiamhhjaaGreatDoor.Te

set_option maxHeartbeats 1000000 in
theorem rsymbols_any (A : Option Addr) (c : Nat) (l : List Span) (w : World) (h : RS w w.heap.size A l.length l) (hn : l.length ≤ 2000000) :
    Calls Tryz.prog 32 #[.slice A l.length c] w (SetOut (fun y => mem l y ∧ Sy y) w) := by
  obtain ⟨w1, hw1⟩ : ∃ w1, w.alloc (.cells #[.int .i64 0, .int .i64 1114111] 54) = w1 := ⟨_, rfl⟩
  have hs1 : w1.heap.size = w.heap.size + 1 := by rw [← hw1]; simp
  have h01 : Below w.heap.size w w1 := by rw [← hw1]; exact (Below.refl _ _).alloc (Nat.le_refl _) _
  have hr1 : RS w1 w1.heap.size (some ⟨w.heap.size, 0, none⟩) 1 [(0, 1114111)] := ⟨rfl, fun _ => ⟨w.heap.size, 0, rfl, by omega, fun j hj => by
    obtain rfl : j = 0 := by simp at hj; omega
    rw [← hw1]
    constructor <;> simp⟩⟩
  have HM := Lib.hid (rmake1 A (some ⟨w.heap.size, 0, none⟩) l.length 1 c 1 l [(0, 1114111)] w1 (h.belowM h01) hr1 (by omega) (by omega))
  have H01 := Lib.hid h01
  have HE := Lib.hid (show ∀ y, (Rng y ∧ inP 1 (memB l y) (memB [(0, 1114111)] y) = true) ↔ mem l y ∧ Sy y from fun y => by
    have e4 : mem [(0, 1114111)] y ↔ Rng y ∧ Sy y := by unfold mem Sy; simp
    unfold inP
    simp only [if_true, Bool.and_eq_true, memB_iff]
    rw [e4]
    exact ⟨fun q => ⟨q.2.1, q.2.2.2⟩, fun q => ⟨q.1.1, q.1, q.1.1, q.2⟩⟩)
  clear h hr1 h01
  go_enter Tryz.func32, Tryz.ntmps32
  go_wp2_with (fail)
  refine HM.out.mono ?_
  rintro q2 w2 ⟨v2, o2, rfl, hi2, ho2, hb2⟩
  have HI := Lib.hid hi2
  clear hi2
  go_wp2_with (fail)
  go_ret
  exact ⟨v2, o2, rfl, HI.out.congr HE.out, own_mono ho2 (by omega), H01.out.trans (hb2.mono H01.out.size)⟩

end Go.Proofs.YtjeogfaiamhhjaaGreatDoor.Tf
/- A row of sets that lie elsewhere, and beside it an own row of spans: what the loops of term.joint keep. -/
namespace Go.Proofs.YtjeogfaiamhhjaaGreatDoor.Fi
set_option maxRecDepth 100000
open Go Go.RowKit Go.Proofs.YtjeogfaiamhhjaaGreatDoor.Sp Go.Proofs.YtjeogfaiamhhjaaGreatDoor.Pa Go.Proofs.YtjeogfaiamhhjaaGreatDoor.Te Go.Proofs.YtjeogfaiamhhjaaGreatDoor.Mi

theorem infoSet : (Tryz.prog.info? 55).map (fun i => (i.zero, i.size, i.bytes)) = some (some (.slice none 0 0), 1, 24) := by kernel_rfl
theorem rs_grown {w w' : World} {A : Option Addr} {n : Nat} {l : List Span} {r : Option Nat} (h : RS w w.heap.size A n l) (hg : w.grownBy w' r) (hne : ∀ b off, A = some ⟨b, off, none⟩ → r ≠ some b) : RS w' w'.heap.size A n l :=
  ⟨h.1, fun hn => by
    obtain ⟨b, off, e, hb, hc⟩ := h.2 hn
    have hk : ∀ i, w'.cell? ⟨b, i, none⟩ = w.cell? ⟨b, i, none⟩ := fun i => World.cell?_of_block (a := ⟨b, i, none⟩) (hg.block b hb (fun e2 => hne b off e e2.symm))
    exact ⟨b, off, e, by have := hg.size; omega, fun j hj => ⟨(hk _).trans (hc j hj).1, (hk _).trans (hc j hj).2⟩⟩⟩
/-- v is an own row of the sets L, which lie elsewhere; o is an own row of the spans X; all apart. -/
def LowOut (w : World) (base : Nat) (v o : Value) (L : List (List Span)) (X : List Span) : Prop :=
  ∃ vs : List Value, w.ownsRow base 55 1 v L.length vs ∧
    (∀ (j : Nat) (h : j < L.length), ∃ A c, vs[j]? = some (.slice A L[j].length c) ∧ RS w w.heap.size A L[j].length L[j] ∧ L[j].length ≤ c ∧ (A = none → L[j] = [] ∧ c = 0) ∧ ∀ b off, A = some ⟨b, off, none⟩ → b < w.heap.size ∧ v.ownBlock ≠ some b ∧ o.ownBlock ≠ some b) ∧
    OwnsL w base o X ∧ (∀ b, v.ownBlock = some b → o.ownBlock ≠ some b)
section
variable {w w' : World} {base : Nat} {v o : Value} {L : List (List Span)} {X : List Span}
theorem row_keep {w w' : World} {base : Nat} {e : TypeId} {size : Nat} {v : Value} {n : Nat} {xs : List Value} (h : w.ownsRow base e size v n xs) (hk : ∀ g, v.ownBlock = some g → w'.heap[g]? = w.heap[g]?) : w'.ownsRow base e size v n xs := by
  refine ⟨h.1, ?_⟩
  rcases h.2 with h2 | ⟨g, cap, cur, rfl, hg, hr, hrest⟩
  · exact .inl h2
  · exact .inr ⟨g, cap, cur, rfl, hg, (hk g rfl).trans hr, hrest⟩
theorem row_unique {w : World} {base : Nat} {e : TypeId} {size : Nat} {v : Value} {n : Nat} {xs ys : List Value} (h : w.ownsRow base e size v n xs) (h' : w.ownsRow base e size v n ys) : xs = ys := by
  obtain ⟨a1, h2⟩ := h
  obtain ⟨a2, h2'⟩ := h'
  rcases h2 with ⟨rfl, h0⟩ | ⟨g, cap, cur, rfl, _, hh, _, _, _, ht⟩
  · subst h0
    rw [Nat.zero_mul] at a1 a2
    rw [List.eq_nil_of_length_eq_zero a1, List.eq_nil_of_length_eq_zero a2]
  · rcases h2' with ⟨hv, _⟩ | ⟨g', cap', cur', hv, _, hh', _, _, _, ht'⟩
    · cases hv
    · simp only [Value.slice.injEq, Option.some.injEq, Addr.mk.injEq] at hv
      obtain ⟨⟨rfl, _⟩, _, _⟩ := hv
      rw [hh] at hh'
      simp only [Option.some.injEq, Obj.cells.injEq] at hh'
      obtain ⟨rfl, _⟩ := hh'
      rw [← ht, ← ht']
theorem LowOut.below (h : LowOut w base v o L X) (hb : Below w.heap.size w w') : LowOut w' base v o L X := by
  obtain ⟨vs, h1, h2, h3, h4⟩ := h
  refine ⟨vs, row_keep h1 fun g e => hb.block g (World.ownsRow.lt h1 g e).2, fun j hj => ?_, row_keep h3 fun g e => hb.block g (World.ownsRow.lt h3 g e).2, h4⟩
  obtain ⟨A, c, q1, q2, q3, q4, q5⟩ := h2 j hj
  exact ⟨A, c, q1, q2.belowM hb, q3, q4, fun b off e => ⟨Nat.lt_of_lt_of_le (q5 b off e).1 hb.size, (q5 b off e).2⟩⟩
/-- One of the sets, and its cell. -/
theorem LowOut.at_ (h : LowOut w base v o L X) {j : Nat} (hj : j < L.length) : ∃ g cap A c, v = .slice (some ⟨g, 0, none⟩) L.length cap ∧ base ≤ g ∧ g < w.heap.size ∧ w.cell? ⟨g, j, none⟩ = some (.slice A L[j].length c) ∧ RS w w.heap.size A L[j].length L[j] ∧ L[j].length ≤ c ∧ (A = none → L[j] = [] ∧ c = 0) := by
  obtain ⟨vs, h1, h2, h3, h4⟩ := h
  obtain ⟨g, cap, e, hb, hlt⟩ := World.ownsRow.form h1 (by omega)
  obtain ⟨A, c, q1, q2, q3, q4, q5⟩ := h2 j hj
  subst e
  exact ⟨g, cap, A, c, rfl, hb, hlt, by rw [World.ownsRow.cellAt h1 j (by omega), q1], q2, q3, q4⟩
theorem LowOut.row (h : LowOut w base v o L X) : ∃ vs : List Value, w.ownsRow base 55 1 v L.length vs := ⟨h.choose, h.choose_spec.1⟩
theorem LowOut.out (h : LowOut w base v o L X) : OwnsL w base o X := h.choose_spec.2.2.1
/-- A set more. -/
theorem LowOut.more {vs : List Value} {l : List Span} {A : Option Addr} {c g cap H : Nat} (h : LowOut w base v o L X) (hvs : w.ownsRow base 55 1 v L.length vs) (hr : RS w w.heap.size A l.length l) (hc : l.length ≤ c) (hA : A = none → l = [] ∧ c = 0)
    (hne : ∀ b off, A = some ⟨b, off, none⟩ → b < w.heap.size ∧ v.ownBlock ≠ some b ∧ o.ownBlock ≠ some b)
    (hg : w.grownBy w' v.ownBlock) (ho : w'.ownsRow base 55 1 (.slice (some ⟨g, 0, none⟩) (L.length + 1) cap) (L.length + 1) (vs ++ [.slice A l.length c])) (hat : v.ownBlock = some g ∨ g = H) (hH : w.heap.size ≤ H) : LowOut w' base (.slice (some ⟨g, 0, none⟩) (L.length + 1) cap) o (L ++ [l]) X := by
  obtain ⟨vs', h1, h2, h3, h4⟩ := h
  obtain rfl : vs' = vs := row_unique h1 hvs
  have hvl : vs'.length = L.length := by have := h1.1; omega
  have hnew : ∀ b, b < w.heap.size ∧ v.ownBlock ≠ some b ∧ o.ownBlock ≠ some b → b < w'.heap.size ∧ (Value.slice (some ⟨g, 0, none⟩) (L.length + 1) cap).ownBlock ≠ some b ∧ o.ownBlock ≠ some b := fun b ⟨q1, q2, q3⟩ => by
    refine ⟨by have := hg.size; omega, fun e => ?_, q3⟩
    have e : g = b := by simpa [Value.ownBlock] using e
    rcases hat with k | k
    · exact q2 (by rw [k, e])
    · omega
  refine ⟨vs' ++ [.slice A l.length c], by rw [List.length_append, List.length_singleton]; exact ho, fun j hj => ?_, ?_, fun b e => ?_⟩
  · by_cases k : j < L.length
    · obtain ⟨Aj, cj, q1, q2, q3, q4, q5⟩ := h2 j k
      rw [List.getElem_append_left k]
      exact ⟨Aj, cj, by rw [List.getElem?_append_left (by omega)]; exact q1, rs_grown q2 hg (fun b off e => (q5 b off e).2.1), q3, q4, fun b off e => hnew b (q5 b off e)⟩
    · obtain rfl : j = L.length := by simp at hj; omega
      rw [List.getElem_append_right (by omega)]
      simp only [Nat.sub_self, List.getElem_singleton]
      exact ⟨A, c, by rw [List.getElem?_append_right (by omega)]; simp [hvl], rs_grown hr hg (fun b off e => (hne b off e).2.1), hc, hA, fun b off e => hnew b (hne b off e)⟩
  · refine World.ownsRow.kept h3 hg ?_
    cases e : o.ownBlock with
    | none => exact .inl rfl
    | some b => exact .inr fun k => h4 b k.symm e
  · have e : g = b := by simpa [Value.ownBlock] using e
    subst e
    rcases hat with k | k
    · exact h4 _ k
    · exact fun e2 => by have := (World.ownsRow.lt h3 g e2).2; omega
/-- Spans more. -/
theorem LowOut.longer {Y : List Span} {g cap H : Nat} (h : LowOut w base v o L X) (hg : w.grownBy w' o.ownBlock) (ho : OwnsL w' base (.slice (some ⟨g, 0, none⟩) (X.length + Y.length) cap) (X ++ Y)) (hat : o.ownBlock = some g ∨ g = H) (hH : w.heap.size ≤ H) : LowOut w' base v (.slice (some ⟨g, 0, none⟩) (X.length + Y.length) cap) L (X ++ Y) := by
  obtain ⟨vs, h1, h2, h3, h4⟩ := h
  have hnew : ∀ b, b < w.heap.size → o.ownBlock ≠ some b → (Value.slice (some ⟨g, 0, none⟩) (X.length + Y.length) cap).ownBlock ≠ some b := fun b q1 q2 e => by
    have e : g = b := by simpa [Value.ownBlock] using e
    rcases hat with k | k
    · exact q2 (by rw [k, e])
    · omega
  refine ⟨vs, World.ownsRow.kept h1 hg ?_, fun j hj => ?_, ho, fun b e => hnew b (World.ownsRow.lt h1 b e).2 (h4 b e)⟩
  · cases e : v.ownBlock with
    | none => exact .inl rfl
    | some b => exact .inr fun k => h4 b e k.symm
  · obtain ⟨A, c, q1, q2, q3, q4, q5⟩ := h2 j hj
    exact ⟨A, c, q1, rs_grown q2 hg (fun b off e => (q5 b off e).2.2), q3, q4, fun b off e => ⟨by have := hg.size; have := (q5 b off e).1; omega, (q5 b off e).2.1, hnew b (q5 b off e).1 (q5 b off e).2.2⟩⟩
end
/-- A plain list that tells no more than so many numbers is no longer. -/
theorem plain_few {p : List Span} (hp : Plain p) {N : Nat} (F : Nat → Int) (h : ∀ y, mem p y → ∃ i, i < N ∧ F i = y) : p.length ≤ N := by
  have := spans_few p ((List.range N).map fun i => (F i, F i)) hp (fun x hx => by
    obtain ⟨i, hi, e⟩ := h x hx
    exact ⟨(F i, F i), List.mem_map.2 ⟨i, List.mem_range.2 hi, rfl⟩, by show F i ≤ x; omega, by show x ≤ F i; omega⟩) (fun q hq x y z a1 a2 a3 a4 hx hz => by
    obtain ⟨i, _, rfl⟩ := List.mem_map.1 hq
    simp only at a1 a4
    obtain rfl : y = x := by omega
    exact hx)
  simpa using this
theorem low_few {ps : List PT} {k : Nat} {l : List Span} (h : Is l (LowS ps k)) : (l.length : Int) ≤ pw k := by
  obtain ⟨N, hN⟩ := Int.eq_ofNat_of_zero_le (show 0 ≤ pw (k : Int) by have := pw_pos (k : Int); omega)
  have := plain_few h.1 (N := N) (fun i => totT ps (i : Int)) (fun y hy => by
    obtain ⟨z, h0, h1, h2⟩ := (h.2 y).1 hy
    exact ⟨z.toNat, by omega, by rw [Int.toNat_of_nonneg h0]; exact h2⟩)
  rw [hN]
  exact Int.ofNat_le.2 this
end Go.Proofs.YtjeogfaiamhhjaaGreatDoor.Fi
/- A row of sets that lie behind it, in blocks of the call's own. -/
namespace Go.Proofs.YtjeogfaiamhhjaaGreatDoor.Fi
set_option maxRecDepth 100000
open Go Go.RowKit Go.Proofs.YtjeogfaiamhhjaaGreatDoor.Sp Go.Proofs.YtjeogfaiamhhjaaGreatDoor.Pa Go.Proofs.YtjeogfaiamhhjaaGreatDoor.Te Go.Proofs.YtjeogfaiamhhjaaGreatDoor.Mi

/-- v is an own row of the sets L, which lie in other blocks from base on. -/
def RowB (w : World) (base : Nat) (v : Value) (L : List (List Span)) : Prop :=
  ∃ vs : List Value, w.ownsRow base 55 1 v L.length vs ∧
    (∀ (j : Nat) (h : j < L.length), ∃ A c, vs[j]? = some (.slice A L[j].length c) ∧ RS w w.heap.size A L[j].length L[j] ∧ L[j].length ≤ c ∧ (A = none → L[j] = [] ∧ c = 0) ∧ ∀ b off, A = some ⟨b, off, none⟩ → base ≤ b ∧ b < w.heap.size ∧ v.ownBlock ≠ some b)
section
variable {w w' : World} {base : Nat} {v : Value} {L : List (List Span)}
theorem RowB.nil_ (w : World) (base : Nat) : RowB w base (.slice none 0 0) [] := ⟨[], World.ownsRow_nil _ _ _ _, fun j h => by simp at h⟩
theorem RowB.keep (h : RowB w base v L) (hs : w.heap.size ≤ w'.heap.size) (hk : ∀ g, base ≤ g → g < w.heap.size → w'.heap[g]? = w.heap[g]?) : RowB w' base v L := by
  obtain ⟨vs, h1, h2⟩ := h
  refine ⟨vs, row_keep h1 fun g e => hk g (World.ownsRow.lt h1 g e).1 (World.ownsRow.lt h1 g e).2, fun j hj => ?_⟩
  obtain ⟨A, c, q1, q2, q3, q4, q5⟩ := h2 j hj
  refine ⟨A, c, q1, ⟨q2.1, fun hn => ?_⟩, q3, q4, fun b off e => ⟨(q5 b off e).1, Nat.lt_of_lt_of_le (q5 b off e).2.1 hs, (q5 b off e).2.2⟩⟩
  obtain ⟨b, off, e, hb, hc⟩ := q2.2 hn
  have hkk : ∀ i, w'.cell? ⟨b, i, none⟩ = w.cell? ⟨b, i, none⟩ := fun i => World.cell?_of_block (a := ⟨b, i, none⟩) (hk b (q5 b off e).1 hb)
  exact ⟨b, off, e, by omega, fun j hj => ⟨(hkk _).trans (hc j hj).1, (hkk _).trans (hc j hj).2⟩⟩
theorem RowB.below (h : RowB w base v L) (hb : Below w.heap.size w w') : RowB w' base v L := h.keep hb.size fun g _ hg => hb.block g hg
theorem RowB.set_ (h : RowB w base v L) {E : Nat} (hE : E < base) (u : Value) : RowB (w.setCell ⟨E, 0, none⟩ u) base v L := h.keep (by simp) fun g hg _ => heap_setCell_other w ⟨E, 0, none⟩ g u (fun e => by simp at e; omega)
theorem RowB.at_ (h : RowB w base v L) {j : Nat} (hj : j < L.length) : ∃ g cap A c, v = .slice (some ⟨g, 0, none⟩) L.length cap ∧ base ≤ g ∧ g < w.heap.size ∧ w.cell? ⟨g, j, none⟩ = some (.slice A L[j].length c) ∧ RS w w.heap.size A L[j].length L[j] ∧ L[j].length ≤ c ∧ (A = none → L[j] = [] ∧ c = 0) := by
  obtain ⟨vs, h1, h2⟩ := h
  obtain ⟨g, cap, e, hb, hlt⟩ := World.ownsRow.form h1 (by omega)
  obtain ⟨A, c, q1, q2, q3, q4, q5⟩ := h2 j hj
  subst e
  exact ⟨g, cap, A, c, rfl, hb, hlt, by rw [World.ownsRow.cellAt h1 j (by omega), q1], q2, q3, q4⟩
theorem RowB.row (h : RowB w base v L) : ∃ vs : List Value, w.ownsRow base 55 1 v L.length vs := ⟨h.choose, h.choose_spec.1⟩
theorem RowB.shape (h : RowB w base v L) : ∃ A c, v = .slice A L.length c := by obtain ⟨vs, h1⟩ := h.row; exact own_shape h1
theorem RowB.lt (h : RowB w base v L) {g : Nat} (e : v.ownBlock = some g) : base ≤ g ∧ g < w.heap.size := by obtain ⟨vs, h1⟩ := h.row; exact World.ownsRow.lt h1 g e
/-- The list of lists that it reads as. -/
theorem RowB.reads (h : RowB w base v L) : ∃ A c, v = .slice A L.length c ∧ RGs w A L.length L ∧ L.length ≤ c := by
  obtain ⟨vs, h1, h2⟩ := h
  by_cases hn : 0 < L.length
  · obtain ⟨g, cap, e, hb, hlt⟩ := World.ownsRow.form h1 hn
    subst e
    refine ⟨_, _, rfl, ⟨rfl, fun _ => ⟨g, 0, rfl, hlt, fun j hj => ?_⟩⟩, ?_⟩
    · obtain ⟨Aj, cj, q1, q2, q3, q4, _⟩ := h2 j hj
      exact ⟨Aj, cj, by rw [Nat.zero_add, World.ownsRow.cellAt h1 j (by omega), q1], q2, q3, q4⟩
    · rcases h1.2 with ⟨e, _⟩ | ⟨g', cap', cur, e, _, _, hnc, _⟩
      · cases e
      · injection e with _ _ e
        omega
  · obtain ⟨A, c, e⟩ := own_shape h1
    have h0 : L = [] := List.eq_nil_of_length_eq_zero (by omega)
    subst h0
    exact ⟨A, c, e, RGs.nil_ _ _, Nat.zero_le _⟩
/-- A set more. -/
theorem RowB.more {vs : List Value} {l : List Span} {A : Option Addr} {c H : Nat} {v' : Value} (h : RowB w base v L) (hvs : w.ownsRow base 55 1 v L.length vs) (hr : RS w w.heap.size A l.length l) (hc : l.length ≤ c) (hA : A = none → l = [] ∧ c = 0)
    (hne : ∀ b off, A = some ⟨b, off, none⟩ → base ≤ b ∧ b < w.heap.size ∧ v.ownBlock ≠ some b)
    (hg : w.grownBy w' v.ownBlock) (ho : w'.ownsRow base 55 1 v' (L.length + 1) (vs ++ [.slice A l.length c])) (hat : v'.ownBlock = v.ownBlock ∨ v'.ownBlock = some H) (hH : w.heap.size ≤ H) : RowB w' base v' (L ++ [l]) := by
  obtain ⟨vs', h1, h2⟩ := h
  obtain rfl : vs' = vs := row_unique h1 hvs
  have hvl : vs'.length = L.length := by have := h1.1; omega
  have hnew : ∀ b, base ≤ b ∧ b < w.heap.size ∧ v.ownBlock ≠ some b → base ≤ b ∧ b < w'.heap.size ∧ v'.ownBlock ≠ some b := fun b ⟨q0, q1, q2⟩ => by
    refine ⟨q0, by have := hg.size; omega, fun e => ?_⟩
    rcases hat with k | k
    · exact q2 (by rw [← k, e])
    · rw [k] at e
      injection e with e
      omega
  refine ⟨vs' ++ [.slice A l.length c], by rw [List.length_append, List.length_singleton]; exact ho, fun j hj => ?_⟩
  by_cases k : j < L.length
  · obtain ⟨Aj, cj, q1, q2, q3, q4, q5⟩ := h2 j k
    rw [List.getElem_append_left k]
    exact ⟨Aj, cj, by rw [List.getElem?_append_left (by omega)]; exact q1, rs_grown q2 hg (fun b off e => (q5 b off e).2.2), q3, q4, fun b off e => hnew b (q5 b off e)⟩
  · obtain rfl : j = L.length := by simp at hj; omega
    rw [List.getElem_append_right (by omega)]
    simp only [Nat.sub_self, List.getElem_singleton]
    exact ⟨A, c, by rw [List.getElem?_append_right (by omega)]; simp [hvl], rs_grown hr hg (fun b off e => (hne b off e).2.2), hc, hA, fun b off e => hnew b (hne b off e)⟩
end
end Go.Proofs.YtjeogfaiamhhjaaGreatDoor.Fi
