/- Texts of this proof, joined: SpRest, TfSym, FiRow, FiRowB. -/
import Derived.Test.YtiddgfcoankpjaaGreatDoorK3
import Derived.Test.YtiddgfcoankpjaaGreatDoorK4
import Derived.Test.YtiddgfcoankpjaaGreatDoorK11
import Derived.Test.YtiddgfcoankpjaaGreatDoorK12
import Derived.Deep.RegionHeld3
import Derived.Deep.AppendLies
import Derived.IntWalk
/- The walks of ref.Count, ref.Nth, ref.At and ref.Move. -/
namespace Go.Proofs.YtiddgfcoankpjaaGreatDoor.Sp
set_option maxRecDepth 100000
open Go Go.RowKit

def RCountRel (p : List Span) (w2 : World) (n i : Value) (wr : World) : Prop := ∃ k : Nat, k ≤ p.length ∧ i = .int .i64 k ∧ n = .int .i64 (cnt (p.take k)) ∧ Below w2.heap.size w2 wr
set_option maxHeartbeats 1000000 in
theorem rcount_any (A : Option Addr) (n c : Nat) (l p0 : List Span) (w : World) (h : RS w w.heap.size A n l) (hn : n ≤ 68719476736) (hp0 : Is p0 (mem l)) :
    Calls Tryz.prog 31 #[.slice A n c] w (RetI (cnt p0) w) := by
  have HP0 := Lib.hid hp0; clear hp0
  go_enter Tryz.func31, Tryz.ntmps31
  go_wp2_with (fail)
  refine (rnorm_any A n c l _ h hn).mono ?_
  rintro e w2 ⟨v2, p, rfl, hP, ho2, hb2⟩
  obtain rfl : p0 = p := HP0.out.eq hP fun _ => Iff.rfl
  obtain ⟨A2, c2, hv2, hc2, hr2⟩ := own_RS ho2
  subst hv2
  have HP := Lib.hid hP.1
  have hs2 := hP.1.short
  clear hP ho2
  go_wp2_with (fail)
  go_loopw [3, 5] (fun n i wr => RCountRel p0 w2 n i wr) (fun _ i _ => p0.length - (intOf i).toNat)
  case atStart => exact ⟨0, Nat.zero_le _, rfl, by simp [cnt], Below.refl _ _⟩
  case round =>
    obtain ⟨k, hk, rfl, rfl, hb⟩ := hrel
    have hz := hb.size
    by_cases hlt : k < p0.length
    · obtain ⟨b, off, lo, hi, hA, hbB, hlk, hc1, hc2'⟩ := (hr2.below hb).at_ hlt
      have hbs : b < wr.heap.size := by omega
      have hok := ok_at HP.out hlk
      have h1 := cnt_nonneg (HP.out.take k)
      have h2 := cnt_le (HP.out.take k)
      have HL := Lib.hid hlk; clear hlk
      rw [hA]
      clear hA
      generalize hcn : cnt (p0.take k) = m at *
      have HCN := Lib.hid hcn; clear hcn
      go_wp2_with (fail)
      go_quiet (fail)
      go_wp2_with (fail)
      go_roundw
      case rel => exact ⟨k + 1, by omega, by go_num, by rw [cnt_take HL.out, HCN.out]; congr 1; omega, below_drewN hb _⟩
      case measure => simp [intOf]; omega
    · have HT := Lib.hid (show p0.take k = p0 from List.take_of_length_le (by omega))
      go_wp2_with (fail)
      go_ret
      exact ⟨ret_int (by rw [HT.out]), hb2.trans (hb.mono hb2.size)⟩

def RNthRel (p : List Span) (i0 : Int) (w2 : World) (v i : Value) (wr : World) : Prop := ∃ (k : Nat) (j : Int), k ≤ p.length ∧ i = .int .i64 k ∧ v = .int .i64 j ∧ j ≤ i0 ∧ (0 ≤ i0 → 0 ≤ j) ∧ (i0 < 0 → k = 0 ∧ j = i0) ∧ nth p i0 = nth (p.drop k) j ∧ Below w2.heap.size w2 wr
set_option maxHeartbeats 1000000 in
theorem rnth_any (A : Option Addr) (c : Nat) (p0 : List Span) (i0 : Int) (w : World) (h : RS w w.heap.size A p0.length p0) (hp : Plain p0) (hi0 : i0 ≤ 9223372036854775807) :
    Calls Tryz.prog 82 #[.slice A p0.length c, .int .i64 i0] w (RetIB (nthB p0 i0) w) := by
  have hs := hp.short
  have HP := Lib.hid hp; clear hp
  go_enter Tryz.func82, Tryz.ntmps82
  go_wp2_with (fail)
  go_loopw [1, 6] (fun v i wr => RNthRel p0 i0 w v i wr) (fun _ i _ => p0.length - (intOf i).toNat)
  case atStart => exact ⟨0, i0, Nat.zero_le _, rfl, rfl, by omega, fun h => h, fun _ => ⟨rfl, rfl⟩, rfl, Below.refl _ _⟩
  case round =>
    obtain ⟨k, j, hk, rfl, rfl, hj1, hj0, hjn, hnth, hb⟩ := hrel
    have hz := hb.size
    have HN := Lib.hid hnth; clear hnth
    by_cases hneg : i0 < 0
    · have HV := Lib.hid (show nthB p0 i0 = (0, false) from if_pos hneg)
      have hj : j < 0 := by have := hjn hneg; omega
      clear hj0 hjn
      by_cases hlt : k < p0.length
      · go_wp2_with (fail)
        go_ret2
        exact ⟨ret_ib HV.out.symm, hb⟩
      · go_wp2_with (fail)
        go_ret2
        exact ⟨ret_ib HV.out.symm, hb⟩
    · have hj : 0 ≤ j := hj0 (by omega)
      clear hj0 hjn
      by_cases hlt : k < p0.length
      · obtain ⟨b, off, lo, hi, hA, hbB, hlk, hc1, hc2⟩ := (h.below hb).at_ hlt
        have hbs : b < wr.heap.size := by omega
        have hok := ok_at HP.out hlk
        have HL := Lib.hid hlk; clear hlk
        rw [hA]
        clear hA
        by_cases hji : j < hi - lo + 1
        · have hv : nthB p0 i0 = (lo + j, true) := by
            unfold nthB
            rw [if_neg hneg, HN.out, nth_drop HL.out, if_pos hji]
          have HV := Lib.hid hv; clear hv
          go_wp2_with (fail)
          go_quiet (fail)
          go_wp2_with (fail)
          go_ret2
          exact ⟨ret_ib HV.out.symm, below_drewN hb _⟩
        · have hv := HN.out
          rw [nth_drop HL.out, if_neg hji] at hv
          have HV := Lib.hid hv; clear hv
          go_wp2_with (fail)
          go_quiet (fail)
          go_wp2_with (fail)
          go_roundw
          case rel => exact ⟨k + 1, j - (hi - lo + 1), by omega, by go_num, rfl, by omega, fun _ => by omega, fun h => absurd h (by omega), HV.out, below_drewN hb _⟩
          case measure => simp [intOf]; omega
      · have hv : nthB p0 i0 = (0, false) := by
          unfold nthB
          rw [if_neg hneg, HN.out, List.drop_eq_nil_of_le (by omega), nth]
        have HV := Lib.hid hv; clear hv
        go_wp2_with (fail)
        go_ret2
        exact ⟨ret_ib HV.out.symm, hb⟩

end Go.Proofs.YtiddgfcoankpjaaGreatDoor.Sp
/- The walk of the document's Symbols. -/
namespace Go.Proofs.YtiddgfcoankpjaaGreatDoor.Tf
set_option maxRecDepth 100000
open Go Go.RowKit Go.Proofs.YtiddgfcoankpjaaGreatDoor.Sp Go.Proofs.YtiddgfcoankpjaaGreatDoor.Pa Go.Proofs.YtiddgfcoankpjaaGreatDoor.Te

set_option maxHeartbeats 1000000 in
theorem rsymbols_any (A : Option Addr) (c : Nat) (l : List Span) (w : World) (h : RS w w.heap.size A l.length l) (hn : l.length ≤ 2000000) :
    Calls Tryz.prog 32 #[.slice A l.length c] w (SetOut (fun y => mem l y ∧ Sy y) w) := by
  obtain ⟨w1, hw1⟩ : ∃ w1, w.alloc (.cells #[.int .i64 0, .int .i64 1114111] 54) = w1 := ⟨_, rfl⟩
  have hs1 : w1.heap.size = w.heap.size + 1 := by rw [← hw1]; simp
  have h01 : Below w.heap.size w w1 := by rw [← hw1]; exact (Below.refl _ _).alloc (Nat.le_refl _) _
  have hr1 : RS w1 w1.heap.size (some ⟨w.heap.size, 0, none⟩) 1 [(0, 1114111)] := ⟨rfl, fun _ => ⟨w.heap.size, 0, rfl, by omega, fun j hj => by
    obtain rfl : j = 0 := by simp at hj; omega
    rw [← hw1]
    constructor <;> simp⟩⟩
  have HM := Lib.hid (rmake1 A (some ⟨w.heap.size, 0, none⟩) l.length 1 c 1 l [(0, 1114111)] w1 (h.belowM h01) hr1 (by omega) (by omega))
  have H01 := Lib.hid h01
  have HE := Lib.hid (show ∀ y, (Rng y ∧ inP 1 (memB l y) (memB [(0, 1114111)] y) = true) ↔ mem l y ∧ Sy y from fun y => by
    have e4 : mem [(0, 1114111)] y ↔ Rng y ∧ Sy y := by unfold mem Sy; simp
    unfold inP
    simp only [if_true, Bool.and_eq_true, memB_iff]
    rw [e4]
    exact ⟨fun q => ⟨q.2.1, q.2.2.2⟩, fun q => ⟨q.1.1, q.1, q.1.1, q.2⟩⟩)
  clear h hr1 h01
  go_enter Tryz.func32, Tryz.ntmps32
  go_wp2_with (fail)
  refine HM.out.mono ?_
  rintro q2 w2 ⟨v2, o2, rfl, hi2, ho2, hb2⟩
  have HI := Lib.hid hi2
  clear hi2
  go_wp2_with (fail)
  go_ret
  exact ⟨v2, o2, rfl, HI.out.congr HE.out, own_mono ho2 (by omega), H01.out.trans (hb2.mono H01.out.size)⟩

end Go.Proofs.YtiddgfcoankpjaaGreatDoor.Tf
/- A row of sets that lie elsewhere, and beside it an own row of spans: what the loops of term.joint keep. -/
namespace Go.Proofs.YtiddgfcoankpjaaGreatDoor.Fi
set_option maxRecDepth 100000
open Go Go.RowKit Go.Proofs.YtiddgfcoankpjaaGreatDoor.Sp Go.Proofs.YtiddgfcoankpjaaGreatDoor.Pa Go.Proofs.YtiddgfcoankpjaaGreatDoor.Te Go.Proofs.YtiddgfcoankpjaaGreatDoor.Mi

theorem infoSet : (Tryz.prog.info? 55).map (fun i => (i.zero, i.size, i.bytes)) = some (some (.slice none 0 0), 1, 24) := by kernel_rfl
theorem rs_grown {w w' : World} {A : Option Addr} {n : Nat} {l : List Span} {r : Option Nat} (h : RS w w.heap.size A n l) (hg : w.grownBy w' r) (hne : ∀ b off, A = some ⟨b, off, none⟩ → r ≠ some b) : RS w' w'.heap.size A n l :=
  ⟨h.1, fun hn => by
    obtain ⟨b, off, e, hb, hc⟩ := h.2 hn
    have hk : ∀ i, w'.cell? ⟨b, i, none⟩ = w.cell? ⟨b, i, none⟩ := fun i => World.cell?_of_block (a := ⟨b, i, none⟩) (hg.block b hb (fun e2 => hne b off e e2.symm))
    exact ⟨b, off, e, by have := hg.size; omega, fun j hj => ⟨(hk _).trans (hc j hj).1, (hk _).trans (hc j hj).2⟩⟩⟩
/-- v is an own row of the sets L, which lie elsewhere; o is an own row of the spans X; all apart. -/
def LowOut (w : World) (base : Nat) (v o : Value) (L : List (List Span)) (X : List Span) : Prop :=
  ∃ vs : List Value, w.ownsRow base 55 1 v L.length vs ∧
    (∀ (j : Nat) (h : j < L.length), ∃ A c, vs[j]? = some (.slice A L[j].length c) ∧ RS w w.heap.size A L[j].length L[j] ∧ L[j].length ≤ c ∧ (A = none → L[j] = [] ∧ c = 0) ∧ ∀ b off, A = some ⟨b, off, none⟩ → b < w.heap.size ∧ v.ownBlock ≠ some b ∧ o.ownBlock ≠ some b) ∧
    OwnsL w base o X ∧ (∀ b, v.ownBlock = some b → o.ownBlock ≠ some b)
section
variable {w w' : World} {base : Nat} {v o : Value} {L : List (List Span)} {X : List Span}
theorem row_keep {w w' : World} {base : Nat} {e : TypeId} {size : Nat} {v : Value} {n : Nat} {xs : List Value} (h : w.ownsRow base e size v n xs) (hk : ∀ g, v.ownBlock = some g → w'.heap[g]? = w.heap[g]?) : w'.ownsRow base e size v n xs := by
  refine ⟨h.1, ?_⟩
  rcases h.2 with h2 | ⟨g, cap, cur, rfl, hg, hr, hrest⟩
  · exact .inl h2
  · exact .inr ⟨g, cap, cur, rfl, hg, (hk g rfl).trans hr, hrest⟩
theorem row_unique {w : World} {base : Nat} {e : TypeId} {size : Nat} {v : Value} {n : Nat} {xs ys : List Value} (h : w.ownsRow base e size v n xs) (h' : w.ownsRow base e size v n ys) : xs = ys := by
  obtain ⟨a1, h2⟩ := h
  obtain ⟨a2, h2'⟩ := h'
  rcases h2 with ⟨rfl, h0⟩ | ⟨g, cap, cur, rfl, _, hh, _, _, _, ht⟩
  · subst h0
    rw [Nat.zero_mul] at a1 a2
    rw [List.eq_nil_of_length_eq_zero a1, List.eq_nil_of_length_eq_zero a2]
  · rcases h2' with ⟨hv, _⟩ | ⟨g', cap', cur', hv, _, hh', _, _, _, ht'⟩
    · cases hv
    · simp only [Value.slice.injEq, Option.some.injEq, Addr.mk.injEq] at hv
      obtain ⟨⟨rfl, _⟩, _, _⟩ := hv
      rw [hh] at hh'
      simp only [Option.some.injEq, Obj.cells.injEq] at hh'
      obtain ⟨rfl, _⟩ := hh'
      rw [← ht, ← ht']
theorem LowOut.below (h : LowOut w base v o L X) (hb : Below w.heap.size w w') : LowOut w' base v o L X := by
  obtain ⟨vs, h1, h2, h3, h4⟩ := h
  refine ⟨vs, row_keep h1 fun g e => hb.block g (World.ownsRow.lt h1 g e).2, fun j hj => ?_, row_keep h3 fun g e => hb.block g (World.ownsRow.lt h3 g e).2, h4⟩
  obtain ⟨A, c, q1, q2, q3, q4, q5⟩ := h2 j hj
  exact ⟨A, c, q1, q2.belowM hb, q3, q4, fun b off e => ⟨Nat.lt_of_lt_of_le (q5 b off e).1 hb.size, (q5 b off e).2⟩⟩
/-- One of the sets, and its cell. -/
theorem LowOut.at_ (h : LowOut w base v o L X) {j : Nat} (hj : j < L.length) : ∃ g cap A c, v = .slice (some ⟨g, 0, none⟩) L.length cap ∧ base ≤ g ∧ g < w.heap.size ∧ w.cell? ⟨g, j, none⟩ = some (.slice A L[j].length c) ∧ RS w w.heap.size A L[j].length L[j] ∧ L[j].length ≤ c ∧ (A = none → L[j] = [] ∧ c = 0) := by
  obtain ⟨vs, h1, h2, h3, h4⟩ := h
  obtain ⟨g, cap, e, hb, hlt⟩ := World.ownsRow.form h1 (by omega)
  obtain ⟨A, c, q1, q2, q3, q4, q5⟩ := h2 j hj
  subst e
  exact ⟨g, cap, A, c, rfl, hb, hlt, by rw [World.ownsRow.cellAt h1 j (by omega), q1], q2, q3, q4⟩
theorem LowOut.row (h : LowOut w base v o L X) : ∃ vs : List Value, w.ownsRow base 55 1 v L.length vs := ⟨h.choose, h.choose_spec.1⟩
theorem LowOut.out (h : LowOut w base v o L X) : OwnsL w base o X := h.choose_spec.2.2.1
/-- A set more. -/
theorem LowOut.more {vs : List Value} {l : List Span} {A : Option Addr} {c g cap H : Nat} (h : LowOut w base v o L X) (hvs : w.ownsRow base 55 1 v L.length vs) (hr : RS w w.heap.size A l.length l) (hc : l.length ≤ c) (hA : A = none → l = [] ∧ c = 0)
    (hne : ∀ b off, A = some ⟨b, off, none⟩ → b < w.heap.size ∧ v.ownBlock ≠ some b ∧ o.ownBlock ≠ some b)
    (hg : w.grownBy w' v.ownBlock) (ho : w'.ownsRow base 55 1 (.slice (some ⟨g, 0, none⟩) (L.length + 1) cap) (L.length + 1) (vs ++ [.slice A l.length c])) (hat : v.ownBlock = some g ∨ g = H) (hH : w.heap.size ≤ H) : LowOut w' base (.slice (some ⟨g, 0, none⟩) (L.length + 1) cap) o (L ++ [l]) X := by
  obtain ⟨vs', h1, h2, h3, h4⟩ := h
  obtain rfl : vs' = vs := row_unique h1 hvs
  have hvl : vs'.length = L.length := by have := h1.1; omega
  have hnew : ∀ b, b < w.heap.size ∧ v.ownBlock ≠ some b ∧ o.ownBlock ≠ some b → b < w'.heap.size ∧ (Value.slice (some ⟨g, 0, none⟩) (L.length + 1) cap).ownBlock ≠ some b ∧ o.ownBlock ≠ some b := fun b ⟨q1, q2, q3⟩ => by
    refine ⟨by have := hg.size; omega, fun e => ?_, q3⟩
    have e : g = b := by simpa [Value.ownBlock] using e
    rcases hat with k | k
    · exact q2 (by rw [k, e])
    · omega
  refine ⟨vs' ++ [.slice A l.length c], by rw [List.length_append, List.length_singleton]; exact ho, fun j hj => ?_, ?_, fun b e => ?_⟩
  · by_cases k : j < L.length
    · obtain ⟨Aj, cj, q1, q2, q3, q4, q5⟩ := h2 j k
      rw [List.getElem_append_left k]
      exact ⟨Aj, cj, by rw [List.getElem?_append_left (by omega)]; exact q1, rs_grown q2 hg (fun b off e => (q5 b off e).2.1), q3, q4, fun b off e => hnew b (q5 b off e)⟩
    · obtain rfl : j = L.length := by simp at hj; omega
      rw [List.getElem_append_right (by omega)]
      simp only [Nat.sub_self, List.getElem_singleton]
      exact ⟨A, c, by rw [List.getElem?_append_right (by omega)]; simp [hvl], rs_grown hr hg (fun b off e => (hne b off e).2.1), hc, hA, fun b off e => hnew b (hne b off e)⟩
  · refine World.ownsRow.kept h3 hg ?_
    cases e : o.ownBlock with
    | none => exact .inl rfl
    | some b => exact .inr fun k => h4 b k.symm e
  · have e : g = b := by simpa [Value.ownBlock] using e
    subst e
    rcases hat with k | k
    · exact h4 _ k
    · exact fun e2 => by have := (World.ownsRow.lt h3 g e2).2; omega
/-- Spans more. -/
theorem LowOut.longer {Y : List Span} {g cap H : Nat} (h : LowOut w base v o L X) (hg : w.grownBy w' o.ownBlock) (ho : OwnsL w' base (.slice (some ⟨g, 0, none⟩) (X.length + Y.length) cap) (X ++ Y)) (hat : o.ownBlock = some g ∨ g = H) (hH : w.heap.size ≤ H) : LowOut w' base v (.slice (some ⟨g, 0, none⟩) (X.length + Y.length) cap) L (X ++ Y) := by
  obtain ⟨vs, h1, h2, h3, h4⟩ := h
  have hnew : ∀ b, b < w.heap.size → o.ownBlock ≠ some b → (Value.slice (some ⟨g, 0, none⟩) (X.length + Y.length) cap).ownBlock ≠ some b := fun b q1 q2 e => by
    have e : g = b := by simpa [Value.ownBlock] using e
    rcases hat with k | k
    · exact q2 (by rw [k, e])
    · omega
  refine ⟨vs, World.ownsRow.kept h1 hg ?_, fun j hj => ?_, ho, fun b e => hnew b (World.ownsRow.lt h1 b e).2 (h4 b e)⟩
  · cases e : v.ownBlock with
    | none => exact .inl rfl
    | some b => exact .inr fun k => h4 b e k.symm
  · obtain ⟨A, c, q1, q2, q3, q4, q5⟩ := h2 j hj
    exact ⟨A, c, q1, rs_grown q2 hg (fun b off e => (q5 b off e).2.2), q3, q4, fun b off e => ⟨by have := hg.size; have := (q5 b off e).1; omega, (q5 b off e).2.1, hnew b (q5 b off e).1 (q5 b off e).2.2⟩⟩
end
/-- A plain list that tells no more than so many numbers is no longer. -/
theorem plain_few {p : List Span} (hp : Plain p) {N : Nat} (F : Nat → Int) (h : ∀ y, mem p y → ∃ i, i < N ∧ F i = y) : p.length ≤ N := by
  have := spans_few p ((List.range N).map fun i => (F i, F i)) hp (fun x hx => by
    obtain ⟨i, hi, e⟩ := h x hx
    exact ⟨(F i, F i), List.mem_map.2 ⟨i, List.mem_range.2 hi, rfl⟩, by show F i ≤ x; omega, by show x ≤ F i; omega⟩) (fun q hq x y z a1 a2 a3 a4 hx hz => by
    obtain ⟨i, _, rfl⟩ := List.mem_map.1 hq
    simp only at a1 a4
    obtain rfl : y = x := by omega
    exact hx)
  simpa using this
end Go.Proofs.YtiddgfcoankpjaaGreatDoor.Fi
/- A row of sets that lie behind it, in blocks of the call's own. -/
namespace Go.Proofs.YtiddgfcoankpjaaGreatDoor.Fi
set_option maxRecDepth 100000
open Go Go.RowKit Go.Proofs.YtiddgfcoankpjaaGreatDoor.Sp Go.Proofs.YtiddgfcoankpjaaGreatDoor.Pa Go.Proofs.YtiddgfcoankpjaaGreatDoor.Te Go.Proofs.YtiddgfcoankpjaaGreatDoor.Mi

/-- v is an own row of the sets L, which lie in other blocks from base on. -/
def RowB (w : World) (base : Nat) (v : Value) (L : List (List Span)) : Prop :=
  ∃ vs : List Value, w.ownsRow base 55 1 v L.length vs ∧
    (∀ (j : Nat) (h : j < L.length), ∃ A c, vs[j]? = some (.slice A L[j].length c) ∧ RS w w.heap.size A L[j].length L[j] ∧ L[j].length ≤ c ∧ (A = none → L[j] = [] ∧ c = 0) ∧ ∀ b off, A = some ⟨b, off, none⟩ → base ≤ b ∧ b < w.heap.size ∧ v.ownBlock ≠ some b)
section
variable {w w' : World} {base : Nat} {v : Value} {L : List (List Span)}
theorem RowB.nil_ (w : World) (base : Nat) : RowB w base (.slice none 0 0) [] := ⟨[], World.ownsRow_nil _ _ _ _, fun j h => by simp at h⟩
theorem RowB.keep (h : RowB w base v L) (hs : w.heap.size ≤ w'.heap.size) (hk : ∀ g, base ≤ g → g < w.heap.size → w'.heap[g]? = w.heap[g]?) : RowB w' base v L := by
  obtain ⟨vs, h1, h2⟩ := h
  refine ⟨vs, row_keep h1 fun g e => hk g (World.ownsRow.lt h1 g e).1 (World.ownsRow.lt h1 g e).2, fun j hj => ?_⟩
  obtain ⟨A, c, q1, q2, q3, q4, q5⟩ := h2 j hj
  refine ⟨A, c, q1, ⟨q2.1, fun hn => ?_⟩, q3, q4, fun b off e => ⟨(q5 b off e).1, Nat.lt_of_lt_of_le (q5 b off e).2.1 hs, (q5 b off e).2.2⟩⟩
  obtain ⟨b, off, e, hb, hc⟩ := q2.2 hn
  have hkk : ∀ i, w'.cell? ⟨b, i, none⟩ = w.cell? ⟨b, i, none⟩ := fun i => World.cell?_of_block (a := ⟨b, i, none⟩) (hk b (q5 b off e).1 hb)
  exact ⟨b, off, e, by omega, fun j hj => ⟨(hkk _).trans (hc j hj).1, (hkk _).trans (hc j hj).2⟩⟩
theorem RowB.below (h : RowB w base v L) (hb : Below w.heap.size w w') : RowB w' base v L := h.keep hb.size fun g _ hg => hb.block g hg
theorem RowB.set_ (h : RowB w base v L) {E : Nat} (hE : E < base) (u : Value) : RowB (w.setCell ⟨E, 0, none⟩ u) base v L := h.keep (by simp) fun g hg _ => heap_setCell_other w ⟨E, 0, none⟩ g u (fun e => by simp at e; omega)
theorem RowB.at_ (h : RowB w base v L) {j : Nat} (hj : j < L.length) : ∃ g cap A c, v = .slice (some ⟨g, 0, none⟩) L.length cap ∧ base ≤ g ∧ g < w.heap.size ∧ w.cell? ⟨g, j, none⟩ = some (.slice A L[j].length c) ∧ RS w w.heap.size A L[j].length L[j] ∧ L[j].length ≤ c ∧ (A = none → L[j] = [] ∧ c = 0) := by
  obtain ⟨vs, h1, h2⟩ := h
  obtain ⟨g, cap, e, hb, hlt⟩ := World.ownsRow.form h1 (by omega)
  obtain ⟨A, c, q1, q2, q3, q4, q5⟩ := h2 j hj
  subst e
  exact ⟨g, cap, A, c, rfl, hb, hlt, by rw [World.ownsRow.cellAt h1 j (by omega), q1], q2, q3, q4⟩
theorem RowB.row (h : RowB w base v L) : ∃ vs : List Value, w.ownsRow base 55 1 v L.length vs := ⟨h.choose, h.choose_spec.1⟩
theorem RowB.lt (h : RowB w base v L) {g : Nat} (e : v.ownBlock = some g) : base ≤ g ∧ g < w.heap.size := by obtain ⟨vs, h1⟩ := h.row; exact World.ownsRow.lt h1 g e
/-- The list of lists that it reads as. -/
theorem RowB.reads (h : RowB w base v L) : ∃ A c, v = .slice A L.length c ∧ RGs w A L.length L ∧ L.length ≤ c := by
  obtain ⟨vs, h1, h2⟩ := h
  by_cases hn : 0 < L.length
  · obtain ⟨g, cap, e, hb, hlt⟩ := World.ownsRow.form h1 hn
    subst e
    refine ⟨_, _, rfl, ⟨rfl, fun _ => ⟨g, 0, rfl, hlt, fun j hj => ?_⟩⟩, ?_⟩
    · obtain ⟨Aj, cj, q1, q2, q3, q4, _⟩ := h2 j hj
      exact ⟨Aj, cj, by rw [Nat.zero_add, World.ownsRow.cellAt h1 j (by omega), q1], q2, q3, q4⟩
    · rcases h1.2 with ⟨e, _⟩ | ⟨g', cap', cur, e, _, _, hnc, _⟩
      · cases e
      · injection e with _ _ e
        omega
  · obtain ⟨A, c, e⟩ := own_shape h1
    have h0 : L = [] := List.eq_nil_of_length_eq_zero (by omega)
    subst h0
    exact ⟨A, c, e, RGs.nil_ _ _, Nat.zero_le _⟩
/-- A set more. -/
theorem RowB.more {vs : List Value} {l : List Span} {A : Option Addr} {c H : Nat} {v' : Value} (h : RowB w base v L) (hvs : w.ownsRow base 55 1 v L.length vs) (hr : RS w w.heap.size A l.length l) (hc : l.length ≤ c) (hA : A = none → l = [] ∧ c = 0)
    (hne : ∀ b off, A = some ⟨b, off, none⟩ → base ≤ b ∧ b < w.heap.size ∧ v.ownBlock ≠ some b)
    (hg : w.grownBy w' v.ownBlock) (ho : w'.ownsRow base 55 1 v' (L.length + 1) (vs ++ [.slice A l.length c])) (hat : v'.ownBlock = v.ownBlock ∨ v'.ownBlock = some H) (hH : w.heap.size ≤ H) : RowB w' base v' (L ++ [l]) := by
  obtain ⟨vs', h1, h2⟩ := h
  obtain rfl : vs' = vs := row_unique h1 hvs
  have hvl : vs'.length = L.length := by have := h1.1; omega
  have hnew : ∀ b, base ≤ b ∧ b < w.heap.size ∧ v.ownBlock ≠ some b → base ≤ b ∧ b < w'.heap.size ∧ v'.ownBlock ≠ some b := fun b ⟨q0, q1, q2⟩ => by
    refine ⟨q0, by have := hg.size; omega, fun e => ?_⟩
    rcases hat with k | k
    · exact q2 (by rw [← k, e])
    · rw [k] at e
      injection e with e
      omega
  refine ⟨vs' ++ [.slice A l.length c], by rw [List.length_append, List.length_singleton]; exact ho, fun j hj => ?_⟩
  by_cases k : j < L.length
  · obtain ⟨Aj, cj, q1, q2, q3, q4, q5⟩ := h2 j k
    rw [List.getElem_append_left k]
    exact ⟨Aj, cj, by rw [List.getElem?_append_left (by omega)]; exact q1, rs_grown q2 hg (fun b off e => (q5 b off e).2.2), q3, q4, fun b off e => hnew b (q5 b off e)⟩
  · obtain rfl : j = L.length := by simp at hj; omega
    rw [List.getElem_append_right (by omega)]
    simp only [Nat.sub_self, List.getElem_singleton]
    exact ⟨A, c, by rw [List.getElem?_append_right (by omega)]; simp [hvl], rs_grown hr hg (fun b off e => (hne b off e).2.2), hc, hA, fun b off e => hnew b (hne b off e)⟩
end
end Go.Proofs.YtiddgfcoankpjaaGreatDoor.Fi
