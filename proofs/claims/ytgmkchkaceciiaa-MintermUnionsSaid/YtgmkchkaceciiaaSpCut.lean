/- The walk of span.cut: it lays what a plain list leaves of a span behind another list. -/
import Derived.Test.YtgmkchkaceciiaaSpPut
namespace Go.Proofs.Ytgmkchkaceciiaa.Sp
set_option maxRecDepth 100000
open Go Go.RowKit

def CutRel (base : Nat) (xs q : List Span) (lo hi : Int) (w : World) (s0 s7 i : Value) (wr : World) : Prop :=
  ∃ (k : Nat) (cur : List Span) (lo' : Int), k ≤ q.length ∧ i = .int .i64 k ∧ s7 = .int .i64 lo' ∧ OwnsL wr base s0 cur ∧ cutL hi lo xs q = cutL hi lo' cur (q.drop k) ∧ cur.length ≤ xs.length + k ∧
    Below base w wr ∧ wr.cell? ⟨w.heap.size, 1, none⟩ = some (.int .i64 hi) ∧ s0.ownBlock ≠ some w.heap.size ∧ w.heap.size < wr.heap.size
theorem cut_at {q : List Span} {k : Nat} {a b hi lo : Int} {cur : List Span} (hk : ∃ hl : k < q.length, q[k] = (a, b)) : cutL hi lo cur (q.drop k) = if hi < a then putL cur lo hi else cutL hi (b + 1) (putL cur lo (a - 1)) (q.drop (k + 1)) := by
  obtain ⟨hl, e⟩ := hk
  rw [cutL_drop hl, e]
theorem ok_at {q : List Span} {k : Nat} {a b : Int} (hq : Plain q) (hk : ∃ hl : k < q.length, q[k] = (a, b)) : a ≤ b ∧ -1073741824 ≤ a ∧ b ≤ 1073741824 := by
  obtain ⟨hl, e⟩ := hk
  have := (hq.at_ hl).1
  rw [e] at this
  exact this

set_option maxHeartbeats 1000000 in
theorem cut_any (base : Nat) (v : Value) (xs q : List Span) (lo hi : Int) (Aq : Option Addr) (m cq : Nat) (w : World) (hown : OwnsL w base v xs) (hbase : base ≤ w.heap.size) (hr : RS w base Aq m q) (hq : Plain q) (hlen : xs.length ≤ 68719476736) :
    Calls Try.prog 46 #[v, .agg #[.int .i64 lo, .int .i64 hi], .slice Aq m cq] w (PutOut w base (cutL hi lo xs q)) := by
  have hqs := hq.short
  obtain rfl : q.length = m := hr.1
  have hne0 : v.ownBlock ≠ some w.heap.size := fun e => by have := (hown.lt _ e).2; omega
  have HNE := Lib.hid hne0; clear hne0
  have HO0 := Lib.hid (World.ownsRow.alloc hown (.cells #[.int .i64 lo, .int .i64 hi] 61)); clear hown
  have HQ := Lib.hid hq; clear hq
  go_enter Try.func46, Try.ntmps46
  go_wp2_with (fail)
  go_loopw [0, 7, 14] (fun s0 s7 i wr => CutRel base xs q lo hi w s0 s7 i wr) (fun _ _ i _ => q.length - (intOf i).toNat)
  case atStart => exact ⟨0, xs, lo, Nat.zero_le _, rfl, rfl, HO0.out, rfl, by omega, (Below.refl _ _).alloc hbase _, by simp, HNE.out, by simp⟩
  case round =>
    obtain ⟨k, cur, lo', hk, rfl, rfl, ho, hcut, hfew, hb, hch, hne, hwz⟩ := hrel
    have hz := hb.size
    have HO := Lib.hid ho; clear ho
    have HC := Lib.hid hcut; clear hcut
    have HN := Lib.hid hne; clear hne
    by_cases hlt : k < q.length
    · obtain ⟨b', off, a, b, hA, hbB, hlk, hc1, hc2⟩ := (hr.below hb).at_ hlt
      have hbs : b' < wr.heap.size := by omega
      have hok := ok_at HQ.out hlk
      have HL := Lib.hid hlk; clear hlk
      rw [hA]
      clear hA
      by_cases hgt : hi < a
      · have hfin := HC.out
        rw [cut_at HL.out, if_pos hgt] at hfin
        have HF := Lib.hid hfin; clear hfin
        go_wp2_with (fail)
        refine (put_any base _ cur lo' hi _ (World.ownsRow.alloc HO.out _) (by simp; omega) (by omega)).mono ?_
        rintro e w1 ⟨v1, rfl, ho1, hb1⟩
        go_wp2_with (fail)
        go_ret
        exact ⟨v1, rfl, by rw [HF.out]; exact ho1, (hb.alloc (by omega) _).trans hb1⟩
      · have hfin := HC.out
        rw [cut_at HL.out, if_neg hgt] at hfin
        have HF := Lib.hid hfin; clear hfin
        go_wp2_with (fail)
        refine (put_strong base _ cur lo' (a - 1) _ (World.ownsRow.alloc HO.out _) (by simp; omega) (by omega)).mono ?_
        rintro e w1 ⟨v1, rfl, ho1, hg1, hat1⟩
        have hz1 := hg1.size
        simp only [World.size_alloc] at hz1
        have hx : w1.cell? ⟨wr.heap.size, 1, none⟩ = some (.int .i64 b) := hg1.cell (by simp) (fun e => absurd (World.ownsRow.lt HO.out _ e.symm).2 (Nat.lt_irrefl _))
        have hh : w1.cell? ⟨w.heap.size, 1, none⟩ = some (.int .i64 hi) := hg1.cell (by rw [World.cell?_alloc_lt _ _ _ hwz]; exact hch) (fun e => HN.out e.symm)
        have hne1 : v1.ownBlock ≠ some w.heap.size := by
          rcases hat1 with e | ⟨g, e, hge⟩
          · rw [e]; exact HN.out
          · rw [e]
            intro e2
            injection e2 with e2
            simp at hge
            omega
        have HN1 := Lib.hid hne1; clear hne1
        have HO1 := Lib.hid ho1; clear ho1
        have hb1 : Below base w w1 := (hb.alloc (by omega) _).grown hg1 (by simp; omega) (own_ge HO.out)
        have hl1 := putL_length cur lo' (a - 1)
        clear hg1 hat1
        go_wp2_with (fail)
        go_roundw
        case rel => exact ⟨k + 1, putL cur lo' (a - 1), b + 1, by omega, by go_num, rfl, HO1.out, HF.out, by omega, hb1, hh, HN1.out, by omega⟩
        case measure => simp [intOf]; omega
    · have hfin := HC.out
      rw [List.drop_eq_nil_of_le (show q.length ≤ k by omega), cutL] at hfin
      have HF := Lib.hid hfin; clear hfin
      go_wp2_with (fail)
      refine (put_any base _ cur lo' hi _ HO.out (by omega) (by omega)).mono ?_
      rintro e w1 ⟨v1, rfl, ho1, hb1⟩
      go_wp2_with (fail)
      go_ret
      exact ⟨v1, rfl, by rw [HF.out]; exact ho1, hb.trans hb1⟩
end Go.Proofs.Ytgmkchkaceciiaa.Sp
