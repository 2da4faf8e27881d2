/- Texts of this proof, joined: TeCross, SpRest. -/
import Derived.Test.YtplpafoflibnlaaM3
import Derived.Test.YtplpafoflibnlaaM4
import Derived.Test.YtplpafoflibnlaaM11
import Derived.Test.YtplpafoflibnlaaM12
import Derived.Deep.RegionHeld3
import Derived.Deep.AppendLies
import Derived.IntWalk
/- The walk of term.cross; own rows of spans, as a walk goes on. -/
namespace Go.Proofs.Ytplpafoflibnlaa.Te
set_option maxRecDepth 100000
open Go Go.RowKit Go.Proofs.Ytplpafoflibnlaa.Sp Go.Proofs.Ytplpafoflibnlaa.Pa

theorem row_below {w w' : World} {base : Nat} {e : TypeId} {size : Nat} {v : Value} {n : Nat} {xs : List Value} (h : w.ownsRow base e size v n xs) (hb : Below w.heap.size w w') : w'.ownsRow base e size v n xs := by
  have hlt := World.ownsRow.lt h
  obtain ⟨h1, h2⟩ := h
  refine ⟨h1, ?_⟩
  rcases h2 with h2 | ⟨g, cap, cur, hv, hg, hr, hrest⟩
  · exact .inl h2
  · subst hv
    exact .inr ⟨g, cap, cur, rfl, hg, (hb.block g (hlt g rfl).2).trans hr, hrest⟩
theorem ownS_below {w w' : World} {base : Nat} {v : Value} {l : List Span} (h : OwnsL w base v l) (hb : Below w.heap.size w w') : OwnsL w' base v l := row_below h hb
theorem ownS_more {w : World} {base : Nat} {v : Value} {l : List Span} {a b : Int} (h : w.ownsRow base 60 2 v (l.length + 1) (flat l ++ [.int .i64 a, .int .i64 b])) : OwnsL w base v (l ++ [(a, b)]) := by
  unfold OwnsL
  rw [flat_append, List.length_append]
  exact h
/-- A row that has grown: it is the one it was, or a new one. -/
def Grew (w : World) (v v' : Value) : Prop := v'.ownBlock = v.ownBlock ∨ ∃ g, v'.ownBlock = some g ∧ w.heap.size ≤ g
/-- What was laid behind an own row. -/
def LaidOut (base : Nat) (v : Value) (xs : List Span) (S : List Span → Prop) (w : World) (e : Ending) (w' : World) : Prop := ∃ v' new, e = .returned v' ∧ OwnsL w' base v' (xs ++ new) ∧ Below base w w' ∧ S new ∧ w.grownBy w' v.ownBlock ∧ Grew w v v'
theorem grown_refl (w : World) (r : Option Nat) : w.grownBy w r := World.grownBy.refl _ _
theorem below_grown {w w' : World} (hb : Below w.heap.size w w') (r : Option Nat) : w.grownBy w' r := ⟨hb.os, hb.tape, hb.output, hb.size, fun k hk _ => hb.block k hk⟩
theorem grown_trans {w w1 w2 : World} {r : Option Nat} (h1 : Below w.heap.size w w1) (h2 : w1.grownBy w2 r) : w.grownBy w2 r :=
  ⟨h2.os.trans h1.os, h2.tape.trans h1.tape, h2.output.trans h1.output, Nat.le_trans h1.size h2.size, fun k hk hne => (h2.block k (Nat.lt_of_lt_of_le hk h1.size) hne).trans (h1.block k hk)⟩
def CrossS (x last apart closer : Int) (new : List Span) : Prop := new.length ≤ 1 ∧ ∀ y, inL new y ↔ (x ≤ y ∧ y ≤ last ∧ closer * (y - x) = apart)
theorem cross_flat {x last : Int} : CrossS x last 0 0 [(x, last)] := ⟨Nat.le_refl _, fun y => by rw [inL_one, Int.zero_mul]; exact ⟨fun h => ⟨h.1, h.2, rfl⟩, fun h => ⟨h.1, h.2.1⟩⟩⟩
theorem cross_flat0 {x last apart : Int} (h : ¬ apart = 0) : CrossS x last apart 0 [] := ⟨Nat.zero_le _, fun y => ⟨fun q => absurd q inL_nil, fun q => absurd (by have := q.2.2; rw [Int.zero_mul] at this; exact this.symm) h⟩⟩
theorem cross_none {x last apart closer : Int} (hc : ¬ closer = 0) (h : ¬ (apart.tmod closer = 0 ∧ 0 ≤ apart.tdiv closer ∧ apart.tdiv closer ≤ last - x)) : CrossS x last apart closer [] :=
  ⟨Nat.zero_le _, fun y => ⟨fun q => absurd q inL_nil, fun q => absurd (by
    have e : apart = closer * (y - x) := q.2.2.symm
    rw [e, Int.mul_tmod_right, Int.mul_tdiv_cancel_left _ hc]
    exact ⟨rfl, by have := q.1; omega, by have := q.2.1; omega⟩) h⟩⟩
theorem cross_one {x last apart closer : Int} (hc : ¬ closer = 0) (h1 : apart.tmod closer = 0) (h2 : 0 ≤ apart.tdiv closer) (h3 : apart.tdiv closer ≤ last - x) : CrossS x last apart closer [(x + apart.tdiv closer, x + apart.tdiv closer)] :=
  ⟨Nat.le_refl _, fun y => by
    have e : closer * apart.tdiv closer = apart := by have := Int.mul_tdiv_add_tmod apart closer; omega
    rw [inL_one]
    constructor
    · rintro ⟨a, b⟩
      have : y - x = apart.tdiv closer := by omega
      exact ⟨by omega, by omega, by rw [this]; exact e⟩
    · rintro ⟨a, b, c⟩
      have : y - x = apart.tdiv closer := by rw [← c, Int.mul_tdiv_cancel_left _ hc]
      omega⟩
set_option maxHeartbeats 2000000 in
theorem cross_any (base : Nat) (v : Value) (xs : List Span) (x last apart closer : Int) (w : World) (hown : OwnsL w base v xs) (hbase : base ≤ w.heap.size) (hlen : xs.length ≤ 1000000000000) (hx0 : 0 ≤ x) (hx : x ≤ last) (hl : last ≤ 1114111) (ha : R64 apart) (hc : -4611686018427387904 ≤ closer ∧ closer ≤ 4611686018427387904) :
    Calls Try.prog 49 #[v, .int .i64 x, .int .i64 last, .int .i64 apart, .int .i64 closer] w (LaidOut base v xs (CrossS x last apart closer) w) := by
  obtain ⟨i0, hi0, hz0, hz1, hz2⟩ := info_parts infoSpan
  have HO := Lib.hid hown
  clear hown
  by_cases hc0 : closer = 0
  · subst hc0
    by_cases ha0 : apart = 0
    · subst ha0
      go_enter Try.func49, Try.ntmps49
      go_wp2_with (at_builtin; go_must (refine wpList_append_own_at _ rfl _ _ 25 rfl base 60 i0 _ 2 16 Try.underlying25 hi0 hz0 hz1 hz2 rfl (by decide) v xs.length (flat xs) rfl (HO.out.alloc _) ⟨w.heap.size, 0, none⟩ 1 1 [.int .i64 x, .int .i64 last] rfl rfl (cell_two _ _ _ _) ?c2 ?c3 ?c4 ?c5 ?_))
      case c2 => first | exact ⟨rfl, rfl⟩ | exact flat_one [(_, _)] | rfl
      case c3 => simp only [maxLen]; omega
      case c4 => omega
      case c5 => first | omega | (simp only [World.size_alloc]; omega)
      intro v1 w1 hown1 hg1 _ hat
      have HAT := Lib.hid hat; clear hat
      go_wp2_with (fail)
      go_ret
      refine ⟨v1, [(x, last)], rfl, ownS_more hown1, ((Below.refl base w).alloc hbase _).grown hg1 (by simp; omega) (own_ge HO.out), cross_flat, (World.grownBy_alloc w _ _).trans hg1, ?_⟩
      rcases HAT.out with e | e
      · exact .inl (by rw [e])
      · exact .inr ⟨_, e, by simp⟩
    · have ha0' : (apart == 0) = false := by simpa using ha0
      go_enter Try.func49, Try.ntmps49
      go_wp2_with (fail)
      go_ret
      exact ⟨v, [], rfl, by rw [List.append_nil]; exact HO.out, Below.refl _ _, cross_flat0 ha0, grown_refl _ _, .inl rfl⟩
  have hc0' : (closer == 0) = false := by simpa using hc0
  have hdm := Int.mul_tdiv_add_tmod apart closer
  have hml : (apart.tmod closer).natAbs < closer.natAbs := by
    rw [Int.natAbs_tmod]
    exact Nat.mod_lt _ (Int.natAbs_pos.2 hc0)
  have hda : (apart.tdiv closer).natAbs ≤ apart.natAbs := by
    rw [Int.natAbs_tdiv]
    exact Nat.div_le_self _ _
  have hN0 := fun h => cross_none (x := x) (last := last) (apart := apart) hc0 h
  have hY0 := fun h1 h2 h3 => cross_one (x := x) (last := last) (apart := apart) hc0 h1 h2 h3
  unfold R64 at ha
  obtain ⟨md, hmd⟩ : ∃ md, apart.tmod closer = md := ⟨_, rfl⟩
  obtain ⟨q, hq⟩ : ∃ q, apart.tdiv closer = q := ⟨_, rfl⟩
  rw [hmd] at hdm hml hN0 hY0
  rw [hq] at hdm hda hN0 hY0
  have HN := Lib.hid hN0
  have HY := Lib.hid hY0
  clear hN0 hY0
  have hwm : IntKind.i64.wrap md = md := IntWalk.i64_in _ (by omega)
  have hwm2 : wrap64 md = md := IntWalk.wrap64_in _ (by omega)
  obtain ⟨N, hN⟩ : ∃ N, IntKind.i64.wrap q = N := ⟨_, rfl⟩
  have hN2 : wrap64 q = N := by rw [← hN]; unfold wrap64; exact (IntKind.wrap_i64 _).symm
  have hNd : N = q ∨ (N < 0 ∧ q = 9223372036854775808) := by
    rw [← hN]
    by_cases e : q = 9223372036854775808
    · right
      rw [e]
      exact ⟨by rw [IntKind.wrap_i64]; omega, rfl⟩
    · left
      exact IntWalk.i64_in _ (by omega)
  clear hdm hml hda
  have hwl : IntKind.i64.wrap (last - x) = last - x := IntWalk.i64_in _ (by omega)
  by_cases hm0 : md = 0
  case neg =>
    have hm0' : (md == 0) = false := by simpa using hm0
    go_enter Try.func49, Try.ntmps49
    go_wp2_with (fail)
    go_ret
    exact ⟨v, [], rfl, by rw [List.append_nil]; exact HO.out, Below.refl _ _, HN.out (fun h => hm0 h.1), grown_refl _ _, .inl rfl⟩
  subst hm0
  by_cases hq0 : 0 ≤ N
  case neg =>
    have hd0 : decide (0 ≤ N) = false := decide_eq_false hq0
    go_enter Try.func49, Try.ntmps49
    go_wp2_with (fail)
    go_ret
    exact ⟨v, [], rfl, by rw [List.append_nil]; exact HO.out, Below.refl _ _, HN.out (fun h => by omega), grown_refl _ _, .inl rfl⟩
  have hd0 : decide (0 ≤ N) = true := decide_eq_true hq0
  obtain rfl : N = q := by omega
  by_cases hq1 : N ≤ last - x
  case neg =>
    have hd1 : decide (N ≤ last - x) = false := decide_eq_false hq1
    go_enter Try.func49, Try.ntmps49
    go_wp2_with (fail)
    go_ret
    exact ⟨v, [], rfl, by rw [List.append_nil]; exact HO.out, Below.refl _ _, HN.out (fun h => by have := h.2.2; omega), grown_refl _ _, .inl rfl⟩
  have hd1 : decide (N ≤ last - x) = true := decide_eq_true hq1
  have hwx : IntKind.i64.wrap (x + N) = x + N := IntWalk.i64_in _ (by omega)
  go_enter Try.func49, Try.ntmps49
  go_wp2_with (at_builtin; go_must (refine wpList_append_own_at _ rfl _ _ 25 rfl base 60 i0 _ 2 16 Try.underlying25 hi0 hz0 hz1 hz2 rfl (by decide) v xs.length (flat xs) rfl (HO.out.alloc _) ⟨w.heap.size, 0, none⟩ 1 1 [.int .i64 (x + N), .int .i64 (x + N)] rfl rfl (cell_two _ _ _ _) ?c2 ?c3 ?c4 ?c5 ?_))
  case c2 => first | exact ⟨rfl, rfl⟩ | exact flat_one [(_, _)] | rfl
  case c3 => simp only [maxLen]; omega
  case c4 => omega
  case c5 => first | omega | (simp only [World.size_alloc]; omega)
  intro v1 w1 hown1 hg1 _ hat
  have HAT := Lib.hid hat; clear hat
  go_wp2_with (fail)
  go_ret
  refine ⟨v1, [(x + N, x + N)], rfl, ownS_more hown1, ((Below.refl base w).alloc hbase _).grown hg1 (by simp; omega) (own_ge HO.out), HY.out (by first | rfl | trivial) hq0 hq1, (World.grownBy_alloc w _ _).trans hg1, ?_⟩
  rcases HAT.out with e | e
  · exact .inl (by rw [e])
  · exact .inr ⟨_, e, by simp⟩
end Go.Proofs.Ytplpafoflibnlaa.Te
/- The walks of ref.Count, ref.Nth, ref.At and ref.Move. -/
namespace Go.Proofs.Ytplpafoflibnlaa.Sp
set_option maxRecDepth 100000
open Go Go.RowKit

def RCountRel (p : List Span) (w2 : World) (n i : Value) (wr : World) : Prop := ∃ k : Nat, k ≤ p.length ∧ i = .int .i64 k ∧ n = .int .i64 (cnt (p.take k)) ∧ Below w2.heap.size w2 wr
set_option maxHeartbeats 1000000 in
theorem rcount_any (A : Option Addr) (n c : Nat) (l p0 : List Span) (w : World) (h : RS w w.heap.size A n l) (hn : n ≤ 68719476736) (hp0 : Is p0 (mem l)) :
    Calls Try.prog 13 #[.slice A n c] w (RetI (cnt p0) w) := by
  have HP0 := Lib.hid hp0; clear hp0
  go_enter Try.func13, Try.ntmps13
  go_wp2_with (fail)
  refine (rnorm_any A n c l _ h hn).mono ?_
  rintro e w2 ⟨v2, p, rfl, hP, ho2, hb2⟩
  obtain rfl : p0 = p := HP0.out.eq hP fun _ => Iff.rfl
  obtain ⟨A2, c2, hv2, hc2, hr2⟩ := own_RS ho2
  subst hv2
  have HP := Lib.hid hP.1
  have hs2 := hP.1.short
  clear hP ho2
  go_wp2_with (fail)
  go_loopw [3, 5] (fun n i wr => RCountRel p0 w2 n i wr) (fun _ i _ => p0.length - (intOf i).toNat)
  case atStart => exact ⟨0, Nat.zero_le _, rfl, by simp [cnt], Below.refl _ _⟩
  case round =>
    obtain ⟨k, hk, rfl, rfl, hb⟩ := hrel
    have hz := hb.size
    by_cases hlt : k < p0.length
    · obtain ⟨b, off, lo, hi, hA, hbB, hlk, hc1, hc2'⟩ := (hr2.below hb).at_ hlt
      have hbs : b < wr.heap.size := by omega
      have hok := ok_at HP.out hlk
      have h1 := cnt_nonneg (HP.out.take k)
      have h2 := cnt_le (HP.out.take k)
      have HL := Lib.hid hlk; clear hlk
      rw [hA]
      clear hA
      generalize hcn : cnt (p0.take k) = m at *
      have HCN := Lib.hid hcn; clear hcn
      go_wp2_with (fail)
      go_quiet (fail)
      go_wp2_with (fail)
      go_roundw
      case rel => exact ⟨k + 1, by omega, by go_num, by rw [cnt_take HL.out, HCN.out]; congr 1; omega, below_drewN hb _⟩
      case measure => simp [intOf]; omega
    · have HT := Lib.hid (show p0.take k = p0 from List.take_of_length_le (by omega))
      go_wp2_with (fail)
      go_ret
      exact ⟨ret_int (by rw [HT.out]), hb2.trans (hb.mono hb2.size)⟩

end Go.Proofs.Ytplpafoflibnlaa.Sp
