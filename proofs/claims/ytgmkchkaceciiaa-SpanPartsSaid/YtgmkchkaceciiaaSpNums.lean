/- The walks of span.Count, First, Last, At and Move. -/
import Derived.Test.YtgmkchkaceciiaaSpMinus
namespace Go.Proofs.Ytgmkchkaceciiaa.Sp
set_option maxRecDepth 100000
open Go Go.RowKit

def RetI (v : Int) (w : World) (e : Ending) (w' : World) : Prop := e = .returned (.int .i64 v) ∧ Below w.heap.size w w'
def RetIB (v : Int × Bool) (w : World) (e : Ending) (w' : World) : Prop := e = .returned (.tuple #[.int .i64 v.1, .bool v.2]) ∧ Below w.heap.size w w'
theorem ret_int {a b : Int} (h : a = b) : Ending.returned (.int .i64 a) = .returned (.int .i64 b) := by rw [h]
theorem ret_ib {a : Int} {b : Bool} {v : Int × Bool} (h : (a, b) = v) : Ending.returned (.tuple #[.int .i64 a, .bool b]) = .returned (.tuple #[.int .i64 v.1, .bool v.2]) := by rw [← h]
theorem cnt_take {p : List Span} {k : Nat} {lo hi : Int} (hk : ∃ hl : k < p.length, p[k] = (lo, hi)) : cnt (p.take (k + 1)) = cnt (p.take k) + (hi - lo + 1) := by
  obtain ⟨hl, e⟩ := hk
  rw [List.take_succ_eq_append_getElem hl, e, cnt_append]
  simp only [cnt]; omega

def CountRel (p : List Span) (w2 : World) (n i : Value) (wr : World) : Prop := ∃ k : Nat, k ≤ p.length ∧ i = .int .i64 k ∧ n = .int .i64 (cnt (p.take k)) ∧ Below w2.heap.size w2 wr
set_option maxHeartbeats 1000000 in
theorem count_any (A : Option Addr) (n c : Nat) (l p0 : List Span) (w : World) (h : RS w w.heap.size A n l) (hn : n ≤ 1099511627776) (hc : n ≤ c) (hp0 : Is p0 (mem l)) :
    Calls Try.prog 22 #[.slice A n c] w (RetI (cnt p0) w) := by
  have HP0 := Lib.hid hp0; clear hp0
  go_enter Try.func22, Try.ntmps22
  go_wp2_with (fail)
  refine (plain_any A n c l _ h hn hc).mono ?_
  rintro e w2 ⟨A2, n2, c2, p, rfl, hP, hr2, hs2, hnc2, hb2⟩
  obtain rfl : p0 = p := HP0.out.eq hP fun _ => Iff.rfl
  have HP := Lib.hid hP.1; clear hP
  obtain rfl : p0.length = n2 := hr2.1
  go_wp2_with (fail)
  go_loopw [3, 9] (fun n i wr => CountRel p0 w2 n i wr) (fun _ i _ => p0.length - (intOf i).toNat)
  case atStart => exact ⟨0, Nat.zero_le _, rfl, by simp [cnt], Below.refl _ _⟩
  case round =>
    obtain ⟨k, hk, rfl, rfl, hb⟩ := hrel
    have hz := hb.size
    by_cases hlt : k < p0.length
    · obtain ⟨b, off, lo, hi, hA, hbB, hlk, hc1, hc2⟩ := (hr2.below hb).at_ hlt
      have hbs : b < wr.heap.size := by omega
      have hok := ok_at HP.out hlk
      have h1 := cnt_nonneg (HP.out.take k)
      have h2 := cnt_le (HP.out.take k)
      have HL := Lib.hid hlk; clear hlk
      rw [hA]
      clear hA
      generalize hcn : cnt (p0.take k) = m at *
      have HCN := Lib.hid hcn; clear hcn
      go_wp2_with (fail)
      go_roundw
      case rel => exact ⟨k + 1, by omega, by go_num, by rw [cnt_take HL.out, HCN.out], hb.alloc hz _⟩
      case measure => simp [intOf]; omega
    · have HT := Lib.hid (show p0.take k = p0 from List.take_of_length_le (by omega))
      go_wp2_with (fail)
      go_ret
      exact ⟨ret_int (by rw [HT.out]), hb2.trans (hb.mono hb2.size)⟩

def fstP : List Span → Int × Bool
  | [] => (0, false)
  | p :: _ => (p.1, true)
def lstP (l : List Span) : Int × Bool := match l.getLast? with
  | none => (0, false)
  | some p => (p.2, true)
def nthB (p : List Span) (i : Int) : Int × Bool := if i < 0 then (0, false) else match nth p i with
  | none => (0, false)
  | some v => (v, true)
theorem nth_drop {p : List Span} {k : Nat} {lo hi i : Int} (hk : ∃ hl : k < p.length, p[k] = (lo, hi)) : nth (p.drop k) i = if i < hi - lo + 1 then some (lo + i) else nth (p.drop (k + 1)) (i - (hi - lo + 1)) := by
  obtain ⟨hl, e⟩ := hk
  rw [List.drop_eq_getElem_cons hl, e, nth]
def AtRel (p : List Span) (i0 : Int) (w2 : World) (v i : Value) (wr : World) : Prop := ∃ (k : Nat) (j : Int), k ≤ p.length ∧ i = .int .i64 k ∧ v = .int .i64 j ∧ 0 ≤ j ∧ j ≤ i0 ∧ nth p i0 = nth (p.drop k) j ∧ Below w2.heap.size w2 wr
def MoveRel (p : List Span) (d : Int) (w2 : World) (v i : Value) (wr : World) : Prop := ∃ (k : Nat) (o : List Span), k ≤ p.length ∧ i = .int .i64 k ∧ OwnsL wr w2.heap.size v o ∧ MoveInv p d k o ∧ Below w2.heap.size w2 wr
theorem move_next {p o : List Span} {d : Int} {k : Nat} {lo hi : Int} (h : MoveInv p d k o) (hp : Plain p) (hk : ∃ hl : k < p.length, p[k] = (lo, hi)) : MoveInv p d (k + 1) (putL o (lo + d) (hi + d)) := by
  obtain ⟨hl, e⟩ := hk
  have := h.next hp hl
  rw [e] at this
  exact this
theorem moved_none {l : List Span} {d : Int} (h : d < -2147483648 ∨ 2147483648 < d) : Is [] fun x => Rng x ∧ mem l (x - d) :=
  ⟨Plain.nil, fun x => ⟨fun hm => absurd hm (mem_nil x), fun ⟨h1, h2, _⟩ => by unfold Rng at h1 h2; omega⟩⟩
end Go.Proofs.Ytgmkchkaceciiaa.Sp
