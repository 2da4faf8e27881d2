/- Texts of this proof, joined: WoBytes, PkSum. -/
import Derived.Test.YtboaifdkoemnbaaJ3
import Derived.Test.YtboaifdkoemnbaaJ6
import Derived.Deep.OwnRows
import Derived.Laws.BitsLemmas
import Derived.Laws.Bits64
/- The walks of word.Raw and word.Bytes: a slice value that reads as a list of bytes. -/
namespace Go.Proofs.Ytboaifdkoemnbaa.Wo
set_option maxRecDepth 100000
open Go Go.RowKit

/-- The slice value with address A and length n reads as the bytes xs, and lies below block B. -/
def RY (w : World) (B : Nat) (A : Option Addr) (n : Nat) (xs : List Int) : Prop :=
  xs.length = n ∧ (0 < n → ∃ b off, A = some ⟨b, off, none⟩ ∧ b < B ∧ ∀ (j : Nat) (h : j < xs.length), w.cell? ⟨b, off + j, none⟩ = some (.int .u8 xs[j]))
section
variable {w w' : World} {B B' n : Nat} {A : Option Addr} {l : List Int}
theorem RY.nil_ (w : World) (B : Nat) (A : Option Addr) : RY w B A 0 [] := ⟨rfl, fun h => absurd h (by omega)⟩
theorem RY.at_ {k : Nat} (h : RY w B A n l) (hk : k < n) : ∃ b off, ∃ x : Int, A = some ⟨b, off, none⟩ ∧ b < B ∧ (∃ hl : k < l.length, l[k] = x) ∧ w.cell? ⟨b, off + k, none⟩ = some (.int .u8 x) := by
  obtain ⟨b, off, e, hb, hc⟩ := h.2 (by omega)
  have hl : k < l.length := by have := h.1; omega
  exact ⟨b, off, l[k], e, hb, ⟨hl, rfl⟩, hc k hl⟩
theorem RY.keep (h : RY w B A n l) (hk : ∀ p : Addr, p.block < B → w'.cell? p = w.cell? p) : RY w' B A n l :=
  ⟨h.1, fun hn => by
    obtain ⟨b, off, e, hb, hc⟩ := h.2 hn
    exact ⟨b, off, e, hb, fun j hj => (hk _ hb).trans (hc j hj)⟩⟩
theorem RY.more (h : RY w B A n l) (hB : B ≤ B') : RY w B' A n l :=
  ⟨h.1, fun hn => by
    obtain ⟨b, off, e, hb, hc⟩ := h.2 hn
    exact ⟨b, off, e, by omega, hc⟩⟩
theorem RY.below (h : RY w B A n l) (hb : Below B w w') : RY w' B A n l := h.keep fun _ hp => hb.cell hp
theorem RY.belowM (h : RY w w.heap.size A n l) (hb : Below w.heap.size w w') : RY w' w'.heap.size A n l := (h.below hb).more hb.size
end
theorem infoByte : (Try.prog.info? 5).map (fun i => (i.zero, i.size, i.bytes)) = some (some (.int .u8 0), 1, 1) := by kernel_rfl

theorem row_cell {w : World} {base : Nat} {e : TypeId} {g n cap : Nat} {xs : List Value} (h : w.ownsRow base e 1 (.slice (some ⟨g, 0, none⟩) n cap) n xs) (j : Nat) (v : Value) (hj : xs[j]? = some v) : w.cell? ⟨g, j, none⟩ = some v := by
  have hl := h.1
  have : j < xs.length := by
    rcases Nat.lt_or_ge j xs.length with q | q
    · exact q
    · rw [List.getElem?_eq_none q] at hj; cases hj
  rw [h.cellAt j (by omega), hj]
end Go.Proofs.Ytboaifdkoemnbaa.Wo
/- The walks of pack.Sum, of signed, and of the document's Sum, num, small. -/
namespace Go.Proofs.Ytboaifdkoemnbaa.Pk
set_option maxRecDepth 100000
open Go Go.RowKit Go.Proofs.Ytboaifdkoemnbaa.Wo

/-- Bytes as the program has them. -/
def byI (l : List Nat) : List Int := l.map fun b : Nat => (b : Int)
theorem byI_append (l r : List Nat) : byI (l ++ r) = byI l ++ byI r := List.map_append
theorem byI_length (l : List Nat) : (byI l).length = l.length := List.length_map _
theorem xor32 (a b : Nat) (ha : a < 4294967296) (hb : b < 4294967296) : Go.bits .xor .u32 (a : Int) (b : Int) = ((a ^^^ b : Nat) : Int) := by
  have hx : a ^^^ b < 2 ^ 32 := Nat.xor_lt_two_pow (by omega) (by omega)
  have h1 : (BitVec.ofInt 32 (a : Int)).toNat = a := by
    rw [BitVec.ofInt_natCast, BitVec.toNat_ofNat]; exact Nat.mod_eq_of_lt (by omega)
  have h2 : (BitVec.ofInt 32 (b : Int)).toNat = b := by
    rw [BitVec.ofInt_natCast, BitVec.toNat_ofNat]; exact Nat.mod_eq_of_lt (by omega)
  show IntKind.u32.wrap ((BitVec.ofInt 32 (a : Int) ^^^ BitVec.ofInt 32 (b : Int)).toNat : Int) = _
  rw [BitVec.toNat_xor, h1, h2, IntKind.wrap_u32]
  omega
theorem wraps32 {n : Nat} (h : n < 4294967296) : IntKind.u32.wrap (n : Int) = (n : Int) := by rw [IntKind.wrap_u32]; omega
/-- What was summed of the first k bytes. -/
def sumT (l : List Nat) (k : Nat) : Int := (((l.take k).foldl step 2166136261 : Nat) : Int)
theorem sumT_zero (l : List Nat) : sumT l 0 = 2166136261 := rfl
theorem sumT_all {l : List Nat} {k : Nat} (h : ¬ k < l.length) : sumT l k = ((sumL l : Nat) : Int) := by
  unfold sumT sumL
  rw [List.take_of_length_le (by omega)]
theorem xor_low (s y : Nat) (hy : y < 256) : s ^^^ y = s - s % 256 + ((s % 256) ^^^ y) := by
  have h1 : s ^^^ y = (s ^^^ y) / 256 * 256 + (s ^^^ y) % 256 := by omega
  have h2 : (s ^^^ y) / 256 = s / 256 := by
    rw [show (256 : Nat) = 2 ^ 8 from rfl, Nat.xor_div_two_pow, Nat.div_eq_of_lt (show y < 2 ^ 8 from hy), Nat.xor_zero]
  have h3 : (s ^^^ y) % 256 = (s % 256) ^^^ y := by
    rw [show (256 : Nat) = 2 ^ 8 from rfl, Nat.xor_mod_two_pow, Nat.mod_eq_of_lt (show y < 2 ^ 8 from hy)]
  rw [h2, h3] at h1
  rw [h1]
  omega
theorem step_int (s y : Nat) (hs : s < 4294967296) (hy : y < 256) : ((step s y : Nat) : Int) = Go.bits .xor .u32 (s : Int) (y : Int) * 16777619 % 4294967296 := by
  rw [xor32 s y hs (by omega)]
  unfold step
  generalize s ^^^ y = z
  omega
theorem step_low (s y : Nat) (hs : s < 4294967296) (hy : y < 256) : (IntKind.u64.wrap (IntKind.u64.wrap ((s : Int) - s % 256 + Go.bits .xor .u64 ((s : Int) % 256) (y : Int)) * 16777619)).tmod 4294967296 = ((step s y : Nat) : Int) := by
  have h1 : ((s : Int) % 256) = ((s % 256 : Nat) : Int) := by omega
  have h2 := xor_low s y hy
  have h3 : (s % 256) ^^^ y < 256 := Nat.xor_lt_two_pow (n := 8) (by omega) hy
  have h5 : s ^^^ y < 4294967296 := xor_lt hs hy
  rw [h1, bits_xor_u64_nat _ _ (by omega) (by omega)]
  have h4 : ((s : Int) - ((s % 256 : Nat) : Int) + (((s % 256) ^^^ y : Nat) : Int)) = ((s ^^^ y : Nat) : Int) := by
    rw [h2]
    generalize (s % 256) ^^^ y = z
    omega
  rw [h4]
  unfold step
  clear h2 h3 h4 h1
  generalize s ^^^ y = z at h5 ⊢
  rw [IntKind.wrap_u64, IntKind.wrap_u64]
  have e1 : (z : Int) % 18446744073709551616 = (z : Int) := by omega
  rw [e1]
  have e2 : (z : Int) * 16777619 % 18446744073709551616 = ((z * 16777619 : Nat) : Int) := by omega
  rw [e2, show (4294967296 : Int) = ((4294967296 : Nat) : Int) from rfl, ← Int.ofNat_tmod]
theorem foldl_lt0 (l : List Nat) : l.foldl step 2166136261 < 4294967296 := foldl_lt (by decide)
theorem sumT_step {l : List Nat} {k : Nat} (hk : k < l.length) : sumT l (k + 1) = ((step ((l.take k).foldl step 2166136261) l[k] : Nat) : Int) := by
  unfold sumT
  rw [List.take_succ_eq_append_getElem hk, List.foldl_append, List.foldl_cons, List.foldl_nil]
theorem sumT_next {l : List Nat} {k : Nat} (hk : k < l.length) (hl : ∀ b ∈ l, b < 256) : ∃ s y : Nat, sumT l k = s ∧ l[k] = y ∧ y < 256 ∧ s < 4294967296 ∧ sumT l (k + 1) = ((step s y : Nat) : Int) :=
  ⟨_, _, rfl, rfl, hl _ (List.getElem_mem hk), foldl_lt0 _, sumT_step hk⟩
def SumRel (l : List Nat) (s i : Value) : Prop := ∃ k : Nat, k ≤ l.length ∧ i = .int .i64 k ∧ s = .int .u32 (sumT l k)
theorem byI_at {l : List Nat} {k : Nat} {x : Int} {y : Nat} (hx : ∃ h : k < (byI l).length, (byI l)[k] = x) (hk : k < l.length) (hy : l[k] = y) : x = (y : Int) := by
  obtain ⟨hq, hq2⟩ := hx
  rw [← hq2, ← hy]
  simp [byI]
set_option maxHeartbeats 1000000 in
theorem sum_any (A : Option Addr) (c : Nat) (l : List Nat) (w : World) (h : RY w w.heap.size A l.length (byI l)) (hl : ∀ b ∈ l, b < 256) (hn : l.length ≤ 1099511627776) :
    Calls Try.prog 17 #[.slice A l.length c] w (RetW (.int .u32 ((sumL l : Nat) : Int)) w) := by
  have HL := Lib.hid hl
  have H := Lib.hid h
  have H0 := Lib.hid (sumT_zero l)
  clear hl h
  go_enter Try.func17, Try.ntmps17
  go_wp2_with (fail)
  go_loop [3, 8] (fun s i => SumRel l s i) (fun _ i => l.length - (intOf i).toNat)
  case atStart => exact ⟨0, Nat.zero_le _, rfl, by rw [H0.out]⟩
  case round =>
    obtain ⟨k, hk, rfl, rfl⟩ := hrel
    by_cases hlt : k < l.length
    · obtain ⟨b, off, x, rfl, hbB, hx, hc⟩ := H.out.at_ hlt
      obtain ⟨s0, y, e1, e2, hy, hs, e3⟩ := sumT_next hlt HL.out
      obtain rfl := byI_at hx hlt e2
      have HN := Lib.hid (e3.trans (step_int s0 y hs hy))
      rw [e1]
      clear e1 e2 e3 hx
      go_wp2_with (fail)
      go_round
      case rel => exact ⟨k + 1, by omega, by go_num, by rw [HN.out]⟩
      case measure => simp [intOf]; omega
    · have HA := Lib.hid (sumT_all hlt)
      rw [HA.out]
      clear HA
      go_wp2_with (fail)
      go_ret
      exact ⟨rfl, rfl⟩
theorem sgn_wrap {n : Nat} (h : n < 4294967296) : wrap64 (wrap32 (n : Int)) = sgn n := by
  unfold wrap64 wrap32 sgn
  split <;> omega
set_option maxHeartbeats 1000000 in
theorem rsum_any (A : Option Addr) (c : Nat) (l : List Nat) (w : World) (h : RY w w.heap.size A l.length (byI l)) (hl : ∀ b ∈ l, b < 256) (hn : l.length ≤ 1099511627776) :
    Calls Try.prog 25 #[.slice A l.length c] w (RetW (.int .u32 ((sumL l : Nat) : Int)) w) := by
  have HL := Lib.hid hl
  have H := Lib.hid h
  have H0 := Lib.hid (sumT_zero l)
  clear hl h
  go_enter Try.func25, Try.ntmps25
  go_wp2_with (fail)
  go_loop [3, 4] (fun s i => ∃ k : Nat, k ≤ l.length ∧ i = .int .i64 k ∧ s = .int .u64 (sumT l k)) (fun _ i => l.length - (intOf i).toNat)
  case atStart => exact ⟨0, Nat.zero_le _, rfl, by rw [H0.out]⟩
  case round =>
    obtain ⟨k, hk, rfl, rfl⟩ := hrel
    by_cases hlt : k < l.length
    · obtain ⟨b, off, x, rfl, hbB, hx, hc⟩ := H.out.at_ hlt
      obtain ⟨s0, y, e1, e2, hy, hs, e3⟩ := sumT_next hlt HL.out
      obtain rfl := byI_at hx hlt e2
      have HN := Lib.hid (e3.trans (step_low s0 y hs hy).symm)
      rw [e1]
      clear e1 e2 e3 hx
      go_wp2_with (fail)
      go_round
      case rel => exact ⟨k + 1, by omega, by go_num, by rw [HN.out]⟩
      case measure => simp [intOf]; omega
    · have HA := Lib.hid (sumT_all hlt)
      rw [HA.out]
      have HB := Lib.hid (show IntKind.u32.wrap ((sumL l : Nat) : Int) = ((sumL l : Nat) : Int) from wraps32 (sumL_lt l))
      clear HA
      go_wp2_with (fail)
      go_ret
      exact ⟨congrArg (fun z => Ending.returned (Value.int .u32 z)) HB.out, rfl⟩
theorem signed_any (n : Nat) (hn : n < 4294967296) (w : World) : Calls Try.prog 20 #[.int .u32 (n : Int)] w (RetW (.int .i64 (sgn n)) w) := by
  rw [← sgn_wrap hn]
  go_enter Try.func20, Try.ntmps20
  go_wp2_with (fail)
  go_ret
  exact ⟨rfl, rfl⟩
end Go.Proofs.Ytboaifdkoemnbaa.Pk
