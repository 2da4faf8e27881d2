/- The walks of utf.low, utf.has, and of a row's first and behind. -/
import Derived.Test.YtjhgboncipnkeaaDoorUtMath
import Derived.Test.YtjhgboncipnkeaaDoorSpAsk
import Derived.Test.YtjhgboncipnkeaaDoorWoBytes
import Derived.BigQuiet
import Derived.Deep.RegionHeld3
import Derived.WalkSmall
import Derived.Deep.QuietTactic
namespace Go.Proofs.YtjhgboncipnkeaaDoor.Ut
set_option maxRecDepth 100000
open Go Go.RowKit Go.Proofs.YtjhgboncipnkeaaDoor.Wo

/-- A row as a value. -/
abbrev rw5 (lo hi k f t : Int) : Value := .agg #[.int .i64 lo, .int .i64 hi, .int .i64 k, .int .i64 f, .int .i64 t]
abbrev sp2 (lo hi : Int) : Value := .agg #[.int .i64 lo, .int .i64 hi]
def RetV (v : Value) (w : World) (e : Ending) (w' : World) : Prop := e = .returned v ∧ Below w.heap.size w w'
theorem band (b : Int) (c n : Nat) (h0 : 0 ≤ b) (h1 : b ≤ 255) (hc : c = 2 ^ n - 1) (hn : n ≤ 8) : bits BinOp.and IntKind.i32 b (c : Int) = b % 2 ^ n := by
  obtain ⟨a, rfl⟩ := Int.eq_ofNat_of_zero_le h0
  have hc2 : c ≤ 255 := by
    have : 2 ^ n ≤ 2 ^ 8 := Nat.pow_le_pow_right (by omega) hn
    omega
  have e2 : ((a : Int) % 2 ^ n) = ((a % 2 ^ n : Nat) : Int) := by simp
  have ea : (BitVec.ofInt 32 (a : Int)).toNat = a := by rw [BitVec.toNat_ofInt]; omega
  have ec : (BitVec.ofInt 32 (c : Int)).toNat = c := by rw [BitVec.toNat_ofInt]; omega
  show IntKind.i32.wrap ((BitVec.ofInt 32 (a : Int) &&& BitVec.ofInt 32 (c : Int)).toNat : Int) = _
  rw [BitVec.toNat_and, ea, ec, e2]
  have e3 : a &&& c = a % 2 ^ n := by rw [hc]; exact Nat.and_two_pow_sub_one_eq_mod a n
  rw [e3]
  have : a % 2 ^ n ≤ a := Nat.mod_le _ _
  generalize a % 2 ^ n = m at *
  simp only [IntKind.wrap, IntKind.signed, IntKind.bits]
  simp
  omega
theorem low_any (b n : Int) (h0 : 0 ≤ b) (h1 : b ≤ 255) (hn : 3 ≤ n) (hn2 : n ≤ 7) (w : World) : Calls Tryd.prog 36 #[.int .u8 b, .int .i64 n] w (RetW (.int .i32 (b % 2 ^ n.toNat)) w) := by
  obtain rfl | rfl | rfl | rfl | rfl : n = 3 ∨ n = 4 ∨ n = 5 ∨ n = 6 ∨ n = 7 := by omega
  · have H := Lib.hid (band b 7 3 h0 h1 rfl (by omega))
    go_enter Tryd.func36, Tryd.ntmps36
    go_wp2_with (fail)
    go_ret
    exact ⟨congrArg (fun z => Ending.returned (Value.int .i32 z)) H.out, rfl⟩
  · have H := Lib.hid (band b 15 4 h0 h1 rfl (by omega))
    go_enter Tryd.func36, Tryd.ntmps36
    go_wp2_with (fail)
    go_ret
    exact ⟨congrArg (fun z => Ending.returned (Value.int .i32 z)) H.out, rfl⟩
  · have H := Lib.hid (band b 31 5 h0 h1 rfl (by omega))
    go_enter Tryd.func36, Tryd.ntmps36
    go_wp2_with (fail)
    go_ret
    exact ⟨congrArg (fun z => Ending.returned (Value.int .i32 z)) H.out, rfl⟩
  · have H := Lib.hid (band b 63 6 h0 h1 rfl (by omega))
    go_enter Tryd.func36, Tryd.ntmps36
    go_wp2_with (fail)
    go_ret
    exact ⟨congrArg (fun z => Ending.returned (Value.int .i32 z)) H.out, rfl⟩
  · have H := Lib.hid (band b 127 7 h0 h1 rfl (by omega))
    go_enter Tryd.func36, Tryd.ntmps36
    go_wp2_with (fail)
    go_ret
    exact ⟨congrArg (fun z => Ending.returned (Value.int .i32 z)) H.out, rfl⟩
theorem first_any (lo hi k f t : Int) (w : World) : Calls Tryd.prog 27 #[rw5 lo hi k f t] w (RetV (sp2 lo hi) w) := by
  go_enter Tryd.func27, Tryd.ntmps27
  go_wp2_with (fail)
  exact bodyPost_ret (v := sp2 lo hi) (by simp [results, Tryd.results27, go_sem]) rfl ⟨rfl, ((Below.refl _ _).alloc (Nat.le_refl _) _).alloc (by simp) _⟩
theorem behind_any (lo hi k f t i : Int) (w : World) : Calls Tryd.prog 32 #[rw5 lo hi k f t, .int .i64 i] w (RetV (sp2 (if i = 0 then f else 128) (if i = 0 then t else 191)) w) := by
  by_cases h : i = 0
  · subst h
    go_enter Tryd.func32, Tryd.ntmps32
    go_wp2_with (fail)
    exact bodyPost_ret (v := sp2 f t) (by simp [results, Tryd.results32, go_sem]) rfl ⟨rfl, ((Below.refl _ _).alloc (Nat.le_refl _) _).alloc (by simp) _⟩
  · have h' : (i == 0) = false := by simpa using h
    rw [if_neg h, if_neg h]
    go_enter Tryd.func32, Tryd.ntmps32
    go_wp2_with (fail)
    exact bodyPost_ret (v := sp2 128 191) (by simp [results, Tryd.results32, go_sem]) rfl ⟨rfl, ((Below.refl _ _).alloc (Nat.le_refl _) _).alloc (by simp) _⟩
theorem two_new (w : World) (o p : Obj) : ((w.alloc o).alloc p).heap[w.heap.size + 1]? = some p := by
  have := heap_alloc_new (w.alloc o) p
  rwa [World.size_alloc] at this
theorem lit_span {w : World} {g B : Nat} {lo hi : Int} (hg : g < B) (h : w.heap[g]? = some (.cells #[.int .i64 lo, .int .i64 hi] 42)) : Sp.RS w B (some ⟨g, 0, none⟩) 1 [(lo, hi)] := by
  refine ⟨rfl, fun _ => ⟨g, 0, rfl, hg, fun j hj => ?_⟩⟩
  have : j = 0 := by simp at hj; exact hj
  subst this
  exact ⟨by simp [World.cell?, h], by simp [World.cell?, h]⟩
theorem mem_byte {lo hi b : Int} (h0 : 0 ≤ b) (h1 : b ≤ 255) : Sp.memB [(lo, hi)] b = decide (lo ≤ b ∧ b ≤ hi) := by
  by_cases h : lo ≤ b ∧ b ≤ hi
  · rw [decide_eq_true h]; exact Sp.memB_true (Sp.mem_one.2 ⟨by unfold Sp.Rng; omega, h⟩)
  · rw [decide_eq_false h]; exact Sp.memB_false (fun q => h (Sp.mem_one.1 q).2)
theorem has1_any (lo hi b : Int) (h0 : 0 ≤ b) (h1 : b ≤ 255) (w : World) : Calls Tryd.prog 26 #[sp2 lo hi, .int .u8 b] w (RetB (decide (lo ≤ b ∧ b ≤ hi)) w) := by
  have HM := Lib.hid (mem_byte (lo := lo) (hi := hi) h0 h1)
  have H0 := Lib.hid h0
  have H1 := Lib.hid h1
  go_enter Tryd.func26, Tryd.ntmps26
  go_wp2_with (fail)
  refine (Sp.has_any (some ⟨w.heap.size + 1, 0, none⟩) 1 1 [(lo, hi)] b _ (lit_span (by simp) ?hh) (by omega)).mono ?_
  case hh => exact two_new _ _ _
  rintro e w1 ⟨rfl, hb⟩
  have HB := Lib.hid hb
  clear hb
  go_wp2_with (fail)
  go_ret
  exact ⟨ret_bool HM.out, (((Below.refl _ _).alloc (Nat.le_refl _) _).alloc (by simp) _).trans (HB.out.mono (by simp; omega))⟩

/-- How many bits of a scalar a first byte has. -/
def fbits : Nat → Int
  | 0 => 7
  | 1 => 5
  | 2 => 4
  | _ => 3
/-- The table of bits, as it lies in memory. -/
def TabF (w : World) : Prop := ∀ k : Nat, k < 4 → w.cell? ⟨1, k, none⟩ = some (.int .i64 (fbits k))
/-- What stands behind a first byte of a row, place by place: i are gone through, j are still to come. -/
def rowGo (f t : Int) (l : List Int) : Nat → Nat → Int → Int × Int × Bool
  | 0, i, x => (x, 1 + (i : Int), true)
  | j + 1, i, x => if (if i = 0 then f else 128) ≤ l.getD (i + 1) 256 ∧ l.getD (i + 1) 256 ≤ (if i = 0 then t else 191) then rowGo f t l j (i + 1) (x * 64 + l.getD (i + 1) 256 % 64) else (65533, 1 + (i : Int), false)
def RetT (r : Int × Int × Bool) (w : World) (e : Ending) (w' : World) : Prop := e = .returned (.tuple #[.int .i32 r.1, .int .i64 r.2.1, .bool r.2.2]) ∧ Below w.heap.size w w'

/-- Where a slice begins that is cut off from place k on. -/
def cutA (A : Option Addr) (c k : Nat) : Option Addr := if c = k then A else A.map (·.add k)
theorem run_from {P : Program} {t e : TypeId} (ht : P.underlying t = some (.slice e)) (hs : ∀ W, (sizeOf e).run P W = .ok 1 W) (A : Option Addr) (n c k : Nat) (hk : k ≤ n) (z : Int) (hz : z = k) (W : World) :
    (Instr.slice t (.slice A n c) (some (.int .i64 z)) none none).run P W = .ok (.slice (cutA A c k) (n - k) (c - k)) W := by
  subst hz
  simp [Instr.slice, Instr.sliceBounds, Instr.sliceBound, asIntOf, run_underlying ht, hs, hk, go_sem, cutA]
theorem run_upto {P : Program} {t e : TypeId} (ht : P.underlying t = some (.slice e)) (hs : ∀ W, (sizeOf e).run P W = .ok 1 W) (A : Option Addr) (n c k : Nat) (hk : k ≤ c) (z : Int) (hz : z = k) (W : World) :
    (Instr.slice t (.slice A n c) none (some (.int .i64 z)) none).run P W = .ok (.slice (cutA A c 0) k c) W := by
  subst hz
  simp [Instr.slice, Instr.sliceBounds, Instr.sliceBound, asIntOf, run_underlying ht, hs, hk, go_sem, cutA]
theorem ry_cut {w : World} {B n : Nat} {A : Option Addr} {l : List Int} (h : RY w B A n l) (c k : Nat) (hnc : n ≤ c) (hk : k ≤ n) : RY w B (cutA A c k) (n - k) (l.drop k) := by
  refine ⟨by rw [List.length_drop, h.1], fun hn => ?_⟩
  obtain ⟨b, off, rfl, hb, hc⟩ := h.2 (by omega)
  have hl := h.1
  refine ⟨b, off + k, ?_, hb, fun j hj => ?_⟩
  · unfold cutA
    rw [if_neg (by omega)]
    simp [Addr.add]
  · rw [List.getElem_drop, Nat.add_assoc]
    exact hc _ _
theorem ry_front {w : World} {B n : Nat} {A : Option Addr} {l : List Int} (h : RY w B A n l) (c k : Nat) (hk : k ≤ n) : RY w B (cutA A c 0) k (l.take k) := by
  refine ⟨by rw [List.length_take, h.1]; omega, fun hn => ?_⟩
  obtain ⟨b, off, rfl, hb, hc⟩ := h.2 (by omega)
  refine ⟨b, off, ?_, hb, fun j hj => ?_⟩
  · unfold cutA
    split
    · rfl
    · simp [Addr.add]
  · rw [List.getElem_take]
    exact hc _ _
theorem ry_getD {w : World} {B n : Nat} {A : Option Addr} {l : List Int} {k : Nat} (h : RY w B A n l) (hk : k < n) : ∃ b off, A = some ⟨b, off, none⟩ ∧ b < B ∧ w.cell? ⟨b, off + k, none⟩ = some (.int .u8 (l.getD k 256)) := by
  obtain ⟨b, off, x, e, hb, ⟨hl, hx⟩, hc⟩ := h.at_ hk
  refine ⟨b, off, e, hb, ?_⟩
  rw [hc, ← hx]
  simp [hl]
theorem quiet_w {P : Program} {f : FuncId} {args : Array Value} {w : World} {n : Nat} {v : Value} (h : Calls P f args (w.drewN n) (RetW v (w.drewN n))) : Calls P f args (w.drewN n) fun e w'' => e = .returned v ∧ ∃ m, w'' = w.drewN m :=
  h.mono fun _ _ ⟨he, hm⟩ => ⟨he, n, hm.symm⟩
def ScanRel (f t : Int) (l : List Int) (k m : Nat) (R : Int × Int × Bool) (w1 : World) (x i : Value) (wr : World) : Prop :=
  ∃ (j : Nat) (X : Int), j ≤ k ∧ j ≤ m ∧ i = .int .i64 j ∧ x = .int .i32 X ∧ 0 ≤ X ∧ (X + 1) * 64 ^ (k - j) ≤ 2097152 ∧ rowGo f t l (k - j) j X = R ∧ Below w1.heap.size w1 wr
theorem rowGo_yes {f t : Int} {l : List Int} {k j : Nat} {X y : Int} {R : Int × Int × Bool} (hj : j < k) (h : rowGo f t l (k - j) j X = R) (hy : l.getD (j + 1) 256 = y) (hr : (if j = 0 then f else 128) ≤ y ∧ y ≤ (if j = 0 then t else 191)) : rowGo f t l (k - (j + 1)) (j + 1) (X * 64 + y % 64) = R := by
  rw [show k - j = (k - (j + 1)) + 1 from by omega, rowGo, hy, if_pos hr] at h
  exact h
theorem rowGo_no {f t : Int} {l : List Int} {k j : Nat} {X y : Int} {R : Int × Int × Bool} (hj : j < k) (h : rowGo f t l (k - j) j X = R) (hy : l.getD (j + 1) 256 = y) (hr : ¬ ((if j = 0 then f else 128) ≤ y ∧ y ≤ (if j = 0 then t else 191))) : R = (65533, 1 + (j : Int), false) := by
  rw [show k - j = (k - (j + 1)) + 1 from by omega, rowGo, hy, if_neg hr] at h
  exact h.symm
theorem room_next {k j : Nat} {X y : Int} (hk : k < 4) (hj : j < k) (h0 : 0 ≤ X) (hx : (X + 1) * 64 ^ (k - j) ≤ 2097152) (hy : 0 ≤ y ∧ y < 64) : (X * 64 + y + 1) * 64 ^ (k - (j + 1)) ≤ 2097152 ∧ X ≤ 32767 := by
  obtain e | e | e : k - j = 1 ∨ k - j = 2 ∨ k - j = 3 := by omega
  all_goals
    rw [show k - (j + 1) = (k - j) - 1 from by omega, e]
    rw [e] at hx
    simp at hx ⊢
    omega
theorem bor {X y : Int} (h0 : 0 ≤ X) (h1 : X ≤ 32767) (hy : 0 ≤ y ∧ y < 64) : bits BinOp.or IntKind.i32 (X * 64) y = X * 64 + y := by
  obtain ⟨a, rfl⟩ := Int.eq_ofNat_of_zero_le h0
  obtain ⟨b, rfl⟩ := Int.eq_ofNat_of_zero_le hy.1
  have ea : (BitVec.ofInt 32 ((a : Int) * 64)).toNat = a * 64 := by rw [BitVec.toNat_ofInt]; omega
  have eb : (BitVec.ofInt 32 (b : Int)).toNat = b := by rw [BitVec.toNat_ofInt]; omega
  show IntKind.i32.wrap ((BitVec.ofInt 32 ((a : Int) * 64) ||| BitVec.ofInt 32 (b : Int)).toNat : Int) = _
  rw [BitVec.toNat_or, ea, eb]
  have e3 : a * 64 ||| b = a * 64 + b := by
    have := Nat.shiftLeft_add_eq_or_of_lt (i := 6) (b := b) (by omega) a
    rw [Nat.shiftLeft_eq] at this
    exact this.symm
  rw [e3]
  simp only [IntKind.wrap, IntKind.signed, IntKind.bits]
  simp
  omega
theorem boxed5 {w w1 : World} {x y z v u : Value} {t : TypeId} (hb : Below (w.alloc (.cells #[x, y, z, v, u] t)).heap.size (w.alloc (.cells #[x, y, z, v, u] t)) w1) :
    w1.cell? ⟨w.heap.size, 0, none⟩ = some x ∧ w1.cell? ⟨w.heap.size, 1, none⟩ = some y ∧ w1.cell? ⟨w.heap.size, 2, none⟩ = some z ∧ w1.cell? ⟨w.heap.size, 3, none⟩ = some v ∧ w1.cell? ⟨w.heap.size, 4, none⟩ = some u := by
  have key : ∀ i, w1.cell? ⟨w.heap.size, i, none⟩ = (w.alloc (.cells #[x, y, z, v, u] t)).cell? ⟨w.heap.size, i, none⟩ := fun i => hb.cell (p := ⟨w.heap.size, i, none⟩) (by simp)
  rw [key, key, key, key, key]
  simp
theorem below_of_drew {a b : World} (h : Below a.drew.heap.size a.drew b) : Below a.heap.size a b := ⟨h.os, h.tape, h.output, h.size, h.block⟩
theorem below_two {B : Nat} {a b c : World} (h : Below B a b) (k : Below b.heap.size b c) (hB : B ≤ b.heap.size) : Below B a c := h.trans (k.mono hB)
set_option maxHeartbeats 4000000 in
theorem rscan_any (lo hi f t : Int) (k : Nat) (hk : k < 4) (ht : t ≤ 255) (A : Option Addr) (n c : Nat) (l : List Int) (w : World) (h : RY w w.heap.size A n l) (hl : ByteL l) (hn : 1 ≤ n) (hnc : n ≤ c) (hn2 : n ≤ 1099511627776) (hT : TabF w) (hg : 1 < w.heap.size) :
    Calls Tryd.prog 28 #[rw5 lo hi k f t, .slice A n c] w (RetT (rowGo f t l k 0 (l.getD 0 256 % 2 ^ (fbits k).toNat)) w) := by
  obtain ⟨b, off, hA, hbB, hc0⟩ := ry_getD h (k := 0) (by omega)
  subst hA
  rw [Nat.add_zero] at hc0
  have hF := hT k hk
  have hb0 := hl.getD 0
  have hb1 : l.getD 0 256 ≤ 255 := hb0.2.2.2 (by have := h.1; omega)
  have hfb : 3 ≤ fbits k ∧ fbits k ≤ 7 := by
    obtain rfl | rfl | rfl | rfl : k = 0 ∨ k = 1 ∨ k = 2 ∨ k = 3 := by omega
    all_goals simp [fbits]
  have hR := run_from (P := Tryd.prog) Tryd.underlying22 Tryd.sizeOf5 (some ⟨b, off, none⟩) n c 1 hn 1 rfl
  generalize hx0 : l.getD 0 256 = x0 at hc0 hb0 hb1 ⊢
  have HL := Lib.hid (fun W => low_any x0 (fbits k) hb0.1 hb1 hfb.1 hfb.2 W)
  generalize hfk : fbits k = fk at hF hfb HL ⊢
  go_enter Tryd.func28, Tryd.ntmps28
  go_wp2_with (fail)
  go_quiet ((go_at_call 36; exact quiet_w (HL.out _)))
  go_wp2_with (fail)
  have hpp : (0 : Int) < 2 ^ fk.toNat := Int.pow_pos (by decide)
  have hx1 : 0 ≤ x0 % 2 ^ fk.toNat ∧ x0 % 2 ^ fk.toNat < 2 ^ fk.toNat := ⟨Int.emod_nonneg _ (by omega), Int.emod_lt_of_pos _ hpp⟩
  clear hpp
  have hroom : (x0 % 2 ^ fk.toNat + 1) * 64 ^ k ≤ 2097152 := by
    obtain rfl | rfl | rfl | rfl : k = 0 ∨ k = 1 ∨ k = 2 ∨ k = 3 := by omega
    all_goals
      simp only [fbits] at hfk
      subst hfk
      simp at hx1 ⊢
      omega
  generalize hX0 : x0 % 2 ^ fk.toNat = X0 at hx1 hroom ⊢
  have hb1' : Below (w.alloc (.cells #[.int .i64 lo, .int .i64 hi, .int .i64 k, .int .i64 f, .int .i64 t] 49)).heap.size (w.alloc (.cells #[.int .i64 lo, .int .i64 hi, .int .i64 k, .int .i64 f, .int .i64 t] 49)) ((w.alloc (.cells #[.int .i64 lo, .int .i64 hi, .int .i64 k, .int .i64 f, .int .i64 t] 49)).drewN nq) := below_drewN (Below.refl _ _) _
  have hq := boxed5 hb1'
  have hbw := ((Below.refl w.heap.size w).alloc (Nat.le_refl _) (.cells #[.int .i64 lo, .int .i64 hi, .int .i64 k, .int .i64 f, .int .i64 t] 49)).trans (hb1'.mono (by simp))
  have hsz : w.heap.size + 1 ≤ ((w.alloc (.cells #[.int .i64 lo, .int .i64 hi, .int .i64 k, .int .i64 f, .int .i64 t] 49)).drewN nq).heap.size := by have := hb1'.size; simp at this ⊢
  generalize (w.alloc (.cells #[.int .i64 lo, .int .i64 hi, .int .i64 k, .int .i64 f, .int .i64 t] 49)).drewN nq = w1 at hq hbw hsz ⊢
  have HRest := Lib.hid (fun W (hW : Below w1.heap.size w1 W) => (((ry_cut h c 1 hnc hn).below hbw).more hbw.size).below hW)
  have HBW := Lib.hid hbw
  have HQ := Lib.hid hq
  have HT := Lib.hid hT
  generalize hR0 : rowGo f t l k 0 X0 = R at *
  have HR0 := Lib.hid hR0
  have HX0 := Lib.hid hX0
  have HH := Lib.hid h
  clear hb1' hbw hq hT hF hc0 hR0 hfk hX0 hR h hx0 HL hb0
  generalize cutA (some ⟨b, off, none⟩) c 1 = A2 at HRest ⊢
  go_loopw [7, 22] (fun x i wr => ScanRel f t l k (n - 1) R w1 x i wr) (fun _ i _ => k - (intOf i).toNat)
  case atStart => exact ⟨0, X0, Nat.zero_le _, Nat.zero_le _, rfl, rfl, hx1.1, hroom, HR0.out, Below.refl _ _⟩
  case round =>
    obtain ⟨j, X, hj, hjm, rfl, rfl, hX, hroom2, hR, hb⟩ := hrel
    have HRE := Lib.hid hR
    have HB := Lib.hid hb
    have hkk : ∀ q, q.block < w1.heap.size → wr.cell? q = w1.cell? q := fun q hq => hb.cell hq
    obtain ⟨q0, q1, q2, q3, q4⟩ := HQ.out
    have p0 := (hkk ⟨w.heap.size, 0, none⟩ (by simp; omega)).trans q0
    have p1 := (hkk ⟨w.heap.size, 1, none⟩ (by simp; omega)).trans q1
    have p2 := (hkk ⟨w.heap.size, 2, none⟩ (by simp; omega)).trans q2
    have p3 := (hkk ⟨w.heap.size, 3, none⟩ (by simp; omega)).trans q3
    have p4 := (hkk ⟨w.heap.size, 4, none⟩ (by simp; omega)).trans q4
    have hRest := HRest.out wr hb
    have hsz2 := hb.size
    clear hR hb hkk q0 q1 q2 q3 q4
    by_cases hjk : j < k
    · obtain ⟨y, hy⟩ : ∃ y, l.getD (j + 1) 256 = y := ⟨_, rfl⟩
      have hyr := hl.getD (j + 1)
      rw [hy] at hyr
      have hlen : l.length = n := HH.out.1
      have HY := Lib.hid hy
      have hroom3 := room_next hk hjk hX hroom2 (y := y % 64) (by omega)
      have HRO := Lib.hid hroom3.1
      have hX3 := hroom3.2
      by_cases hjn : j = n - 1
      · have hno : ¬ ((if j = 0 then f else 128) ≤ y ∧ y ≤ (if j = 0 then t else 191)) := by
          rintro ⟨_, h2⟩
          split at h2 <;> omega
        have HF := Lib.hid (rowGo_no hjk HRE.out hy hno)
        have e1 : (j == n - 1) = true := by simpa using hjn
        have e2 : ((j : Int) == ((n - 1 : Nat) : Int)) = true := by simp; omega
        clear hy hyr hno hjn hroom3 hlen hRest hroom2
        go_wp2_with (fail)
        go_quiet (fail)
        go_wp2_with (fail)
        go_ret3
        exact ⟨by first | (rw [HF.out]; rfl) | (rw [HX0.out, HR0.out, HF.out]; rfl), below_drewN (HBW.out.trans (HB.out.mono (by omega))) _⟩
      · obtain ⟨b2, off2, hA2, hb2B, hc2⟩ := ry_getD hRest (k := j) (by omega)
        have hc3 : (l.drop 1).getD j 256 = y := by rw [← hy]; simp
        rw [hc3] at hc2
        subst hA2
        have e1 : (j == n - 1) = false := by simpa using hjn
        have e2 : ((j : Int) == ((n - 1 : Nat) : Int)) = false := by simp; omega
        have hy0 : 0 ≤ y := hyr.1
        have hy1 : y ≤ 255 := by omega
        have hBH : ∀ W, Calls Tryd.prog 32 #[rw5 lo hi k f t, .int .i64 j] W (RetV (sp2 (if j = 0 then f else 128) (if j = 0 then t else 191)) W) := fun W => by
          have := behind_any lo hi k f t j W
          by_cases hj0 : j = 0
          · subst hj0; exact this
          · rw [if_neg hj0, if_neg hj0]; rw [if_neg (by omega), if_neg (by omega)] at this; exact this
        have HBH := Lib.hid hBH
        clear hBH
        have HGO := Lib.hid (fun q => rowGo_yes (f := f) (t := t) hjk HRE.out hy q)
        have HNO := Lib.hid (fun q => rowGo_no (f := f) (t := t) hjk HRE.out hy q)
        generalize (if j = 0 then f else 128) = flo at HBH HGO HNO
        generalize (if j = 0 then t else 191) = fhi at HBH HGO HNO
        have HLO := Lib.hid (fun W => low_any y 6 hy0 hy1 (by omega) (by omega) W)
        have hjlt : j < n - 1 := by omega
        have HHAS := Lib.hid (fun W => has1_any flo fhi y hy0 hy1 W)
        obtain ⟨bb, hbb⟩ : ∃ bb, decide (flo ≤ y ∧ y ≤ fhi) = bb := ⟨_, rfl⟩
        rw [hbb] at HHAS
        have HBBB := Lib.hid hbb
        have hbw0 := Below.drew (Below.refl wr.heap.size wr)
        clear hy hyr hjn hroom3 hlen hRest hroom2 hc3 hbb
        cases bb
        all_goals go_wp2_with (fail)
        all_goals
         go_region_held3 (fun w' => Below wr.heap.size wr w' ∧ w'.cell? ⟨w.heap.size, 0, none⟩ = some (.int .i64 lo) ∧ w'.cell? ⟨w.heap.size, 1, none⟩ = some (.int .i64 hi) ∧ w'.cell? ⟨w.heap.size, 2, none⟩ = some (.int .i64 k) ∧ w'.cell? ⟨w.heap.size, 3, none⟩ = some (.int .i64 f) ∧ w'.cell? ⟨w.heap.size, 4, none⟩ = some (.int .i64 t) ∧ w'.cell? ⟨b2, off2 + j, none⟩ = some (.int .u8 y))
          (first | go_keep | (go_split_ands; refine ⟨?_, ?_, ?_, ?_, ?_, ?_, ?_⟩; all_goals (first | assumption | exact Below.drew (by assumption) | (refine below_two (by assumption) hb5 ?_; exact Below.size (by assumption)) | (rw [hb5.cell (by have := Below.size (by assumption : Below wr.heap.size wr _); simp at this ⊢; omega)]; assumption))))
          (first | (go_at_call 32; refine (HBH.out _).mono ?_; rintro e w5 ⟨rfl, hb5⟩) | (go_at_call 26; refine (HHAS.out _).mono ?_; rintro e w5 ⟨rfl, hb5⟩))
        · have HF := Lib.hid (HNO.out (of_decide_eq_false HBBB.out))
          go_split_ands
          have hb6 : Below wr.heap.size wr w5 := by assumption
          have HB6 := Lib.hid hb6
          clear hb6 hb5
          go_wp2_with (fail)
          go_ret3
          exact ⟨by first | (rw [HF.out]; rfl) | (rw [HX0.out, HR0.out, HF.out]; rfl), HBW.out.trans ((HB.out.trans (HB6.out.mono (by omega))).mono (by omega))⟩
        · have HN := Lib.hid (HGO.out (of_decide_eq_true HBBB.out))
          go_split_ands
          have hb6 : Below wr.heap.size wr w5 := by assumption
          have HB6 := Lib.hid hb6
          have HBO := Lib.hid (bor (y := y % 64) hX hX3 (by omega))
          clear hb6 hb5
          go_wp2_with (go_at_call 36; refine (HLO.out _).mono ?_; rintro e w7 ⟨rfl, rfl⟩)
          go_roundw
          case rel => exact ⟨j + 1, X * 64 + y % 64, by omega, by omega, by go_num, by first | rfl | exact congrArg (Value.int .i32) HBO.out, by omega, HRO.out, HN.out, HB.out.trans (HB6.out.mono (by omega))⟩
          case measure => simp [intOf]; omega
    · obtain rfl : j = k := by omega
      have hfin : R = (X, 1 + (j : Int), true) := by have := HRE.out; rw [Nat.sub_self, rowGo] at this; exact this.symm
      have HF := Lib.hid hfin
      clear hfin
      go_wp2_with (fail)
      go_quiet (fail)
      go_wp2_with (fail)
      go_ret3
      exact ⟨by first | (rw [HF.out]; rfl) | (rw [HX0.out, HR0.out, HF.out]; rfl), below_drewN (HBW.out.trans (HB.out.mono (by omega))) _⟩
end Go.Proofs.YtjhgboncipnkeaaDoor.Ut
