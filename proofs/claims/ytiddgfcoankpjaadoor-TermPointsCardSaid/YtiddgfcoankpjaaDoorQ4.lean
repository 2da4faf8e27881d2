/- Texts of this proof, joined: PaFun, PaVal, TeBase, TeFun, TeVal, TeRight, FiMath, TeCopies, TeRights, FiTotal, PaTake, TeConst, TePut, TeClone, TeRVal, TeAwake. -/
import Derived.Test.YtiddgfcoankpjaaDoorProg
import Derived.Test.YtiddgfcoankpjaaDoorQ1
import Derived.Test.YtiddgfcoankpjaaDoorQ3
import Derived.WalkArith
import Derived.IntWalk
import Derived.Deep.RegionHeld3
import Derived.Lib.SliceRun
import Derived.OwnWalk
/- The walks of part.bitsRight, Right, Whole, most, Value, and of the document's Two, Bits, Right, Value. -/
namespace Go.Proofs.YtiddgfcoankpjaaDoor.Pa
set_option maxRecDepth 100000
open Go Go.RowKit Go.Proofs.YtiddgfcoankpjaaDoor.Sp

/-- A part, as a value. -/
abbrev prt (a d t u : Int) : Value := .agg #[.int .i64 a, .int .i64 d, .int .i64 t, .int .i64 u]

set_option maxHeartbeats 1000000 in
theorem bits_any (a d t u : Int) (w : World) : Calls Tryd.prog 51 #[prt a d t u] w (RetB (decide (Bits d t u)) w) := by
  by_cases hb : Bits d t u
  · rw [decide_eq_true hb]
    obtain ⟨h1, h2, h3, h4, h5, h6, h7⟩ := hb
    by_cases h8 : u = 0
    · subst h8
      go_enter Tryd.func51, Tryd.ntmps51
      go_wp2_with (fail)
      go_ret
      exact ⟨rfl, (Below.refl _ _).alloc (Nat.le_refl _) _⟩
    · have h7' : t ≤ 6 := by omega
      have h8' : (u == 0) = false := by simpa using h8
      clear h7 h8
      go_enter Tryd.func51, Tryd.ntmps51
      go_wp2_with (fail)
      go_ret
      exact ⟨rfl, (Below.refl _ _).alloc (Nat.le_refl _) _⟩
  · rw [decide_eq_false hb]
    by_cases h1 : 0 ≤ d
    · by_cases h2 : d ≤ 20
      · by_cases h3 : 1 ≤ t
        · by_cases h4 : t ≤ 21
          · by_cases h5 : 0 ≤ u
            · by_cases h6 : u ≤ 20
              · have h7 : 6 < t := by unfold Bits at hb; omega
                have h8 : (u == 0) = false := by unfold Bits at hb; simp; omega
                clear hb
                go_enter Tryd.func51, Tryd.ntmps51
                go_wp2_with (fail)
                go_ret
                exact ⟨ret_bool (by simp; omega), (Below.refl _ _).alloc (Nat.le_refl _) _⟩
              · clear hb
                go_enter Tryd.func51, Tryd.ntmps51
                go_wp2_with (fail)
                go_ret
                exact ⟨rfl, (Below.refl _ _).alloc (Nat.le_refl _) _⟩
            · clear hb
              go_enter Tryd.func51, Tryd.ntmps51
              go_wp2_with (fail)
              go_ret
              exact ⟨rfl, (Below.refl _ _).alloc (Nat.le_refl _) _⟩
          · clear hb
            go_enter Tryd.func51, Tryd.ntmps51
            go_wp2_with (fail)
            go_ret
            exact ⟨rfl, (Below.refl _ _).alloc (Nat.le_refl _) _⟩
        · clear hb
          go_enter Tryd.func51, Tryd.ntmps51
          go_wp2_with (fail)
          go_ret
          exact ⟨rfl, (Below.refl _ _).alloc (Nat.le_refl _) _⟩
      · clear hb
        go_enter Tryd.func51, Tryd.ntmps51
        go_wp2_with (fail)
        go_ret
        exact ⟨rfl, (Below.refl _ _).alloc (Nat.le_refl _) _⟩
    · clear hb
      go_enter Tryd.func51, Tryd.ntmps51
      go_wp2_with (fail)
      go_ret
      exact ⟨rfl, (Below.refl _ _).alloc (Nat.le_refl _) _⟩

def rightB (a d t u n : Int) : Bool := decide (0 ≤ a ∧ a < n ∧ Bits d t u)
set_option maxHeartbeats 1000000 in
theorem right_any (a d t u n : Int) (w : World) : Calls Tryd.prog 35 #[prt a d t u, .int .i64 n] w (RetB (rightB a d t u n) w) := by
  by_cases h1 : 0 ≤ a
  · by_cases h2 : a < n
    · have e : rightB a d t u n = decide (Bits d t u) := by unfold rightB; simp [h1, h2]
      have HE := Lib.hid e
      have HB := Lib.hid (bits_any a d t u)
      clear e
      go_enter Tryd.func35, Tryd.ntmps35
      go_wp2_with (fail)
      refine (HB.out _).mono ?_
      rintro e w1 ⟨rfl, hb1⟩
      go_wp2_with (fail)
      go_ret
      exact ⟨ret_bool HE.out.symm, ((Below.refl _ _).alloc (Nat.le_refl _) _).trans (hb1.mono (by simp))⟩
    · have HE := Lib.hid (show rightB a d t u n = false by unfold rightB; simp [h2])
      go_enter Tryd.func35, Tryd.ntmps35
      go_wp2_with (fail)
      go_ret
      exact ⟨ret_bool HE.out.symm, (Below.refl _ _).alloc (Nat.le_refl _) _⟩
  · have HE := Lib.hid (show rightB a d t u n = false by unfold rightB; simp [h1])
    go_enter Tryd.func35, Tryd.ntmps35
    go_wp2_with (fail)
    go_ret
    exact ⟨ret_bool HE.out.symm, (Below.refl _ _).alloc (Nat.le_refl _) _⟩

def RetP (a d t u : Int) (w : World) (e : Ending) (w' : World) : Prop := e = .returned (prt a d t u) ∧ Below w.heap.size w w'
theorem whole_any (a : Int) (w : World) : Calls Tryd.prog 28 #[.int .i64 a] w (RetP a 0 21 0 w) := by
  go_enter Tryd.func28, Tryd.ntmps28
  go_wp2_with (fail)
  exact bodyPost_ret (v := prt a 0 21 0) (by simp [results, Tryd.results28, go_sem]) rfl ⟨rfl, (Below.refl _ _).alloc (Nat.le_refl _) _⟩
end Go.Proofs.YtiddgfcoankpjaaDoor.Pa
/- The walks of part.most, part.Value, and of the document's Two, Bits, Right, Value. -/
namespace Go.Proofs.YtiddgfcoankpjaaDoor.Pa
set_option maxRecDepth 100000
open Go Go.RowKit Go.Proofs.YtiddgfcoankpjaaDoor.Sp

def RetN (v : Int) (w : World) (e : Ending) (w' : World) : Prop := e = .returned (.int .i64 v) ∧ Below w.heap.size w w'
theorem ret_i {a b : Int} (h : a = b) : Ending.returned (.int .i64 a) = .returned (.int .i64 b) := by rw [h]
theorem pw_fold (n : Int) : (2 : Int) ^ n.toNat = pw n := rfl
theorem land_low (a k : Nat) : a &&& (2 ^ k - 1) = a % 2 ^ k := Nat.and_two_pow_sub_one_eq_mod a k
theorem bits_low (z t : Int) (h0 : 0 ≤ z) (h1 : z ≤ 9223372036854775807) (ht : t ≤ 62) : bits .and .i64 z (pw t - 1) = z % pw t := by
  have hp := pw_pos t
  have hp2 := pw_mono t 62 ht
  have e62 : pw 62 = 4611686018427387904 := by decide
  have hm := mod_lt z t
  obtain ⟨a, rfl⟩ := Int.eq_ofNat_of_zero_le h0
  have e : pw t - 1 = ((2 ^ t.toNat - 1 : Nat) : Int) := by
    have : (1 : Nat) ≤ 2 ^ t.toNat := Nat.one_le_two_pow
    unfold pw; rw [Int.ofNat_sub this]; simp
  have e2 : ((a : Int) % pw t) = ((a % 2 ^ t.toNat : Nat) : Int) := by unfold pw; simp
  have hlt : a % 2 ^ t.toNat < 9223372036854775808 := by omega
  have hb : a < 18446744073709551616 := by omega
  have hc : 2 ^ t.toNat - 1 < 18446744073709551616 := by omega
  rw [e2, ← land_low, e]
  rw [← land_low] at hlt
  generalize 2 ^ t.toNat - 1 = c at *
  have ea : (BitVec.ofInt 64 (a : Int)).toNat = a := by rw [BitVec.toNat_ofInt]; omega
  have ec : (BitVec.ofInt 64 (c : Int)).toNat = c := by rw [BitVec.toNat_ofInt]; omega
  show IntKind.i64.wrap ((BitVec.ofInt 64 (a : Int) &&& BitVec.ofInt 64 (c : Int)).toNat : Int) = _
  rw [BitVec.toNat_and, ea, ec]
  exact IntWalk.i64_in _ (by omega)

theorem boxed4 {w w1 : World} {x y z v : Value} {t : TypeId} (hb : Below (w.alloc (.cells #[x, y, z, v] t)).heap.size (w.alloc (.cells #[x, y, z, v] t)) w1) :
    w1.cell? ⟨w.heap.size, 0, none⟩ = some x ∧ w1.cell? ⟨w.heap.size, 1, none⟩ = some y ∧ w1.cell? ⟨w.heap.size, 2, none⟩ = some z ∧ w1.cell? ⟨w.heap.size, 3, none⟩ = some v := by
  have key : ∀ i, w1.cell? ⟨w.heap.size, i, none⟩ = (w.alloc (.cells #[x, y, z, v] t)).cell? ⟨w.heap.size, i, none⟩ := fun i => hb.cell (p := ⟨w.heap.size, i, none⟩) (by simp)
  rw [key, key, key, key]
  refine ⟨?_, ?_, ?_, ?_⟩ <;> simp
attribute [local go_sem] pw_fold
set_option maxHeartbeats 400000 in
theorem most_any (a d t u : Int) (h1 : 1 ≤ t) (h2 : t ≤ 21) (w : World) : Calls Tryd.prog 52 #[prt a d t u] w (RetN (pw t - 1) w) := by
  have hp := pw_pos t
  have hq := pw_le h2 pw21
  have h3 : 0 ≤ t := by omega
  have h4 : t ≤ 64 := by omega
  go_enter Tryd.func52, Tryd.ntmps52
  go_wp2_with (fail)
  go_ret
  exact ⟨rfl, (Below.refl _ _).alloc (Nat.le_refl _) _⟩

/-- What part.Value answers. -/
def RetV (v : Int × Bool) (w : World) (e : Ending) (w' : World) : Prop := e = .returned (.tuple #[.int .i64 v.1, .bool v.2]) ∧ Below w.heap.size w w'
theorem ret_v {a : Int} {b : Bool} {v : Int × Bool} (h : v = (a, b)) : Ending.returned (.tuple #[.int .i64 a, .bool b]) = .returned (.tuple #[.int .i64 v.1, .bool v.2]) := by rw [h]
theorem value_none {d t u x : Int} (h : ¬ HasV d t u x) : valP d t u x = (0, false) := if_neg h
set_option maxHeartbeats 1000000 in
theorem value_any (a d t u x : Int) (w : World) (hx : x ≤ 9223372036854775807) : Calls Tryd.prog 22 #[prt a d t u, .int .i64 x] w (RetV (valP d t u x) w) := by
  have HB := Lib.hid (bits_any a d t u)
  by_cases h0 : Bits d t u
  · rw [decide_eq_true h0] at HB
    by_cases h1 : x < 0
    · have HE := Lib.hid (value_none (show ¬ HasV d t u x by unfold HasV; omega))
      clear h0
      go_enter Tryd.func22, Tryd.ntmps22
      go_wp2_with (fail)
      refine (HB.out _).mono ?_
      rintro e w1 ⟨rfl, hb1⟩
      go_wp2_with (fail)
      go_ret2
      exact ⟨ret_v HE.out, ((Below.refl _ _).alloc (Nat.le_refl _) _).trans (hb1.mono (by simp))⟩
    · by_cases h2 : 2097151 < x
      · have HE := Lib.hid (value_none (show ¬ HasV d t u x by unfold HasV; omega))
        clear h0
        go_enter Tryd.func22, Tryd.ntmps22
        go_wp2_with (fail)
        refine (HB.out _).mono ?_
        rintro e w1 ⟨rfl, hb1⟩
        go_wp2_with (fail)
        go_ret2
        exact ⟨ret_v HE.out, ((Below.refl _ _).alloc (Nat.le_refl _) _).trans (hb1.mono (by simp))⟩
      · have HE := Lib.hid (show valP d t u x = (valI d t u x, true) from if_pos ⟨h0, by omega, by omega⟩)
        have hv := valI_bound h0 x
        unfold valI at hv
        obtain ⟨b1, b2, b3, b4, b5, b6, b7⟩ := h0
        have lo := lo_bound (d := d) (x := x) (by omega)
        have HL := Lib.hid (bits_low (x / pw d) t lo.1 (by omega) (by omega))
        have HM := Lib.hid (most_any a d t u b3 b4)
        have hm := mod_lt (x / pw d) t
        have c1 : d ≤ 64 := by omega
        have c2 : u ≤ 64 := by omega
        clear b7
        go_enter Tryd.func22, Tryd.ntmps22
        go_wp2_with (fail)
        refine (HB.out _).mono ?_
        rintro e w1 ⟨rfl, hb1⟩
        have q := boxed4 hb1
        have hz : w.heap.size + 1 ≤ w1.heap.size := by have := hb1.size; simp at this; omega
        go_wp2_with (fail)
        go_region_held3 (fun w' => w'.cell? ⟨w.heap.size, 0, none⟩ = some (.int .i64 a) ∧ w'.cell? ⟨w.heap.size, 1, none⟩ = some (.int .i64 d) ∧ w'.cell? ⟨w.heap.size, 2, none⟩ = some (.int .i64 t) ∧ w'.cell? ⟨w.heap.size, 3, none⟩ = some (.int .i64 u))
          (first | go_keep | (go_split_ands; refine ⟨?_, ?_, ?_, ?_⟩; all_goals (rw [hb2.cell (by simp; omega)]; assumption)))
          (first | (go_at_call 52; refine (HM.out _).mono ?_; rintro e w2 ⟨rfl, hb2⟩))
        have HW : IntKind.i64.wrap (bits BinOp.and IntKind.i64 (x / pw d) (pw t - 1) * pw u) = valI d t u x := by
          rw [HL.out, IntWalk.i64_in _ (by omega)]; rfl
        rw [HW]
        have HB2 := Lib.hid (hb1.drew.trans (hb2.mono (by simp; omega)))
        clear HW hb2 hb1
        go_wp2_with (fail)
        go_ret2
        exact ⟨ret_v HE.out, ((Below.refl _ _).alloc (Nat.le_refl _) _).trans (HB2.out.mono (by simp))⟩
  · rw [decide_eq_false h0] at HB
    have HE := Lib.hid (value_none (show ¬ HasV d t u x from fun h => h0 h.1))
    clear h0
    go_enter Tryd.func22, Tryd.ntmps22
    go_wp2_with (fail)
    refine (HB.out _).mono ?_
    rintro e w1 ⟨rfl, hb1⟩
    go_wp2_with (fail)
    go_ret2
    exact ⟨ret_v HE.out, ((Below.refl _ _).alloc (Nat.le_refl _) _).trans (hb1.mono (by simp))⟩

end Go.Proofs.YtiddgfcoankpjaaDoor.Pa
/- Words for terms: a slice value that reads as a list of parts (four cells each); a term, as a value; its box; parts held against each other. -/
namespace Go.Proofs.YtiddgfcoankpjaaDoor.Te
set_option maxRecDepth 100000
open Go Go.RowKit Go.Proofs.YtiddgfcoankpjaaDoor.Sp Go.Proofs.YtiddgfcoankpjaaDoor.Pa

/-- A part: At, Drop, Take, Up. -/
abbrev PT := Int × Int × Int × Int
/-- The slice value with address A and length n reads as the parts l, and lies below block B. -/
def RP (w : World) (B : Nat) (A : Option Addr) (n : Nat) (l : List PT) : Prop :=
  l.length = n ∧ (0 < n → ∃ b off, A = some ⟨b, off, none⟩ ∧ b < B ∧ ∀ (j : Nat) (h : j < l.length), w.cell? ⟨b, off + j * 4, none⟩ = some (.int .i64 l[j].1) ∧ w.cell? ⟨b, off + j * 4 + 1, none⟩ = some (.int .i64 l[j].2.1) ∧ w.cell? ⟨b, off + j * 4 + 2, none⟩ = some (.int .i64 l[j].2.2.1) ∧ w.cell? ⟨b, off + j * 4 + 3, none⟩ = some (.int .i64 l[j].2.2.2))
section
variable {w w' : World} {B B' n : Nat} {A : Option Addr} {l : List PT}
theorem RP.nil_ (w : World) (B : Nat) (A : Option Addr) : RP w B A 0 [] := ⟨rfl, fun h => absurd h (by omega)⟩
theorem RP.at_ {k : Nat} (h : RP w B A n l) (hk : k < n) : ∃ b off, ∃ a d t u : Int, A = some ⟨b, off, none⟩ ∧ b < B ∧ (∃ hl : k < l.length, l[k] = (a, d, t, u)) ∧ w.cell? ⟨b, off + k * 4, none⟩ = some (.int .i64 a) ∧ w.cell? ⟨b, off + k * 4 + 1, none⟩ = some (.int .i64 d) ∧ w.cell? ⟨b, off + k * 4 + 2, none⟩ = some (.int .i64 t) ∧ w.cell? ⟨b, off + k * 4 + 3, none⟩ = some (.int .i64 u) := by
  obtain ⟨b, off, e, hb, hc⟩ := h.2 (by omega)
  have hl : k < l.length := by have := h.1; omega
  exact ⟨b, off, l[k].1, l[k].2.1, l[k].2.2.1, l[k].2.2.2, e, hb, ⟨hl, rfl⟩, hc k hl⟩
theorem RP.keep (h : RP w B A n l) (hk : ∀ p : Addr, p.block < B → w'.cell? p = w.cell? p) : RP w' B A n l :=
  ⟨h.1, fun hn => by
    obtain ⟨b, off, e, hb, hc⟩ := h.2 hn
    exact ⟨b, off, e, hb, fun j hj => ⟨(hk _ hb).trans (hc j hj).1, (hk _ hb).trans (hc j hj).2.1, (hk _ hb).trans (hc j hj).2.2.1, (hk _ hb).trans (hc j hj).2.2.2⟩⟩⟩
theorem RP.more (h : RP w B A n l) (hB : B ≤ B') : RP w B' A n l :=
  ⟨h.1, fun hn => by
    obtain ⟨b, off, e, hb, hc⟩ := h.2 hn
    exact ⟨b, off, e, by omega, hc⟩⟩
theorem RP.below (h : RP w B A n l) (hb : Below B w w') : RP w' B A n l := h.keep fun _ hp => hb.cell hp
theorem RP.belowM (h : RP w w.heap.size A n l) (hb : Below w.heap.size w w') : RP w' w'.heap.size A n l := (h.below hb).more hb.size
end

/-- A term, as a value. -/
abbrev trm (b d t u s : Int) (A : Option Addr) (n c : Nat) : Value := .agg #[.int .i64 b, .int .i64 d, .int .i64 t, .int .i64 u, .int .i64 s, .slice A n c]
abbrev tcells (b d t u s : Int) (A : Option Addr) (n c : Nat) : Array Value := #[.int .i64 b, .int .i64 d, .int .i64 t, .int .i64 u, .int .i64 s, .slice A n c]
/-- The cells of a boxed term, in a world. -/
def Boxed6 (W : World) (g : Nat) (b d t u s : Int) (A : Option Addr) (n c : Nat) : Prop :=
  W.cell? ⟨g, 0, none⟩ = some (.int .i64 b) ∧ W.cell? ⟨g, 1, none⟩ = some (.int .i64 d) ∧ W.cell? ⟨g, 2, none⟩ = some (.int .i64 t) ∧ W.cell? ⟨g, 3, none⟩ = some (.int .i64 u) ∧ W.cell? ⟨g, 4, none⟩ = some (.int .i64 s) ∧ W.cell? ⟨g, 5, none⟩ = some (.slice A n c)
theorem boxed6 {w w1 : World} {b d t u s : Int} {A : Option Addr} {n c : Nat} {ty : TypeId} (hb : Below (w.alloc (.cells (tcells b d t u s A n c) ty)).heap.size (w.alloc (.cells (tcells b d t u s A n c) ty)) w1) : Boxed6 w1 w.heap.size b d t u s A n c := by
  have key : ∀ i, w1.cell? ⟨w.heap.size, i, none⟩ = (w.alloc (.cells (tcells b d t u s A n c) ty)).cell? ⟨w.heap.size, i, none⟩ := fun i => hb.cell (p := ⟨w.heap.size, i, none⟩) (by simp)
  unfold Boxed6
  rw [key, key, key, key, key, key]
  refine ⟨?_, ?_, ?_, ?_, ?_, ?_⟩ <;> simp [tcells]

theorem part_guardType : Tryd.prog.eqGuardType Tryd.prog.depth 39 = false := by kernel_rfl
theorem part_guard (w : World) (op : BinOp) (x y : Operand) (xs ys : Array Value) : (eqGuard op 39 x y (.agg xs) (.agg ys)).run Tryd.prog w = .ok () w := run_eqGuard_agg w op _ x y xs ys part_guardType
theorem part_eq (w : World) (a b c e a' b' c' e' : Int) : (Op.equalIn 10000 39 (prt a b c e) (prt a' b' c' e')).run Tryd.prog w = .ok (a == a' && (b == b' && (c == c' && e == e'))) w := by
  have u3 := Tryd.underlying3
  have a3 := Tryd.isAgg3
  have z3 := Tryd.sizeOf3
  have hS : Tryd.prog.underlying 39 = some (.struct (Tryd.prog.fieldsOf 39)) := by kernel_rfl
  have hp : Tryd.prog.stoodInHeld 39 = false := by kernel_rfl
  rw [show (10000 : Nat) = 9999 + 1 from rfl, run_equalIn_agg w 9999 39 _ _ hS hp]
  simp only [Program.fieldsOf, Tryd.underlying39]
  go_simp
  by_cases h1 : a = a' <;> by_cases h2 : b = b' <;> by_cases h3 : c = c' <;> by_cases h4 : e = e' <;> simp [h1, h2, h3, h4]

/-- Two parts held against each other, behind a name: so a walk doesn't part its cases. -/
def pEq (a b c e a' b' c' e' : Int) : Bool := a == a' && (b == b' && (c == c' && e == e'))
theorem part_eqN (w : World) (a b c e a' b' c' e' : Int) : (Op.equalIn 10000 39 (prt a b c e) (prt a' b' c' e')).run Tryd.prog w = .ok (pEq a b c e a' b' c' e') w := part_eq w a b c e a' b' c' e'
def Sm (x : Int) : Prop := -1114111 ≤ x ∧ x ≤ 1114111
instance (x : Int) : Decidable (Sm x) := by unfold Sm; infer_instance
def takesAll (p : PT) : Bool := p.2.1 == 0 && (p.2.2.1 == 21 && p.2.2.2 == 0)
def plainT (b d t u : Int) : Bool := b == 0 && (d == 0 && (t == 21 && u == 0))
end Go.Proofs.YtiddgfcoankpjaaDoor.Te
/- The walks of the small functions of terms, the program's and the document's: small, known, symbol, outer, plain, all. -/
namespace Go.Proofs.YtiddgfcoankpjaaDoor.Te
set_option maxRecDepth 100000
open Go Go.RowKit Go.Proofs.YtiddgfcoankpjaaDoor.Sp Go.Proofs.YtiddgfcoankpjaaDoor.Pa

attribute [local go_sem] part_guard part_eq
theorem small_any (x : Int) (w : World) : Calls Tryd.prog 34 #[.int .i64 x] w (RetW (.bool (decide (Sm x))) w) := by
  by_cases h1 : -1114111 ≤ x
  · by_cases h2 : x ≤ 1114111
    · rw [decide_eq_true (show Sm x from ⟨h1, h2⟩)]
      go_enter Tryd.func34, Tryd.ntmps34
      go_wp2_with (fail)
      go_ret
      exact ⟨rfl, rfl⟩
    · rw [decide_eq_false (show ¬ Sm x from fun h => h2 h.2)]
      go_enter Tryd.func34, Tryd.ntmps34
      go_wp2_with (fail)
      go_ret
      exact ⟨rfl, rfl⟩
  · rw [decide_eq_false (show ¬ Sm x from fun h => h1 h.1)]
    go_enter Tryd.func34, Tryd.ntmps34
    go_wp2_with (fail)
    go_ret
    exact ⟨rfl, rfl⟩
theorem outer_any (b d t u s : Int) (A : Option Addr) (n c : Nat) (w : World) : Calls Tryd.prog 20 #[trm b d t u s A n c] w (RetP 0 d t u w) := by
  go_enter Tryd.func20, Tryd.ntmps20
  go_wp2_with (fail)
  exact bodyPost_ret (v := prt 0 d t u) (by simp [results, Tryd.results20, go_sem]) rfl ⟨rfl, (((Below.refl _ _).alloc (Nat.le_refl _) _).alloc (by simp) _)⟩
theorem known_any (x : Int) (w : World) : Calls Tryd.prog 32 #[.int .i64 x] w (RetW (.bool (decide (x = 1 ∨ x = 2))) w) := by
  by_cases h1 : x = 1
  · subst h1
    rw [decide_eq_true (by omega)]
    go_enter Tryd.func32, Tryd.ntmps32
    go_wp2_with (fail)
    go_ret
    exact ⟨rfl, rfl⟩
  · have h1' : (x == 1) = false := by simpa using h1
    by_cases h2 : x = 2
    · subst h2
      rw [decide_eq_true (by omega)]
      go_enter Tryd.func32, Tryd.ntmps32
      go_wp2_with (fail)
      go_ret
      exact ⟨rfl, rfl⟩
    · have h2' : (x == 2) = false := by simpa using h2
      rw [decide_eq_false (by omega)]
      go_enter Tryd.func32, Tryd.ntmps32
      go_wp2_with (fail)
      go_ret
      exact ⟨rfl, rfl⟩
theorem tplain_any (b d t u s : Int) (A : Option Addr) (n c : Nat) (w : World) : Calls Tryd.prog 29 #[trm b d t u s A n c] w (RetB (plainT b d t u) w) := by
  have HO := Lib.hid (outer_any b d t u s A n c)
  have HW := Lib.hid (whole_any 0)
  unfold plainT
  by_cases h1 : b = 0
  · subst h1
    go_enter Tryd.func29, Tryd.ntmps29
    go_wp2_with (fail)
    refine (HO.out _).mono ?_
    rintro e w1 ⟨rfl, hb1⟩
    go_wp2_with (fail)
    refine (HW.out _).mono ?_
    rintro e w2 ⟨rfl, hb2⟩
    go_wp2_with (fail)
    all_goals go_ret
    all_goals exact ⟨ret_bool (by simp_all), ((Below.refl _ _).alloc (Nat.le_refl _) _).trans ((hb1.trans (hb2.mono hb1.size)).mono (by simp))⟩
  · have h1' : (b == 0) = false := by simpa using h1
    go_enter Tryd.func29, Tryd.ntmps29
    go_wp2_with (fail)
    go_ret
    exact ⟨ret_bool (by simp [h1]), (Below.refl _ _).alloc (Nat.le_refl _) _⟩
/-- The loop over the parts: as far as k all are right. -/
def AllR (n : Int) (l : List PT) (k : Nat) : Prop := ∀ q ∈ l.take k, rightB q.1 q.2.1 q.2.2.1 q.2.2.2 n = true
theorem allR_next {n : Int} {l : List PT} {k : Nat} {a d t u : Int} (h : AllR n l k) (hk : ∃ hl : k < l.length, l[k] = (a, d, t, u)) (hr : rightB a d t u n = true) : AllR n l (k + 1) := by
  obtain ⟨hl, e⟩ := hk
  intro q hq
  rw [List.take_succ_eq_append_getElem hl, List.mem_append] at hq
  rcases hq with hq | hq
  · exact h q hq
  · rw [List.mem_singleton, e] at hq
    subst hq
    exact hr
def partsB (n : Int) (l : List PT) : Bool := l.all fun q => rightB q.1 q.2.1 q.2.2.1 q.2.2.2 n
theorem partsB_true {n : Int} {l : List PT} (h : AllR n l l.length) : partsB n l = true := by
  unfold partsB
  rw [List.all_eq_true]
  intro q hq
  exact h q (by rw [List.take_length]; exact hq)
theorem partsB_false {n : Int} {l : List PT} {k : Nat} {a d t u : Int} (hk : ∃ hl : k < l.length, l[k] = (a, d, t, u)) (hr : rightB a d t u n = false) : partsB n l = false := by
  obtain ⟨hl, e⟩ := hk
  unfold partsB
  rw [Bool.eq_false_iff]
  intro h
  have := (List.all_eq_true.1 h) l[k] (List.getElem_mem hl)
  rw [e] at this
  simp only at this
  rw [hr] at this
  cases this
def PRel (n : Int) (l : List PT) (B : Nat) (w2 : World) (i : Value) (wr : World) : Prop :=
  ∃ k : Nat, k ≤ l.length ∧ i = .int .i64 k ∧ AllR n l k ∧ Below B w2 wr
set_option maxHeartbeats 2000000 in
theorem tparts_any (b d t u s : Int) (A : Option Addr) (n c : Nat) (l : List PT) (m : Int) (w : World) (h : RP w w.heap.size A n l) (hn : n ≤ maxLen) :
    Calls Tryd.prog 15 #[trm b d t u s A n c, .int .i64 m] w (RetB (partsB m l) w) := by
  unfold maxLen at hn
  have hlen := h.1
  subst hlen
  have hbw : Below w.heap.size w (w.alloc (.cells (tcells b d t u s A l.length c) 24)) := (Below.refl _ w).alloc (Nat.le_refl _) _
  obtain ⟨w0, hw0⟩ : ∃ w0, w.alloc (.cells (tcells b d t u s A l.length c) 24) = w0 := ⟨_, rfl⟩
  have X6 := Lib.hid (fun W (hb : Below w0.heap.size w0 W) => show Boxed6 W w.heap.size b d t u s A l.length c from by rw [← hw0] at hb; exact boxed6 hb)
  rw [hw0] at hbw
  have HW := Lib.hid hbw
  have H := Lib.hid (h.belowM hbw)
  obtain ⟨r0, r1, r2, r3, r4, r5⟩ := X6.out w0 (Below.refl _ _)
  clear h hbw
  go_enter Tryd.func15, Tryd.ntmps15
  go_wp2_with (fail)
  go_loopw [10] (fun i wr => PRel m l w0.heap.size w0 i wr) (fun i _ => l.length - (intOf i).toNat)
  case atStart => exact ⟨0, Nat.zero_le _, rfl, fun q hq => by simp at hq, Below.refl _ _⟩
  case round =>
    obtain ⟨k, hk, rfl, hA, hb⟩ := hrel
    have HA := Lib.hid hA
    have HB := Lib.hid hb
    have hz := hb.size
    by_cases hlt : k < l.length
    · obtain ⟨bb, off, a', d', t', u', hA', hbB, hlk, c1, c2, c3, c4⟩ := (H.out.below hb).at_ hlt
      have HLK := Lib.hid hlk
      have HR := Lib.hid (right_any a' d' t' u' m)
      subst hA'
      clear hA hb hlk r0 r1 r2 r3 r4 r5
      rcases hr : rightB a' d' t' u' m with _ | _
      · rw [hr] at HR
        have HRR := Lib.hid hr
        clear hr
        go_wp2_with (fail)
        refine (HR.out _).mono ?_
        rintro e w2 ⟨rfl, hb2⟩
        go_wp2_with (fail)
        go_ret
        exact ⟨ret_bool (partsB_false HLK.out HRR.out).symm, HW.out.trans ((HB.out.trans (((Below.refl _ _).alloc (Nat.le_refl _) _ |>.trans (hb2.mono (by simp))).mono hz)).mono HW.out.size)⟩
      · rw [hr] at HR
        have HRR := Lib.hid hr
        clear hr
        go_wp2_with (fail)
        refine (HR.out _).mono ?_
        rintro e w2 ⟨rfl, hb2⟩
        go_wp2_with (fail)
        go_roundw
        case rel => exact ⟨k + 1, by omega, by go_num, allR_next HA.out HLK.out HRR.out, HB.out.trans (((Below.refl _ _).alloc (Nat.le_refl _) _ |>.trans (hb2.mono (by simp))).mono hz)⟩
        case measure => simp [intOf]; omega
    · have hkl : k = l.length := by omega
      subst hkl
      go_wp2_with (fail)
      go_ret
      exact ⟨ret_bool (partsB_true HA.out).symm, HW.out.trans (HB.out.mono HW.out.size)⟩
end Go.Proofs.YtiddgfcoankpjaaDoor.Te
/- The walks of term.symbol, whole, Value. -/
namespace Go.Proofs.YtiddgfcoankpjaaDoor.Te
set_option maxRecDepth 100000
open Go Go.RowKit Go.Proofs.YtiddgfcoankpjaaDoor.Sp Go.Proofs.YtiddgfcoankpjaaDoor.Pa

def Sy (x : Int) : Prop := 0 ≤ x ∧ x ≤ 1114111
instance (x : Int) : Decidable (Sy x) := by unfold Sy; infer_instance
theorem symbol_any (x : Int) (w : World) : Calls Tryd.prog 21 #[.int .i64 x] w (RetW (.bool (decide (Sy x))) w) := by
  by_cases h1 : 0 ≤ x
  · by_cases h2 : x ≤ 1114111
    · rw [decide_eq_true (show Sy x from ⟨h1, h2⟩)]
      go_enter Tryd.func21, Tryd.ntmps21
      go_wp2_with (fail)
      go_ret
      exact ⟨rfl, rfl⟩
    · rw [decide_eq_false (show ¬ Sy x from fun h => h2 h.2)]
      go_enter Tryd.func21, Tryd.ntmps21
      go_wp2_with (fail)
      go_ret
      exact ⟨rfl, rfl⟩
  · rw [decide_eq_false (show ¬ Sy x from fun h => h1 h.1)]
    go_enter Tryd.func21, Tryd.ntmps21
    go_wp2_with (fail)
    go_ret
    exact ⟨rfl, rfl⟩
/-- A term's value, where the inner one is x. Sums wrap round. -/
def wholeT (b d t u x : Int) : Int × Bool := if Sy x ∧ Bits d t u then (wrap64 (b + valI d t u x), true) else (0, false)
theorem twhole_any (b d t u s : Int) (A : Option Addr) (n c : Nat) (x : Int) (w : World) : Calls Tryd.prog 23 #[trm b d t u s A n c, .int .i64 x] w (RetV (wholeT b d t u x) w) := by
  have HS := Lib.hid (symbol_any x)
  have HO := Lib.hid (outer_any b d t u s A n c)
  by_cases h1 : Sy x
  case neg =>
    rw [decide_eq_false h1] at HS
    have HV := Lib.hid (show wholeT b d t u x = (0, false) from if_neg (fun h => h1 h.1))
    go_enter Tryd.func23, Tryd.ntmps23
    go_wp2_with (fail)
    refine (HS.out _).mono ?_
    rintro e w1 ⟨rfl, rfl⟩
    go_wp2_with (fail)
    go_ret2
    exact ⟨ret_v HV.out, (Below.refl _ _).alloc (Nat.le_refl _) _⟩
  rw [decide_eq_true h1] at HS
  have HX := Lib.hid (value_any 0 d t u x)
  by_cases h2 : Bits d t u
  case neg =>
    have hp : valP d t u x = (0, false) := if_neg (fun h => h2 h.1)
    rw [hp] at HX
    have HV := Lib.hid (show wholeT b d t u x = (0, false) from if_neg (fun h => h2 h.2))
    have hx : x ≤ 9223372036854775807 := by have := h1.2; omega
    clear hp
    go_enter Tryd.func23, Tryd.ntmps23
    go_wp2_with (fail)
    refine (HS.out _).mono ?_
    rintro e w1 ⟨rfl, rfl⟩
    go_wp2_with (fail)
    refine (HO.out _).mono ?_
    rintro e w2 ⟨rfl, hb2⟩
    go_wp2_with (fail)
    refine (HX.out _ hx).mono ?_
    rintro e w3 ⟨rfl, hb3⟩
    go_wp2_with (fail)
    go_ret2
    exact ⟨ret_v HV.out, ((Below.refl _ w).alloc (Nat.le_refl _) _).trans ((hb2.trans (hb3.mono hb2.size)).mono (by simp))⟩
  have hp : valP d t u x = (valI d t u x, true) := if_pos ⟨h2, h1.1, by have := h1.2; omega⟩
  rw [hp] at HX
  have HV := Lib.hid (show wholeT b d t u x = (wrap64 (b + valI d t u x), true) from if_pos ⟨h1, h2⟩)
  have hx : x ≤ 9223372036854775807 := by have := h1.2; omega
  generalize valI d t u x = v at *
  clear hp h1 h2
  go_enter Tryd.func23, Tryd.ntmps23
  go_wp2_with (fail)
  refine (HS.out _).mono ?_
  rintro e w1 ⟨rfl, rfl⟩
  go_wp2_with (fail)
  refine (HO.out _).mono ?_
  rintro e w2 ⟨rfl, hb2⟩
  go_wp2_with (fail)
  refine (HX.out _ hx).mono ?_
  rintro e w3 ⟨rfl, hb3⟩
  obtain ⟨r0, r1, r2, r3, r4, r5⟩ := boxed6 (hb2.trans (hb3.mono hb2.size))
  go_wp2_with (fail)
  go_ret2
  exact ⟨ret_v HV.out, ((Below.refl _ w).alloc (Nat.le_refl _) _).trans ((hb2.trans (hb3.mono hb2.size)).mono (by simp))⟩
/-- The slice value with address A and length n reads as the symbols xs, and lies below block B. -/
def RR (w : World) (B : Nat) (A : Option Addr) (n : Nat) (xs : List Int) : Prop :=
  xs.length = n ∧ (∀ x ∈ xs, -2147483648 ≤ x ∧ x ≤ 2147483647) ∧ (0 < n → ∃ b off, A = some ⟨b, off, none⟩ ∧ b < B ∧ ∀ (j : Nat) (h : j < xs.length), w.cell? ⟨b, off + j, none⟩ = some (.int .i32 xs[j]))
section
variable {w w' : World} {B B' n : Nat} {A : Option Addr} {l : List Int}
theorem RR.nil_ (w : World) (B : Nat) (A : Option Addr) : RR w B A 0 [] := ⟨rfl, fun x h => absurd h (List.not_mem_nil), fun h => absurd h (by omega)⟩
theorem RR.at_ {k : Nat} (h : RR w B A n l) (hk : k < n) : ∃ b off, ∃ x : Int, A = some ⟨b, off, none⟩ ∧ b < B ∧ (∃ hl : k < l.length, l[k] = x) ∧ w.cell? ⟨b, off + k, none⟩ = some (.int .i32 x) ∧ -2147483648 ≤ x ∧ x ≤ 2147483647 := by
  obtain ⟨b, off, e, hb, hc⟩ := h.2.2 (by omega)
  have hl : k < l.length := by have := h.1; omega
  exact ⟨b, off, l[k], e, hb, ⟨hl, rfl⟩, hc k hl, h.2.1 _ (List.getElem_mem hl)⟩
theorem RR.keep (h : RR w B A n l) (hk : ∀ p : Addr, p.block < B → w'.cell? p = w.cell? p) : RR w' B A n l :=
  ⟨h.1, h.2.1, fun hn => by
    obtain ⟨b, off, e, hb, hc⟩ := h.2.2 hn
    exact ⟨b, off, e, hb, fun j hj => (hk _ hb).trans (hc j hj)⟩⟩
theorem RR.more (h : RR w B A n l) (hB : B ≤ B') : RR w B' A n l :=
  ⟨h.1, h.2.1, fun hn => by
    obtain ⟨b, off, e, hb, hc⟩ := h.2.2 hn
    exact ⟨b, off, e, by omega, hc⟩⟩
theorem RR.below (h : RR w B A n l) (hb : Below B w w') : RR w' B A n l := h.keep fun _ hp => hb.cell hp
theorem RR.belowM (h : RR w w.heap.size A n l) (hb : Below w.heap.size w w') : RR w' w'.heap.size A n l := (h.below hb).more hb.size
end

def atI (xs : List Int) (a : Int) : Int := xs.getD a.toNat 0
theorem atI_get {xs : List Int} {a x : Int} {k : Nat} (ha : a = k) (h : ∃ hl : k < xs.length, xs[k] = x) : atI xs a = x := by
  obtain ⟨hl, e⟩ := h
  unfold atI
  rw [ha, Int.toNat_natCast]
  simp [hl, e]
/-- The inner value: the sum of the parts' values, that wraps round. -/
def innerT (xs : List Int) (s : Int) (l : List PT) : Int := l.foldl (fun acc q => wrap64 (acc + valI q.2.1 q.2.2.1 q.2.2.2 (atI xs q.1))) s
def AllS (xs : List Int) (k : Nat) : Prop := ∀ x ∈ xs.take k, Sy x
noncomputable def symB (xs : List Int) : Bool := @decide (∀ x ∈ xs, Sy x) (Classical.propDecidable _)
theorem symB_true {xs : List Int} (h : AllS xs xs.length) : symB xs = true := by
  unfold symB
  have : ∀ x ∈ xs, Sy x := fun x hx => h x (by rw [List.take_length]; exact hx)
  simpa using this
theorem symB_false {xs : List Int} {k : Nat} {x : Int} (hk : ∃ hl : k < xs.length, xs[k] = x) (hx : ¬ Sy x) : symB xs = false := by
  obtain ⟨hl, e⟩ := hk
  unfold symB
  have : ¬ ∀ x ∈ xs, Sy x := fun h => hx (e ▸ h _ (List.getElem_mem hl))
  simpa using this
theorem allS_next {xs : List Int} {k : Nat} {x : Int} (h : AllS xs k) (hk : ∃ hl : k < xs.length, xs[k] = x) (hx : Sy x) : AllS xs (k + 1) := by
  obtain ⟨hl, e⟩ := hk
  intro y hy
  rw [List.take_succ_eq_append_getElem hl, List.mem_append] at hy
  rcases hy with hy | hy
  · exact h y hy
  · rw [List.mem_singleton, e] at hy
    subst hy
    exact hx
noncomputable def valueT (b d t u s : Int) (l : List PT) (xs : List Int) : Int × Bool := if symB xs = true ∧ partsB xs.length l = true then wholeT b d t u (innerT xs s l) else (0, false)
def VRel1 (xs : List Int) (B : Nat) (w2 : World) (iv : Value) (wr : World) : Prop := ∃ k : Nat, k ≤ xs.length ∧ iv = .int .i64 k ∧ AllS xs k ∧ Below B w2 wr
def VRel2 (xs : List Int) (s : Int) (l : List PT) (B : Nat) (w2 : World) (sv iv : Value) (wr : World) : Prop := ∃ k : Nat, k ≤ l.length ∧ iv = .int .i64 k ∧ sv = .int .i64 (innerT xs s (l.take k)) ∧ Below B w2 wr
theorem inner_next {xs : List Int} {s : Int} {l : List PT} {k : Nat} {a d t u : Int} (hk : ∃ hl : k < l.length, l[k] = (a, d, t, u)) : innerT xs s (l.take (k + 1)) = wrap64 (innerT xs s (l.take k) + valI d t u (atI xs a)) := by
  obtain ⟨hl, e⟩ := hk
  unfold innerT
  rw [List.take_succ_eq_append_getElem hl, List.foldl_append, e]
  rfl
set_option maxHeartbeats 8000000 in
theorem tvalue_any (b d t u s : Int) (A B : Option Addr) (n c m e : Nat) (l : List PT) (xs : List Int) (w : World) (h : RP w w.heap.size A n l) (hn : n ≤ maxLen) (h' : RR w w.heap.size B m xs) (hm : m ≤ maxLen) :
    Calls Tryd.prog 8 #[trm b d t u s A n c, .slice B m e] w (RetV (valueT b d t u s l xs) w) := by
  have HP := Lib.hid (fun W (hW : RP W W.heap.size A n l) => tparts_any b d t u s A n c l m W hW hn)
  unfold maxLen at hn hm
  have hlen := h.1
  have hlen' := h'.1
  subst hlen hlen'
  have hbw : Below w.heap.size w (w.alloc (.cells (tcells b d t u s A l.length c) 24)) := (Below.refl _ w).alloc (Nat.le_refl _) _
  obtain ⟨w0, hw0⟩ : ∃ w0, w.alloc (.cells (tcells b d t u s A l.length c) 24) = w0 := ⟨_, rfl⟩
  have X6 := Lib.hid (fun W (hb : Below w0.heap.size w0 W) => show Boxed6 W w.heap.size b d t u s A l.length c from by rw [← hw0] at hb; exact boxed6 hb)
  rw [hw0] at hbw
  have HW := Lib.hid hbw
  have H := Lib.hid (h.belowM hbw)
  have H' := Lib.hid (h'.belowM hbw)
  clear h h' hbw
  go_enter Tryd.func8, Tryd.ntmps8
  go_wp2_with (fail)
  go_loopw [15] (fun i wr => VRel1 xs w0.heap.size w0 i wr) (fun i _ => xs.length - (intOf i).toNat)
  case atStart => exact ⟨0, Nat.zero_le _, rfl, fun q hq => by simp at hq, Below.refl _ _⟩
  case round =>
    obtain ⟨k, hk, rfl, hA, hb⟩ := hrel
    have HA := Lib.hid hA
    have HB := Lib.hid hb
    have hz := hb.size
    by_cases hlt : k < xs.length
    · obtain ⟨bb, off, x, hA', hbB, hlk, c1, x1, x2⟩ := (H'.out.below hb).at_ hlt
      have HLK := Lib.hid hlk
      have HS := Lib.hid (symbol_any x)
      subst hA'
      clear hA hb hlk
      by_cases hx : Sy x
      · rw [decide_eq_true hx] at HS
        have HX := Lib.hid hx
        clear hx
        go_wp2_with (fail)
        refine (HS.out _).mono ?_
        rintro e w2 ⟨rfl, rfl⟩
        go_wp2_with (fail)
        go_roundw
        case rel => exact ⟨k + 1, by omega, by go_num, allS_next HA.out HLK.out HX.out, HB.out⟩
        case measure => simp [intOf]; omega
      · rw [decide_eq_false hx] at HS
        have HV := Lib.hid (show valueT b d t u s l xs = (0, false) from if_neg (fun h => by rw [symB_false HLK.out hx] at h; exact absurd h.1 (by decide)))
        clear hx
        go_wp2_with (fail)
        refine (HS.out _).mono ?_
        rintro e w2 ⟨rfl, rfl⟩
        go_wp2_with (fail)
        go_ret2
        exact ⟨ret_v HV.out, HW.out.trans (HB.out.mono HW.out.size)⟩
    · have hkl : k = xs.length := by omega
      subst hkl
      have HS := Lib.hid (symB_true hA)
      obtain ⟨r0, r1, r2, r3, r4, r5⟩ := X6.out wr hb
      clear hA hb
      rcases hr : partsB xs.length l with _ | _
      · rw [hr] at HP
        have HV := Lib.hid (show valueT b d t u s l xs = (0, false) from if_neg (fun h => by rw [hr] at h; exact absurd h.2 (by decide)))
        clear hr
        go_wp2_with (fail)
        refine (HP.out _ (H.out.belowM HB.out)).mono ?_
        rintro e w2 ⟨rfl, hb2⟩
        go_wp2_with (fail)
        go_ret2
        exact ⟨ret_v HV.out, HW.out.trans ((HB.out.trans (hb2.mono hz)).mono HW.out.size)⟩
      · rw [hr] at HP
        have HV := Lib.hid (show valueT b d t u s l xs = wholeT b d t u (innerT xs s l) from if_pos ⟨HS.out, hr⟩)
        have HR := Lib.hid hr
        clear hr
        go_wp2_with (fail)
        refine (HP.out _ (H.out.belowM HB.out)).mono ?_
        rintro e w2 ⟨rfl, hb2⟩
        have hbx := HB.out.trans (hb2.mono hz)
        obtain ⟨q0, q1, q2, q3, q4, q5⟩ := X6.out w2 hbx
        have HBX := Lib.hid hbx
        clear hbx hb2 r0 r1 r2 r3 r4 r5
        go_wp2_with (fail)
        obtain ⟨w3, hw3⟩ : ∃ w3, w3 = w2 := ⟨_, rfl⟩
        subst hw3
        have hz3 := HBX.out.size
        go_loopw [8, 34] (fun sv iv wr => VRel2 xs s l w3.heap.size w3 sv iv wr) (fun _ i _ => l.length - (intOf i).toNat)
        case atStart => exact ⟨0, Nat.zero_le _, rfl, rfl, Below.refl _ _⟩
        case round =>
          obtain ⟨k, hk, rfl, rfl, hb⟩ := hrel
          have hbx := HBX.out.trans (hb.mono hz3)
          obtain ⟨r0, r1, r2, r3, r4, r5⟩ := X6.out wr hbx
          have HB2 := Lib.hid hbx
          have hz4 := hbx.size
          obtain ⟨acc, hacc⟩ : ∃ acc, innerT xs s (l.take k) = acc := ⟨_, rfl⟩
          rw [hacc]
          by_cases hlt : k < l.length
          · obtain ⟨bb, off, a', d', t', u', hA', hbB, hlk, c1, c2, c3, c4⟩ := (H.out.below hbx).at_ hlt
            have HLK := Lib.hid hlk
            have hrt : rightB a' d' t' u' xs.length = true := by
              have := List.all_eq_true.1 HR.out l[k] (List.getElem_mem hlt)
              obtain ⟨_, e1⟩ := hlk
              rw [e1] at this
              exact this
            unfold rightB at hrt
            obtain ⟨ra, rb, rc⟩ := of_decide_eq_true hrt
            obtain ⟨j, hj⟩ := Int.eq_ofNat_of_zero_le ra
            subst hj
            have hjl : j < xs.length := by omega
            obtain ⟨b2, off2, x, hB', hbB2, hxk, y1, x1, x2⟩ := (H'.out.below hbx).at_ hjl
            subst hA' hB'
            have hsy : Sy x := by
              obtain ⟨_, e1⟩ := hxk
              rw [← e1]
              have := HA.out
              rw [AllS, List.take_length] at this
              exact this _ (List.getElem_mem _)
            have HI := Lib.hid (show innerT xs s (l.take (k + 1)) = wrap64 (acc + valI d' t' u' x) from by rw [inner_next HLK.out, hacc, atI_get rfl hxk])
            have hx9 : x ≤ 9223372036854775807 := by omega
            have HX := Lib.hid (show ∀ W, Calls Tryd.prog 22 #[prt j d' t' u', .int .i64 (IntKind.i64.wrap x)] W (RetV (valP d' t' u' x) W) from fun W => by rw [IntWalk.i64_in x (by omega)]; exact value_any j d' t' u' x W hx9)
            have hp : valP d' t' u' x = (valI d' t' u' x, true) := if_pos ⟨rc, hsy.1, by have := hsy.2; omega⟩
            rw [hp] at HX
            have hvb := valI_bound rc x
            generalize valI d' t' u' x = v at *
            have HC := Lib.hid (show ∀ W, Below wr.heap.size wr W → W.cell? ⟨b2, off2 + j, none⟩ = some (.int .i32 x) from fun W hW => (hW.cell (by simp only; omega)).trans y1)
            have HBR := Lib.hid hb
            obtain ⟨w5, hw5⟩ : ∃ w5, wr.alloc (.cells #[.int .i64 j, .int .i64 d', .int .i64 t', .int .i64 u'] 39) = w5 := ⟨_, rfl⟩
            have h45 : Below wr.heap.size wr w5 := by rw [← hw5]; exact (Below.refl _ _).alloc (Nat.le_refl _) _
            have Q5 := Lib.hid (show ∀ W, Below w5.heap.size w5 W → W.cell? ⟨wr.heap.size, 0, none⟩ = some (.int .i64 j) ∧ W.cell? ⟨wr.heap.size, 1, none⟩ = some (.int .i64 d') ∧ W.cell? ⟨wr.heap.size, 2, none⟩ = some (.int .i64 t') ∧ W.cell? ⟨wr.heap.size, 3, none⟩ = some (.int .i64 u') ∧ W.cell? ⟨b2, off2 + j, none⟩ = some (.int .i32 x) from fun W hW => by
              have hc := HC.out W (h45.trans (hW.mono h45.size))
              rw [← hw5] at hW
              obtain ⟨z0, z1, z2, z3⟩ := boxed4 hW
              exact ⟨z0, z1, z2, z3, hc⟩)
            have H45 := Lib.hid h45
            obtain ⟨z0, z1, z2, z3, z4⟩ := Q5.out w5 (Below.refl _ _)
            clear hrt hp rc hxk hlk hacc hb hbx hsy q0 q1 q2 q3 q4 q5 h45 HC
            go_wp2_with (fail)
            go_region_held3 (fun w' => w'.cell? ⟨wr.heap.size, 0, none⟩ = some (.int .i64 j) ∧ w'.cell? ⟨wr.heap.size, 1, none⟩ = some (.int .i64 d') ∧ w'.cell? ⟨wr.heap.size, 2, none⟩ = some (.int .i64 t') ∧ w'.cell? ⟨wr.heap.size, 3, none⟩ = some (.int .i64 u') ∧ w'.cell? ⟨b2, off2 + j, none⟩ = some (.int .i32 x))
              (first | go_keep | exact Q5.out _ (Below.refl _ _).drew | exact Q5.out _ hB4)
              (first
                | (go_at_call 22; (with_reducible refine (HX.out _).mono ?_); rintro q4 w4 ⟨rfl, hb4⟩; have hB4 : Below w5.heap.size w5 w4 := (Below.refl _ w5).drew.trans (hb4.mono (by simp))))
            have HB4 := Lib.hid (HBR.out.trans ((H45.out.trans (hB4.mono H45.out.size)).mono HBR.out.size))
            clear hb4 hB4
            go_wp2_with (fail)
            go_roundw
            case rel => exact ⟨k + 1, by omega, by go_num, by rw [HI.out], HB4.out⟩
            case measure => simp [intOf]; omega
          · have hkl : k = l.length := by omega
            subst hkl
            have HI := Lib.hid (show innerT xs s l = acc from by rw [← hacc, List.take_length])
            have HT := Lib.hid (twhole_any b d t u s A l.length c acc)
            clear hacc hb hbx
            go_wp2_with (fail)
            refine (HT.out _).mono ?_
            rintro e w4 ⟨rfl, hb4⟩
            go_wp2_with (fail)
            go_ret2
            exact ⟨ret_v (by rw [HV.out, HI.out]), HW.out.trans ((HB2.out.trans (hb4.mono hz4)).mono HW.out.size)⟩
end Go.Proofs.YtiddgfcoankpjaaDoor.Te
/- The walks of term.copies, numbersRight, Right, and of the document's Numbers, Right. -/
namespace Go.Proofs.YtiddgfcoankpjaaDoor.Te
set_option maxRecDepth 100000
open Go Go.RowKit Go.Proofs.YtiddgfcoankpjaaDoor.Sp Go.Proofs.YtiddgfcoankpjaaDoor.Pa
attribute [local go_sem] part_guard part_eq

def copyB : List PT → Bool
  | [] => true
  | [p] => takesAll p
  | _ => false
/-- Each part's Up is above the one's ahead of it. -/
def RiseTo (l : List PT) (k : Nat) : Prop := ∀ i, (h : i + 1 < l.length) → i + 1 < k → l[i].2.2.2 < l[i + 1].2.2.2
noncomputable def riseB (l : List PT) : Bool := @decide (RiseTo l l.length) (Classical.propDecidable _)
theorem riseB_true {l : List PT} {k : Nat} (h : RiseTo l k) (hk : l.length ≤ k) : riseB l = true := by
  unfold riseB
  have : RiseTo l l.length := fun i h1 h2 => h i h1 (by omega)
  simpa using this
theorem riseB_false {l : List PT} {i : Nat} {a d t u a' d' t' u' : Int} (h0 : ∃ hl : i < l.length, l[i] = (a, d, t, u)) (h1 : ∃ hl : i + 1 < l.length, l[i + 1] = (a', d', t', u')) (hu : u' ≤ u) : riseB l = false := by
  obtain ⟨l0, e0⟩ := h0
  obtain ⟨l1, e1⟩ := h1
  unfold riseB
  have : ¬ RiseTo l l.length := fun h => by
    have := h i l1 l1
    rw [e0, e1] at this
    simp only at this
    omega
  simpa using this
theorem rise_next {l : List PT} {i : Nat} {a d t u a' d' t' u' : Int} (h : RiseTo l (i + 1)) (h0 : ∃ hl : i < l.length, l[i] = (a, d, t, u)) (h1 : ∃ hl : i + 1 < l.length, l[i + 1] = (a', d', t', u')) (hu : u < u') : RiseTo l (i + 2) := by
  obtain ⟨l0, e0⟩ := h0
  obtain ⟨l1, e1⟩ := h1
  intro j hj hk
  by_cases e : j = i
  · subst e
    rw [e0, e1]
    exact hu
  · exact h j hj (by omega)
noncomputable def numB (b d t u s : Int) (l : List PT) : Bool := decide (Sm b) && (decide (Sm s) && (decide (Bits d t u) && (decide (l.length ≤ 4) && riseB l)))
def NRel (l : List PT) (B : Nat) (w2 : World) (i : Value) (wr : World) : Prop :=
  ∃ k : Nat, (k + 1 ≤ l.length ∨ k = 0) ∧ i = .int .i64 ((k + 1 : Nat) : Int) ∧ RiseTo l (k + 1) ∧ Below B w2 wr
set_option maxHeartbeats 4000000 in
theorem tnum_any (b d t u s : Int) (A : Option Addr) (n c : Nat) (l : List PT) (w : World) (h : RP w w.heap.size A n l) (hn : n ≤ maxLen) :
    Calls Tryd.prog 14 #[trm b d t u s A n c] w (RetB (numB b d t u s l) w) := by
  unfold maxLen at hn
  have hlen := h.1
  subst hlen
  have hbw : Below w.heap.size w (w.alloc (.cells (tcells b d t u s A l.length c) 24)) := (Below.refl _ w).alloc (Nat.le_refl _) _
  obtain ⟨w0, hw0⟩ : ∃ w0, w.alloc (.cells (tcells b d t u s A l.length c) 24) = w0 := ⟨_, rfl⟩
  have X6 := Lib.hid (fun W (hb : Below w0.heap.size w0 W) => show Boxed6 W w.heap.size b d t u s A l.length c from by rw [← hw0] at hb; exact boxed6 hb)
  rw [hw0] at hbw
  have hz0 : w.heap.size < w0.heap.size := by rw [← hw0]; simp
  have HW := Lib.hid hbw
  have H := Lib.hid (h.belowM hbw)
  have HB0 := Lib.hid (Below.refl w0.heap.size w0)
  obtain ⟨r0, r1, r2, r3, r4, r5⟩ := X6.out w0 (Below.refl _ _)
  clear h hbw
  have HS := Lib.hid (small_any b)
  have HS2 := Lib.hid (small_any s)
  have HO := Lib.hid (outer_any b d t u s A l.length c)
  have HR := Lib.hid (right_any 0 d t u 1)
  by_cases h1 : Sm b
  case neg =>
    rw [decide_eq_false h1] at HS
    go_enter Tryd.func14, Tryd.ntmps14
    go_wp2_with (fail)
    refine (HS.out _).mono ?_
    rintro e w1 ⟨rfl, rfl⟩
    go_wp2_with (fail)
    go_ret
    exact ⟨ret_bool (by simp [numB, h1]), HW.out⟩
  rw [decide_eq_true h1] at HS
  by_cases h2 : Sm s
  case neg =>
    rw [decide_eq_false h2] at HS2
    go_enter Tryd.func14, Tryd.ntmps14
    go_wp2_with (fail)
    refine (HS.out _).mono ?_
    rintro e w1 ⟨rfl, rfl⟩
    go_wp2_with (fail)
    refine (HS2.out _).mono ?_
    rintro e w1 ⟨rfl, rfl⟩
    go_wp2_with (fail)
    go_ret
    exact ⟨ret_bool (by simp [numB, h2]), HW.out⟩
  rw [decide_eq_true h2] at HS2
  by_cases h3 : Bits d t u
  case neg =>
    rw [show rightB 0 d t u 1 = false from (by simp [rightB, h3])] at HR
    go_enter Tryd.func14, Tryd.ntmps14
    go_wp2_with (fail)
    refine (HS.out _).mono ?_
    rintro e w1 ⟨rfl, rfl⟩
    go_wp2_with (fail)
    refine (HS2.out _).mono ?_
    rintro e w1 ⟨rfl, rfl⟩
    go_wp2_with (fail)
    refine (HO.out _).mono ?_
    rintro e w1 ⟨rfl, hb1⟩
    go_wp2_with (fail)
    refine (HR.out _).mono ?_
    rintro e w2 ⟨rfl, hb2⟩
    go_wp2_with (fail)
    go_ret
    exact ⟨ret_bool (by simp [numB, h3]), HW.out.trans ((hb1.trans (hb2.mono hb1.size)).mono HW.out.size)⟩
  rw [show rightB 0 d t u 1 = true from (by simp [rightB, h3])] at HR
  by_cases h4 : l.length ≤ 4
  case neg =>
    go_enter Tryd.func14, Tryd.ntmps14
    go_wp2_with (fail)
    refine (HS.out _).mono ?_
    rintro e w1 ⟨rfl, rfl⟩
    go_wp2_with (fail)
    refine (HS2.out _).mono ?_
    rintro e w1 ⟨rfl, rfl⟩
    go_wp2_with (fail)
    refine (HO.out _).mono ?_
    rintro e w1 ⟨rfl, hb1⟩
    go_wp2_with (fail)
    refine (HR.out _).mono ?_
    rintro e w2 ⟨rfl, hb2⟩
    have hb := hb1.trans (hb2.mono hb1.size)
    obtain ⟨q0, q1, q2, q3, q4, q5⟩ := X6.out w2 hb
    have HBB := Lib.hid hb
    clear hb hb1 hb2 r0 r1 r2 r3 r4 r5
    go_wp2_with (fail)
    go_ret
    exact ⟨ret_bool (by simp [numB, h4]), HW.out.trans (HBB.out.mono HW.out.size)⟩
  have HN := Lib.hid (show numB b d t u s l = riseB l from by simp [numB, h1, h2, h3, h4])
  clear h1 h2 h3
  go_enter Tryd.func14, Tryd.ntmps14
  go_wp2_with (fail)
  refine (HS.out _).mono ?_
  rintro e w1 ⟨rfl, rfl⟩
  go_wp2_with (fail)
  refine (HS2.out _).mono ?_
  rintro e w1 ⟨rfl, rfl⟩
  go_wp2_with (fail)
  refine (HO.out _).mono ?_
  rintro e w1 ⟨rfl, hb1⟩
  go_wp2_with (fail)
  refine (HR.out _).mono ?_
  rintro e w2 ⟨rfl, hb2⟩
  have hb := hb1.trans (hb2.mono hb1.size)
  obtain ⟨q0, q1, q2, q3, q4, q5⟩ := X6.out w2 hb
  have HBB := Lib.hid hb
  clear hb hb1 hb2 r0 r1 r2 r3 r4 r5
  go_wp2_with (fail)
  go_loopw [3] (fun i wr => NRel l w0.heap.size w0 i wr) (fun i _ => l.length + 1 - (intOf i).toNat)
  case atStart => exact ⟨0, .inr rfl, rfl, fun i _ hi => by omega, HBB.out⟩
  case round =>
    obtain ⟨k, hk, rfl, hA, hb⟩ := hrel
    have HA := Lib.hid hA
    have HB := Lib.hid hb
    have hz := hb.size
    obtain ⟨r0, r1, r2, r3, r4, r5⟩ := X6.out wr hb
    by_cases hlt : k + 1 < l.length
    · obtain ⟨bb, off, a', d', t', u', hA', hbB, hlk, c1, c2, c3, c4⟩ := (H.out.below hb).at_ hlt
      obtain ⟨bb', off', a'', d'', t'', u'', hA'', hbB', hlk', c1', c2', c3', c4'⟩ := (H.out.below hb).at_ (k := k) (by omega)
      subst hA'
      injection hA'' with hA''
      injection hA'' with e1 e2 _
      subst e1 e2
      have HLK := Lib.hid hlk
      have HLK' := Lib.hid hlk'
      clear hA hb hlk hlk' q0 q1 q2 q3 q4 q5 hk
      by_cases a4 : u' ≤ u''
      · go_wp2_with (fail)
        go_quiet (fail)
        go_wp2_with (fail)
        go_ret
        exact ⟨ret_bool (HN.out.trans (riseB_false HLK'.out HLK.out a4)).symm, HW.out.trans ((below_drewN HB.out _).mono HW.out.size)⟩
      · go_wp2_with (fail)
        go_quiet (fail)
        go_wp2_with (fail)
        go_roundw
        case rel => exact ⟨k + 1, by omega, by go_num, rise_next HA.out HLK'.out HLK.out (by omega), below_drewN HB.out _⟩
        case measure => simp [intOf]; omega
    · have HT := Lib.hid (riseB_true hA (by omega))
      clear hA hb
      go_wp2_with (fail)
      go_ret
      exact ⟨ret_bool (HN.out.trans HT.out).symm, HW.out.trans (HB.out.mono HW.out.size)⟩
end Go.Proofs.YtiddgfcoankpjaaDoor.Te
/- What parts come to together, of one symbol: plainly. No function of the program is named here. -/
namespace Go.Proofs.YtiddgfcoankpjaaDoor.Fi
open Go.Proofs.YtiddgfcoankpjaaDoor.Sp Go.Proofs.YtiddgfcoankpjaaDoor.Pa Go.Proofs.YtiddgfcoankpjaaDoor.Te

theorem div_low {N D : Int} (hN : 1 ≤ N) (hD : 1 ≤ D) (hdvd : N ∣ D ∨ D ∣ N) (m y : Int) (h0 : 0 ≤ y) (h1 : y < N) : (N * m + y) / D = (N * m) / D + y / D := by
  rcases hdvd with ⟨c, rfl⟩ | ⟨c, rfl⟩
  · have hc : 0 < c := by
      rcases Int.lt_or_le 0 c with h | h
      · exact h
      · have := Int.mul_le_mul_of_nonneg_left h (show 0 ≤ N by omega)
        omega
    rw [← Int.ediv_ediv_of_nonneg (by omega : 0 ≤ N), ← Int.ediv_ediv_of_nonneg (by omega : 0 ≤ N), ← Int.ediv_ediv_of_nonneg (by omega : 0 ≤ N)]
    rw [Int.add_comm, Int.add_mul_ediv_left _ _ (by omega : N ≠ 0), Int.ediv_eq_zero_of_lt h0 h1, Int.mul_ediv_cancel_left _ (by omega : N ≠ 0)]
    simp
  · rw [Int.mul_assoc, Int.add_comm, Int.add_mul_ediv_left _ _ (by omega : D ≠ 0), Int.mul_ediv_cancel_left _ (by omega : D ≠ 0), Int.add_comm]
theorem pw_dvd {a b : Int} (h0 : 0 ≤ a) (h : a ≤ b) : pw a ∣ pw b := ⟨pw (b - a), by rw [← pw_add a (b - a) h0 (by omega)]; congr 1; omega⟩
theorem mod_low {N T : Int} (hN : 1 ≤ N) (hT : 1 ≤ T) (hdvd : N ∣ T ∨ T ∣ N) (m y : Int) (h0 : 0 ≤ y) (h1 : y < N) : (N * m + y) % T = (N * m) % T + y % T := by
  have h2 := div_low hN hT hdvd m y h0 h1
  have e1 := Int.mul_ediv_add_emod (N * m + y) T
  have e2 := Int.mul_ediv_add_emod (N * m) T
  have e3 := Int.mul_ediv_add_emod y T
  rw [h2, Int.mul_add] at e1
  omega
/-- Bits below the n-th add what they are alone. -/
theorem val_low {d t u n : Int} (hd : 0 ≤ d) (ht : 0 ≤ t) (hn : 0 ≤ n) (m y : Int) (h0 : 0 ≤ y) (h1 : y < pw n) : valI d t u (pw n * m + y) = valI d t u (pw n * m) + valI d t u y := by
  unfold valI
  have hdv : pw n ∣ pw d ∨ pw d ∣ pw n := by
    rcases Int.le_total n d with h | h
    · exact .inl (pw_dvd hn h)
    · exact .inr (pw_dvd hd h)
  rw [div_low (pw_pos n) (pw_pos d) hdv m y h0 h1]
  rw [← Int.add_mul]
  congr 1
  rcases Int.le_total n d with h | h
  · have hy : y / pw d = 0 := Int.ediv_eq_zero_of_lt h0 (by have := pw_mono n d h; omega)
    rw [hy]
    simp
  · have e : pw n = pw (n - d) * pw d := by rw [← pw_add _ _ (by omega) hd]; congr 1; omega
    have e2 : pw n * m / pw d = pw (n - d) * m := by
      rw [e, Int.mul_right_comm, Int.mul_ediv_cancel _ (by have := pw_pos d; omega)]
    rw [e2]
    have hdv2 : pw (n - d) ∣ pw t ∨ pw t ∣ pw (n - d) := by
      rcases Int.le_total (n - d) t with h | h
      · exact .inl (pw_dvd (by omega) h)
      · exact .inr (pw_dvd ht h)
    refine mod_low (pw_pos _) (pw_pos t) hdv2 m (y / pw d) (Int.ediv_nonneg h0 (by have := pw_pos d; omega)) ?_
    exact (Int.ediv_lt_iff_lt_mul (by have := pw_pos d; omega)).2 (by rw [← e]; exact h1)
/-- What parts come to together, of one symbol. -/
def totT (ps : List PT) (x : Int) : Int := (ps.map fun q => valI q.2.1 q.2.2.1 q.2.2.2 x).sum
def BitsAll (ps : List PT) : Prop := ∀ q ∈ ps, Bits q.2.1 q.2.2.1 q.2.2.2
theorem totT_nil (x : Int) : totT [] x = 0 := rfl
theorem totT_append (a b : List PT) (x : Int) : totT (a ++ b) x = totT a x + totT b x := by unfold totT; rw [List.map_append, List.sum_append]
theorem totT_one (q : PT) (x : Int) : totT [q] x = valI q.2.1 q.2.2.1 q.2.2.2 x := by simp [totT]
theorem totT_cons (q : PT) (ps : List PT) (x : Int) : totT (q :: ps) x = valI q.2.1 q.2.2.1 q.2.2.2 x + totT ps x := by simp [totT]
theorem totT_bound : ∀ {ps : List PT}, BitsAll ps → ∀ x, 0 ≤ totT ps x ∧ totT ps x ≤ 66060288 * ps.length
  | [], _, x => by simp [totT]
  | q :: ps, h, x => by
    have h1 := valI_bound (h q (List.mem_cons_self ..)) x
    have h2 := totT_bound (fun r hr => h r (List.mem_cons_of_mem _ hr)) x (ps := ps)
    rw [totT_cons, List.length_cons]
    omega
theorem tot_low : ∀ {ps : List PT}, BitsAll ps → ∀ {n : Int}, 0 ≤ n → ∀ m y, 0 ≤ y → y < pw n → totT ps (pw n * m + y) = totT ps (pw n * m) + totT ps y
  | [], _, _, _, _, _, _, _ => rfl
  | q :: ps, h, n, hn, m, y, h0, h1 => by
    have hq := h q (List.mem_cons_self ..)
    have h2 := tot_low (fun r hr => h r (List.mem_cons_of_mem _ hr)) (ps := ps) hn m y h0 h1
    rw [totT_cons, totT_cons, totT_cons, h2, val_low hq.1 (by have := hq.2.2.1; omega) hn m y h0 h1]
    omega
/-- What parts come to, of the numbers of so many bits. -/
def LowS (ps : List PT) (n : Nat) (y : Int) : Prop := ∃ z, 0 ≤ z ∧ z < pw n ∧ totT ps z = y
theorem tot_zero : ∀ ps : List PT, totT ps 0 = 0
  | [] => rfl
  | q :: ps => by rw [totT_cons, tot_zero ps]; simp [valI]
theorem lowS_zero (ps : List PT) (y : Int) : LowS ps 0 y ↔ y = 0 := by
  unfold LowS
  have h0 : pw ((0 : Nat) : Int) = 1 := pw_zero
  rw [h0]
  constructor
  · rintro ⟨z, h0, h1, rfl⟩
    obtain rfl : z = 0 := by omega
    exact tot_zero ps
  · rintro rfl
    exact ⟨0, by omega, by omega, tot_zero ps⟩
theorem lowS_succ {ps : List PT} (h : BitsAll ps) (n : Nat) (y : Int) : LowS ps (n + 1) y ↔ LowS ps n y ∨ LowS ps n (y - totT ps (pw n)) := by
  unfold LowS
  have e : pw ((n + 1 : Nat) : Int) = 2 * pw n := by rw [Int.natCast_add]; exact pw_succ n (Int.natCast_nonneg _)
  rw [e]
  constructor
  · rintro ⟨z, h0, h1, rfl⟩
    rcases Int.lt_or_le z (pw n) with q | q
    · exact .inl ⟨z, h0, q, rfl⟩
    · refine .inr ⟨z - pw n, by omega, by omega, ?_⟩
      have := tot_low h (Int.natCast_nonneg n) 1 (z - pw n) (by omega) (by omega)
      rw [Int.mul_one, show pw n + (z - pw n) = z by omega] at this
      omega
  · rintro (⟨z, h0, h1, rfl⟩ | ⟨z, h0, h1, h2⟩)
    · exact ⟨z, h0, by omega, rfl⟩
    · refine ⟨pw n + z, by omega, by omega, ?_⟩
      have := tot_low h (Int.natCast_nonneg n) 1 z h0 h1
      rw [Int.mul_one] at this
      omega
/-- What parts come to, of the numbers from a to below b. -/
def SegS (ps : List PT) (a b : Int) (y : Int) : Prop := ∃ x, a ≤ x ∧ x < b ∧ totT ps x = y
theorem segS_piece {ps : List PT} (h : BitsAll ps) {n : Nat} {a m : Int} (ha : a = pw n * m) (y : Int) : SegS ps a (a + pw n) y ↔ LowS ps n (y - totT ps a) := by
  subst ha
  unfold SegS LowS
  constructor
  · rintro ⟨x, h0, h1, rfl⟩
    refine ⟨x - pw n * m, by omega, by omega, ?_⟩
    have := tot_low h (Int.natCast_nonneg n) m (x - pw n * m) (by omega) (by omega)
    rw [show pw n * m + (x - pw n * m) = x by omega] at this
    omega
  · rintro ⟨z, h0, h1, h2⟩
    refine ⟨pw n * m + z, by omega, by omega, ?_⟩
    have := tot_low h (Int.natCast_nonneg n) m z h0 h1
    omega
theorem segS_append {ps : List PT} {a b c : Int} (hab : a ≤ b) (hbc : b ≤ c) (y : Int) : SegS ps a c y ↔ SegS ps a b y ∨ SegS ps b c y := by
  unfold SegS
  constructor
  · rintro ⟨x, h0, h1, h2⟩
    rcases Int.lt_or_le x b with q | q
    · exact .inl ⟨x, h0, q, h2⟩
    · exact .inr ⟨x, q, h1, h2⟩
  · rintro (⟨x, h0, h1, h2⟩ | ⟨x, h0, h1, h2⟩)
    · exact ⟨x, h0, by omega, h2⟩
    · exact ⟨x, by omega, h1, h2⟩
/-- What parts come to, of a set's symbols. -/
def JoinS (ps : List PT) (s : List Span) (y : Int) : Prop := ∃ x, mem s x ∧ totT ps x = y
end Go.Proofs.YtiddgfcoankpjaaDoor.Fi
/- The walk of term.copies. -/
namespace Go.Proofs.YtiddgfcoankpjaaDoor.Te
set_option maxRecDepth 100000
open Go Go.RowKit Go.Proofs.YtiddgfcoankpjaaDoor.Sp Go.Proofs.YtiddgfcoankpjaaDoor.Pa
attribute [local go_sem] part_guard part_eqN
set_option maxHeartbeats 2000000 in
theorem copies_any (b d t u s : Int) (A : Option Addr) (n c : Nat) (l : List PT) (w : World) (h : RP w w.heap.size A n l) (hn : n ≤ maxLen) :
    Calls Tryd.prog 33 #[trm b d t u s A n c] w (RetB (copyB l) w) := by
  by_cases n0 : n = 0
  · subst n0
    unfold maxLen at hn
    have hlen := h.1
    have hbw : Below w.heap.size w (w.alloc (.cells (tcells b d t u s A 0 c) 24)) := (Below.refl _ w).alloc (Nat.le_refl _) _
    obtain ⟨w0, hw0⟩ : ∃ w0, w.alloc (.cells (tcells b d t u s A 0 c) 24) = w0 := ⟨_, rfl⟩
    have X6 := Lib.hid (fun W (hb : Below w0.heap.size w0 W) => show Boxed6 W w.heap.size b d t u s A 0 c from by rw [← hw0] at hb; exact boxed6 hb)
    rw [hw0] at hbw
    have hz0 : w.heap.size < w0.heap.size := by rw [← hw0]; simp
    have HW := Lib.hid hbw
    have H := Lib.hid (h.belowM hbw)
    have HB0 := Lib.hid (Below.refl w0.heap.size w0)
    obtain ⟨r0, r1, r2, r3, r4, r5⟩ := X6.out w0 (Below.refl _ _)
    clear h hbw
    obtain rfl := List.eq_nil_of_length_eq_zero hlen
    go_enter Tryd.func33, Tryd.ntmps33
    go_wp2_with (fail)
    go_quiet (fail)
    go_wp2_with (fail)
    go_ret
    exact ⟨rfl, HW.out.trans ((below_drewN (Below.refl _ w0) _).mono HW.out.size)⟩
  by_cases n1 : n = 1
  · subst n1
    unfold maxLen at hn
    have hlen := h.1
    have hbw : Below w.heap.size w (w.alloc (.cells (tcells b d t u s A 1 c) 24)) := (Below.refl _ w).alloc (Nat.le_refl _) _
    obtain ⟨w0, hw0⟩ : ∃ w0, w.alloc (.cells (tcells b d t u s A 1 c) 24) = w0 := ⟨_, rfl⟩
    have X6 := Lib.hid (fun W (hb : Below w0.heap.size w0 W) => show Boxed6 W w.heap.size b d t u s A 1 c from by rw [← hw0] at hb; exact boxed6 hb)
    rw [hw0] at hbw
    have hz0 : w.heap.size < w0.heap.size := by rw [← hw0]; simp
    have HW := Lib.hid hbw
    have H := Lib.hid (h.belowM hbw)
    have HB0 := Lib.hid (Below.refl w0.heap.size w0)
    obtain ⟨r0, r1, r2, r3, r4, r5⟩ := X6.out w0 (Below.refl _ _)
    clear h hbw
    obtain ⟨bb, off, a', d', t', u', hA', hbB, hlk, c1, c2, c3, c4⟩ := H.out.at_ (k := 0) (by omega)
    subst hA'
    simp only [Nat.zero_mul, Nat.add_zero] at c1 c2 c3 c4
    have HC := Lib.hid (show copyB l = takesAll (a', d', t', u') from by
      obtain ⟨hl, e⟩ := hlk
      match l, hlen with
      | [p], _ => simp only [List.getElem_cons_zero] at e; subst e; rfl)
    have Q := Lib.hid (show ∀ W, Below w0.heap.size w0 W → W.cell? ⟨w.heap.size, 5, none⟩ = some (.slice (some ⟨bb, off, none⟩) 1 c) ∧ W.cell? ⟨bb, off, none⟩ = some (.int .i64 a') ∧ W.cell? ⟨bb, off + 1, none⟩ = some (.int .i64 d') ∧ W.cell? ⟨bb, off + 2, none⟩ = some (.int .i64 t') ∧ W.cell? ⟨bb, off + 3, none⟩ = some (.int .i64 u') from fun W hW => ⟨(X6.out W hW).2.2.2.2.2, (hW.cell hbB).trans c1, (hW.cell hbB).trans c2, (hW.cell hbB).trans c3, (hW.cell hbB).trans c4⟩)
    clear hlk
    by_cases z1 : d' = 0
    · by_cases z2 : t' = 21
      · by_cases z3 : u' = 0
        · subst z1 z2 z3
          go_enter Tryd.func33, Tryd.ntmps33
          go_wp2_with (fail)
          go_region_held3 (fun w' => w'.cell? ⟨w.heap.size, 5, none⟩ = some (.slice (some ⟨bb, off, none⟩) 1 c) ∧ w'.cell? ⟨bb, off, none⟩ = some (.int .i64 a') ∧ w'.cell? ⟨bb, off + 1, none⟩ = some (.int .i64 0) ∧ w'.cell? ⟨bb, off + 2, none⟩ = some (.int .i64 21) ∧ w'.cell? ⟨bb, off + 3, none⟩ = some (.int .i64 0))
            (first | exact Q.out _ (Below.refl _ _).drew | exact Q.out _ (Below.refl _ _) | exact Q.out _ hB2 | go_keep)
            (first
              | (go_at_call 28; (with_reducible refine (whole_any _ _).mono ?_); rintro q2 w2 ⟨rfl, hb2⟩; have hB2 : Below w0.heap.size w0 w2 := (Below.refl _ w0).drew.trans (hb2.mono (by simp))))
          go_wp2_with (fail)
          go_ret
          exact ⟨ret_bool (by rw [HC.out]; rfl), HW.out.trans (hB2.mono HW.out.size)⟩
        · have z3' : (u' == 0) = false := by simpa using z3
          subst z1 z2
          go_enter Tryd.func33, Tryd.ntmps33
          go_wp2_with (fail)
          go_region_held3 (fun w' => w'.cell? ⟨w.heap.size, 5, none⟩ = some (.slice (some ⟨bb, off, none⟩) 1 c) ∧ w'.cell? ⟨bb, off, none⟩ = some (.int .i64 a') ∧ w'.cell? ⟨bb, off + 1, none⟩ = some (.int .i64 0) ∧ w'.cell? ⟨bb, off + 2, none⟩ = some (.int .i64 21) ∧ w'.cell? ⟨bb, off + 3, none⟩ = some (.int .i64 u'))
            (first | exact Q.out _ (Below.refl _ _).drew | exact Q.out _ (Below.refl _ _) | exact Q.out _ hB2 | go_keep)
            (first
              | (go_at_call 28; (with_reducible refine (whole_any _ _).mono ?_); rintro q2 w2 ⟨rfl, hb2⟩; have hB2 : Below w0.heap.size w0 w2 := (Below.refl _ w0).drew.trans (hb2.mono (by simp))))
          go_wp2_with (fail)
          go_ret
          exact ⟨ret_bool (by rw [HC.out]; simp [takesAll, z3]), HW.out.trans (hB2.mono HW.out.size)⟩
      · have z2' : (t' == 21) = false := by simpa using z2
        subst z1
        go_enter Tryd.func33, Tryd.ntmps33
        go_wp2_with (fail)
        go_region_held3 (fun w' => w'.cell? ⟨w.heap.size, 5, none⟩ = some (.slice (some ⟨bb, off, none⟩) 1 c) ∧ w'.cell? ⟨bb, off, none⟩ = some (.int .i64 a') ∧ w'.cell? ⟨bb, off + 1, none⟩ = some (.int .i64 0) ∧ w'.cell? ⟨bb, off + 2, none⟩ = some (.int .i64 t') ∧ w'.cell? ⟨bb, off + 3, none⟩ = some (.int .i64 u'))
          (first | exact Q.out _ (Below.refl _ _).drew | exact Q.out _ (Below.refl _ _) | exact Q.out _ hB2 | go_keep)
          (first
            | (go_at_call 28; (with_reducible refine (whole_any _ _).mono ?_); rintro q2 w2 ⟨rfl, hb2⟩; have hB2 : Below w0.heap.size w0 w2 := (Below.refl _ w0).drew.trans (hb2.mono (by simp))))
        go_wp2_with (fail)
        go_ret
        exact ⟨ret_bool (by rw [HC.out]; simp [takesAll, z2]), HW.out.trans (hB2.mono HW.out.size)⟩
    · have z1' : (d' == 0) = false := by simpa using z1
      go_enter Tryd.func33, Tryd.ntmps33
      go_wp2_with (fail)
      go_region_held3 (fun w' => w'.cell? ⟨w.heap.size, 5, none⟩ = some (.slice (some ⟨bb, off, none⟩) 1 c) ∧ w'.cell? ⟨bb, off, none⟩ = some (.int .i64 a') ∧ w'.cell? ⟨bb, off + 1, none⟩ = some (.int .i64 d') ∧ w'.cell? ⟨bb, off + 2, none⟩ = some (.int .i64 t') ∧ w'.cell? ⟨bb, off + 3, none⟩ = some (.int .i64 u'))
        (first | exact Q.out _ (Below.refl _ _).drew | exact Q.out _ (Below.refl _ _) | exact Q.out _ hB2 | go_keep)
        (first
          | (go_at_call 28; (with_reducible refine (whole_any _ _).mono ?_); rintro q2 w2 ⟨rfl, hb2⟩; have hB2 : Below w0.heap.size w0 w2 := (Below.refl _ w0).drew.trans (hb2.mono (by simp))))
      go_wp2_with (fail)
      go_ret
      exact ⟨ret_bool (by rw [HC.out]; simp [takesAll, z1]), HW.out.trans (hB2.mono HW.out.size)⟩
  unfold maxLen at hn
  have hlen := h.1
  have hbw : Below w.heap.size w (w.alloc (.cells (tcells b d t u s A n c) 24)) := (Below.refl _ w).alloc (Nat.le_refl _) _
  obtain ⟨w0, hw0⟩ : ∃ w0, w.alloc (.cells (tcells b d t u s A n c) 24) = w0 := ⟨_, rfl⟩
  have X6 := Lib.hid (fun W (hb : Below w0.heap.size w0 W) => show Boxed6 W w.heap.size b d t u s A n c from by rw [← hw0] at hb; exact boxed6 hb)
  rw [hw0] at hbw
  have hz0 : w.heap.size < w0.heap.size := by rw [← hw0]; simp
  have HW := Lib.hid hbw
  have H := Lib.hid (h.belowM hbw)
  have HB0 := Lib.hid (Below.refl w0.heap.size w0)
  obtain ⟨r0, r1, r2, r3, r4, r5⟩ := X6.out w0 (Below.refl _ _)
  clear h hbw
  have hd0 : ((n : Int) == 0) = false := by simp; omega
  have hd1 : ((n : Int) == 1) = false := by simp; omega
  have HC := Lib.hid (show copyB l = false from by
    match l, hlen with
    | [], e => exact absurd e.symm n0
    | [_], e => exact absurd e.symm n1
    | _ :: _ :: _, _ => rfl)
  go_enter Tryd.func33, Tryd.ntmps33
  go_wp2_with (fail)
  go_quiet (fail)
  go_wp2_with (fail)
  go_ret
  exact ⟨ret_bool HC.out.symm, HW.out.trans ((below_drewN (Below.refl _ w0) _).mono HW.out.size)⟩
end Go.Proofs.YtiddgfcoankpjaaDoor.Te
/- The walks of term.Right and of the document's Right. -/
namespace Go.Proofs.YtiddgfcoankpjaaDoor.Te
set_option maxRecDepth 100000
open Go Go.RowKit Go.Proofs.YtiddgfcoankpjaaDoor.Sp Go.Proofs.YtiddgfcoankpjaaDoor.Pa

noncomputable def rightT (i o m b d t u s : Int) (l : List PT) : Bool := decide (i = 1 ∨ i = 2) && (decide (o = 1 ∨ o = 2) && (numB b d t u s l && (partsB m l && ((!(i == 2) || copyB l) && (!(o == 2) || plainT b d t u)))))
set_option maxHeartbeats 4000000 in
theorem tright_any (i o m b d t u s : Int) (A : Option Addr) (n c : Nat) (l : List PT) (w : World) (h : RP w w.heap.size A n l) (hn : n ≤ maxLen) :
    Calls Tryd.prog 13 #[trm b d t u s A n c, .int .i64 i, .int .i64 o, .int .i64 m] w (RetB (rightT i o m b d t u s l) w) := by
  unfold maxLen at hn
  have hlen := h.1
  subst hlen
  have hbw : Below w.heap.size w (w.alloc (.cells (tcells b d t u s A l.length c) 24)) := (Below.refl _ w).alloc (Nat.le_refl _) _
  obtain ⟨w0, hw0⟩ : ∃ w0, w.alloc (.cells (tcells b d t u s A l.length c) 24) = w0 := ⟨_, rfl⟩
  have X6 := Lib.hid (fun W (hb : Below w0.heap.size w0 W) => show Boxed6 W w.heap.size b d t u s A l.length c from by rw [← hw0] at hb; exact boxed6 hb)
  rw [hw0] at hbw
  have HW := Lib.hid hbw
  have H := Lib.hid (h.belowM hbw)
  have HB0 := Lib.hid (Below.refl w0.heap.size w0)
  obtain ⟨r0, r1, r2, r3, r4, r5⟩ := X6.out w0 (Below.refl _ _)
  clear h hbw
  have HI := Lib.hid (known_any i)
  have HO := Lib.hid (known_any o)
  have HN := Lib.hid (fun W (hW : RP W W.heap.size A l.length l) => tnum_any b d t u s A l.length c l W hW hn)
  have HP := Lib.hid (fun W (hW : RP W W.heap.size A l.length l) => tparts_any b d t u s A l.length c l m W hW hn)
  have HC := Lib.hid (fun W (hW : RP W W.heap.size A l.length l) => copies_any b d t u s A l.length c l W hW hn)
  have HL := Lib.hid (tplain_any b d t u s A l.length c)
  by_cases k1 : i = 1 ∨ i = 2
  case neg =>
    rw [decide_eq_false k1] at HI
    go_enter Tryd.func13, Tryd.ntmps13
    go_wp2_with (fail)
    refine (HI.out _).mono ?_
    rintro e w9 ⟨rfl, rfl⟩
    go_wp2_with (fail)
    go_ret
    exact ⟨ret_bool (by simp [rightT, k1]), HW.out.trans (HB0.out.mono HW.out.size)⟩
  rw [decide_eq_true k1] at HI
  by_cases k2 : o = 1 ∨ o = 2
  case neg =>
    rw [decide_eq_false k2] at HO
    go_enter Tryd.func13, Tryd.ntmps13
    go_wp2_with (fail)
    refine (HI.out _).mono ?_
    rintro e w9 ⟨rfl, rfl⟩
    go_wp2_with (fail)
    refine (HO.out _).mono ?_
    rintro e w9 ⟨rfl, rfl⟩
    go_wp2_with (fail)
    go_ret
    exact ⟨ret_bool (by simp [rightT, k2]), HW.out.trans (HB0.out.mono HW.out.size)⟩
  rw [decide_eq_true k2] at HO
  rcases k3 : numB b d t u s l with _ | _
  case false =>
    rw [k3] at HN
    go_enter Tryd.func13, Tryd.ntmps13
    go_wp2_with (fail)
    refine (HI.out _).mono ?_
    rintro e w9 ⟨rfl, rfl⟩
    go_wp2_with (fail)
    refine (HO.out _).mono ?_
    rintro e w9 ⟨rfl, rfl⟩
    go_wp2_with (fail)
    refine (HN.out _ (H.out.belowM HB0.out)).mono ?_
    rintro e w1 ⟨rfl, hb1⟩
    have HB1 := Lib.hid (HB0.out.trans (hb1.mono HB0.out.size))
    clear r0 r1 r2 r3 r4 r5
    obtain ⟨r0, r1, r2, r3, r4, r5⟩ := X6.out w1 HB1.out
    clear hb1
    go_wp2_with (fail)
    go_ret
    exact ⟨ret_bool (by simp [rightT, k3]), HW.out.trans (HB1.out.mono HW.out.size)⟩
  case true =>
  rw [k3] at HN
  rcases k4 : partsB m l with _ | _
  case false =>
    rw [k4] at HP
    go_enter Tryd.func13, Tryd.ntmps13
    go_wp2_with (fail)
    refine (HI.out _).mono ?_
    rintro e w9 ⟨rfl, rfl⟩
    go_wp2_with (fail)
    refine (HO.out _).mono ?_
    rintro e w9 ⟨rfl, rfl⟩
    go_wp2_with (fail)
    refine (HN.out _ (H.out.belowM HB0.out)).mono ?_
    rintro e w1 ⟨rfl, hb1⟩
    have HB1 := Lib.hid (HB0.out.trans (hb1.mono HB0.out.size))
    clear r0 r1 r2 r3 r4 r5
    obtain ⟨r0, r1, r2, r3, r4, r5⟩ := X6.out w1 HB1.out
    clear hb1
    go_wp2_with (fail)
    refine (HP.out _ (H.out.belowM HB1.out)).mono ?_
    rintro e w2 ⟨rfl, hb2⟩
    have HB2 := Lib.hid (HB1.out.trans (hb2.mono HB1.out.size))
    clear r0 r1 r2 r3 r4 r5
    obtain ⟨r0, r1, r2, r3, r4, r5⟩ := X6.out w2 HB2.out
    clear hb2
    go_wp2_with (fail)
    go_ret
    exact ⟨ret_bool (by simp [rightT, k4]), HW.out.trans (HB2.out.mono HW.out.size)⟩
  case true =>
  rw [k4] at HP
  rcases k1 with rfl | rfl
  · rcases k2 with rfl | rfl
    · go_enter Tryd.func13, Tryd.ntmps13
      go_wp2_with (fail)
      refine (HI.out _).mono ?_
      rintro e w9 ⟨rfl, rfl⟩
      go_wp2_with (fail)
      refine (HO.out _).mono ?_
      rintro e w9 ⟨rfl, rfl⟩
      go_wp2_with (fail)
      refine (HN.out _ (H.out.belowM HB0.out)).mono ?_
      rintro e w1 ⟨rfl, hb1⟩
      have HB1 := Lib.hid (HB0.out.trans (hb1.mono HB0.out.size))
      clear r0 r1 r2 r3 r4 r5
      obtain ⟨r0, r1, r2, r3, r4, r5⟩ := X6.out w1 HB1.out
      clear hb1
      go_wp2_with (fail)
      refine (HP.out _ (H.out.belowM HB1.out)).mono ?_
      rintro e w2 ⟨rfl, hb2⟩
      have HB2 := Lib.hid (HB1.out.trans (hb2.mono HB1.out.size))
      clear r0 r1 r2 r3 r4 r5
      obtain ⟨r0, r1, r2, r3, r4, r5⟩ := X6.out w2 HB2.out
      clear hb2
      go_wp2_with (fail)
      go_ret
      exact ⟨ret_bool (by simp [rightT, k3, k4]), HW.out.trans (HB2.out.mono HW.out.size)⟩
    · go_enter Tryd.func13, Tryd.ntmps13
      go_wp2_with (fail)
      refine (HI.out _).mono ?_
      rintro e w9 ⟨rfl, rfl⟩
      go_wp2_with (fail)
      refine (HO.out _).mono ?_
      rintro e w9 ⟨rfl, rfl⟩
      go_wp2_with (fail)
      refine (HN.out _ (H.out.belowM HB0.out)).mono ?_
      rintro e w1 ⟨rfl, hb1⟩
      have HB1 := Lib.hid (HB0.out.trans (hb1.mono HB0.out.size))
      clear r0 r1 r2 r3 r4 r5
      obtain ⟨r0, r1, r2, r3, r4, r5⟩ := X6.out w1 HB1.out
      clear hb1
      go_wp2_with (fail)
      refine (HP.out _ (H.out.belowM HB1.out)).mono ?_
      rintro e w2 ⟨rfl, hb2⟩
      have HB2 := Lib.hid (HB1.out.trans (hb2.mono HB1.out.size))
      clear r0 r1 r2 r3 r4 r5
      obtain ⟨r0, r1, r2, r3, r4, r5⟩ := X6.out w2 HB2.out
      clear hb2
      go_wp2_with (fail)
      refine (HL.out _).mono ?_
      rintro e w3 ⟨rfl, hb3⟩
      have HB3 := Lib.hid (HB2.out.trans (hb3.mono HB2.out.size))
      clear r0 r1 r2 r3 r4 r5
      obtain ⟨r0, r1, r2, r3, r4, r5⟩ := X6.out w3 HB3.out
      clear hb3
      go_wp2_with (fail)
      go_ret
      exact ⟨ret_bool (by simp [rightT, k3, k4]), HW.out.trans (HB3.out.mono HW.out.size)⟩
  · rcases k5 : copyB l with _ | _
    · rw [k5] at HC
      go_enter Tryd.func13, Tryd.ntmps13
      go_wp2_with (fail)
      refine (HI.out _).mono ?_
      rintro e w9 ⟨rfl, rfl⟩
      go_wp2_with (fail)
      refine (HO.out _).mono ?_
      rintro e w9 ⟨rfl, rfl⟩
      go_wp2_with (fail)
      refine (HN.out _ (H.out.belowM HB0.out)).mono ?_
      rintro e w1 ⟨rfl, hb1⟩
      have HB1 := Lib.hid (HB0.out.trans (hb1.mono HB0.out.size))
      clear r0 r1 r2 r3 r4 r5
      obtain ⟨r0, r1, r2, r3, r4, r5⟩ := X6.out w1 HB1.out
      clear hb1
      go_wp2_with (fail)
      refine (HP.out _ (H.out.belowM HB1.out)).mono ?_
      rintro e w2 ⟨rfl, hb2⟩
      have HB2 := Lib.hid (HB1.out.trans (hb2.mono HB1.out.size))
      clear r0 r1 r2 r3 r4 r5
      obtain ⟨r0, r1, r2, r3, r4, r5⟩ := X6.out w2 HB2.out
      clear hb2
      go_wp2_with (fail)
      refine (HC.out _ (H.out.belowM HB2.out)).mono ?_
      rintro e w3 ⟨rfl, hb3⟩
      have HB3 := Lib.hid (HB2.out.trans (hb3.mono HB2.out.size))
      clear r0 r1 r2 r3 r4 r5
      obtain ⟨r0, r1, r2, r3, r4, r5⟩ := X6.out w3 HB3.out
      clear hb3
      go_wp2_with (fail)
      go_ret
      exact ⟨ret_bool (by simp [rightT, k5]), HW.out.trans (HB3.out.mono HW.out.size)⟩
    · rw [k5] at HC
      rcases k2 with rfl | rfl
      · go_enter Tryd.func13, Tryd.ntmps13
        go_wp2_with (fail)
        refine (HI.out _).mono ?_
        rintro e w9 ⟨rfl, rfl⟩
        go_wp2_with (fail)
        refine (HO.out _).mono ?_
        rintro e w9 ⟨rfl, rfl⟩
        go_wp2_with (fail)
        refine (HN.out _ (H.out.belowM HB0.out)).mono ?_
        rintro e w1 ⟨rfl, hb1⟩
        have HB1 := Lib.hid (HB0.out.trans (hb1.mono HB0.out.size))
        clear r0 r1 r2 r3 r4 r5
        obtain ⟨r0, r1, r2, r3, r4, r5⟩ := X6.out w1 HB1.out
        clear hb1
        go_wp2_with (fail)
        refine (HP.out _ (H.out.belowM HB1.out)).mono ?_
        rintro e w2 ⟨rfl, hb2⟩
        have HB2 := Lib.hid (HB1.out.trans (hb2.mono HB1.out.size))
        clear r0 r1 r2 r3 r4 r5
        obtain ⟨r0, r1, r2, r3, r4, r5⟩ := X6.out w2 HB2.out
        clear hb2
        go_wp2_with (fail)
        refine (HC.out _ (H.out.belowM HB2.out)).mono ?_
        rintro e w3 ⟨rfl, hb3⟩
        have HB3 := Lib.hid (HB2.out.trans (hb3.mono HB2.out.size))
        clear r0 r1 r2 r3 r4 r5
        obtain ⟨r0, r1, r2, r3, r4, r5⟩ := X6.out w3 HB3.out
        clear hb3
        go_wp2_with (fail)
        go_ret
        exact ⟨ret_bool (by simp [rightT, k3, k4, k5]), HW.out.trans (HB3.out.mono HW.out.size)⟩
      · go_enter Tryd.func13, Tryd.ntmps13
        go_wp2_with (fail)
        refine (HI.out _).mono ?_
        rintro e w9 ⟨rfl, rfl⟩
        go_wp2_with (fail)
        refine (HO.out _).mono ?_
        rintro e w9 ⟨rfl, rfl⟩
        go_wp2_with (fail)
        refine (HN.out _ (H.out.belowM HB0.out)).mono ?_
        rintro e w1 ⟨rfl, hb1⟩
        have HB1 := Lib.hid (HB0.out.trans (hb1.mono HB0.out.size))
        clear r0 r1 r2 r3 r4 r5
        obtain ⟨r0, r1, r2, r3, r4, r5⟩ := X6.out w1 HB1.out
        clear hb1
        go_wp2_with (fail)
        refine (HP.out _ (H.out.belowM HB1.out)).mono ?_
        rintro e w2 ⟨rfl, hb2⟩
        have HB2 := Lib.hid (HB1.out.trans (hb2.mono HB1.out.size))
        clear r0 r1 r2 r3 r4 r5
        obtain ⟨r0, r1, r2, r3, r4, r5⟩ := X6.out w2 HB2.out
        clear hb2
        go_wp2_with (fail)
        refine (HC.out _ (H.out.belowM HB2.out)).mono ?_
        rintro e w3 ⟨rfl, hb3⟩
        have HB3 := Lib.hid (HB2.out.trans (hb3.mono HB2.out.size))
        clear r0 r1 r2 r3 r4 r5
        obtain ⟨r0, r1, r2, r3, r4, r5⟩ := X6.out w3 HB3.out
        clear hb3
        go_wp2_with (fail)
        refine (HL.out _).mono ?_
        rintro e w4 ⟨rfl, hb4⟩
        have HB4 := Lib.hid (HB3.out.trans (hb4.mono HB3.out.size))
        clear r0 r1 r2 r3 r4 r5
        obtain ⟨r0, r1, r2, r3, r4, r5⟩ := X6.out w4 HB4.out
        clear hb4
        go_wp2_with (fail)
        go_ret
        exact ⟨ret_bool (by simp [rightT, k3, k4, k5]), HW.out.trans (HB4.out.mono HW.out.size)⟩
end Go.Proofs.YtiddgfcoankpjaaDoor.Te
/- The walk of shape.Total. -/
namespace Go.Proofs.YtiddgfcoankpjaaDoor.Fi
set_option maxRecDepth 100000
open Go Go.RowKit Go.Proofs.YtiddgfcoankpjaaDoor.Sp Go.Proofs.YtiddgfcoankpjaaDoor.Pa Go.Proofs.YtiddgfcoankpjaaDoor.Te

def TotRel (l : List PT) (x : Int) (w : World) (n i : Value) (wr : World) : Prop := ∃ k : Nat, k ≤ l.length ∧ i = .int .i64 k ∧ n = .int .i64 (totT (l.take k) x) ∧ Below w.heap.size w wr
set_option maxHeartbeats 2000000 in
theorem total_any (A : Option Addr) (m c : Nat) (l : List PT) (x : Int) (w : World) (h : RP w w.heap.size A m l) (hm : m ≤ 1000) (hb : BitsAll l) (h0 : 0 ≤ x) (h1 : x ≤ 2097151) :
    Calls Tryd.prog 57 #[.slice A m c, .int .i64 x] w (RetN (totT l x) w) := by
  have hlen := h.1
  subst hlen
  have H := Lib.hid h
  have HBB := Lib.hid hb
  clear h hb
  go_enter Tryd.func57, Tryd.ntmps57
  go_wp2_with (fail)
  go_loopw [5, 12] (fun n i wr => TotRel l x w n i wr) (fun _ i _ => l.length - (intOf i).toNat)
  case atStart => exact ⟨0, Nat.zero_le _, rfl, rfl, Below.refl _ _⟩
  case round =>
    obtain ⟨k, hk, rfl, rfl, hb⟩ := hrel
    have hz := hb.size
    have HB := Lib.hid hb
    have htb := totT_bound (ps := l.take k) (fun q hq => HBB.out q (List.mem_of_mem_take hq)) x
    have hlt4 : (l.take k).length ≤ 1000 := by rw [List.length_take]; omega
    obtain ⟨acc, hacc⟩ : ∃ acc, totT (l.take k) x = acc := ⟨_, rfl⟩
    have HACC := Lib.hid hacc
    rw [hacc] at htb ⊢
    clear hacc
    by_cases hlt : k < l.length
    · obtain ⟨b, off, a, d, t, u, hA, hbB, hlk, c0, c1, c2, c3⟩ := (H.out.belowM hb).at_ hlt
      subst hA
      have hbt : Bits d t u := by
        obtain ⟨hl, e⟩ := hlk
        have := HBB.out l[k] (List.getElem_mem hlt)
        rw [e] at this
        exact this
      have HX := Lib.hid (fun W => value_any a d t u x W (by omega))
      have hp : valP d t u x = (valI d t u x, true) := if_pos ⟨hbt, h0, h1⟩
      rw [hp] at HX
      have hvb := valI_bound hbt x
      have HN := Lib.hid (show totT (l.take (k + 1)) x = acc + valI d t u x from by
        obtain ⟨hl, e⟩ := hlk
        rw [List.take_succ_eq_append_getElem hlt, totT_append, totT_one, e, HACC.out])
      obtain ⟨v, hv⟩ : ∃ v, valI d t u x = v := ⟨_, rfl⟩
      rw [hv] at HX HN hvb
      obtain ⟨w5, hw5⟩ : ∃ w5, wr.alloc (.cells #[.int .i64 a, .int .i64 d, .int .i64 t, .int .i64 u] 39) = w5 := ⟨_, rfl⟩
      have h45 : Below wr.heap.size wr w5 := by rw [← hw5]; exact (Below.refl _ _).alloc (Nat.le_refl _) _
      obtain ⟨z0, z1, z2, z3⟩ : w5.cell? ⟨wr.heap.size, 0, none⟩ = some (.int .i64 a) ∧ w5.cell? ⟨wr.heap.size, 1, none⟩ = some (.int .i64 d) ∧ w5.cell? ⟨wr.heap.size, 2, none⟩ = some (.int .i64 t) ∧ w5.cell? ⟨wr.heap.size, 3, none⟩ = some (.int .i64 u) := by rw [← hw5]; exact boxed4 (Below.refl _ _)
      have HB5 := Lib.hid (HB.out.trans (h45.mono HB.out.size))
      have hz5 : w.heap.size ≤ w5.heap.size := HB5.out.size
      have s1 : IntKind.i64.wrap (acc + v) = acc + v := IntWalk.i64_in _ (by omega)
      clear hv hp hlk hb h45 hbt
      go_wp2_with (fail)
      refine (HX.out _).mono ?_
      rintro e w6 ⟨rfl, hb6⟩
      have HB6 := Lib.hid (HB5.out.trans (hb6.mono hz5))
      clear hb6
      go_wp2_with (fail)
      go_roundw
      case rel => exact ⟨k + 1, by omega, by go_num, by rw [HN.out], HB6.out⟩
      case measure => simp [intOf]; omega
    · have hkl : k = l.length := by omega
      have HF := Lib.hid (show acc = totT l x from by rw [← HACC.out, hkl, List.take_length])
      clear hb
      go_wp2_with (fail)
      go_ret
      exact ⟨ret_i HF.out, HB.out⟩
end Go.Proofs.YtiddgfcoankpjaaDoor.Fi
/- The walk of part.take: the bits that a part takes of the numbers of a span. -/
namespace Go.Proofs.YtiddgfcoankpjaaDoor.Pa
set_option maxRecDepth 100000
open Go Go.RowKit Go.Proofs.YtiddgfcoankpjaaDoor.Sp

/-- What take lays: of the numbers from lo to hi, the bits that are taken. -/
def takeP (d t lo hi : Int) : List Span :=
  if pw t - 1 ≤ hi / pw d - lo / pw d then [(0, pw t - 1)]
  else if lo / pw d % pw t ≤ hi / pw d % pw t then [(lo / pw d % pw t, hi / pw d % pw t)] else [(lo / pw d % pw t, pw t - 1), (0, hi / pw d % pw t)]
theorem takeP_len (d t lo hi : Int) : (takeP d t lo hi).length ≤ 2 := by unfold takeP; split; simp; split <;> simp
theorem takeP_mem {d t lo hi : Int} (h : lo ≤ hi) (ht2 : t ≤ 21) (y : Int) : mem (takeP d t lo hi) y ↔ ∃ x, lo ≤ x ∧ x ≤ hi ∧ x / pw d % pw t = y := by
  have hD := pw_pos d
  have hT := pw_pos t
  have hT2 := pw_le ht2 pw21
  have hle : lo / pw d ≤ hi / pw d := Int.ediv_le_ediv (by omega) h
  have key : (∃ x, lo ≤ x ∧ x ≤ hi ∧ x / pw d % pw t = y) ↔ ∃ z, lo / pw d ≤ z ∧ z ≤ hi / pw d ∧ z % pw t = y := by
    constructor
    · rintro ⟨x, a, b, c⟩
      have := (img_div hD h (x / pw d)).1 ⟨x, a, b, rfl⟩
      exact ⟨x / pw d, this.1, this.2, c⟩
    · rintro ⟨z, a, b, c⟩
      obtain ⟨x, p, q, r⟩ := (img_div hD h z).2 ⟨a, b⟩
      exact ⟨x, p, q, by rw [r]; exact c⟩
  rw [key]
  have m1 := mod_lt (lo / pw d) t
  have m2 := mod_lt (hi / pw d) t
  unfold takeP
  by_cases hw : pw t - 1 ≤ hi / pw d - lo / pw d
  · rw [if_pos hw, img_all hT hw, mem_one]
    unfold Rng; simp only; omega
  · rw [if_neg hw, img_mod hT hle (by omega)]
    by_cases hc : lo / pw d % pw t ≤ hi / pw d % pw t
    · rw [if_pos hc, if_pos hc, mem_one]
      unfold Rng; simp only; omega
    · rw [if_neg hc, if_neg hc]
      show mem ([(lo / pw d % pw t, pw t - 1)] ++ [(0, hi / pw d % pw t)]) y ↔ _
      rw [mem_append, mem_one, mem_one]
      unfold Rng; simp only; omega

attribute [local go_sem] pw_fold
theorem below_grown {w w' : World} (h : Below w.heap.size w w') : w.grownBy w' none := ⟨h.os, h.tape, h.output, h.size, fun k hk _ => h.block k hk⟩
theorem own_below {w w' : World} {base : Nat} {v : Value} {xs : List Span} (h : OwnsL w base v xs) (hb : Below w.heap.size w w') : OwnsL w' base v xs := World.ownsRow.kept h (below_grown hb) (by cases v.ownBlock <;> simp)
theorem cell_four (w : World) (x y z v : Value) (t : TypeId) : ∀ j u, [x, y, z, v][j]? = some u → (w.alloc (.cells #[x, y, z, v] t)).cell? ((⟨w.heap.size, 0, none⟩ : Addr).add j) = some u := by
  intro j u hj
  match j, hj with
  | 0, hj => simp at hj; subst hj; simp [Addr.add]
  | 1, hj => simp at hj; subst hj; simp [Addr.add]
  | 2, hj => simp at hj; subst hj; simp [Addr.add]
  | 3, hj => simp at hj; subst hj; simp [Addr.add]
  | j + 4, hj => simp at hj

set_option maxRecDepth 100000 in
set_option maxHeartbeats 2000000 in
theorem take_any (base : Nat) (v : Value) (xs : List Span) (a d t u lo hi : Int) (w : World) (hown : OwnsL w base v xs) (hbase : base ≤ w.heap.size) (hlen : xs.length ≤ 1099511627776) (hb : Bits d t u) (h0 : 0 ≤ lo) (h1 : lo ≤ hi) (h2 : hi ≤ 2097151) :
    Calls Tryd.prog 48 #[v, prt a d t u, .agg #[.int .i64 lo, .int .i64 hi]] w (PutOut w base (xs ++ takeP d t lo hi)) := by
  obtain ⟨i0, hi0, hz0, hz1, hz2⟩ := info_parts infoSpan
  obtain ⟨b1, b2, b3, b4, b5, b6, b7⟩ := hb
  have l1 := lo_bound (d := d) h0
  have l2 := lo_bound (d := d) (x := hi) (by omega)
  have hT := pw_pos t
  have hT2 := pw_le b4 pw21
  have m1 := mod_lt (lo / pw d) t
  have m2 := mod_lt (hi / pw d) t
  have hle : lo / pw d ≤ hi / pw d := Int.ediv_le_ediv (by have := pw_pos d; omega) h1
  have BL1 := bits_low (lo / pw d) t l1.1 (by omega) (by omega)
  have BL2 := bits_low (hi / pw d) t l2.1 (by omega) (by omega)
  have HT := Lib.hid (show takeP d t lo hi = if pw t - 1 ≤ hi / pw d - lo / pw d then [(0, pw t - 1)] else if lo / pw d % pw t ≤ hi / pw d % pw t then [(lo / pw d % pw t, hi / pw d % pw t)] else [(lo / pw d % pw t, pw t - 1), (0, hi / pw d % pw t)] from rfl)
  have HM := Lib.hid (most_any a d t u b3 b4)
  have HS1 := Lib.hid (pw_fold d)
  have HO := Lib.hid hown
  have c1 : d ≤ 64 := by omega
  clear b7 hown
  generalize hL : lo / pw d = L at *
  generalize hH : hi / pw d = H at *
  generalize hP : pw t = T at *
  generalize hL2 : L % T = L2 at *
  generalize hH2 : H % T = H2 at *
  have HL := Lib.hid hL
  have HH := Lib.hid hH
  have B1 := Lib.hid BL1
  have B2 := Lib.hid BL2
  clear hL hH hP hL2 hH2 BL1 BL2
  go_enter Tryd.func48, Tryd.ntmps48
  go_wp2_with (fail)
  go_region_held3 (fun w' => w'.cell? ⟨w.heap.size, 0, none⟩ = some (.int .i64 a) ∧ w'.cell? ⟨w.heap.size, 1, none⟩ = some (.int .i64 d) ∧ w'.cell? ⟨w.heap.size, 2, none⟩ = some (.int .i64 t) ∧ w'.cell? ⟨w.heap.size, 3, none⟩ = some (.int .i64 u) ∧ w'.cell? ⟨w.heap.size + 1, 0, none⟩ = some (.int .i64 lo) ∧ w'.cell? ⟨w.heap.size + 1, 1, none⟩ = some (.int .i64 hi))
    (first | go_keep | (go_split_ands; refine ⟨?_, ?_, ?_, ?_, ?_, ?_⟩; all_goals (rw [hb2.cell (by simp <;> omega)]; simp)))
    (first | (go_at_call 52; refine (HM.out _).mono ?_; rintro e w2 ⟨rfl, hb2⟩))
  simp only [HL.out, HH.out]
  have hbB : Below w.heap.size w w2 := (((Below.refl _ w).alloc (Nat.le_refl _) _).alloc (by simp) _).drew.trans (hb2.mono (by simp; omega))
  have HO2 := Lib.hid (own_below HO.out hbB)
  have hz2' : base ≤ w2.heap.size := by have := hbB.size; omega
  have HBB := Lib.hid (hbB.mono hbase)
  clear hb2 hbB
  by_cases q1 : T - 1 ≤ H - L
  · have HX := Lib.hid (HT.out.trans (if_pos q1))
    go_wp2_with (at_builtin; go_must (refine wpList_append_own_at _ rfl _ _ 30 rfl base 46 i0 _ 2 16 Tryd.underlying30 hi0 hz0 hz1 hz2 rfl (by decide) v xs.length (flat xs) rfl (HO2.out.alloc _) ⟨w2.heap.size, 0, none⟩ 1 1 [.int .i64 0, .int .i64 (T - 1)] rfl rfl (cell_two _ _ _ _) ?c2 ?c3 ?c4 ?c5 ?_))
    case c2 => first | exact ⟨rfl, rfl⟩ | simp [Value.oneCell']
    case c3 => simp only [maxLen]; omega
    case c4 => omega
    case c5 => first | omega | (simp; omega)
    intro v1 w3 hown1 hg1 _ _
    have HB3 := Lib.hid ((HBB.out.alloc hz2' _).grown hg1 (by simp; omega) (own_ge HO2.out))
    go_wp2_with (fail)
    go_ret
    refine ⟨v1, rfl, ?_, HB3.out⟩
    rw [HX.out]
    unfold OwnsL
    rw [flat_append, List.length_append]
    exact hown1
  · have hx := HT.out.trans (if_neg q1)
    by_cases q2 : L2 ≤ H2
    · have HX := Lib.hid (hx.trans (if_pos q2))
      clear hx
      have e1 := B1.out
      have e2 := B2.out
      go_wp2_with (at_builtin; go_must (refine wpList_append_own_at _ rfl _ _ 30 rfl base 46 i0 _ 2 16 Tryd.underlying30 hi0 hz0 hz1 hz2 rfl (by decide) v xs.length (flat xs) rfl (HO2.out.alloc _) ⟨w2.heap.size, 0, none⟩ 1 1 [.int .i64 L2, .int .i64 H2] rfl rfl (cell_two _ _ _ _) ?c2 ?c3 ?c4 ?c5 ?_))
      case c2 => first | exact ⟨rfl, rfl⟩ | simp [Value.oneCell']
      case c3 => simp only [maxLen]; omega
      case c4 => omega
      case c5 => first | omega | (simp; omega)
      intro v1 w3 hown1 hg1 _ _
      have HB3 := Lib.hid ((HBB.out.alloc hz2' _).grown hg1 (by simp; omega) (own_ge HO2.out))
      go_wp2_with (fail)
      go_ret
      refine ⟨v1, rfl, ?_, HB3.out⟩
      rw [HX.out]
      unfold OwnsL
      rw [flat_append, List.length_append]
      exact hown1
    · have HX := Lib.hid (hx.trans (if_neg q2))
      clear hx
      have e1 := B1.out
      have e2 := B2.out
      go_wp2_with (at_builtin; go_must (refine wpList_append_own_at _ rfl _ _ 30 rfl base 46 i0 _ 2 16 Tryd.underlying30 hi0 hz0 hz1 hz2 rfl (by decide) v xs.length (flat xs) rfl (HO2.out.alloc _) ⟨w2.heap.size, 0, none⟩ 2 2 [.int .i64 L2, .int .i64 (T - 1), .int .i64 0, .int .i64 H2] rfl rfl (cell_four _ _ _ _ _ _) ?c2 ?c3 ?c4 ?c5 ?_))
      case c2 => first | exact ⟨rfl, rfl⟩ | simp [Value.oneCell']
      case c3 => simp only [maxLen]; omega
      case c4 => omega
      case c5 => first | omega | (simp; omega)
      intro v1 w3 hown1 hg1 _ _
      have HB3 := Lib.hid ((HBB.out.alloc hz2' _).grown hg1 (by simp; omega) (own_ge HO2.out))
      go_wp2_with (fail)
      go_ret
      refine ⟨v1, rfl, ?_, HB3.out⟩
      rw [HX.out]
      unfold OwnsL
      rw [flat_append, List.length_append]
      exact hown1
end Go.Proofs.YtiddgfcoankpjaaDoor.Pa
/- The walks of term.Const, term.Copy, the document's Same (of two terms that are the same), the law's great. -/
namespace Go.Proofs.YtiddgfcoankpjaaDoor.Te
set_option maxRecDepth 100000
open Go Go.RowKit Go.Proofs.YtiddgfcoankpjaaDoor.Sp Go.Proofs.YtiddgfcoankpjaaDoor.Pa

/-- A term is returned, whose parts are l. -/
def RetT (b d t u s : Int) (l : List PT) (w : World) (e : Ending) (w' : World) : Prop :=
  ∃ A c, e = .returned (trm b d t u s A l.length c) ∧ RP w' w'.heap.size A l.length l ∧ l.length ≤ c ∧ Below w.heap.size w w'

def RetN0 (b d t u s : Int) (w : World) (e : Ending) (w' : World) : Prop := e = .returned (trm b d t u s none 0 0) ∧ Below w.heap.size w w'
theorem const_nil (x : Int) (h1 : -2147483648 ≤ x) (h2 : x ≤ 2147483647) (w : World) : Calls Tryd.prog 12 #[.int .i32 x] w (RetN0 0 0 21 0 x w) := by
  go_enter Tryd.func12, Tryd.ntmps12
  go_wp2_with (fail)
  exact bodyPost_ret (v := trm 0 0 21 0 x none 0 0) (by simp [results, Tryd.results12, go_sem]) rfl ⟨rfl, (Below.refl _ _).alloc (Nat.le_refl _) _⟩

theorem copy_any (a x : Int) (w : World) : Calls Tryd.prog 11 #[.int .i64 a, .int .i64 x] w (RetT 0 0 21 0 x [(a, 0, 21, 0)] w) := by
  have HW := Lib.hid (whole_any a)
  go_enter Tryd.func11, Tryd.ntmps11
  go_wp2_with (fail)
  refine (HW.out _).mono ?_
  rintro e w1 ⟨rfl, hb1⟩
  obtain ⟨r0, r1, r2, r3, r4, r5⟩ := boxed6 hb1
  have hlt : w.heap.size < w1.heap.size := by have := hb1.size; simp at this; omega
  have fz : ∀ i, i < 6 → w1.frozen? ⟨w.heap.size, i, none⟩ = false := fun i hi => by
    rw [hb1.frozen (p := ⟨w.heap.size, i, none⟩) (by simp)]
    simp
  have f0 := fz 0 (by omega)
  have f1 := fz 1 (by omega)
  have f2 := fz 2 (by omega)
  have f3 := fz 3 (by omega)
  have f4 := fz 4 (by omega)
  have f5 := fz 5 (by omega)
  have HB := Lib.hid (((Below.refl _ w).alloc (Nat.le_refl _) _).trans (hb1.mono (by simp)))
  clear fz hb1
  go_wp2_with (fail)
  refine bodyPost_ret (v := trm 0 0 21 0 x (some ⟨w1.heap.size, 0, none⟩) 1 1) (by simp [results, Tryd.results11, go_sem, r0, r1, r2, r3, r4, r5, hlt]) rfl ⟨some ⟨w1.heap.size, 0, none⟩, 1, rfl, ?_, Nat.le_refl _, ?_⟩
  · refine ⟨rfl, fun _ => ⟨w1.heap.size, 0, rfl, by simp, fun j hj => ?_⟩⟩
    obtain rfl : j = 0 := by simp at hj; omega
    refine ⟨?_, ?_, ?_, ?_⟩ <;> (rw [World.cell?_alloc_at (hn := by simp)]; simp)
  · exact ((((((HB.out.setCell (Nat.le_refl _) _).setCell (Nat.le_refl _) _).setCell (Nat.le_refl _) _).setCell (Nat.le_refl _) _).setCell (Nat.le_refl _) _).setCell (Nat.le_refl _) _).alloc (by simp; omega) _

attribute [local go_sem] part_guard part_eqN
end Go.Proofs.YtiddgfcoankpjaaDoor.Te
/- The walks of term.add, and of term.Put at the law's example. -/
namespace Go.Proofs.YtiddgfcoankpjaaDoor.Te
set_option maxRecDepth 100000
open Go Go.RowKit Go.Proofs.YtiddgfcoankpjaaDoor.Sp Go.Proofs.YtiddgfcoankpjaaDoor.Pa

def addT (a b : Int) : Int × Bool := if Sm a ∧ Sm b ∧ Sm (a + b) then (a + b, true) else (0, false)
theorem tadd_any (a b : Int) (w : World) : Calls Tryd.prog 30 #[.int .i64 a, .int .i64 b] w (RetW (.tuple #[.int .i64 (addT a b).1, .bool (addT a b).2]) w) := by
  have HA := Lib.hid (small_any a)
  have HB := Lib.hid (small_any b)
  by_cases h1 : Sm a
  case neg =>
    rw [decide_eq_false h1] at HA
    have HE := Lib.hid (show addT a b = (0, false) from if_neg (fun h => h1 h.1))
    go_enter Tryd.func30, Tryd.ntmps30
    go_wp2_with (fail)
    refine (HA.out _).mono ?_
    rintro e w1 ⟨rfl, rfl⟩
    go_wp2_with (fail)
    go_ret2
    exact ⟨ret_v HE.out, rfl⟩
  rw [decide_eq_true h1] at HA
  by_cases h2 : Sm b
  case neg =>
    rw [decide_eq_false h2] at HB
    have HE := Lib.hid (show addT a b = (0, false) from if_neg (fun h => h2 h.2.1))
    go_enter Tryd.func30, Tryd.ntmps30
    go_wp2_with (fail)
    refine (HA.out _).mono ?_
    rintro e w1 ⟨rfl, rfl⟩
    go_wp2_with (fail)
    refine (HB.out _).mono ?_
    rintro e w1 ⟨rfl, rfl⟩
    go_wp2_with (fail)
    go_ret2
    exact ⟨ret_v HE.out, rfl⟩
  rw [decide_eq_true h2] at HB
  have HC := Lib.hid (small_any (a + b))
  unfold Sm at h1 h2
  obtain ⟨a1, a2⟩ := h1
  obtain ⟨b1, b2⟩ := h2
  by_cases h3 : Sm (a + b)
  case neg =>
    rw [decide_eq_false h3] at HC
    have HE := Lib.hid (show addT a b = (0, false) from if_neg (fun h => h3 h.2.2))
    clear h3
    go_enter Tryd.func30, Tryd.ntmps30
    go_wp2_with (fail)
    refine (HA.out _).mono ?_
    rintro e w1 ⟨rfl, rfl⟩
    go_wp2_with (fail)
    refine (HB.out _).mono ?_
    rintro e w1 ⟨rfl, rfl⟩
    go_wp2_with (fail)
    refine (HC.out _).mono ?_
    rintro e w1 ⟨rfl, rfl⟩
    go_wp2_with (fail)
    go_ret2
    exact ⟨ret_v HE.out, rfl⟩
  rw [decide_eq_true h3] at HC
  have HE := Lib.hid (show addT a b = (a + b, true) from if_pos ⟨⟨a1, a2⟩, ⟨b1, b2⟩, h3⟩)
  clear h3
  go_enter Tryd.func30, Tryd.ntmps30
  go_wp2_with (fail)
  refine (HA.out _).mono ?_
  rintro e w1 ⟨rfl, rfl⟩
  go_wp2_with (fail)
  refine (HB.out _).mono ?_
  rintro e w1 ⟨rfl, rfl⟩
  go_wp2_with (fail)
  refine (HC.out _).mono ?_
  rintro e w1 ⟨rfl, rfl⟩
  go_wp2_with (fail)
  go_ret2
  exact ⟨ret_v HE.out, rfl⟩
theorem part_nil : ∀ (w : World) (a : Option Addr) (n c n' c' : Nat), (binOp .eql 22 (.slice a n c) (.slice none n' c')).run Tryd.prog w = .ok (.bool a.isNone) w := fun w a n c n' c' => Lib.run_eql_slice_nil w _ _ a n c n' c' Tryd.underlying22
theorem clone_nil (w : World) : Calls Tryd.prog 31 #[.slice none 0 0] w (RetW (.slice none 0 0) w) := by
  have q := part_nil
  go_enter Tryd.func31, Tryd.ntmps31
  go_wp2_with (fail)
  go_ret
  exact ⟨rfl, rfl⟩
def RetTB (b d t u s : Int) (ok : Bool) (w : World) (e : Ending) (w' : World) : Prop := e = .returned (.tuple #[trm b d t u s none 0 0, .bool ok]) ∧ Below w.heap.size w w'
attribute [local go_sem] part_guard part_eqN
set_option maxHeartbeats 4000000 in
theorem put_ex (A : Option Addr) (c : Nat) (w : World) (h : RP w w.heap.size A 1 [(0, 0, 21, 0)]) :
    Calls Tryd.prog 10 #[trm 0 0 21 0 1 A 1 c, trm 0 0 21 0 97 none 0 0] w (RetTB 0 0 21 0 98 true w) := by
  obtain ⟨bb, off, a', d', t', u', hA', hbB, ⟨_, hlk⟩, c1, c2, c3, c4⟩ := h.at_ (k := 0) (by omega)
  simp only [List.getElem_cons_zero, Prod.mk.injEq] at hlk
  obtain ⟨rfl, rfl, rfl, rfl⟩ := hlk
  subst hA'
  simp only [Nat.zero_mul, Nat.add_zero] at c1 c2 c3 c4
  obtain ⟨w0, hw0⟩ : ∃ w0, ((w.alloc (.cells (tcells 0 0 21 0 1 (some ⟨bb, off, none⟩) 1 c) 24)).alloc (.cells (tcells 0 0 21 0 97 none 0 0) 24)).alloc (.cells (tcells 0 0 0 0 0 none 0 0) 24) = w0 := ⟨_, rfl⟩
  have hs0 : w0.heap.size = w.heap.size + 1 + 1 + 1 := by rw [← hw0]; simp
  have hb0 : Below w.heap.size w w0 := by rw [← hw0]; exact (((Below.refl _ _).alloc (Nat.le_refl _) _).alloc (by simp) _).alloc (by simp only [World.size_alloc]; omega) _
  have XU := Lib.hid (fun W (hb : Below w0.heap.size w0 W) => show Boxed6 W w.heap.size 0 0 21 0 1 (some ⟨bb, off, none⟩) 1 c from by
    rw [← hw0] at hb
    exact boxed6 (((((Below.refl _ _).alloc (Nat.le_refl _) _).alloc (by simp) _).trans (hb.mono (by simp)))))
  have XT := Lib.hid (fun W (hb : Below w0.heap.size w0 W) => show Boxed6 W (w.heap.size + 1) 0 0 21 0 97 none 0 0 from by
    rw [← hw0] at hb
    have := boxed6 (w := w.alloc (.cells (tcells 0 0 21 0 1 (some ⟨bb, off, none⟩) 1 c) 24)) (((Below.refl _ _).alloc (Nat.le_refl _) _).trans (hb.mono (by simp)))
    simpa using this)
  have XR := Lib.hid (fun W (hb : Below w0.heap.size w0 W) => show Boxed6 W (w.heap.size + 1 + 1) 0 0 0 0 0 none 0 0 from by
    rw [← hw0] at hb
    have := boxed6 (w := (w.alloc (.cells (tcells 0 0 21 0 1 (some ⟨bb, off, none⟩) 1 c) 24)).alloc (.cells (tcells 0 0 21 0 97 none 0 0) 24)) hb
    simpa using this)
  have HC := Lib.hid (show ∀ W, Below w0.heap.size w0 W → W.cell? ⟨w.heap.size, 5, none⟩ = some (.slice (some ⟨bb, off, none⟩) 1 c) ∧ W.cell? ⟨bb, off, none⟩ = some (.int .i64 0) ∧ W.cell? ⟨bb, off + 1, none⟩ = some (.int .i64 0) ∧ W.cell? ⟨bb, off + 2, none⟩ = some (.int .i64 21) ∧ W.cell? ⟨bb, off + 3, none⟩ = some (.int .i64 0) from fun W hW => by
    have hw := hb0.trans (hW.mono hb0.size)
    exact ⟨(XU.out W hW).2.2.2.2.2, (hw.cell hbB).trans c1, (hw.cell hbB).trans c2, (hw.cell hbB).trans c3, (hw.cell hbB).trans c4⟩)
  have HFZ := Lib.hid (show ∀ W, Below w0.heap.size w0 W → ∀ i, i < 6 → W.frozen? ⟨w.heap.size + 1 + 1, i, none⟩ = false from fun W hW i hi => by
    rw [hW.frozen (by simp only; omega), ← hw0]
    have q : ∀ (w' : World) (cs : Array Value), (w'.alloc (.cells cs 24)).frozen? ⟨w'.heap.size, i, none⟩ = false := fun w' cs => by simp
    have q1 := q ((w.alloc (.cells (tcells 0 0 21 0 1 (some ⟨bb, off, none⟩) 1 c) 24)).alloc (.cells (tcells 0 0 21 0 97 none 0 0) 24)) (tcells 0 0 0 0 0 none 0 0)
    rw [World.size_alloc, World.size_alloc] at q1
    exact q1)
  have HB0 := Lib.hid hb0
  have HL := Lib.hid (fun W => tplain_any 0 0 21 0 97 none 0 0 W)
  have HA := Lib.hid (fun W => tadd_any 1 97 W)
  rw [show plainT 0 0 21 0 = true from rfl] at HL
  rw [show addT 1 97 = (98, true) from rfl] at HA
  have HN := Lib.hid clone_nil
  obtain ⟨p0, p1, p2, p3, p4⟩ := HC.out w0 (Below.refl _ _)
  clear c1 c2 c3 c4 hb0 h
  go_enter Tryd.func10, Tryd.ntmps10
  go_wp2_with (fail)
  go_region_held3 (fun w' => w'.cell? ⟨w.heap.size, 5, none⟩ = some (.slice (some ⟨bb, off, none⟩) 1 c) ∧ w'.cell? ⟨bb, off, none⟩ = some (.int .i64 0) ∧ w'.cell? ⟨bb, off + 1, none⟩ = some (.int .i64 0) ∧ w'.cell? ⟨bb, off + 2, none⟩ = some (.int .i64 21) ∧ w'.cell? ⟨bb, off + 3, none⟩ = some (.int .i64 0))
    (first | go_keep | exact HC.out _ (Below.refl _ _).drew | exact HC.out _ hB2)
    (first
      | (go_at_call 28; (with_reducible refine (whole_any _ _).mono ?_); rintro q2 w2 ⟨rfl, hb2⟩; have hB2 : Below w0.heap.size w0 w2 := (Below.refl _ w0).drew.trans (hb2.mono (by simp))))
  have HB2 := Lib.hid hB2
  clear hB2 hb2 p0 p1 p2 p3 p4
  have hz2 := HB2.out.size
  obtain ⟨w3, hw3⟩ : ∃ w3, w2.alloc (.cells (tcells 0 0 0 0 0 none 0 0) 24) = w3 := ⟨_, rfl⟩
  have h23 : Below w2.heap.size w2 w3 := by rw [← hw3]; exact (Below.refl _ _).alloc (Nat.le_refl _) _
  have h03 := HB2.out.trans (h23.mono hz2)
  obtain ⟨t0, t1, t2, t3, t4, t5⟩ := XT.out _ h03
  go_wp2_with (fail)
  refine (HL.out _).mono ?_
  rintro e w4 ⟨rfl, hb4⟩
  have XG : Boxed6 w4 w2.heap.size 0 0 0 0 0 none 0 0 := by rw [← hw3] at hb4; exact boxed6 hb4
  obtain ⟨g0, g1, g2, g3, g4, g5⟩ := XG
  have h34 := h03.trans (hb4.mono h03.size)
  obtain ⟨u0, u1, u2, u3, u4, u5⟩ := XU.out _ h34
  obtain ⟨s0, s1, s2, s3, s4, s5⟩ := XT.out _ h34
  obtain ⟨r0, r1, r2, r3, r4, r5⟩ := XR.out _ h34
  have fz : ∀ i, i < 6 → w4.frozen? ⟨w2.heap.size, i, none⟩ = false := fun i hi => by
    rw [← hw3] at hb4
    rw [hb4.frozen (p := ⟨w2.heap.size, i, none⟩) (by simp)]
    simp
  have f0 := fz 0 (by omega)
  have f1 := fz 1 (by omega)
  have f2 := fz 2 (by omega)
  have f3 := fz 3 (by omega)
  have f4 := fz 4 (by omega)
  have f5 := fz 5 (by omega)
  have k0 := HFZ.out _ h34 0 (by omega)
  have k1 := HFZ.out _ h34 1 (by omega)
  have k2 := HFZ.out _ h34 2 (by omega)
  have k3 := HFZ.out _ h34 3 (by omega)
  have k4 := HFZ.out _ h34 4 (by omega)
  have k5 := HFZ.out _ h34 5 (by omega)
  have hlt : w.heap.size + 1 + 1 < w2.heap.size := by omega
  have hlt2 : w2.heap.size < w4.heap.size := by have := hb4.size; rw [← hw3] at this; simp at this; omega
  have ne1 : ¬ (w.heap.size = w2.heap.size) := by omega
  have ne2 : ¬ (w.heap.size + 1 = w2.heap.size) := by omega
  have ne3 : ¬ (w.heap.size + 1 + 1 = w2.heap.size) := by omega
  have H34 := Lib.hid h34
  clear fz h34 h03 h23 hb4 t0 t1 t2 t3 t4 t5
  go_wp2_with (fail)
  obtain ⟨w5, hw5⟩ : ∃ w5, ((((((w4.setCell ⟨w2.heap.size, 0, none⟩ (.int .i64 0)).setCell ⟨w2.heap.size, 1, none⟩ (.int .i64 0)).setCell ⟨w2.heap.size, 2, none⟩ (.int .i64 21)).setCell ⟨w2.heap.size, 3, none⟩ (.int .i64 0)).setCell ⟨w2.heap.size, 4, none⟩ (.int .i64 1)).setCell ⟨w2.heap.size, 5, none⟩ (.slice (some ⟨bb, off, none⟩) 1 c)) = w5 := ⟨_, rfl⟩
  rw [hw5]
  have hB5 : Below w0.heap.size w4 w5 := by
    rw [← hw5]
    exact (((((((Below.refl _ _).setCell (by simp only; omega) _).setCell (by simp only; omega) _).setCell (by simp only; omega) _).setCell (by simp only; omega) _).setCell (by simp only; omega) _).setCell (by simp only; omega) _)
  have G5 : Boxed6 w5 w2.heap.size 0 0 21 0 1 (some ⟨bb, off, none⟩) 1 c := by
    rw [← hw5]
    refine ⟨?_, ?_, ?_, ?_, ?_, ?_⟩ <;> simp [go_sem, g0, g1, g2, g3, g4, g5]
  have F5 : ∀ i, i < 6 → w5.frozen? ⟨w2.heap.size, i, none⟩ = false := fun i hi => by
    rw [← hw5]
    have : w4.frozen? ⟨w2.heap.size, i, none⟩ = false := by
      rcases (show i = 0 ∨ i = 1 ∨ i = 2 ∨ i = 3 ∨ i = 4 ∨ i = 5 from by omega) with rfl | rfl | rfl | rfl | rfl | rfl <;> assumption
    simpa using this
  have h05 := H34.out.trans hB5
  clear g0 g1 g2 g3 g4 g5 u0 u1 u2 u3 u4 u5 s0 s1 s2 s3 s4 s5 r0 r1 r2 r3 r4 r5 f0 f1 f2 f3 f4 f5 k0 k1 k2 k3 k4 k5 hw5 hB5 hlt2
  obtain ⟨s0, s1, s2, s3, s4, s5⟩ := XT.out _ h05
  obtain ⟨g0, g1, g2, g3, g4, g5⟩ := G5
  have f4 := F5 4 (by omega)
  have f5 := F5 5 (by omega)
  have H05 := Lib.hid h05
  clear h05
  refine (HA.out _).mono ?_
  rintro e w9 ⟨rfl, rfl⟩
  go_wp2_with (fail)
  refine (HN.out _).mono ?_
  rintro e w9 ⟨rfl, rfl⟩
  obtain ⟨w6, hw6⟩ : ∃ w6, w5.setCell ⟨w2.heap.size, 4, none⟩ (.int .i64 98) = w6 := ⟨_, rfl⟩
  rw [hw6]
  have hB6 : Below w0.heap.size w5 w6 := by rw [← hw6]; exact (Below.refl _ _).setCell (by simp only; omega) _
  have G6 : Boxed6 w6 w2.heap.size 0 0 21 0 98 (some ⟨bb, off, none⟩) 1 c := by
    rw [← hw6]
    refine ⟨?_, ?_, ?_, ?_, ?_, ?_⟩ <;> simp [go_sem, g0, g1, g2, g3, g4, g5]
  have f6 : w6.frozen? ⟨w2.heap.size, 5, none⟩ = false := by rw [← hw6]; simpa using f5
  have h06 := H05.out.trans hB6
  clear g0 g1 g2 g3 g4 g5 f4 f5 F5 hw6 hB6 s0 s1 s2 s3 s4 s5
  obtain ⟨r0, r1, r2, r3, r4, r5⟩ := XR.out _ h06
  obtain ⟨g0, g1, g2, g3, g4, g5⟩ := G6
  have k0 := HFZ.out _ h06 0 (by omega)
  have k1 := HFZ.out _ h06 1 (by omega)
  have k2 := HFZ.out _ h06 2 (by omega)
  have k3 := HFZ.out _ h06 3 (by omega)
  have k4 := HFZ.out _ h06 4 (by omega)
  have k5 := HFZ.out _ h06 5 (by omega)
  have H06 := Lib.hid h06
  clear h06
  go_wp2_with (fail)
  have hb9 := HB0.out.trans (H06.out.mono HB0.out.size)
  refine bodyPost_ret (v := .tuple #[trm 0 0 21 0 98 none 0 0, .bool true]) (by simp [results, Tryd.results10, go_sem, r0, r1, r2, r3, r4, r5]) rfl ⟨rfl, ?_⟩
  exact (((((((hb9.setCell (by simp only; omega) _).setCell (by simp only; omega) _).setCell (by simp only; omega) _).setCell (by simp only; omega) _).setCell (by simp only; omega) _).setCell (by simp only; omega) _).setCell (by simp only; omega) _)
end Go.Proofs.YtiddgfcoankpjaaDoor.Te
/- slices.Clone of parts; the box of a term that is stored into, with what may be written there. -/
namespace Go.Proofs.YtiddgfcoankpjaaDoor.Te
set_option maxRecDepth 100000
open Go Go.RowKit Go.Proofs.YtiddgfcoankpjaaDoor.Sp Go.Proofs.YtiddgfcoankpjaaDoor.Pa

abbrev encP (p : PT) : List Value := [.int .i64 p.1, .int .i64 p.2.1, .int .i64 p.2.2.1, .int .i64 p.2.2.2]
def flatP (l : List PT) : List Value := l.flatMap encP
theorem flatP_cons (p : PT) (l : List PT) : flatP (p :: l) = .int .i64 p.1 :: .int .i64 p.2.1 :: .int .i64 p.2.2.1 :: .int .i64 p.2.2.2 :: flatP l := rfl
theorem flatP_append (l r : List PT) : flatP (l ++ r) = flatP l ++ flatP r := List.flatMap_append
theorem flatP_at : ∀ (l : List PT) (j : Nat) (h : j < l.length), (flatP l)[4 * j]? = some (.int .i64 l[j].1) ∧ (flatP l)[4 * j + 1]? = some (.int .i64 l[j].2.1) ∧ (flatP l)[4 * j + 2]? = some (.int .i64 l[j].2.2.1) ∧ (flatP l)[4 * j + 3]? = some (.int .i64 l[j].2.2.2) := by
  intro l
  induction l with
  | nil => intro j h; simp at h
  | cons p l ih =>
    intro j h
    cases j with
    | zero => exact ⟨rfl, rfl, rfl, rfl⟩
    | succ j =>
      have := ih j (by simpa using h)
      rw [flatP_cons]
      rw [show 4 * (j + 1) = 4 * j + 1 + 1 + 1 + 1 from by omega]
      simpa using this
def OwnsP (w : World) (base : Nat) (v : Value) (l : List PT) : Prop := w.ownsRow base 39 4 v l.length (flatP l)
theorem infoPart : (Tryd.prog.info? 39).map (fun i => (i.zero, i.size, i.bytes)) = some (some (.agg #[.int .i64 0, .int .i64 0, .int .i64 0, .int .i64 0]), 4, 32) := by kernel_rfl
theorem own_RP {w : World} {base : Nat} {v : Value} {l : List PT} (h : OwnsP w base v l) : ∃ A c, v = .slice A l.length c ∧ RP w w.heap.size A l.length l ∧ l.length ≤ c ∧ ∀ b off, A = some ⟨b, off, none⟩ → base ≤ b := by
  have h0 := h
  obtain ⟨h1, h2⟩ := h
  rcases h2 with ⟨hv, hn⟩ | ⟨g, cap, cur, hv, hb, hr⟩
  · obtain rfl : l = [] := List.eq_nil_of_length_eq_zero hn
    exact ⟨none, 0, hv, RP.nil_ _ _ _, Nat.le_refl _, fun _ _ e => by cases e⟩
  · subst hv
    refine ⟨some ⟨g, 0, none⟩, cap, rfl, ⟨rfl, fun hn => ?_⟩, hr.2.1, fun b off e => by injection e with e; injection e with e _ _; omega⟩
    refine ⟨g, 0, rfl, (World.ownsRow.lt h0 g rfl).2, fun j hj => ?_⟩
    obtain ⟨a0, a1, a2, a3⟩ := flatP_at l j hj
    have c0 := World.ownsRow.cells h0 (g := g) rfl (4 * j) _ a0
    have c1 := World.ownsRow.cells h0 (g := g) rfl (4 * j + 1) _ a1
    have c2 := World.ownsRow.cells h0 (g := g) rfl (4 * j + 2) _ a2
    have c3 := World.ownsRow.cells h0 (g := g) rfl (4 * j + 3) _ a3
    rw [Go.WideShapes.add_plain] at c0 c1 c2 c3
    simp only [Nat.zero_add] at *
    rw [show j * 4 = 4 * j from by omega]
    exact ⟨c0, c1, c2, c3⟩
/-- Written was to block g alone. -/
def FarB (W W' : World) (g : Nat) : Prop := (∀ p : Addr, p.block ≠ g → W'.cell? p = W.cell? p ∧ W'.frozen? p = W.frozen? p) ∧ W'.heap.size = W.heap.size
theorem FarB.refl (W : World) (g : Nat) : FarB W W g := ⟨fun _ _ => ⟨rfl, rfl⟩, rfl⟩
theorem FarB.set {W W' : World} {g i : Nat} (h : FarB W W' g) (v : Value) : FarB W (W'.setCell ⟨g, i, none⟩ v) g :=
  ⟨fun p hp => ⟨(World.cell?_setCell_far _ _ _ _ (Ne.symm hp)).trans (h.1 p hp).1, (by simp : _ = W'.frozen? p).trans (h.1 p hp).2⟩, (by simp : _ = W'.heap.size).trans h.2⟩
theorem RP.far {W W' : World} {B n g : Nat} {A : Option Addr} {l : List PT} (h : RP W B A n l) (hf : FarB W W' g) (hA : ∀ b off, A = some ⟨b, off, none⟩ → b ≠ g) : RP W' B A n l :=
  ⟨h.1, fun hn => by
    obtain ⟨b, off, e, hb, hc⟩ := h.2 hn
    have k : ∀ i, W'.cell? ⟨b, i, none⟩ = W.cell? ⟨b, i, none⟩ := fun i => (hf.1 ⟨b, i, none⟩ (hA b off e)).1
    exact ⟨b, off, e, hb, fun j hj => ⟨(k _).trans (hc j hj).1, (k _).trans (hc j hj).2.1, (k _).trans (hc j hj).2.2.1, (k _).trans (hc j hj).2.2.2⟩⟩⟩
/-- A box of a term, that may be written. -/
def BoxF (W : World) (g : Nat) (b d t u s : Int) (A : Option Addr) (n c : Nat) : Prop := Boxed6 W g b d t u s A n c ∧ ∀ i, i < 6 → W.frozen? ⟨g, i, none⟩ = false
section
variable {W W' w : World} {g B : Nat} {b d t u s : Int} {A : Option Addr} {n c : Nat} {ty : TypeId}
theorem BoxF.new (w : World) (b d t u s : Int) (A : Option Addr) (n c : Nat) (ty : TypeId) : BoxF (w.alloc (.cells (tcells b d t u s A n c) ty)) w.heap.size b d t u s A n c := ⟨boxed6 (Below.refl _ _), fun i hi => by simp⟩
theorem BoxF.keep (h : BoxF W g b d t u s A n c) (hb : Below B W W') (hg : g < B) : BoxF W' g b d t u s A n c := by
  obtain ⟨⟨h0, h1, h2, h3, h4, h5⟩, hf⟩ := h
  exact ⟨⟨(hb.cell hg).trans h0, (hb.cell hg).trans h1, (hb.cell hg).trans h2, (hb.cell hg).trans h3, (hb.cell hg).trans h4, (hb.cell hg).trans h5⟩, fun i hi => (hb.frozen (p := ⟨g, i, none⟩) hg).trans (hf i hi)⟩
/-- A store into one box leaves another one as it is. -/
theorem BoxF.far (h : BoxF W g b d t u s A n c) {g' : Nat} (hw : FarB W W' g') (hne : g ≠ g') : BoxF W' g b d t u s A n c := by
  obtain ⟨⟨h0, h1, h2, h3, h4, h5⟩, hf⟩ := h
  have k := fun i => hw.1 ⟨g, i, none⟩ hne
  exact ⟨⟨(k 0).1.trans h0, (k 1).1.trans h1, (k 2).1.trans h2, (k 3).1.trans h3, (k 4).1.trans h4, (k 5).1.trans h5⟩, fun i hi => (k i).2.trans (hf i hi)⟩
end
end Go.Proofs.YtiddgfcoankpjaaDoor.Te
/- The walk of the document's Value of a term. -/
namespace Go.Proofs.YtiddgfcoankpjaaDoor.Te
set_option maxRecDepth 100000
open Go Go.RowKit Go.Proofs.YtiddgfcoankpjaaDoor.Sp Go.Proofs.YtiddgfcoankpjaaDoor.Pa

end Go.Proofs.YtiddgfcoankpjaaDoor.Te
/- The walk of the law's examples (awake). -/
namespace Go.Proofs.YtiddgfcoankpjaaDoor.Te
set_option maxRecDepth 100000
open Go Go.RowKit Go.Proofs.YtiddgfcoankpjaaDoor.Sp Go.Proofs.YtiddgfcoankpjaaDoor.Pa

abbrev exP : List PT := [(1, 0, 6, 0), (0, 0, 5, 6)]
theorem ex_value : valueT 0 0 21 0 0 exP [195, 188] = (252, true) := by
  have h1 : symB [195, 188] = true := symB_true (fun x hx => by simp at hx; rcases hx with rfl | rfl <;> (unfold Sy; omega))
  have h2 : partsB ([195, 188] : List Int).length exP = true := by decide
  have v1 : valI 0 6 0 188 = 60 := by decide
  have v2 : valI 0 5 6 195 = 192 := by decide
  have v3 : valI 0 21 0 252 = 252 := by decide
  have hi : innerT [195, 188] 0 exP = 252 := by
    show wrap64 (wrap64 (0 + valI 0 6 0 188) + valI 0 5 6 195) = 252
    rw [v1, v2]
    kernel_rfl
  have hw : wholeT 0 0 21 0 252 = (252, true) := by
    unfold wholeT
    rw [if_pos ⟨by unfold Sy; omega, by decide⟩, v3]
    kernel_rfl
  unfold valueT
  rw [if_pos ⟨h1, h2⟩, hi, hw]
theorem ex_right : rightT 1 2 2 0 0 21 0 0 exP = true := by
  have h : riseB exP = true := riseB_true (k := 2) (fun i h1 h2 => by
    obtain rfl : i = 0 := by omega
    show (0 : Int) < 6
    decide) (by decide)
  have hn : numB 0 0 21 0 0 exP = true := by unfold numB; rw [h]; decide
  unfold rightT
  rw [hn]
  decide
theorem RP_two {w : World} {g B : Nat} (h1 : ∀ i (hi : i < 8), w.cell? ⟨g, i, none⟩ = some (#[Value.int .i64 1, .int .i64 0, .int .i64 6, .int .i64 0, .int .i64 0, .int .i64 0, .int .i64 5, .int .i64 6][i])) (hB : g < B) : RP w B (some ⟨g, 0, none⟩) 2 exP :=
  ⟨rfl, fun _ => ⟨g, 0, rfl, hB, fun j hj => by
    rcases (show j = 0 ∨ j = 1 from by simp at hj; omega) with rfl | rfl
    · exact ⟨h1 0 (by decide), h1 1 (by decide), h1 2 (by decide), h1 3 (by decide)⟩
    · exact ⟨h1 4 (by decide), h1 5 (by decide), h1 6 (by decide), h1 7 (by decide)⟩⟩⟩
set_option maxHeartbeats 4000000 in
theorem tawake_any (w : World) : Calls Tryd.prog 5 #[] w (RetB true w) := by
  go_enter Tryd.func5, Tryd.ntmps5
  go_wp2_with (fail)
  have HV := Lib.hid (fun W h h' => tvalue_any 0 0 21 0 0 (some ⟨w.heap.size, 0, none⟩) (some ⟨w.heap.size + 1 + 1, 0, none⟩) 2 2 2 2 exP [195, 188] W h (by unfold maxLen; omega) h' (by unfold maxLen; omega))
  rw [ex_value] at HV
  have hrp : RP (((w.alloc (.cells #[.int .i64 1, .int .i64 0, .int .i64 6, .int .i64 0, .int .i64 0, .int .i64 0, .int .i64 5, .int .i64 6] 39)).alloc (.cells (tcells 0 0 21 0 0 (some ⟨w.heap.size, 0, none⟩) 2 2) 24)).alloc (.cells #[.int .i32 195, .int .i32 188] 21)) (w.heap.size + 1 + 1 + 1) (some ⟨w.heap.size, 0, none⟩) 2 exP := RP_two (fun i hi => by
    rcases (show i = 0 ∨ i = 1 ∨ i = 2 ∨ i = 3 ∨ i = 4 ∨ i = 5 ∨ i = 6 ∨ i = 7 from by omega) with rfl | rfl | rfl | rfl | rfl | rfl | rfl | rfl <;> simp [go_sem]) (by omega)
  have hrr : RR (((w.alloc (.cells #[.int .i64 1, .int .i64 0, .int .i64 6, .int .i64 0, .int .i64 0, .int .i64 0, .int .i64 5, .int .i64 6] 39)).alloc (.cells (tcells 0 0 21 0 0 (some ⟨w.heap.size, 0, none⟩) 2 2) 24)).alloc (.cells #[.int .i32 195, .int .i32 188] 21)) (w.heap.size + 1 + 1 + 1) (some ⟨w.heap.size + 1 + 1, 0, none⟩) 2 [195, 188] := ⟨rfl, fun x hx => by simp at hx; omega, fun _ => ⟨w.heap.size + 1 + 1, 0, rfl, by omega, fun j hj => by
    rcases (show j = 0 ∨ j = 1 from by simp at hj; omega) with rfl | rfl <;> simp [go_sem]⟩⟩
  have hrt : Boxed6 (((w.alloc (.cells #[.int .i64 1, .int .i64 0, .int .i64 6, .int .i64 0, .int .i64 0, .int .i64 0, .int .i64 5, .int .i64 6] 39)).alloc (.cells (tcells 0 0 21 0 0 (some ⟨w.heap.size, 0, none⟩) 2 2) 24)).alloc (.cells #[.int .i32 195, .int .i32 188] 21)) (w.heap.size + 1) 0 0 21 0 0 (some ⟨w.heap.size, 0, none⟩) 2 2 := by
    refine ⟨?_, ?_, ?_, ?_, ?_, ?_⟩ <;> simp [go_sem]
  have hbw : Below w.heap.size w (((w.alloc (.cells #[.int .i64 1, .int .i64 0, .int .i64 6, .int .i64 0, .int .i64 0, .int .i64 0, .int .i64 5, .int .i64 6] 39)).alloc (.cells (tcells 0 0 21 0 0 (some ⟨w.heap.size, 0, none⟩) 2 2) 24)).alloc (.cells #[.int .i32 195, .int .i32 188] 21)) := (((Below.refl _ _).alloc (Nat.le_refl _) _).alloc (by simp) _).alloc (by simp only [World.size_alloc]; omega) _
  obtain ⟨w0, hw0⟩ : ∃ w0, (((w.alloc (.cells #[.int .i64 1, .int .i64 0, .int .i64 6, .int .i64 0, .int .i64 0, .int .i64 0, .int .i64 5, .int .i64 6] 39)).alloc (.cells (tcells 0 0 21 0 0 (some ⟨w.heap.size, 0, none⟩) 2 2) 24)).alloc (.cells #[.int .i32 195, .int .i32 188] 21)) = w0 := ⟨_, rfl⟩
  have hs0 : w0.heap.size = w.heap.size + 1 + 1 + 1 := by rw [← hw0]; simp
  rw [hw0] at hrp hrr hrt hbw ⊢
  rw [← hs0] at hrp hrr
  have HRP := Lib.hid hrp
  have HBW := Lib.hid hbw
  have HRT := Lib.hid (show ∀ W, Below w0.heap.size w0 W → Boxed6 W (w.heap.size + 1) 0 0 21 0 0 (some ⟨w.heap.size, 0, none⟩) 2 2 from fun W hW => by
    obtain ⟨a0, a1, a2, a3, a4, a5⟩ := hrt
    exact ⟨(hW.cell (by simp only; omega)).trans a0, (hW.cell (by simp only; omega)).trans a1, (hW.cell (by simp only; omega)).trans a2, (hW.cell (by simp only; omega)).trans a3, (hW.cell (by simp only; omega)).trans a4, (hW.cell (by simp only; omega)).trans a5⟩)
  refine (HV.out _ hrp hrr).mono ?_
  rintro e w1 ⟨rfl, hb1⟩
  have HB1 := Lib.hid hb1
  clear hw0 hrp hrr hrt hbw hb1
  go_wp2_with (fail)
  refine (copy_any 0 1 _).mono ?_
  rintro e w2 ⟨A2, c2, rfl, hr2, hc2, hb2⟩
  have HB2 := Lib.hid (HB1.out.trans (hb2.mono HB1.out.size))
  have HR2 := Lib.hid hr2
  clear hb2 hr2
  simp only [List.length_singleton]
  go_wp2_with (fail)
  refine (const_nil 97 (by omega) (by omega) _).mono ?_
  rintro e w3 ⟨rfl, hb3⟩
  have HR3 := Lib.hid (HR2.out.belowM hb3)
  have HB3 := Lib.hid (HB2.out.trans (hb3.mono HB2.out.size))
  clear hb3
  go_wp2_with (fail)
  refine (put_ex A2 c2 _ HR3.out).mono ?_
  rintro e w4 ⟨rfl, hb4⟩
  have hb44 := HB3.out.trans (hb4.mono HB3.out.size)
  obtain ⟨w5, hw5⟩ : ∃ w5, w4.alloc (.cells (tcells 0 0 21 0 98 none 0 0) 24) = w5 := ⟨_, rfl⟩
  have h45 : Below w4.heap.size w4 w5 := by rw [← hw5]; exact (Below.refl _ _).alloc (Nat.le_refl _) _
  have B5 : Boxed6 w5 w4.heap.size 0 0 21 0 98 none 0 0 := by rw [← hw5]; exact boxed6 (Below.refl _ _)
  obtain ⟨q0, q1, q2, q3, q4, q5⟩ := B5
  have hb5 := hb44.trans (h45.mono hb44.size)
  obtain ⟨r0, r1, r2, r3, r4, r5⟩ := HRT.out _ hb5
  have HB5 := Lib.hid hb5
  have HX := Lib.hid (fun W (hW : Below w0.heap.size w0 W) => tright_any 1 2 2 0 0 21 0 0 (some ⟨w.heap.size, 0, none⟩) 2 2 exP W (HRP.out.belowM hW) (by unfold maxLen; omega))
  rw [ex_right] at HX
  have hz4 : w0.heap.size ≤ w4.heap.size := hb44.size
  have ne1 : ¬ (w.heap.size + 1 = w4.heap.size) := by omega
  have ne2 : ¬ (w4.heap.size = w.heap.size + 1) := by omega
  have H6 := Lib.hid (hb5.setCell (p := ⟨w4.heap.size, 5, none⟩) hz4 (.slice none 0 0))
  have fz : ∀ i, i < 6 → w5.frozen? ⟨w4.heap.size, i, none⟩ = false := fun i hi => by rw [← hw5]; simp
  have f0 := fz 0 (by omega)
  have f1 := fz 1 (by omega)
  have f2 := fz 2 (by omega)
  have f3 := fz 3 (by omega)
  have f4 := fz 4 (by omega)
  have f5 := fz 5 (by omega)
  clear hb44 hb4 h45 hb5 fz
  go_wp2_with (fail)
  refine (HX.out _ H6.out).mono ?_
  rintro e w6 ⟨rfl, hb6⟩
  have HB6 := Lib.hid (H6.out.trans (hb6.mono H6.out.size))
  clear hb6
  go_wp2_with (fail)
  go_ret
  exact ⟨rfl, HBW.out.trans (HB6.out.mono HBW.out.size)⟩
end Go.Proofs.YtiddgfcoankpjaaDoor.Te
