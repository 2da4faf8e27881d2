/- Texts of this proof, joined: PaFun, PaVal, TeBase, TeFun, TeRight, TeCopies, TeRights, DeBase, TeConst. -/
import Derived.Test.YtboaifdkoemnbaaProg
import Derived.Test.YtboaifdkoemnbaaJ1
import Derived.Test.YtboaifdkoemnbaaJ3
import Derived.WalkArith
import Derived.IntWalk
import Derived.Deep.RegionHeld3
/- The walks of part.bitsRight, Right, Whole, most, Value, and of the document's Two, Bits, Right, Value. -/
namespace Go.Proofs.Ytboaifdkoemnbaa.Pa
set_option maxRecDepth 100000
open Go Go.RowKit Go.Proofs.Ytboaifdkoemnbaa.Sp

/-- A part, as a value. -/
abbrev prt (a d t u : Int) : Value := .agg #[.int .i64 a, .int .i64 d, .int .i64 t, .int .i64 u]

set_option maxHeartbeats 1000000 in
theorem bits_any (a d t u : Int) (w : World) : Calls Try.prog 64 #[prt a d t u] w (RetB (decide (Bits d t u)) w) := by
  by_cases hb : Bits d t u
  · rw [decide_eq_true hb]
    obtain ⟨h1, h2, h3, h4, h5, h6, h7⟩ := hb
    by_cases h8 : u = 0
    · subst h8
      go_enter Try.func64, Try.ntmps64
      go_wp2_with (fail)
      go_ret
      exact ⟨rfl, (Below.refl _ _).alloc (Nat.le_refl _) _⟩
    · have h7' : t ≤ 6 := by omega
      have h8' : (u == 0) = false := by simpa using h8
      clear h7 h8
      go_enter Try.func64, Try.ntmps64
      go_wp2_with (fail)
      go_ret
      exact ⟨rfl, (Below.refl _ _).alloc (Nat.le_refl _) _⟩
  · rw [decide_eq_false hb]
    by_cases h1 : 0 ≤ d
    · by_cases h2 : d ≤ 20
      · by_cases h3 : 1 ≤ t
        · by_cases h4 : t ≤ 21
          · by_cases h5 : 0 ≤ u
            · by_cases h6 : u ≤ 20
              · have h7 : 6 < t := by unfold Bits at hb; omega
                have h8 : (u == 0) = false := by unfold Bits at hb; simp; omega
                clear hb
                go_enter Try.func64, Try.ntmps64
                go_wp2_with (fail)
                go_ret
                exact ⟨ret_bool (by simp; omega), (Below.refl _ _).alloc (Nat.le_refl _) _⟩
              · clear hb
                go_enter Try.func64, Try.ntmps64
                go_wp2_with (fail)
                go_ret
                exact ⟨rfl, (Below.refl _ _).alloc (Nat.le_refl _) _⟩
            · clear hb
              go_enter Try.func64, Try.ntmps64
              go_wp2_with (fail)
              go_ret
              exact ⟨rfl, (Below.refl _ _).alloc (Nat.le_refl _) _⟩
          · clear hb
            go_enter Try.func64, Try.ntmps64
            go_wp2_with (fail)
            go_ret
            exact ⟨rfl, (Below.refl _ _).alloc (Nat.le_refl _) _⟩
        · clear hb
          go_enter Try.func64, Try.ntmps64
          go_wp2_with (fail)
          go_ret
          exact ⟨rfl, (Below.refl _ _).alloc (Nat.le_refl _) _⟩
      · clear hb
        go_enter Try.func64, Try.ntmps64
        go_wp2_with (fail)
        go_ret
        exact ⟨rfl, (Below.refl _ _).alloc (Nat.le_refl _) _⟩
    · clear hb
      go_enter Try.func64, Try.ntmps64
      go_wp2_with (fail)
      go_ret
      exact ⟨rfl, (Below.refl _ _).alloc (Nat.le_refl _) _⟩

def rightB (a d t u n : Int) : Bool := decide (0 ≤ a ∧ a < n ∧ Bits d t u)
set_option maxHeartbeats 1000000 in
theorem right_any (a d t u n : Int) (w : World) : Calls Try.prog 61 #[prt a d t u, .int .i64 n] w (RetB (rightB a d t u n) w) := by
  by_cases h1 : 0 ≤ a
  · by_cases h2 : a < n
    · have e : rightB a d t u n = decide (Bits d t u) := by unfold rightB; simp [h1, h2]
      have HE := Lib.hid e
      have HB := Lib.hid (bits_any a d t u)
      clear e
      go_enter Try.func61, Try.ntmps61
      go_wp2_with (fail)
      refine (HB.out _).mono ?_
      rintro e w1 ⟨rfl, hb1⟩
      go_wp2_with (fail)
      go_ret
      exact ⟨ret_bool HE.out.symm, ((Below.refl _ _).alloc (Nat.le_refl _) _).trans (hb1.mono (by simp))⟩
    · have HE := Lib.hid (show rightB a d t u n = false by unfold rightB; simp [h2])
      go_enter Try.func61, Try.ntmps61
      go_wp2_with (fail)
      go_ret
      exact ⟨ret_bool HE.out.symm, (Below.refl _ _).alloc (Nat.le_refl _) _⟩
  · have HE := Lib.hid (show rightB a d t u n = false by unfold rightB; simp [h1])
    go_enter Try.func61, Try.ntmps61
    go_wp2_with (fail)
    go_ret
    exact ⟨ret_bool HE.out.symm, (Below.refl _ _).alloc (Nat.le_refl _) _⟩

def RetP (a d t u : Int) (w : World) (e : Ending) (w' : World) : Prop := e = .returned (prt a d t u) ∧ Below w.heap.size w w'
theorem whole_any (a : Int) (w : World) : Calls Try.prog 63 #[.int .i64 a] w (RetP a 0 21 0 w) := by
  go_enter Try.func63, Try.ntmps63
  go_wp2_with (fail)
  exact bodyPost_ret (v := prt a 0 21 0) (by simp [results, Try.results63, go_sem]) rfl ⟨rfl, (Below.refl _ _).alloc (Nat.le_refl _) _⟩
end Go.Proofs.Ytboaifdkoemnbaa.Pa
/- The walks of part.most, part.Value, and of the document's Two, Bits, Right, Value. -/
namespace Go.Proofs.Ytboaifdkoemnbaa.Pa
set_option maxRecDepth 100000
open Go Go.RowKit Go.Proofs.Ytboaifdkoemnbaa.Sp

theorem pw_fold (n : Int) : (2 : Int) ^ n.toNat = pw n := rfl
theorem boxed4 {w w1 : World} {x y z v : Value} {t : TypeId} (hb : Below (w.alloc (.cells #[x, y, z, v] t)).heap.size (w.alloc (.cells #[x, y, z, v] t)) w1) :
    w1.cell? ⟨w.heap.size, 0, none⟩ = some x ∧ w1.cell? ⟨w.heap.size, 1, none⟩ = some y ∧ w1.cell? ⟨w.heap.size, 2, none⟩ = some z ∧ w1.cell? ⟨w.heap.size, 3, none⟩ = some v := by
  have key : ∀ i, w1.cell? ⟨w.heap.size, i, none⟩ = (w.alloc (.cells #[x, y, z, v] t)).cell? ⟨w.heap.size, i, none⟩ := fun i => hb.cell (p := ⟨w.heap.size, i, none⟩) (by simp)
  rw [key, key, key, key]
  refine ⟨?_, ?_, ?_, ?_⟩ <;> simp
attribute [local go_sem] pw_fold
set_option maxHeartbeats 1000000 in
theorem rbits_any (a d t u : Int) (w : World) : Calls Try.prog 58 #[prt a d t u] w (RetB (decide (Bits d t u)) w) := by
  have fin : ∀ b : Bool, decide (Bits d t u) = b → ∀ {e : Ending} {w' : World}, e = .returned (.bool b) → Below w.heap.size w w' → RetB (decide (Bits d t u)) w e w' := fun b h e w' h1 h2 => ⟨by rw [h]; exact h1, h2⟩
  have FIN := Lib.hid fin
  clear fin
  have neg : ¬ Bits d t u → decide (Bits d t u) = false := fun h => decide_eq_false h
  have pos : Bits d t u → decide (Bits d t u) = true := fun h => decide_eq_true h
  by_cases h1 : d < 0
  · have HE := Lib.hid (neg (by unfold Bits; omega)); clear pos neg
    go_enter Try.func58, Try.ntmps58
    go_wp2_with (fail)
    go_ret
    exact FIN.out _ HE.out rfl ((Below.refl _ _).alloc (Nat.le_refl _) _)
  by_cases h2 : 20 < d
  · have HE := Lib.hid (neg (by unfold Bits; omega)); clear pos neg
    go_enter Try.func58, Try.ntmps58
    go_wp2_with (fail)
    go_ret
    exact FIN.out _ HE.out rfl ((Below.refl _ _).alloc (Nat.le_refl _) _)
  by_cases h3 : t < 1
  · have HE := Lib.hid (neg (by unfold Bits; omega)); clear pos neg
    go_enter Try.func58, Try.ntmps58
    go_wp2_with (fail)
    go_ret
    exact FIN.out _ HE.out rfl ((Below.refl _ _).alloc (Nat.le_refl _) _)
  by_cases h4 : 21 < t
  · have HE := Lib.hid (neg (by unfold Bits; omega)); clear pos neg
    go_enter Try.func58, Try.ntmps58
    go_wp2_with (fail)
    go_ret
    exact FIN.out _ HE.out rfl ((Below.refl _ _).alloc (Nat.le_refl _) _)
  by_cases h5 : u < 0
  · have HE := Lib.hid (neg (by unfold Bits; omega)); clear pos neg
    go_enter Try.func58, Try.ntmps58
    go_wp2_with (fail)
    go_ret
    exact FIN.out _ HE.out rfl ((Below.refl _ _).alloc (Nat.le_refl _) _)
  by_cases h6 : 20 < u
  · have HE := Lib.hid (neg (by unfold Bits; omega)); clear pos neg
    go_enter Try.func58, Try.ntmps58
    go_wp2_with (fail)
    go_ret
    exact FIN.out _ HE.out rfl ((Below.refl _ _).alloc (Nat.le_refl _) _)
  by_cases h7 : u = 0
  · subst h7
    have HE := Lib.hid (pos (by unfold Bits; omega)); clear pos neg
    go_enter Try.func58, Try.ntmps58
    go_wp2_with (fail)
    go_ret
    exact FIN.out _ HE.out rfl ((Below.refl _ _).alloc (Nat.le_refl _) _)
  have h8 : (u == 0) = false := by simpa using h7
  by_cases h9 : t ≤ 6
  · have HE := Lib.hid (pos (by unfold Bits; omega)); clear pos neg h7
    have h9' : decide (t ≤ 6) = true := by simpa using h9
    go_enter Try.func58, Try.ntmps58
    go_wp2_with (fail)
    go_ret
    exact FIN.out _ HE.out rfl ((Below.refl _ _).alloc (Nat.le_refl _) _)
  · have HE := Lib.hid (neg (by unfold Bits; omega)); clear pos neg h7
    have h9' : decide (t ≤ 6) = false := by simpa using h9
    go_enter Try.func58, Try.ntmps58
    go_wp2_with (fail)
    go_ret
    exact FIN.out _ HE.out rfl ((Below.refl _ _).alloc (Nat.le_refl _) _)

set_option maxHeartbeats 1000000 in
theorem rright_any (a d t u n : Int) (w : World) : Calls Try.prog 49 #[prt a d t u, .int .i64 n] w (RetB (rightB a d t u n) w) := by
  have HB := Lib.hid (rbits_any a d t u)
  by_cases h0 : Bits d t u
  · rw [decide_eq_true h0] at HB
    by_cases h1 : 0 ≤ a
    · by_cases h2 : a < n
      · have HE := Lib.hid (show rightB a d t u n = true by unfold rightB; simp [h1, h2, h0])
        have h2' : decide (a < n) = true := by simpa using h2
        clear h0
        go_enter Try.func49, Try.ntmps49
        go_wp2_with (fail)
        refine (HB.out _).mono ?_
        rintro e w1 ⟨rfl, hb1⟩
        have q := boxed4 hb1
        go_wp2_with (fail)
        go_ret
        exact ⟨ret_bool HE.out.symm, ((Below.refl _ _).alloc (Nat.le_refl _) _).trans (hb1.mono (by simp))⟩
      · have HE := Lib.hid (show rightB a d t u n = false by unfold rightB; simp [h2])
        have h2' : decide (a < n) = false := by simpa using h2
        clear h0
        go_enter Try.func49, Try.ntmps49
        go_wp2_with (fail)
        refine (HB.out _).mono ?_
        rintro e w1 ⟨rfl, hb1⟩
        have q := boxed4 hb1
        go_wp2_with (fail)
        go_ret
        exact ⟨ret_bool HE.out.symm, ((Below.refl _ _).alloc (Nat.le_refl _) _).trans (hb1.mono (by simp))⟩
    · have HE := Lib.hid (show rightB a d t u n = false by unfold rightB; simp [h1])
      clear h0
      go_enter Try.func49, Try.ntmps49
      go_wp2_with (fail)
      refine (HB.out _).mono ?_
      rintro e w1 ⟨rfl, hb1⟩
      have q := boxed4 hb1
      go_wp2_with (fail)
      go_ret
      exact ⟨ret_bool HE.out.symm, ((Below.refl _ _).alloc (Nat.le_refl _) _).trans (hb1.mono (by simp))⟩
  · rw [decide_eq_false h0] at HB
    have HE := Lib.hid (show rightB a d t u n = false by unfold rightB; simp [h0])
    clear h0
    go_enter Try.func49, Try.ntmps49
    go_wp2_with (fail)
    refine (HB.out _).mono ?_
    rintro e w1 ⟨rfl, hb1⟩
    go_wp2_with (fail)
    go_ret
    exact ⟨ret_bool HE.out.symm, ((Below.refl _ _).alloc (Nat.le_refl _) _).trans (hb1.mono (by simp))⟩

end Go.Proofs.Ytboaifdkoemnbaa.Pa
/- Words for terms: a slice value that reads as a list of parts (four cells each); a term, as a value; its box; parts held against each other. -/
namespace Go.Proofs.Ytboaifdkoemnbaa.Te
set_option maxRecDepth 100000
open Go Go.RowKit Go.Proofs.Ytboaifdkoemnbaa.Sp Go.Proofs.Ytboaifdkoemnbaa.Pa

/-- A part: At, Drop, Take, Up. -/
abbrev PT := Int × Int × Int × Int
/-- The slice value with address A and length n reads as the parts l, and lies below block B. -/
def RP (w : World) (B : Nat) (A : Option Addr) (n : Nat) (l : List PT) : Prop :=
  l.length = n ∧ (0 < n → ∃ b off, A = some ⟨b, off, none⟩ ∧ b < B ∧ ∀ (j : Nat) (h : j < l.length), w.cell? ⟨b, off + j * 4, none⟩ = some (.int .i64 l[j].1) ∧ w.cell? ⟨b, off + j * 4 + 1, none⟩ = some (.int .i64 l[j].2.1) ∧ w.cell? ⟨b, off + j * 4 + 2, none⟩ = some (.int .i64 l[j].2.2.1) ∧ w.cell? ⟨b, off + j * 4 + 3, none⟩ = some (.int .i64 l[j].2.2.2))
section
variable {w w' : World} {B B' n : Nat} {A : Option Addr} {l : List PT}
theorem RP.nil_ (w : World) (B : Nat) (A : Option Addr) : RP w B A 0 [] := ⟨rfl, fun h => absurd h (by omega)⟩
theorem RP.at_ {k : Nat} (h : RP w B A n l) (hk : k < n) : ∃ b off, ∃ a d t u : Int, A = some ⟨b, off, none⟩ ∧ b < B ∧ (∃ hl : k < l.length, l[k] = (a, d, t, u)) ∧ w.cell? ⟨b, off + k * 4, none⟩ = some (.int .i64 a) ∧ w.cell? ⟨b, off + k * 4 + 1, none⟩ = some (.int .i64 d) ∧ w.cell? ⟨b, off + k * 4 + 2, none⟩ = some (.int .i64 t) ∧ w.cell? ⟨b, off + k * 4 + 3, none⟩ = some (.int .i64 u) := by
  obtain ⟨b, off, e, hb, hc⟩ := h.2 (by omega)
  have hl : k < l.length := by have := h.1; omega
  exact ⟨b, off, l[k].1, l[k].2.1, l[k].2.2.1, l[k].2.2.2, e, hb, ⟨hl, rfl⟩, hc k hl⟩
theorem RP.keep (h : RP w B A n l) (hk : ∀ p : Addr, p.block < B → w'.cell? p = w.cell? p) : RP w' B A n l :=
  ⟨h.1, fun hn => by
    obtain ⟨b, off, e, hb, hc⟩ := h.2 hn
    exact ⟨b, off, e, hb, fun j hj => ⟨(hk _ hb).trans (hc j hj).1, (hk _ hb).trans (hc j hj).2.1, (hk _ hb).trans (hc j hj).2.2.1, (hk _ hb).trans (hc j hj).2.2.2⟩⟩⟩
theorem RP.more (h : RP w B A n l) (hB : B ≤ B') : RP w B' A n l :=
  ⟨h.1, fun hn => by
    obtain ⟨b, off, e, hb, hc⟩ := h.2 hn
    exact ⟨b, off, e, by omega, hc⟩⟩
theorem RP.below (h : RP w B A n l) (hb : Below B w w') : RP w' B A n l := h.keep fun _ hp => hb.cell hp
theorem RP.belowM (h : RP w w.heap.size A n l) (hb : Below w.heap.size w w') : RP w' w'.heap.size A n l := (h.below hb).more hb.size
end

/-- A term, as a value. -/
abbrev trm (b d t u s : Int) (A : Option Addr) (n c : Nat) : Value := .agg #[.int .i64 b, .int .i64 d, .int .i64 t, .int .i64 u, .int .i64 s, .slice A n c]
abbrev tcells (b d t u s : Int) (A : Option Addr) (n c : Nat) : Array Value := #[.int .i64 b, .int .i64 d, .int .i64 t, .int .i64 u, .int .i64 s, .slice A n c]
/-- The cells of a boxed term, in a world. -/
def Boxed6 (W : World) (g : Nat) (b d t u s : Int) (A : Option Addr) (n c : Nat) : Prop :=
  W.cell? ⟨g, 0, none⟩ = some (.int .i64 b) ∧ W.cell? ⟨g, 1, none⟩ = some (.int .i64 d) ∧ W.cell? ⟨g, 2, none⟩ = some (.int .i64 t) ∧ W.cell? ⟨g, 3, none⟩ = some (.int .i64 u) ∧ W.cell? ⟨g, 4, none⟩ = some (.int .i64 s) ∧ W.cell? ⟨g, 5, none⟩ = some (.slice A n c)
theorem boxed6 {w w1 : World} {b d t u s : Int} {A : Option Addr} {n c : Nat} {ty : TypeId} (hb : Below (w.alloc (.cells (tcells b d t u s A n c) ty)).heap.size (w.alloc (.cells (tcells b d t u s A n c) ty)) w1) : Boxed6 w1 w.heap.size b d t u s A n c := by
  have key : ∀ i, w1.cell? ⟨w.heap.size, i, none⟩ = (w.alloc (.cells (tcells b d t u s A n c) ty)).cell? ⟨w.heap.size, i, none⟩ := fun i => hb.cell (p := ⟨w.heap.size, i, none⟩) (by simp)
  unfold Boxed6
  rw [key, key, key, key, key, key]
  refine ⟨?_, ?_, ?_, ?_, ?_, ?_⟩ <;> simp [tcells]

theorem part_guardType : Try.prog.eqGuardType Try.prog.depth 77 = false := by kernel_rfl
theorem part_guard (w : World) (op : BinOp) (x y : Operand) (xs ys : Array Value) : (eqGuard op 77 x y (.agg xs) (.agg ys)).run Try.prog w = .ok () w := run_eqGuard_agg w op _ x y xs ys part_guardType
theorem part_eq (w : World) (a b c e a' b' c' e' : Int) : (Op.equalIn 10000 77 (prt a b c e) (prt a' b' c' e')).run Try.prog w = .ok (a == a' && (b == b' && (c == c' && e == e'))) w := by
  have u3 := Try.underlying3
  have a3 := Try.isAgg3
  have z3 := Try.sizeOf3
  have hS : Try.prog.underlying 77 = some (.struct (Try.prog.fieldsOf 77)) := by kernel_rfl
  have hp : Try.prog.stoodInHeld 77 = false := by kernel_rfl
  rw [show (10000 : Nat) = 9999 + 1 from rfl, run_equalIn_agg w 9999 77 _ _ hS hp]
  simp only [Program.fieldsOf, Try.underlying77]
  go_simp
  by_cases h1 : a = a' <;> by_cases h2 : b = b' <;> by_cases h3 : c = c' <;> by_cases h4 : e = e' <;> simp [h1, h2, h3, h4]

/-- Two parts held against each other, behind a name: so a walk doesn't part its cases. -/
def pEq (a b c e a' b' c' e' : Int) : Bool := a == a' && (b == b' && (c == c' && e == e'))
theorem part_eqN (w : World) (a b c e a' b' c' e' : Int) : (Op.equalIn 10000 77 (prt a b c e) (prt a' b' c' e')).run Try.prog w = .ok (pEq a b c e a' b' c' e') w := part_eq w a b c e a' b' c' e'
def Sm (x : Int) : Prop := -1114111 ≤ x ∧ x ≤ 1114111
instance (x : Int) : Decidable (Sm x) := by unfold Sm; infer_instance
def takesAll (p : PT) : Bool := p.2.1 == 0 && (p.2.2.1 == 21 && p.2.2.2 == 0)
def plainT (b d t u : Int) : Bool := b == 0 && (d == 0 && (t == 21 && u == 0))
end Go.Proofs.Ytboaifdkoemnbaa.Te
/- The walks of the small functions of terms, the program's and the document's: small, known, symbol, outer, plain, all. -/
namespace Go.Proofs.Ytboaifdkoemnbaa.Te
set_option maxRecDepth 100000
open Go Go.RowKit Go.Proofs.Ytboaifdkoemnbaa.Sp Go.Proofs.Ytboaifdkoemnbaa.Pa

attribute [local go_sem] part_guard part_eq
theorem small_any (x : Int) (w : World) : Calls Try.prog 60 #[.int .i64 x] w (RetW (.bool (decide (Sm x))) w) := by
  by_cases h1 : -1114111 ≤ x
  · by_cases h2 : x ≤ 1114111
    · rw [decide_eq_true (show Sm x from ⟨h1, h2⟩)]
      go_enter Try.func60, Try.ntmps60
      go_wp2_with (fail)
      go_ret
      exact ⟨rfl, rfl⟩
    · rw [decide_eq_false (show ¬ Sm x from fun h => h2 h.2)]
      go_enter Try.func60, Try.ntmps60
      go_wp2_with (fail)
      go_ret
      exact ⟨rfl, rfl⟩
  · rw [decide_eq_false (show ¬ Sm x from fun h => h1 h.1)]
    go_enter Try.func60, Try.ntmps60
    go_wp2_with (fail)
    go_ret
    exact ⟨rfl, rfl⟩
theorem rsmall_any (x : Int) (w : World) : Calls Try.prog 57 #[.int .i64 x] w (RetW (.bool (decide (Sm x))) w) := by
  by_cases h1 : -1114111 ≤ x
  · by_cases h2 : x ≤ 1114111
    · rw [decide_eq_true (show Sm x from ⟨h1, h2⟩)]
      go_enter Try.func57, Try.ntmps57
      go_wp2_with (fail)
      go_ret
      exact ⟨rfl, rfl⟩
    · rw [decide_eq_false (show ¬ Sm x from fun h => h2 h.2)]
      go_enter Try.func57, Try.ntmps57
      go_wp2_with (fail)
      go_ret
      exact ⟨rfl, rfl⟩
  · rw [decide_eq_false (show ¬ Sm x from fun h => h1 h.1)]
    go_enter Try.func57, Try.ntmps57
    go_wp2_with (fail)
    go_ret
    exact ⟨rfl, rfl⟩
theorem outer_any (b d t u s : Int) (A : Option Addr) (n c : Nat) (w : World) : Calls Try.prog 62 #[trm b d t u s A n c] w (RetP 0 d t u w) := by
  go_enter Try.func62, Try.ntmps62
  go_wp2_with (fail)
  exact bodyPost_ret (v := prt 0 d t u) (by simp [results, Try.results62, go_sem]) rfl ⟨rfl, (((Below.refl _ _).alloc (Nat.le_refl _) _).alloc (by simp) _)⟩
theorem router_any (b d t u s : Int) (A : Option Addr) (n c : Nat) (w : World) : Calls Try.prog 59 #[trm b d t u s A n c] w (RetP 0 d t u w) := by
  go_enter Try.func59, Try.ntmps59
  go_wp2_with (fail)
  exact bodyPost_ret (v := prt 0 d t u) (by simp [results, Try.results59, go_sem]) rfl ⟨rfl, (((Below.refl _ _).alloc (Nat.le_refl _) _).alloc (by simp) _)⟩
theorem known_any (x : Int) (w : World) : Calls Try.prog 52 #[.int .i64 x] w (RetW (.bool (decide (x = 1 ∨ x = 2))) w) := by
  by_cases h1 : x = 1
  · subst h1
    rw [decide_eq_true (by omega)]
    go_enter Try.func52, Try.ntmps52
    go_wp2_with (fail)
    go_ret
    exact ⟨rfl, rfl⟩
  · have h1' : (x == 1) = false := by simpa using h1
    by_cases h2 : x = 2
    · subst h2
      rw [decide_eq_true (by omega)]
      go_enter Try.func52, Try.ntmps52
      go_wp2_with (fail)
      go_ret
      exact ⟨rfl, rfl⟩
    · have h2' : (x == 2) = false := by simpa using h2
      rw [decide_eq_false (by omega)]
      go_enter Try.func52, Try.ntmps52
      go_wp2_with (fail)
      go_ret
      exact ⟨rfl, rfl⟩
theorem all_any (a d t u : Int) (w : World) : Calls Try.prog 50 #[prt a d t u] w (RetB (takesAll (a, d, t, u)) w) := by
  unfold takesAll
  by_cases h1 : d = 0
  · subst h1
    by_cases h2 : t = 21
    · subst h2
      go_enter Try.func50, Try.ntmps50
      go_wp2_with (fail)
      go_ret
      exact ⟨rfl, (Below.refl _ _).alloc (Nat.le_refl _) _⟩
    · have h2' : (t == 21) = false := by simpa using h2
      go_enter Try.func50, Try.ntmps50
      go_wp2_with (fail)
      go_ret
      exact ⟨ret_bool (by simp [h2]), (Below.refl _ _).alloc (Nat.le_refl _) _⟩
  · have h1' : (d == 0) = false := by simpa using h1
    go_enter Try.func50, Try.ntmps50
    go_wp2_with (fail)
    go_ret
    exact ⟨ret_bool (by simp [h1]), (Below.refl _ _).alloc (Nat.le_refl _) _⟩
theorem tplain_any (b d t u s : Int) (A : Option Addr) (n c : Nat) (w : World) : Calls Try.prog 56 #[trm b d t u s A n c] w (RetB (plainT b d t u) w) := by
  have HO := Lib.hid (outer_any b d t u s A n c)
  have HW := Lib.hid (whole_any 0)
  unfold plainT
  by_cases h1 : b = 0
  · subst h1
    go_enter Try.func56, Try.ntmps56
    go_wp2_with (fail)
    refine (HO.out _).mono ?_
    rintro e w1 ⟨rfl, hb1⟩
    go_wp2_with (fail)
    refine (HW.out _).mono ?_
    rintro e w2 ⟨rfl, hb2⟩
    go_wp2_with (fail)
    all_goals go_ret
    all_goals exact ⟨ret_bool (by simp_all), ((Below.refl _ _).alloc (Nat.le_refl _) _).trans ((hb1.trans (hb2.mono hb1.size)).mono (by simp))⟩
  · have h1' : (b == 0) = false := by simpa using h1
    go_enter Try.func56, Try.ntmps56
    go_wp2_with (fail)
    go_ret
    exact ⟨ret_bool (by simp [h1]), (Below.refl _ _).alloc (Nat.le_refl _) _⟩
theorem rplain_any (b d t u s : Int) (A : Option Addr) (n c : Nat) (w : World) : Calls Try.prog 51 #[trm b d t u s A n c] w (RetB (plainT b d t u) w) := by
  have HO := Lib.hid (router_any b d t u s A n c)
  have HA := Lib.hid (all_any 0 d t u)
  unfold plainT
  by_cases h1 : b = 0
  · subst h1
    go_enter Try.func51, Try.ntmps51
    go_wp2_with (fail)
    refine (HO.out _).mono ?_
    rintro e w1 ⟨rfl, hb1⟩
    go_wp2_with (fail)
    refine (HA.out _).mono ?_
    rintro e w2 ⟨rfl, hb2⟩
    go_wp2_with (fail)
    go_ret
    exact ⟨ret_bool (by simp [takesAll]), ((Below.refl _ _).alloc (Nat.le_refl _) _).trans ((hb1.trans (hb2.mono hb1.size)).mono (by simp))⟩
  · have h1' : (b == 0) = false := by simpa using h1
    go_enter Try.func51, Try.ntmps51
    go_wp2_with (fail)
    go_ret
    exact ⟨ret_bool (by simp [h1]), (Below.refl _ _).alloc (Nat.le_refl _) _⟩

/-- The loop over the parts: as far as k all are right. -/
def AllR (n : Int) (l : List PT) (k : Nat) : Prop := ∀ q ∈ l.take k, rightB q.1 q.2.1 q.2.2.1 q.2.2.2 n = true
theorem allR_next {n : Int} {l : List PT} {k : Nat} {a d t u : Int} (h : AllR n l k) (hk : ∃ hl : k < l.length, l[k] = (a, d, t, u)) (hr : rightB a d t u n = true) : AllR n l (k + 1) := by
  obtain ⟨hl, e⟩ := hk
  intro q hq
  rw [List.take_succ_eq_append_getElem hl, List.mem_append] at hq
  rcases hq with hq | hq
  · exact h q hq
  · rw [List.mem_singleton, e] at hq
    subst hq
    exact hr
def partsB (n : Int) (l : List PT) : Bool := l.all fun q => rightB q.1 q.2.1 q.2.2.1 q.2.2.2 n
theorem partsB_true {n : Int} {l : List PT} (h : AllR n l l.length) : partsB n l = true := by
  unfold partsB
  rw [List.all_eq_true]
  intro q hq
  exact h q (by rw [List.take_length]; exact hq)
theorem partsB_false {n : Int} {l : List PT} {k : Nat} {a d t u : Int} (hk : ∃ hl : k < l.length, l[k] = (a, d, t, u)) (hr : rightB a d t u n = false) : partsB n l = false := by
  obtain ⟨hl, e⟩ := hk
  unfold partsB
  rw [Bool.eq_false_iff]
  intro h
  have := (List.all_eq_true.1 h) l[k] (List.getElem_mem hl)
  rw [e] at this
  simp only at this
  rw [hr] at this
  cases this
def PRel (n : Int) (l : List PT) (B : Nat) (w2 : World) (i : Value) (wr : World) : Prop :=
  ∃ k : Nat, k ≤ l.length ∧ i = .int .i64 k ∧ AllR n l k ∧ Below B w2 wr
set_option maxHeartbeats 2000000 in
theorem tparts_any (b d t u s : Int) (A : Option Addr) (n c : Nat) (l : List PT) (m : Int) (w : World) (h : RP w w.heap.size A n l) (hn : n ≤ maxLen) :
    Calls Try.prog 54 #[trm b d t u s A n c, .int .i64 m] w (RetB (partsB m l) w) := by
  unfold maxLen at hn
  have hlen := h.1
  subst hlen
  have hbw : Below w.heap.size w (w.alloc (.cells (tcells b d t u s A l.length c) 71)) := (Below.refl _ w).alloc (Nat.le_refl _) _
  obtain ⟨w0, hw0⟩ : ∃ w0, w.alloc (.cells (tcells b d t u s A l.length c) 71) = w0 := ⟨_, rfl⟩
  have X6 := Lib.hid (fun W (hb : Below w0.heap.size w0 W) => show Boxed6 W w.heap.size b d t u s A l.length c from by rw [← hw0] at hb; exact boxed6 hb)
  rw [hw0] at hbw
  have HW := Lib.hid hbw
  have H := Lib.hid (h.belowM hbw)
  obtain ⟨r0, r1, r2, r3, r4, r5⟩ := X6.out w0 (Below.refl _ _)
  clear h hbw
  go_enter Try.func54, Try.ntmps54
  go_wp2_with (fail)
  go_loopw [10] (fun i wr => PRel m l w0.heap.size w0 i wr) (fun i _ => l.length - (intOf i).toNat)
  case atStart => exact ⟨0, Nat.zero_le _, rfl, fun q hq => by simp at hq, Below.refl _ _⟩
  case round =>
    obtain ⟨k, hk, rfl, hA, hb⟩ := hrel
    have HA := Lib.hid hA
    have HB := Lib.hid hb
    have hz := hb.size
    by_cases hlt : k < l.length
    · obtain ⟨bb, off, a', d', t', u', hA', hbB, hlk, c1, c2, c3, c4⟩ := (H.out.below hb).at_ hlt
      have HLK := Lib.hid hlk
      have HR := Lib.hid (right_any a' d' t' u' m)
      subst hA'
      clear hA hb hlk r0 r1 r2 r3 r4 r5
      rcases hr : rightB a' d' t' u' m with _ | _
      · rw [hr] at HR
        have HRR := Lib.hid hr
        clear hr
        go_wp2_with (fail)
        refine (HR.out _).mono ?_
        rintro e w2 ⟨rfl, hb2⟩
        go_wp2_with (fail)
        go_ret
        exact ⟨ret_bool (partsB_false HLK.out HRR.out).symm, HW.out.trans ((HB.out.trans (((Below.refl _ _).alloc (Nat.le_refl _) _ |>.trans (hb2.mono (by simp))).mono hz)).mono HW.out.size)⟩
      · rw [hr] at HR
        have HRR := Lib.hid hr
        clear hr
        go_wp2_with (fail)
        refine (HR.out _).mono ?_
        rintro e w2 ⟨rfl, hb2⟩
        go_wp2_with (fail)
        go_roundw
        case rel => exact ⟨k + 1, by omega, by go_num, allR_next HA.out HLK.out HRR.out, HB.out.trans (((Below.refl _ _).alloc (Nat.le_refl _) _ |>.trans (hb2.mono (by simp))).mono hz)⟩
        case measure => simp [intOf]; omega
    · have hkl : k = l.length := by omega
      subst hkl
      go_wp2_with (fail)
      go_ret
      exact ⟨ret_bool (partsB_true HA.out).symm, HW.out.trans (HB.out.mono HW.out.size)⟩
end Go.Proofs.Ytboaifdkoemnbaa.Te
/- The walks of term.copies, numbersRight, Right, and of the document's Numbers, Right. -/
namespace Go.Proofs.Ytboaifdkoemnbaa.Te
set_option maxRecDepth 100000
open Go Go.RowKit Go.Proofs.Ytboaifdkoemnbaa.Sp Go.Proofs.Ytboaifdkoemnbaa.Pa
attribute [local go_sem] part_guard part_eq

def copyB : List PT → Bool
  | [] => true
  | [p] => takesAll p
  | _ => false
/-- Each part's Up is above the one's ahead of it. -/
def RiseTo (l : List PT) (k : Nat) : Prop := ∀ i, (h : i + 1 < l.length) → i + 1 < k → l[i].2.2.2 < l[i + 1].2.2.2
noncomputable def riseB (l : List PT) : Bool := @decide (RiseTo l l.length) (Classical.propDecidable _)
theorem riseB_true {l : List PT} {k : Nat} (h : RiseTo l k) (hk : l.length ≤ k) : riseB l = true := by
  unfold riseB
  have : RiseTo l l.length := fun i h1 h2 => h i h1 (by omega)
  simpa using this
theorem riseB_false {l : List PT} {i : Nat} {a d t u a' d' t' u' : Int} (h0 : ∃ hl : i < l.length, l[i] = (a, d, t, u)) (h1 : ∃ hl : i + 1 < l.length, l[i + 1] = (a', d', t', u')) (hu : u' ≤ u) : riseB l = false := by
  obtain ⟨l0, e0⟩ := h0
  obtain ⟨l1, e1⟩ := h1
  unfold riseB
  have : ¬ RiseTo l l.length := fun h => by
    have := h i l1 l1
    rw [e0, e1] at this
    simp only at this
    omega
  simpa using this
theorem rise_next {l : List PT} {i : Nat} {a d t u a' d' t' u' : Int} (h : RiseTo l (i + 1)) (h0 : ∃ hl : i < l.length, l[i] = (a, d, t, u)) (h1 : ∃ hl : i + 1 < l.length, l[i + 1] = (a', d', t', u')) (hu : u < u') : RiseTo l (i + 2) := by
  obtain ⟨l0, e0⟩ := h0
  obtain ⟨l1, e1⟩ := h1
  intro j hj hk
  by_cases e : j = i
  · subst e
    rw [e0, e1]
    exact hu
  · exact h j hj (by omega)
noncomputable def numB (b d t u s : Int) (l : List PT) : Bool := decide (Sm b) && (decide (Sm s) && (decide (Bits d t u) && (decide (l.length ≤ 4) && riseB l)))
def NRel (l : List PT) (B : Nat) (w2 : World) (i : Value) (wr : World) : Prop :=
  ∃ k : Nat, (k + 1 ≤ l.length ∨ k = 0) ∧ i = .int .i64 ((k + 1 : Nat) : Int) ∧ RiseTo l (k + 1) ∧ Below B w2 wr
set_option maxHeartbeats 4000000 in
theorem tnum_any (b d t u s : Int) (A : Option Addr) (n c : Nat) (l : List PT) (w : World) (h : RP w w.heap.size A n l) (hn : n ≤ maxLen) :
    Calls Try.prog 53 #[trm b d t u s A n c] w (RetB (numB b d t u s l) w) := by
  unfold maxLen at hn
  have hlen := h.1
  subst hlen
  have hbw : Below w.heap.size w (w.alloc (.cells (tcells b d t u s A l.length c) 71)) := (Below.refl _ w).alloc (Nat.le_refl _) _
  obtain ⟨w0, hw0⟩ : ∃ w0, w.alloc (.cells (tcells b d t u s A l.length c) 71) = w0 := ⟨_, rfl⟩
  have X6 := Lib.hid (fun W (hb : Below w0.heap.size w0 W) => show Boxed6 W w.heap.size b d t u s A l.length c from by rw [← hw0] at hb; exact boxed6 hb)
  rw [hw0] at hbw
  have hz0 : w.heap.size < w0.heap.size := by rw [← hw0]; simp
  have HW := Lib.hid hbw
  have H := Lib.hid (h.belowM hbw)
  have HB0 := Lib.hid (Below.refl w0.heap.size w0)
  obtain ⟨r0, r1, r2, r3, r4, r5⟩ := X6.out w0 (Below.refl _ _)
  clear h hbw
  have HS := Lib.hid (small_any b)
  have HS2 := Lib.hid (small_any s)
  have HO := Lib.hid (outer_any b d t u s A l.length c)
  have HR := Lib.hid (right_any 0 d t u 1)
  by_cases h1 : Sm b
  case neg =>
    rw [decide_eq_false h1] at HS
    go_enter Try.func53, Try.ntmps53
    go_wp2_with (fail)
    refine (HS.out _).mono ?_
    rintro e w1 ⟨rfl, rfl⟩
    go_wp2_with (fail)
    go_ret
    exact ⟨ret_bool (by simp [numB, h1]), HW.out⟩
  rw [decide_eq_true h1] at HS
  by_cases h2 : Sm s
  case neg =>
    rw [decide_eq_false h2] at HS2
    go_enter Try.func53, Try.ntmps53
    go_wp2_with (fail)
    refine (HS.out _).mono ?_
    rintro e w1 ⟨rfl, rfl⟩
    go_wp2_with (fail)
    refine (HS2.out _).mono ?_
    rintro e w1 ⟨rfl, rfl⟩
    go_wp2_with (fail)
    go_ret
    exact ⟨ret_bool (by simp [numB, h2]), HW.out⟩
  rw [decide_eq_true h2] at HS2
  by_cases h3 : Bits d t u
  case neg =>
    rw [show rightB 0 d t u 1 = false from (by simp [rightB, h3])] at HR
    go_enter Try.func53, Try.ntmps53
    go_wp2_with (fail)
    refine (HS.out _).mono ?_
    rintro e w1 ⟨rfl, rfl⟩
    go_wp2_with (fail)
    refine (HS2.out _).mono ?_
    rintro e w1 ⟨rfl, rfl⟩
    go_wp2_with (fail)
    refine (HO.out _).mono ?_
    rintro e w1 ⟨rfl, hb1⟩
    go_wp2_with (fail)
    refine (HR.out _).mono ?_
    rintro e w2 ⟨rfl, hb2⟩
    go_wp2_with (fail)
    go_ret
    exact ⟨ret_bool (by simp [numB, h3]), HW.out.trans ((hb1.trans (hb2.mono hb1.size)).mono HW.out.size)⟩
  rw [show rightB 0 d t u 1 = true from (by simp [rightB, h3])] at HR
  by_cases h4 : l.length ≤ 4
  case neg =>
    go_enter Try.func53, Try.ntmps53
    go_wp2_with (fail)
    refine (HS.out _).mono ?_
    rintro e w1 ⟨rfl, rfl⟩
    go_wp2_with (fail)
    refine (HS2.out _).mono ?_
    rintro e w1 ⟨rfl, rfl⟩
    go_wp2_with (fail)
    refine (HO.out _).mono ?_
    rintro e w1 ⟨rfl, hb1⟩
    go_wp2_with (fail)
    refine (HR.out _).mono ?_
    rintro e w2 ⟨rfl, hb2⟩
    have hb := hb1.trans (hb2.mono hb1.size)
    obtain ⟨q0, q1, q2, q3, q4, q5⟩ := X6.out w2 hb
    have HBB := Lib.hid hb
    clear hb hb1 hb2 r0 r1 r2 r3 r4 r5
    go_wp2_with (fail)
    go_ret
    exact ⟨ret_bool (by simp [numB, h4]), HW.out.trans (HBB.out.mono HW.out.size)⟩
  have HN := Lib.hid (show numB b d t u s l = riseB l from by simp [numB, h1, h2, h3, h4])
  clear h1 h2 h3
  go_enter Try.func53, Try.ntmps53
  go_wp2_with (fail)
  refine (HS.out _).mono ?_
  rintro e w1 ⟨rfl, rfl⟩
  go_wp2_with (fail)
  refine (HS2.out _).mono ?_
  rintro e w1 ⟨rfl, rfl⟩
  go_wp2_with (fail)
  refine (HO.out _).mono ?_
  rintro e w1 ⟨rfl, hb1⟩
  go_wp2_with (fail)
  refine (HR.out _).mono ?_
  rintro e w2 ⟨rfl, hb2⟩
  have hb := hb1.trans (hb2.mono hb1.size)
  obtain ⟨q0, q1, q2, q3, q4, q5⟩ := X6.out w2 hb
  have HBB := Lib.hid hb
  clear hb hb1 hb2 r0 r1 r2 r3 r4 r5
  go_wp2_with (fail)
  go_loopw [3] (fun i wr => NRel l w0.heap.size w0 i wr) (fun i _ => l.length + 1 - (intOf i).toNat)
  case atStart => exact ⟨0, .inr rfl, rfl, fun i _ hi => by omega, HBB.out⟩
  case round =>
    obtain ⟨k, hk, rfl, hA, hb⟩ := hrel
    have HA := Lib.hid hA
    have HB := Lib.hid hb
    have hz := hb.size
    obtain ⟨r0, r1, r2, r3, r4, r5⟩ := X6.out wr hb
    by_cases hlt : k + 1 < l.length
    · obtain ⟨bb, off, a', d', t', u', hA', hbB, hlk, c1, c2, c3, c4⟩ := (H.out.below hb).at_ hlt
      obtain ⟨bb', off', a'', d'', t'', u'', hA'', hbB', hlk', c1', c2', c3', c4'⟩ := (H.out.below hb).at_ (k := k) (by omega)
      subst hA'
      injection hA'' with hA''
      injection hA'' with e1 e2 _
      subst e1 e2
      have HLK := Lib.hid hlk
      have HLK' := Lib.hid hlk'
      clear hA hb hlk hlk' q0 q1 q2 q3 q4 q5 hk
      by_cases a4 : u' ≤ u''
      · go_wp2_with (fail)
        go_quiet (fail)
        go_wp2_with (fail)
        go_ret
        exact ⟨ret_bool (HN.out.trans (riseB_false HLK'.out HLK.out a4)).symm, HW.out.trans ((below_drewN HB.out _).mono HW.out.size)⟩
      · go_wp2_with (fail)
        go_quiet (fail)
        go_wp2_with (fail)
        go_roundw
        case rel => exact ⟨k + 1, by omega, by go_num, rise_next HA.out HLK'.out HLK.out (by omega), below_drewN HB.out _⟩
        case measure => simp [intOf]; omega
    · have HT := Lib.hid (riseB_true hA (by omega))
      clear hA hb
      go_wp2_with (fail)
      go_ret
      exact ⟨ret_bool (HN.out.trans HT.out).symm, HW.out.trans (HB.out.mono HW.out.size)⟩
set_option maxHeartbeats 4000000 in
theorem rnum_any (b d t u s : Int) (A : Option Addr) (n c : Nat) (l : List PT) (w : World) (h : RP w w.heap.size A n l) (hn : n ≤ maxLen) :
    Calls Try.prog 48 #[trm b d t u s A n c] w (RetB (numB b d t u s l) w) := by
  unfold maxLen at hn
  have hlen := h.1
  subst hlen
  have hbw : Below w.heap.size w (w.alloc (.cells (tcells b d t u s A l.length c) 71)) := (Below.refl _ w).alloc (Nat.le_refl _) _
  obtain ⟨w0, hw0⟩ : ∃ w0, w.alloc (.cells (tcells b d t u s A l.length c) 71) = w0 := ⟨_, rfl⟩
  have X6 := Lib.hid (fun W (hb : Below w0.heap.size w0 W) => show Boxed6 W w.heap.size b d t u s A l.length c from by rw [← hw0] at hb; exact boxed6 hb)
  rw [hw0] at hbw
  have hz0 : w.heap.size < w0.heap.size := by rw [← hw0]; simp
  have HW := Lib.hid hbw
  have H := Lib.hid (h.belowM hbw)
  have HB0 := Lib.hid (Below.refl w0.heap.size w0)
  obtain ⟨r0, r1, r2, r3, r4, r5⟩ := X6.out w0 (Below.refl _ _)
  clear h hbw
  have HS := Lib.hid (rsmall_any b)
  have HS2 := Lib.hid (rsmall_any s)
  have HO := Lib.hid (router_any b d t u s A l.length c)
  have HR := Lib.hid (rbits_any 0 d t u)
  by_cases h1 : Sm b
  case neg =>
    rw [decide_eq_false h1] at HS
    go_enter Try.func48, Try.ntmps48
    go_wp2_with (fail)
    refine (HS.out _).mono ?_
    rintro e w1 ⟨rfl, rfl⟩
    go_wp2_with (fail)
    go_ret
    exact ⟨ret_bool (by simp [numB, h1]), HW.out⟩
  rw [decide_eq_true h1] at HS
  by_cases h2 : Sm s
  case neg =>
    rw [decide_eq_false h2] at HS2
    go_enter Try.func48, Try.ntmps48
    go_wp2_with (fail)
    refine (HS.out _).mono ?_
    rintro e w1 ⟨rfl, rfl⟩
    go_wp2_with (fail)
    refine (HS2.out _).mono ?_
    rintro e w1 ⟨rfl, rfl⟩
    go_wp2_with (fail)
    go_ret
    exact ⟨ret_bool (by simp [numB, h2]), HW.out⟩
  rw [decide_eq_true h2] at HS2
  by_cases h3 : Bits d t u
  case neg =>
    rw [show decide (Bits d t u) = false from (decide_eq_false h3)] at HR
    go_enter Try.func48, Try.ntmps48
    go_wp2_with (fail)
    refine (HS.out _).mono ?_
    rintro e w1 ⟨rfl, rfl⟩
    go_wp2_with (fail)
    refine (HS2.out _).mono ?_
    rintro e w1 ⟨rfl, rfl⟩
    go_wp2_with (fail)
    refine (HO.out _).mono ?_
    rintro e w1 ⟨rfl, hb1⟩
    go_wp2_with (fail)
    refine (HR.out _).mono ?_
    rintro e w2 ⟨rfl, hb2⟩
    go_wp2_with (fail)
    go_ret
    exact ⟨ret_bool (by simp [numB, h3]), HW.out.trans ((hb1.trans (hb2.mono hb1.size)).mono HW.out.size)⟩
  rw [show decide (Bits d t u) = true from (decide_eq_true h3)] at HR
  by_cases h4 : l.length ≤ 4
  case neg =>
    go_enter Try.func48, Try.ntmps48
    go_wp2_with (fail)
    refine (HS.out _).mono ?_
    rintro e w1 ⟨rfl, rfl⟩
    go_wp2_with (fail)
    refine (HS2.out _).mono ?_
    rintro e w1 ⟨rfl, rfl⟩
    go_wp2_with (fail)
    refine (HO.out _).mono ?_
    rintro e w1 ⟨rfl, hb1⟩
    go_wp2_with (fail)
    refine (HR.out _).mono ?_
    rintro e w2 ⟨rfl, hb2⟩
    have hb := hb1.trans (hb2.mono hb1.size)
    obtain ⟨q0, q1, q2, q3, q4, q5⟩ := X6.out w2 hb
    have HBB := Lib.hid hb
    clear hb hb1 hb2 r0 r1 r2 r3 r4 r5
    go_wp2_with (fail)
    go_ret
    exact ⟨ret_bool (by simp [numB, h4]), HW.out.trans (HBB.out.mono HW.out.size)⟩
  have HN := Lib.hid (show numB b d t u s l = riseB l from by simp [numB, h1, h2, h3, h4])
  clear h1 h2 h3
  go_enter Try.func48, Try.ntmps48
  go_wp2_with (fail)
  refine (HS.out _).mono ?_
  rintro e w1 ⟨rfl, rfl⟩
  go_wp2_with (fail)
  refine (HS2.out _).mono ?_
  rintro e w1 ⟨rfl, rfl⟩
  go_wp2_with (fail)
  refine (HO.out _).mono ?_
  rintro e w1 ⟨rfl, hb1⟩
  go_wp2_with (fail)
  refine (HR.out _).mono ?_
  rintro e w2 ⟨rfl, hb2⟩
  have hb := hb1.trans (hb2.mono hb1.size)
  obtain ⟨q0, q1, q2, q3, q4, q5⟩ := X6.out w2 hb
  have HBB := Lib.hid hb
  clear hb hb1 hb2 r0 r1 r2 r3 r4 r5
  go_wp2_with (fail)
  go_loopw [3] (fun i wr => NRel l w0.heap.size w0 i wr) (fun i _ => l.length + 1 - (intOf i).toNat)
  case atStart => exact ⟨0, .inr rfl, rfl, fun i _ hi => by omega, HBB.out⟩
  case round =>
    obtain ⟨k, hk, rfl, hA, hb⟩ := hrel
    have HA := Lib.hid hA
    have HB := Lib.hid hb
    have hz := hb.size
    obtain ⟨r0, r1, r2, r3, r4, r5⟩ := X6.out wr hb
    by_cases hlt : k + 1 < l.length
    · obtain ⟨bb, off, a', d', t', u', hA', hbB, hlk, c1, c2, c3, c4⟩ := (H.out.below hb).at_ hlt
      obtain ⟨bb', off', a'', d'', t'', u'', hA'', hbB', hlk', c1', c2', c3', c4'⟩ := (H.out.below hb).at_ (k := k) (by omega)
      subst hA'
      injection hA'' with hA''
      injection hA'' with e1 e2 _
      subst e1 e2
      have HLK := Lib.hid hlk
      have HLK' := Lib.hid hlk'
      clear hA hb hlk hlk' q0 q1 q2 q3 q4 q5 hk
      by_cases a4 : u' ≤ u''
      · go_wp2_with (fail)
        go_quiet (fail)
        go_wp2_with (fail)
        go_ret
        exact ⟨ret_bool (HN.out.trans (riseB_false HLK'.out HLK.out a4)).symm, HW.out.trans ((below_drewN HB.out _).mono HW.out.size)⟩
      · go_wp2_with (fail)
        go_quiet (fail)
        go_wp2_with (fail)
        go_roundw
        case rel => exact ⟨k + 1, by omega, by go_num, rise_next HA.out HLK'.out HLK.out (by omega), below_drewN HB.out _⟩
        case measure => simp [intOf]; omega
    · have HT := Lib.hid (riseB_true hA (by omega))
      clear hA hb
      go_wp2_with (fail)
      go_ret
      exact ⟨ret_bool (HN.out.trans HT.out).symm, HW.out.trans (HB.out.mono HW.out.size)⟩
end Go.Proofs.Ytboaifdkoemnbaa.Te
/- The walk of term.copies. -/
namespace Go.Proofs.Ytboaifdkoemnbaa.Te
set_option maxRecDepth 100000
open Go Go.RowKit Go.Proofs.Ytboaifdkoemnbaa.Sp Go.Proofs.Ytboaifdkoemnbaa.Pa
attribute [local go_sem] part_guard part_eqN
set_option maxHeartbeats 2000000 in
theorem copies_any (b d t u s : Int) (A : Option Addr) (n c : Nat) (l : List PT) (w : World) (h : RP w w.heap.size A n l) (hn : n ≤ maxLen) :
    Calls Try.prog 55 #[trm b d t u s A n c] w (RetB (copyB l) w) := by
  by_cases n0 : n = 0
  · subst n0
    unfold maxLen at hn
    have hlen := h.1
    have hbw : Below w.heap.size w (w.alloc (.cells (tcells b d t u s A 0 c) 71)) := (Below.refl _ w).alloc (Nat.le_refl _) _
    obtain ⟨w0, hw0⟩ : ∃ w0, w.alloc (.cells (tcells b d t u s A 0 c) 71) = w0 := ⟨_, rfl⟩
    have X6 := Lib.hid (fun W (hb : Below w0.heap.size w0 W) => show Boxed6 W w.heap.size b d t u s A 0 c from by rw [← hw0] at hb; exact boxed6 hb)
    rw [hw0] at hbw
    have hz0 : w.heap.size < w0.heap.size := by rw [← hw0]; simp
    have HW := Lib.hid hbw
    have H := Lib.hid (h.belowM hbw)
    have HB0 := Lib.hid (Below.refl w0.heap.size w0)
    obtain ⟨r0, r1, r2, r3, r4, r5⟩ := X6.out w0 (Below.refl _ _)
    clear h hbw
    obtain rfl := List.eq_nil_of_length_eq_zero hlen
    go_enter Try.func55, Try.ntmps55
    go_wp2_with (fail)
    go_quiet (fail)
    go_wp2_with (fail)
    go_ret
    exact ⟨rfl, HW.out.trans ((below_drewN (Below.refl _ w0) _).mono HW.out.size)⟩
  by_cases n1 : n = 1
  · subst n1
    unfold maxLen at hn
    have hlen := h.1
    have hbw : Below w.heap.size w (w.alloc (.cells (tcells b d t u s A 1 c) 71)) := (Below.refl _ w).alloc (Nat.le_refl _) _
    obtain ⟨w0, hw0⟩ : ∃ w0, w.alloc (.cells (tcells b d t u s A 1 c) 71) = w0 := ⟨_, rfl⟩
    have X6 := Lib.hid (fun W (hb : Below w0.heap.size w0 W) => show Boxed6 W w.heap.size b d t u s A 1 c from by rw [← hw0] at hb; exact boxed6 hb)
    rw [hw0] at hbw
    have hz0 : w.heap.size < w0.heap.size := by rw [← hw0]; simp
    have HW := Lib.hid hbw
    have H := Lib.hid (h.belowM hbw)
    have HB0 := Lib.hid (Below.refl w0.heap.size w0)
    obtain ⟨r0, r1, r2, r3, r4, r5⟩ := X6.out w0 (Below.refl _ _)
    clear h hbw
    obtain ⟨bb, off, a', d', t', u', hA', hbB, hlk, c1, c2, c3, c4⟩ := H.out.at_ (k := 0) (by omega)
    subst hA'
    simp only [Nat.zero_mul, Nat.add_zero] at c1 c2 c3 c4
    have HC := Lib.hid (show copyB l = takesAll (a', d', t', u') from by
      obtain ⟨hl, e⟩ := hlk
      match l, hlen with
      | [p], _ => simp only [List.getElem_cons_zero] at e; subst e; rfl)
    have Q := Lib.hid (show ∀ W, Below w0.heap.size w0 W → W.cell? ⟨w.heap.size, 5, none⟩ = some (.slice (some ⟨bb, off, none⟩) 1 c) ∧ W.cell? ⟨bb, off, none⟩ = some (.int .i64 a') ∧ W.cell? ⟨bb, off + 1, none⟩ = some (.int .i64 d') ∧ W.cell? ⟨bb, off + 2, none⟩ = some (.int .i64 t') ∧ W.cell? ⟨bb, off + 3, none⟩ = some (.int .i64 u') from fun W hW => ⟨(X6.out W hW).2.2.2.2.2, (hW.cell hbB).trans c1, (hW.cell hbB).trans c2, (hW.cell hbB).trans c3, (hW.cell hbB).trans c4⟩)
    clear hlk
    by_cases z1 : d' = 0
    · by_cases z2 : t' = 21
      · by_cases z3 : u' = 0
        · subst z1 z2 z3
          go_enter Try.func55, Try.ntmps55
          go_wp2_with (fail)
          go_region_held3 (fun w' => w'.cell? ⟨w.heap.size, 5, none⟩ = some (.slice (some ⟨bb, off, none⟩) 1 c) ∧ w'.cell? ⟨bb, off, none⟩ = some (.int .i64 a') ∧ w'.cell? ⟨bb, off + 1, none⟩ = some (.int .i64 0) ∧ w'.cell? ⟨bb, off + 2, none⟩ = some (.int .i64 21) ∧ w'.cell? ⟨bb, off + 3, none⟩ = some (.int .i64 0))
            (first | exact Q.out _ (Below.refl _ _).drew | exact Q.out _ (Below.refl _ _) | exact Q.out _ hB2 | go_keep)
            (first
              | (go_at_call 63; (with_reducible refine (whole_any _ _).mono ?_); rintro q2 w2 ⟨rfl, hb2⟩; have hB2 : Below w0.heap.size w0 w2 := (Below.refl _ w0).drew.trans (hb2.mono (by simp))))
          go_wp2_with (fail)
          go_ret
          exact ⟨ret_bool (by rw [HC.out]; rfl), HW.out.trans (hB2.mono HW.out.size)⟩
        · have z3' : (u' == 0) = false := by simpa using z3
          subst z1 z2
          go_enter Try.func55, Try.ntmps55
          go_wp2_with (fail)
          go_region_held3 (fun w' => w'.cell? ⟨w.heap.size, 5, none⟩ = some (.slice (some ⟨bb, off, none⟩) 1 c) ∧ w'.cell? ⟨bb, off, none⟩ = some (.int .i64 a') ∧ w'.cell? ⟨bb, off + 1, none⟩ = some (.int .i64 0) ∧ w'.cell? ⟨bb, off + 2, none⟩ = some (.int .i64 21) ∧ w'.cell? ⟨bb, off + 3, none⟩ = some (.int .i64 u'))
            (first | exact Q.out _ (Below.refl _ _).drew | exact Q.out _ (Below.refl _ _) | exact Q.out _ hB2 | go_keep)
            (first
              | (go_at_call 63; (with_reducible refine (whole_any _ _).mono ?_); rintro q2 w2 ⟨rfl, hb2⟩; have hB2 : Below w0.heap.size w0 w2 := (Below.refl _ w0).drew.trans (hb2.mono (by simp))))
          go_wp2_with (fail)
          go_ret
          exact ⟨ret_bool (by rw [HC.out]; simp [takesAll, z3]), HW.out.trans (hB2.mono HW.out.size)⟩
      · have z2' : (t' == 21) = false := by simpa using z2
        subst z1
        go_enter Try.func55, Try.ntmps55
        go_wp2_with (fail)
        go_region_held3 (fun w' => w'.cell? ⟨w.heap.size, 5, none⟩ = some (.slice (some ⟨bb, off, none⟩) 1 c) ∧ w'.cell? ⟨bb, off, none⟩ = some (.int .i64 a') ∧ w'.cell? ⟨bb, off + 1, none⟩ = some (.int .i64 0) ∧ w'.cell? ⟨bb, off + 2, none⟩ = some (.int .i64 t') ∧ w'.cell? ⟨bb, off + 3, none⟩ = some (.int .i64 u'))
          (first | exact Q.out _ (Below.refl _ _).drew | exact Q.out _ (Below.refl _ _) | exact Q.out _ hB2 | go_keep)
          (first
            | (go_at_call 63; (with_reducible refine (whole_any _ _).mono ?_); rintro q2 w2 ⟨rfl, hb2⟩; have hB2 : Below w0.heap.size w0 w2 := (Below.refl _ w0).drew.trans (hb2.mono (by simp))))
        go_wp2_with (fail)
        go_ret
        exact ⟨ret_bool (by rw [HC.out]; simp [takesAll, z2]), HW.out.trans (hB2.mono HW.out.size)⟩
    · have z1' : (d' == 0) = false := by simpa using z1
      go_enter Try.func55, Try.ntmps55
      go_wp2_with (fail)
      go_region_held3 (fun w' => w'.cell? ⟨w.heap.size, 5, none⟩ = some (.slice (some ⟨bb, off, none⟩) 1 c) ∧ w'.cell? ⟨bb, off, none⟩ = some (.int .i64 a') ∧ w'.cell? ⟨bb, off + 1, none⟩ = some (.int .i64 d') ∧ w'.cell? ⟨bb, off + 2, none⟩ = some (.int .i64 t') ∧ w'.cell? ⟨bb, off + 3, none⟩ = some (.int .i64 u'))
        (first | exact Q.out _ (Below.refl _ _).drew | exact Q.out _ (Below.refl _ _) | exact Q.out _ hB2 | go_keep)
        (first
          | (go_at_call 63; (with_reducible refine (whole_any _ _).mono ?_); rintro q2 w2 ⟨rfl, hb2⟩; have hB2 : Below w0.heap.size w0 w2 := (Below.refl _ w0).drew.trans (hb2.mono (by simp))))
      go_wp2_with (fail)
      go_ret
      exact ⟨ret_bool (by rw [HC.out]; simp [takesAll, z1]), HW.out.trans (hB2.mono HW.out.size)⟩
  unfold maxLen at hn
  have hlen := h.1
  have hbw : Below w.heap.size w (w.alloc (.cells (tcells b d t u s A n c) 71)) := (Below.refl _ w).alloc (Nat.le_refl _) _
  obtain ⟨w0, hw0⟩ : ∃ w0, w.alloc (.cells (tcells b d t u s A n c) 71) = w0 := ⟨_, rfl⟩
  have X6 := Lib.hid (fun W (hb : Below w0.heap.size w0 W) => show Boxed6 W w.heap.size b d t u s A n c from by rw [← hw0] at hb; exact boxed6 hb)
  rw [hw0] at hbw
  have hz0 : w.heap.size < w0.heap.size := by rw [← hw0]; simp
  have HW := Lib.hid hbw
  have H := Lib.hid (h.belowM hbw)
  have HB0 := Lib.hid (Below.refl w0.heap.size w0)
  obtain ⟨r0, r1, r2, r3, r4, r5⟩ := X6.out w0 (Below.refl _ _)
  clear h hbw
  have hd0 : ((n : Int) == 0) = false := by simp; omega
  have hd1 : ((n : Int) == 1) = false := by simp; omega
  have HC := Lib.hid (show copyB l = false from by
    match l, hlen with
    | [], e => exact absurd e.symm n0
    | [_], e => exact absurd e.symm n1
    | _ :: _ :: _, _ => rfl)
  go_enter Try.func55, Try.ntmps55
  go_wp2_with (fail)
  go_quiet (fail)
  go_wp2_with (fail)
  go_ret
  exact ⟨ret_bool HC.out.symm, HW.out.trans ((below_drewN (Below.refl _ w0) _).mono HW.out.size)⟩
end Go.Proofs.Ytboaifdkoemnbaa.Te
/- The walks of term.Right and of the document's Right. -/
namespace Go.Proofs.Ytboaifdkoemnbaa.Te
set_option maxRecDepth 100000
open Go Go.RowKit Go.Proofs.Ytboaifdkoemnbaa.Sp Go.Proofs.Ytboaifdkoemnbaa.Pa

noncomputable def rightT (i o m b d t u s : Int) (l : List PT) : Bool := decide (i = 1 ∨ i = 2) && (decide (o = 1 ∨ o = 2) && (numB b d t u s l && (partsB m l && ((!(i == 2) || copyB l) && (!(o == 2) || plainT b d t u)))))
theorem copyB_of {l : List PT} (h : l.length ≤ 1) (ha : ∀ q ∈ l, takesAll q = true) : copyB l = true := by
  match l, h, ha with
  | [], _, _ => rfl
  | [p], _, ha => exact ha p (by simp)
theorem copyB_long {l : List PT} (h : 2 ≤ l.length) : copyB l = false := by
  match l, h with
  | _ :: _ :: _, _ => rfl
theorem copyB_not {l : List PT} {k : Nat} {a d t u : Int} (hk : ∃ hl : k < l.length, l[k] = (a, d, t, u)) (ha : takesAll (a, d, t, u) = false) : copyB l = false := by
  obtain ⟨hl, e⟩ := hk
  match l, hl, e with
  | [p], hl, e =>
    have : k = 0 := by simp at hl; omega
    subst this
    simp only [List.getElem_cons_zero] at e
    subst e
    exact ha
  | _ :: _ :: _, _, _ => rfl
set_option maxHeartbeats 4000000 in
theorem tright_any (i o m b d t u s : Int) (A : Option Addr) (n c : Nat) (l : List PT) (w : World) (h : RP w w.heap.size A n l) (hn : n ≤ maxLen) :
    Calls Try.prog 47 #[trm b d t u s A n c, .int .i64 i, .int .i64 o, .int .i64 m] w (RetB (rightT i o m b d t u s l) w) := by
  unfold maxLen at hn
  have hlen := h.1
  subst hlen
  have hbw : Below w.heap.size w (w.alloc (.cells (tcells b d t u s A l.length c) 71)) := (Below.refl _ w).alloc (Nat.le_refl _) _
  obtain ⟨w0, hw0⟩ : ∃ w0, w.alloc (.cells (tcells b d t u s A l.length c) 71) = w0 := ⟨_, rfl⟩
  have X6 := Lib.hid (fun W (hb : Below w0.heap.size w0 W) => show Boxed6 W w.heap.size b d t u s A l.length c from by rw [← hw0] at hb; exact boxed6 hb)
  rw [hw0] at hbw
  have HW := Lib.hid hbw
  have H := Lib.hid (h.belowM hbw)
  have HB0 := Lib.hid (Below.refl w0.heap.size w0)
  obtain ⟨r0, r1, r2, r3, r4, r5⟩ := X6.out w0 (Below.refl _ _)
  clear h hbw
  have HI := Lib.hid (known_any i)
  have HO := Lib.hid (known_any o)
  have HN := Lib.hid (fun W (hW : RP W W.heap.size A l.length l) => tnum_any b d t u s A l.length c l W hW hn)
  have HP := Lib.hid (fun W (hW : RP W W.heap.size A l.length l) => tparts_any b d t u s A l.length c l m W hW hn)
  have HC := Lib.hid (fun W (hW : RP W W.heap.size A l.length l) => copies_any b d t u s A l.length c l W hW hn)
  have HL := Lib.hid (tplain_any b d t u s A l.length c)
  by_cases k1 : i = 1 ∨ i = 2
  case neg =>
    rw [decide_eq_false k1] at HI
    go_enter Try.func47, Try.ntmps47
    go_wp2_with (fail)
    refine (HI.out _).mono ?_
    rintro e w9 ⟨rfl, rfl⟩
    go_wp2_with (fail)
    go_ret
    exact ⟨ret_bool (by simp [rightT, k1]), HW.out.trans (HB0.out.mono HW.out.size)⟩
  rw [decide_eq_true k1] at HI
  by_cases k2 : o = 1 ∨ o = 2
  case neg =>
    rw [decide_eq_false k2] at HO
    go_enter Try.func47, Try.ntmps47
    go_wp2_with (fail)
    refine (HI.out _).mono ?_
    rintro e w9 ⟨rfl, rfl⟩
    go_wp2_with (fail)
    refine (HO.out _).mono ?_
    rintro e w9 ⟨rfl, rfl⟩
    go_wp2_with (fail)
    go_ret
    exact ⟨ret_bool (by simp [rightT, k2]), HW.out.trans (HB0.out.mono HW.out.size)⟩
  rw [decide_eq_true k2] at HO
  rcases k3 : numB b d t u s l with _ | _
  case false =>
    rw [k3] at HN
    go_enter Try.func47, Try.ntmps47
    go_wp2_with (fail)
    refine (HI.out _).mono ?_
    rintro e w9 ⟨rfl, rfl⟩
    go_wp2_with (fail)
    refine (HO.out _).mono ?_
    rintro e w9 ⟨rfl, rfl⟩
    go_wp2_with (fail)
    refine (HN.out _ (H.out.belowM HB0.out)).mono ?_
    rintro e w1 ⟨rfl, hb1⟩
    have HB1 := Lib.hid (HB0.out.trans (hb1.mono HB0.out.size))
    clear r0 r1 r2 r3 r4 r5
    obtain ⟨r0, r1, r2, r3, r4, r5⟩ := X6.out w1 HB1.out
    clear hb1
    go_wp2_with (fail)
    go_ret
    exact ⟨ret_bool (by simp [rightT, k3]), HW.out.trans (HB1.out.mono HW.out.size)⟩
  case true =>
  rw [k3] at HN
  rcases k4 : partsB m l with _ | _
  case false =>
    rw [k4] at HP
    go_enter Try.func47, Try.ntmps47
    go_wp2_with (fail)
    refine (HI.out _).mono ?_
    rintro e w9 ⟨rfl, rfl⟩
    go_wp2_with (fail)
    refine (HO.out _).mono ?_
    rintro e w9 ⟨rfl, rfl⟩
    go_wp2_with (fail)
    refine (HN.out _ (H.out.belowM HB0.out)).mono ?_
    rintro e w1 ⟨rfl, hb1⟩
    have HB1 := Lib.hid (HB0.out.trans (hb1.mono HB0.out.size))
    clear r0 r1 r2 r3 r4 r5
    obtain ⟨r0, r1, r2, r3, r4, r5⟩ := X6.out w1 HB1.out
    clear hb1
    go_wp2_with (fail)
    refine (HP.out _ (H.out.belowM HB1.out)).mono ?_
    rintro e w2 ⟨rfl, hb2⟩
    have HB2 := Lib.hid (HB1.out.trans (hb2.mono HB1.out.size))
    clear r0 r1 r2 r3 r4 r5
    obtain ⟨r0, r1, r2, r3, r4, r5⟩ := X6.out w2 HB2.out
    clear hb2
    go_wp2_with (fail)
    go_ret
    exact ⟨ret_bool (by simp [rightT, k4]), HW.out.trans (HB2.out.mono HW.out.size)⟩
  case true =>
  rw [k4] at HP
  rcases k1 with rfl | rfl
  · rcases k2 with rfl | rfl
    · go_enter Try.func47, Try.ntmps47
      go_wp2_with (fail)
      refine (HI.out _).mono ?_
      rintro e w9 ⟨rfl, rfl⟩
      go_wp2_with (fail)
      refine (HO.out _).mono ?_
      rintro e w9 ⟨rfl, rfl⟩
      go_wp2_with (fail)
      refine (HN.out _ (H.out.belowM HB0.out)).mono ?_
      rintro e w1 ⟨rfl, hb1⟩
      have HB1 := Lib.hid (HB0.out.trans (hb1.mono HB0.out.size))
      clear r0 r1 r2 r3 r4 r5
      obtain ⟨r0, r1, r2, r3, r4, r5⟩ := X6.out w1 HB1.out
      clear hb1
      go_wp2_with (fail)
      refine (HP.out _ (H.out.belowM HB1.out)).mono ?_
      rintro e w2 ⟨rfl, hb2⟩
      have HB2 := Lib.hid (HB1.out.trans (hb2.mono HB1.out.size))
      clear r0 r1 r2 r3 r4 r5
      obtain ⟨r0, r1, r2, r3, r4, r5⟩ := X6.out w2 HB2.out
      clear hb2
      go_wp2_with (fail)
      go_ret
      exact ⟨ret_bool (by simp [rightT, k3, k4]), HW.out.trans (HB2.out.mono HW.out.size)⟩
    · go_enter Try.func47, Try.ntmps47
      go_wp2_with (fail)
      refine (HI.out _).mono ?_
      rintro e w9 ⟨rfl, rfl⟩
      go_wp2_with (fail)
      refine (HO.out _).mono ?_
      rintro e w9 ⟨rfl, rfl⟩
      go_wp2_with (fail)
      refine (HN.out _ (H.out.belowM HB0.out)).mono ?_
      rintro e w1 ⟨rfl, hb1⟩
      have HB1 := Lib.hid (HB0.out.trans (hb1.mono HB0.out.size))
      clear r0 r1 r2 r3 r4 r5
      obtain ⟨r0, r1, r2, r3, r4, r5⟩ := X6.out w1 HB1.out
      clear hb1
      go_wp2_with (fail)
      refine (HP.out _ (H.out.belowM HB1.out)).mono ?_
      rintro e w2 ⟨rfl, hb2⟩
      have HB2 := Lib.hid (HB1.out.trans (hb2.mono HB1.out.size))
      clear r0 r1 r2 r3 r4 r5
      obtain ⟨r0, r1, r2, r3, r4, r5⟩ := X6.out w2 HB2.out
      clear hb2
      go_wp2_with (fail)
      refine (HL.out _).mono ?_
      rintro e w3 ⟨rfl, hb3⟩
      have HB3 := Lib.hid (HB2.out.trans (hb3.mono HB2.out.size))
      clear r0 r1 r2 r3 r4 r5
      obtain ⟨r0, r1, r2, r3, r4, r5⟩ := X6.out w3 HB3.out
      clear hb3
      go_wp2_with (fail)
      go_ret
      exact ⟨ret_bool (by simp [rightT, k3, k4]), HW.out.trans (HB3.out.mono HW.out.size)⟩
  · rcases k5 : copyB l with _ | _
    · rw [k5] at HC
      go_enter Try.func47, Try.ntmps47
      go_wp2_with (fail)
      refine (HI.out _).mono ?_
      rintro e w9 ⟨rfl, rfl⟩
      go_wp2_with (fail)
      refine (HO.out _).mono ?_
      rintro e w9 ⟨rfl, rfl⟩
      go_wp2_with (fail)
      refine (HN.out _ (H.out.belowM HB0.out)).mono ?_
      rintro e w1 ⟨rfl, hb1⟩
      have HB1 := Lib.hid (HB0.out.trans (hb1.mono HB0.out.size))
      clear r0 r1 r2 r3 r4 r5
      obtain ⟨r0, r1, r2, r3, r4, r5⟩ := X6.out w1 HB1.out
      clear hb1
      go_wp2_with (fail)
      refine (HP.out _ (H.out.belowM HB1.out)).mono ?_
      rintro e w2 ⟨rfl, hb2⟩
      have HB2 := Lib.hid (HB1.out.trans (hb2.mono HB1.out.size))
      clear r0 r1 r2 r3 r4 r5
      obtain ⟨r0, r1, r2, r3, r4, r5⟩ := X6.out w2 HB2.out
      clear hb2
      go_wp2_with (fail)
      refine (HC.out _ (H.out.belowM HB2.out)).mono ?_
      rintro e w3 ⟨rfl, hb3⟩
      have HB3 := Lib.hid (HB2.out.trans (hb3.mono HB2.out.size))
      clear r0 r1 r2 r3 r4 r5
      obtain ⟨r0, r1, r2, r3, r4, r5⟩ := X6.out w3 HB3.out
      clear hb3
      go_wp2_with (fail)
      go_ret
      exact ⟨ret_bool (by simp [rightT, k5]), HW.out.trans (HB3.out.mono HW.out.size)⟩
    · rw [k5] at HC
      rcases k2 with rfl | rfl
      · go_enter Try.func47, Try.ntmps47
        go_wp2_with (fail)
        refine (HI.out _).mono ?_
        rintro e w9 ⟨rfl, rfl⟩
        go_wp2_with (fail)
        refine (HO.out _).mono ?_
        rintro e w9 ⟨rfl, rfl⟩
        go_wp2_with (fail)
        refine (HN.out _ (H.out.belowM HB0.out)).mono ?_
        rintro e w1 ⟨rfl, hb1⟩
        have HB1 := Lib.hid (HB0.out.trans (hb1.mono HB0.out.size))
        clear r0 r1 r2 r3 r4 r5
        obtain ⟨r0, r1, r2, r3, r4, r5⟩ := X6.out w1 HB1.out
        clear hb1
        go_wp2_with (fail)
        refine (HP.out _ (H.out.belowM HB1.out)).mono ?_
        rintro e w2 ⟨rfl, hb2⟩
        have HB2 := Lib.hid (HB1.out.trans (hb2.mono HB1.out.size))
        clear r0 r1 r2 r3 r4 r5
        obtain ⟨r0, r1, r2, r3, r4, r5⟩ := X6.out w2 HB2.out
        clear hb2
        go_wp2_with (fail)
        refine (HC.out _ (H.out.belowM HB2.out)).mono ?_
        rintro e w3 ⟨rfl, hb3⟩
        have HB3 := Lib.hid (HB2.out.trans (hb3.mono HB2.out.size))
        clear r0 r1 r2 r3 r4 r5
        obtain ⟨r0, r1, r2, r3, r4, r5⟩ := X6.out w3 HB3.out
        clear hb3
        go_wp2_with (fail)
        go_ret
        exact ⟨ret_bool (by simp [rightT, k3, k4, k5]), HW.out.trans (HB3.out.mono HW.out.size)⟩
      · go_enter Try.func47, Try.ntmps47
        go_wp2_with (fail)
        refine (HI.out _).mono ?_
        rintro e w9 ⟨rfl, rfl⟩
        go_wp2_with (fail)
        refine (HO.out _).mono ?_
        rintro e w9 ⟨rfl, rfl⟩
        go_wp2_with (fail)
        refine (HN.out _ (H.out.belowM HB0.out)).mono ?_
        rintro e w1 ⟨rfl, hb1⟩
        have HB1 := Lib.hid (HB0.out.trans (hb1.mono HB0.out.size))
        clear r0 r1 r2 r3 r4 r5
        obtain ⟨r0, r1, r2, r3, r4, r5⟩ := X6.out w1 HB1.out
        clear hb1
        go_wp2_with (fail)
        refine (HP.out _ (H.out.belowM HB1.out)).mono ?_
        rintro e w2 ⟨rfl, hb2⟩
        have HB2 := Lib.hid (HB1.out.trans (hb2.mono HB1.out.size))
        clear r0 r1 r2 r3 r4 r5
        obtain ⟨r0, r1, r2, r3, r4, r5⟩ := X6.out w2 HB2.out
        clear hb2
        go_wp2_with (fail)
        refine (HC.out _ (H.out.belowM HB2.out)).mono ?_
        rintro e w3 ⟨rfl, hb3⟩
        have HB3 := Lib.hid (HB2.out.trans (hb3.mono HB2.out.size))
        clear r0 r1 r2 r3 r4 r5
        obtain ⟨r0, r1, r2, r3, r4, r5⟩ := X6.out w3 HB3.out
        clear hb3
        go_wp2_with (fail)
        refine (HL.out _).mono ?_
        rintro e w4 ⟨rfl, hb4⟩
        have HB4 := Lib.hid (HB3.out.trans (hb4.mono HB3.out.size))
        clear r0 r1 r2 r3 r4 r5
        obtain ⟨r0, r1, r2, r3, r4, r5⟩ := X6.out w4 HB4.out
        clear hb4
        go_wp2_with (fail)
        go_ret
        exact ⟨ret_bool (by simp [rightT, k3, k4, k5]), HW.out.trans (HB4.out.mono HW.out.size)⟩
/-- The loop of the document's Right: as far as k all parts are right, and, into scalars' windows, there is one at most, that takes all. -/
def RRel (i m : Int) (l : List PT) (B : Nat) (w2 : World) (iv : Value) (wr : World) : Prop :=
  ∃ k : Nat, k ≤ l.length ∧ iv = .int .i64 k ∧ AllR m l k ∧ (i = 2 → k ≤ 1 ∧ ∀ q ∈ l.take k, takesAll q = true) ∧ Below B w2 wr
set_option maxHeartbeats 4000000 in
theorem rrightT_any (i o m b d t u s : Int) (A : Option Addr) (n c : Nat) (l : List PT) (w : World) (h : RP w w.heap.size A n l) (hn : n ≤ maxLen) :
    Calls Try.prog 45 #[trm b d t u s A n c, .int .i64 i, .int .i64 o, .int .i64 m] w (RetB (rightT i o m b d t u s l) w) := by
  unfold maxLen at hn
  have hlen := h.1
  subst hlen
  have hbw : Below w.heap.size w (w.alloc (.cells (tcells b d t u s A l.length c) 71)) := (Below.refl _ w).alloc (Nat.le_refl _) _
  obtain ⟨w0, hw0⟩ : ∃ w0, w.alloc (.cells (tcells b d t u s A l.length c) 71) = w0 := ⟨_, rfl⟩
  have X6 := Lib.hid (fun W (hb : Below w0.heap.size w0 W) => show Boxed6 W w.heap.size b d t u s A l.length c from by rw [← hw0] at hb; exact boxed6 hb)
  rw [hw0] at hbw
  have HW := Lib.hid hbw
  have H := Lib.hid (h.belowM hbw)
  have HB0 := Lib.hid (Below.refl w0.heap.size w0)
  obtain ⟨r0, r1, r2, r3, r4, r5⟩ := X6.out w0 (Below.refl _ _)
  clear h hbw
  have HN := Lib.hid (fun W (hW : RP W W.heap.size A l.length l) => rnum_any b d t u s A l.length c l W hW hn)
  have HL := Lib.hid (rplain_any b d t u s A l.length c)
  by_cases k1 : i = 1 ∨ i = 2
  case neg =>
    have e1 : (i == 1) = false := by simp; omega
    have e2 : (i == 2) = false := by simp; omega
    go_enter Try.func45, Try.ntmps45
    go_wp2_with (fail)
    go_ret
    exact ⟨ret_bool (by simp [rightT, k1]), HW.out.trans (HB0.out.mono HW.out.size)⟩
  by_cases k2 : o = 1 ∨ o = 2
  case neg =>
    have e1 : (o == 1) = false := by simp; omega
    have e2 : (o == 2) = false := by simp; omega
    rcases k1 with rfl | rfl
    · go_enter Try.func45, Try.ntmps45
      go_wp2_with (fail)
      go_ret
      exact ⟨ret_bool (by simp [rightT, k2]), HW.out.trans (HB0.out.mono HW.out.size)⟩
    · go_enter Try.func45, Try.ntmps45
      go_wp2_with (fail)
      go_ret
      exact ⟨ret_bool (by simp [rightT, k2]), HW.out.trans (HB0.out.mono HW.out.size)⟩
  rcases k3 : numB b d t u s l with _ | _
  case false =>
    rw [k3] at HN
    rcases k1 with rfl | rfl <;> rcases k2 with rfl | rfl
    · go_enter Try.func45, Try.ntmps45
      go_wp2_with (fail)
      refine (HN.out _ (H.out.belowM HB0.out)).mono ?_
      rintro e w1 ⟨rfl, hb1⟩
      have HB1 := Lib.hid (HB0.out.trans (hb1.mono HB0.out.size))
      clear r0 r1 r2 r3 r4 r5
      obtain ⟨r0, r1, r2, r3, r4, r5⟩ := X6.out w1 HB1.out
      clear hb1
      go_wp2_with (fail)
      go_ret
      exact ⟨ret_bool (by simp [rightT, k3]), HW.out.trans (HB1.out.mono HW.out.size)⟩
    · go_enter Try.func45, Try.ntmps45
      go_wp2_with (fail)
      refine (HN.out _ (H.out.belowM HB0.out)).mono ?_
      rintro e w1 ⟨rfl, hb1⟩
      have HB1 := Lib.hid (HB0.out.trans (hb1.mono HB0.out.size))
      clear r0 r1 r2 r3 r4 r5
      obtain ⟨r0, r1, r2, r3, r4, r5⟩ := X6.out w1 HB1.out
      clear hb1
      go_wp2_with (fail)
      go_ret
      exact ⟨ret_bool (by simp [rightT, k3]), HW.out.trans (HB1.out.mono HW.out.size)⟩
    · go_enter Try.func45, Try.ntmps45
      go_wp2_with (fail)
      refine (HN.out _ (H.out.belowM HB0.out)).mono ?_
      rintro e w1 ⟨rfl, hb1⟩
      have HB1 := Lib.hid (HB0.out.trans (hb1.mono HB0.out.size))
      clear r0 r1 r2 r3 r4 r5
      obtain ⟨r0, r1, r2, r3, r4, r5⟩ := X6.out w1 HB1.out
      clear hb1
      go_wp2_with (fail)
      go_ret
      exact ⟨ret_bool (by simp [rightT, k3]), HW.out.trans (HB1.out.mono HW.out.size)⟩
    · go_enter Try.func45, Try.ntmps45
      go_wp2_with (fail)
      refine (HN.out _ (H.out.belowM HB0.out)).mono ?_
      rintro e w1 ⟨rfl, hb1⟩
      have HB1 := Lib.hid (HB0.out.trans (hb1.mono HB0.out.size))
      clear r0 r1 r2 r3 r4 r5
      obtain ⟨r0, r1, r2, r3, r4, r5⟩ := X6.out w1 HB1.out
      clear hb1
      go_wp2_with (fail)
      go_ret
      exact ⟨ret_bool (by simp [rightT, k3]), HW.out.trans (HB1.out.mono HW.out.size)⟩
  case true =>
  rw [k3] at HN
  have K3 := Lib.hid k3
  clear k3
  rcases k1 with rfl | rfl <;> rcases k2 with rfl | rfl
  · go_enter Try.func45, Try.ntmps45
    go_wp2_with (fail)
    refine (HN.out _ (H.out.belowM HB0.out)).mono ?_
    rintro e w1 ⟨rfl, hb1⟩
    have HB1 := Lib.hid (HB0.out.trans (hb1.mono HB0.out.size))
    clear r0 r1 r2 r3 r4 r5
    obtain ⟨r0, r1, r2, r3, r4, r5⟩ := X6.out w1 HB1.out
    clear hb1
    go_wp2_with (fail)
    go_loopw [9] (fun iv wr => RRel 1 m l w0.heap.size w0 iv wr) (fun iv _ => l.length - (intOf iv).toNat)
    case atStart => exact ⟨0, Nat.zero_le _, rfl, fun q hq => by simp at hq, fun _ => ⟨Nat.zero_le _, fun q hq => by simp at hq⟩, HB1.out⟩
    case round =>
      obtain ⟨k, hk, rfl, hA, hS, hb⟩ := hrel
      have HA := Lib.hid hA
      have HS := Lib.hid hS
      have HB := Lib.hid hb
      have hz := hb.size
      obtain ⟨q0, q1, q2, q3, q4, q5⟩ := X6.out wr hb
      clear r0 r1 r2 r3 r4 r5
      by_cases hlt : k < l.length
      · obtain ⟨bb, off, a', d', t', u', hA', hbB, hlk, c1, c2, c3, c4⟩ := (H.out.below hb).at_ hlt
        have HLK := Lib.hid hlk
        have HR := Lib.hid (rright_any a' d' t' u' m)
        have HC2 := Lib.hid (show ∀ W, Below wr.heap.size wr W → W.cell? ⟨bb, off + k * 4, none⟩ = some (.int .i64 a') ∧ W.cell? ⟨bb, off + k * 4 + 1, none⟩ = some (.int .i64 d') ∧ W.cell? ⟨bb, off + k * 4 + 2, none⟩ = some (.int .i64 t') ∧ W.cell? ⟨bb, off + k * 4 + 3, none⟩ = some (.int .i64 u') from fun W hW => ⟨(hW.cell (by simp only; omega)).trans c1, (hW.cell (by simp only; omega)).trans c2, (hW.cell (by simp only; omega)).trans c3, (hW.cell (by simp only; omega)).trans c4⟩)
        subst hA'
        clear hA hS hb hlk
        rcases hr : rightB a' d' t' u' m with _ | _
        · rw [hr] at HR
          have HRR := Lib.hid hr
          clear hr
          go_wp2_with (fail)
          refine (HR.out _).mono ?_
          rintro e w2 ⟨rfl, hb2⟩
          go_wp2_with (fail)
          go_ret
          exact ⟨ret_bool (by simp [rightT, partsB_false HLK.out HRR.out]), HW.out.trans ((HB.out.trans (hb2.mono hz)).mono HW.out.size)⟩
        · rw [hr] at HR
          have HRR := Lib.hid hr
          clear hr
          go_wp2_with (fail)
          refine (HR.out _).mono ?_
          rintro e w2 ⟨rfl, hb2⟩
          go_wp2_with (fail)
          go_roundw
          case rel => exact ⟨k + 1, by omega, by go_num, allR_next HA.out HLK.out HRR.out, fun e => absurd e (by decide), HB.out.trans (hb2.mono hz)⟩
          case measure => simp [intOf]; omega
      · have hkl : k = l.length := by omega
        subst hkl
        have HP := Lib.hid (partsB_true hA)
        clear hA hS hb
        go_wp2_with (fail)
        go_ret
        exact ⟨ret_bool (by simp [rightT, K3.out, HP.out]), HW.out.trans (HB.out.mono HW.out.size)⟩
  · go_enter Try.func45, Try.ntmps45
    go_wp2_with (fail)
    refine (HN.out _ (H.out.belowM HB0.out)).mono ?_
    rintro e w1 ⟨rfl, hb1⟩
    have HB1 := Lib.hid (HB0.out.trans (hb1.mono HB0.out.size))
    clear r0 r1 r2 r3 r4 r5
    obtain ⟨r0, r1, r2, r3, r4, r5⟩ := X6.out w1 HB1.out
    clear hb1
    go_wp2_with (fail)
    go_loopw [9] (fun iv wr => RRel 1 m l w0.heap.size w0 iv wr) (fun iv _ => l.length - (intOf iv).toNat)
    case atStart => exact ⟨0, Nat.zero_le _, rfl, fun q hq => by simp at hq, fun _ => ⟨Nat.zero_le _, fun q hq => by simp at hq⟩, HB1.out⟩
    case round =>
      obtain ⟨k, hk, rfl, hA, hS, hb⟩ := hrel
      have HA := Lib.hid hA
      have HS := Lib.hid hS
      have HB := Lib.hid hb
      have hz := hb.size
      obtain ⟨q0, q1, q2, q3, q4, q5⟩ := X6.out wr hb
      clear r0 r1 r2 r3 r4 r5
      by_cases hlt : k < l.length
      · obtain ⟨bb, off, a', d', t', u', hA', hbB, hlk, c1, c2, c3, c4⟩ := (H.out.below hb).at_ hlt
        have HLK := Lib.hid hlk
        have HR := Lib.hid (rright_any a' d' t' u' m)
        have HC2 := Lib.hid (show ∀ W, Below wr.heap.size wr W → W.cell? ⟨bb, off + k * 4, none⟩ = some (.int .i64 a') ∧ W.cell? ⟨bb, off + k * 4 + 1, none⟩ = some (.int .i64 d') ∧ W.cell? ⟨bb, off + k * 4 + 2, none⟩ = some (.int .i64 t') ∧ W.cell? ⟨bb, off + k * 4 + 3, none⟩ = some (.int .i64 u') from fun W hW => ⟨(hW.cell (by simp only; omega)).trans c1, (hW.cell (by simp only; omega)).trans c2, (hW.cell (by simp only; omega)).trans c3, (hW.cell (by simp only; omega)).trans c4⟩)
        subst hA'
        clear hA hS hb hlk
        rcases hr : rightB a' d' t' u' m with _ | _
        · rw [hr] at HR
          have HRR := Lib.hid hr
          clear hr
          go_wp2_with (fail)
          refine (HR.out _).mono ?_
          rintro e w2 ⟨rfl, hb2⟩
          go_wp2_with (fail)
          go_ret
          exact ⟨ret_bool (by simp [rightT, partsB_false HLK.out HRR.out]), HW.out.trans ((HB.out.trans (hb2.mono hz)).mono HW.out.size)⟩
        · rw [hr] at HR
          have HRR := Lib.hid hr
          clear hr
          go_wp2_with (fail)
          refine (HR.out _).mono ?_
          rintro e w2 ⟨rfl, hb2⟩
          go_wp2_with (fail)
          go_roundw
          case rel => exact ⟨k + 1, by omega, by go_num, allR_next HA.out HLK.out HRR.out, fun e => absurd e (by decide), HB.out.trans (hb2.mono hz)⟩
          case measure => simp [intOf]; omega
      · have hkl : k = l.length := by omega
        subst hkl
        have HP := Lib.hid (partsB_true hA)
        clear hA hS hb
        go_wp2_with (fail)
        refine (HL.out _).mono ?_
        rintro e w3 ⟨rfl, hb3⟩
        go_wp2_with (fail)
        go_ret
        exact ⟨ret_bool (by simp [rightT, K3.out, HP.out]), HW.out.trans ((HB.out.trans (hb3.mono hz)).mono HW.out.size)⟩
  · go_enter Try.func45, Try.ntmps45
    go_wp2_with (fail)
    refine (HN.out _ (H.out.belowM HB0.out)).mono ?_
    rintro e w1 ⟨rfl, hb1⟩
    have HB1 := Lib.hid (HB0.out.trans (hb1.mono HB0.out.size))
    clear r0 r1 r2 r3 r4 r5
    obtain ⟨r0, r1, r2, r3, r4, r5⟩ := X6.out w1 HB1.out
    clear hb1
    go_wp2_with (fail)
    go_loopw [9] (fun iv wr => RRel 2 m l w0.heap.size w0 iv wr) (fun iv _ => l.length - (intOf iv).toNat)
    case atStart => exact ⟨0, Nat.zero_le _, rfl, fun q hq => by simp at hq, fun _ => ⟨Nat.zero_le _, fun q hq => by simp at hq⟩, HB1.out⟩
    case round =>
      obtain ⟨k, hk, rfl, hA, hS, hb⟩ := hrel
      have HA := Lib.hid hA
      have HS := Lib.hid hS
      have HB := Lib.hid hb
      have hz := hb.size
      obtain ⟨q0, q1, q2, q3, q4, q5⟩ := X6.out wr hb
      clear r0 r1 r2 r3 r4 r5
      by_cases hlt : k < l.length
      · obtain ⟨bb, off, a', d', t', u', hA', hbB, hlk, c1, c2, c3, c4⟩ := (H.out.below hb).at_ hlt
        have HLK := Lib.hid hlk
        have HR := Lib.hid (rright_any a' d' t' u' m)
        have HT := Lib.hid (all_any a' d' t' u')
        have HC2 := Lib.hid (show ∀ W, Below wr.heap.size wr W → W.cell? ⟨bb, off + k * 4, none⟩ = some (.int .i64 a') ∧ W.cell? ⟨bb, off + k * 4 + 1, none⟩ = some (.int .i64 d') ∧ W.cell? ⟨bb, off + k * 4 + 2, none⟩ = some (.int .i64 t') ∧ W.cell? ⟨bb, off + k * 4 + 3, none⟩ = some (.int .i64 u') from fun W hW => ⟨(hW.cell (by simp only; omega)).trans c1, (hW.cell (by simp only; omega)).trans c2, (hW.cell (by simp only; omega)).trans c3, (hW.cell (by simp only; omega)).trans c4⟩)
        subst hA'
        clear hA hS hb hlk
        rcases hr : rightB a' d' t' u' m with _ | _
        · rw [hr] at HR
          have HRR := Lib.hid hr
          clear hr
          go_wp2_with (fail)
          refine (HR.out _).mono ?_
          rintro e w2 ⟨rfl, hb2⟩
          go_wp2_with (fail)
          go_ret
          exact ⟨ret_bool (by simp [rightT, partsB_false HLK.out HRR.out]), HW.out.trans ((HB.out.trans (hb2.mono hz)).mono HW.out.size)⟩
        · rw [hr] at HR
          have HRR := Lib.hid hr
          clear hr
          rcases k with _ | k
          · simp only [Nat.zero_mul, Nat.add_zero] at c1 c2 c3 c4
            rcases ht : takesAll (a', d', t', u') with _ | _
            · rw [ht] at HT
              have HTT := Lib.hid ht
              clear ht
              go_wp2_with (fail)
              refine (HR.out _).mono ?_
              rintro e w2 ⟨rfl, hb2⟩
              obtain ⟨s1, s2, s3, s4⟩ := HC2.out _ hb2
              have hbx := HB.out.trans (hb2.mono hz)
              obtain ⟨z0, z1, z2, z3, z4, z5⟩ := X6.out w2 hbx
              clear q0 q1 q2 q3 q4 q5 c1 c2 c3 c4
              have HBX := Lib.hid hbx
              clear hbx hb2
              simp only [Nat.zero_mul, Nat.add_zero] at s1 s2 s3 s4
              go_wp2_with (fail)
              refine (HT.out _).mono ?_
              rintro e w3 ⟨rfl, hb3⟩
              go_wp2_with (fail)
              go_ret
              exact ⟨ret_bool (by simp [rightT, copyB_not HLK.out HTT.out]), HW.out.trans ((HBX.out.trans (hb3.mono HBX.out.size)).mono HW.out.size)⟩
            · rw [ht] at HT
              have HTT := Lib.hid ht
              clear ht
              go_wp2_with (fail)
              refine (HR.out _).mono ?_
              rintro e w2 ⟨rfl, hb2⟩
              obtain ⟨s1, s2, s3, s4⟩ := HC2.out _ hb2
              have hbx := HB.out.trans (hb2.mono hz)
              obtain ⟨z0, z1, z2, z3, z4, z5⟩ := X6.out w2 hbx
              clear q0 q1 q2 q3 q4 q5 c1 c2 c3 c4
              have HBX := Lib.hid hbx
              clear hbx hb2
              simp only [Nat.zero_mul, Nat.add_zero] at s1 s2 s3 s4
              go_wp2_with (fail)
              refine (HT.out _).mono ?_
              rintro e w3 ⟨rfl, hb3⟩
              go_wp2_with (fail)
              go_roundw
              case rel => exact ⟨0 + 1, by omega, by go_num, allR_next HA.out HLK.out HRR.out, fun _ => ⟨Nat.le_refl _, fun q hq => by
                obtain ⟨hl, e⟩ := HLK.out
                rw [List.take_succ_eq_append_getElem hl, List.mem_append] at hq
                rcases hq with hq | hq
                · simp at hq
                · rw [List.mem_singleton, e] at hq
                  subst hq
                  exact HTT.out⟩, HBX.out.trans (hb3.mono HBX.out.size)⟩
              case measure => simp [intOf]; omega
          · have hkd : decide ((0 : Int) < ((k + 1 : Nat) : Int)) = true := by simp
            go_wp2_with (fail)
            refine (HR.out _).mono ?_
            rintro e w2 ⟨rfl, hb2⟩
            go_wp2_with (fail)
            go_ret
            exact ⟨ret_bool (by simp [rightT, copyB_long (l := l) (by omega)]), HW.out.trans ((HB.out.trans (hb2.mono hz)).mono HW.out.size)⟩
      · have hkl : k = l.length := by omega
        subst hkl
        have HP := Lib.hid (partsB_true hA)
        have HCB := Lib.hid (copyB_of (hS rfl).1 (fun q hq => (hS rfl).2 q (by rw [List.take_length]; exact hq)))
        clear hA hS hb
        go_wp2_with (fail)
        go_ret
        exact ⟨ret_bool (by simp [rightT, K3.out, HP.out, HCB.out]), HW.out.trans (HB.out.mono HW.out.size)⟩
  · go_enter Try.func45, Try.ntmps45
    go_wp2_with (fail)
    refine (HN.out _ (H.out.belowM HB0.out)).mono ?_
    rintro e w1 ⟨rfl, hb1⟩
    have HB1 := Lib.hid (HB0.out.trans (hb1.mono HB0.out.size))
    clear r0 r1 r2 r3 r4 r5
    obtain ⟨r0, r1, r2, r3, r4, r5⟩ := X6.out w1 HB1.out
    clear hb1
    go_wp2_with (fail)
    go_loopw [9] (fun iv wr => RRel 2 m l w0.heap.size w0 iv wr) (fun iv _ => l.length - (intOf iv).toNat)
    case atStart => exact ⟨0, Nat.zero_le _, rfl, fun q hq => by simp at hq, fun _ => ⟨Nat.zero_le _, fun q hq => by simp at hq⟩, HB1.out⟩
    case round =>
      obtain ⟨k, hk, rfl, hA, hS, hb⟩ := hrel
      have HA := Lib.hid hA
      have HS := Lib.hid hS
      have HB := Lib.hid hb
      have hz := hb.size
      obtain ⟨q0, q1, q2, q3, q4, q5⟩ := X6.out wr hb
      clear r0 r1 r2 r3 r4 r5
      by_cases hlt : k < l.length
      · obtain ⟨bb, off, a', d', t', u', hA', hbB, hlk, c1, c2, c3, c4⟩ := (H.out.below hb).at_ hlt
        have HLK := Lib.hid hlk
        have HR := Lib.hid (rright_any a' d' t' u' m)
        have HT := Lib.hid (all_any a' d' t' u')
        have HC2 := Lib.hid (show ∀ W, Below wr.heap.size wr W → W.cell? ⟨bb, off + k * 4, none⟩ = some (.int .i64 a') ∧ W.cell? ⟨bb, off + k * 4 + 1, none⟩ = some (.int .i64 d') ∧ W.cell? ⟨bb, off + k * 4 + 2, none⟩ = some (.int .i64 t') ∧ W.cell? ⟨bb, off + k * 4 + 3, none⟩ = some (.int .i64 u') from fun W hW => ⟨(hW.cell (by simp only; omega)).trans c1, (hW.cell (by simp only; omega)).trans c2, (hW.cell (by simp only; omega)).trans c3, (hW.cell (by simp only; omega)).trans c4⟩)
        subst hA'
        clear hA hS hb hlk
        rcases hr : rightB a' d' t' u' m with _ | _
        · rw [hr] at HR
          have HRR := Lib.hid hr
          clear hr
          go_wp2_with (fail)
          refine (HR.out _).mono ?_
          rintro e w2 ⟨rfl, hb2⟩
          go_wp2_with (fail)
          go_ret
          exact ⟨ret_bool (by simp [rightT, partsB_false HLK.out HRR.out]), HW.out.trans ((HB.out.trans (hb2.mono hz)).mono HW.out.size)⟩
        · rw [hr] at HR
          have HRR := Lib.hid hr
          clear hr
          rcases k with _ | k
          · simp only [Nat.zero_mul, Nat.add_zero] at c1 c2 c3 c4
            rcases ht : takesAll (a', d', t', u') with _ | _
            · rw [ht] at HT
              have HTT := Lib.hid ht
              clear ht
              go_wp2_with (fail)
              refine (HR.out _).mono ?_
              rintro e w2 ⟨rfl, hb2⟩
              obtain ⟨s1, s2, s3, s4⟩ := HC2.out _ hb2
              have hbx := HB.out.trans (hb2.mono hz)
              obtain ⟨z0, z1, z2, z3, z4, z5⟩ := X6.out w2 hbx
              clear q0 q1 q2 q3 q4 q5 c1 c2 c3 c4
              have HBX := Lib.hid hbx
              clear hbx hb2
              simp only [Nat.zero_mul, Nat.add_zero] at s1 s2 s3 s4
              go_wp2_with (fail)
              refine (HT.out _).mono ?_
              rintro e w3 ⟨rfl, hb3⟩
              go_wp2_with (fail)
              go_ret
              exact ⟨ret_bool (by simp [rightT, copyB_not HLK.out HTT.out]), HW.out.trans ((HBX.out.trans (hb3.mono HBX.out.size)).mono HW.out.size)⟩
            · rw [ht] at HT
              have HTT := Lib.hid ht
              clear ht
              go_wp2_with (fail)
              refine (HR.out _).mono ?_
              rintro e w2 ⟨rfl, hb2⟩
              obtain ⟨s1, s2, s3, s4⟩ := HC2.out _ hb2
              have hbx := HB.out.trans (hb2.mono hz)
              obtain ⟨z0, z1, z2, z3, z4, z5⟩ := X6.out w2 hbx
              clear q0 q1 q2 q3 q4 q5 c1 c2 c3 c4
              have HBX := Lib.hid hbx
              clear hbx hb2
              simp only [Nat.zero_mul, Nat.add_zero] at s1 s2 s3 s4
              go_wp2_with (fail)
              refine (HT.out _).mono ?_
              rintro e w3 ⟨rfl, hb3⟩
              go_wp2_with (fail)
              go_roundw
              case rel => exact ⟨0 + 1, by omega, by go_num, allR_next HA.out HLK.out HRR.out, fun _ => ⟨Nat.le_refl _, fun q hq => by
                obtain ⟨hl, e⟩ := HLK.out
                rw [List.take_succ_eq_append_getElem hl, List.mem_append] at hq
                rcases hq with hq | hq
                · simp at hq
                · rw [List.mem_singleton, e] at hq
                  subst hq
                  exact HTT.out⟩, HBX.out.trans (hb3.mono HBX.out.size)⟩
              case measure => simp [intOf]; omega
          · have hkd : decide ((0 : Int) < ((k + 1 : Nat) : Int)) = true := by simp
            go_wp2_with (fail)
            refine (HR.out _).mono ?_
            rintro e w2 ⟨rfl, hb2⟩
            go_wp2_with (fail)
            go_ret
            exact ⟨ret_bool (by simp [rightT, copyB_long (l := l) (by omega)]), HW.out.trans ((HB.out.trans (hb2.mono hz)).mono HW.out.size)⟩
      · have hkl : k = l.length := by omega
        subst hkl
        have HP := Lib.hid (partsB_true hA)
        have HCB := Lib.hid (copyB_of (hS rfl).1 (fun q hq => (hS rfl).2 q (by rw [List.take_length]; exact hq)))
        clear hA hS hb
        go_wp2_with (fail)
        refine (HL.out _).mono ?_
        rintro e w3 ⟨rfl, hb3⟩
        go_wp2_with (fail)
        go_ret
        exact ⟨ret_bool (by simp [rightT, K3.out, HP.out, HCB.out]), HW.out.trans ((HB.out.trans (hb3.mono hz)).mono HW.out.size)⟩
end Go.Proofs.Ytboaifdkoemnbaa.Te
/- Words for descriptions: lists of terms, rules and finals as plain data, and how slice values read as them. -/
namespace Go.Proofs.Ytboaifdkoemnbaa.De
set_option maxRecDepth 100000
open Go Go.RowKit Go.Proofs.Ytboaifdkoemnbaa.Sp Go.Proofs.Ytboaifdkoemnbaa.Pa Go.Proofs.Ytboaifdkoemnbaa.Te Go.Proofs.Ytboaifdkoemnbaa.Mi

structure TmL where
  b : Int
  d : Int
  t : Int
  u : Int
  s : Int
  ps : List PT
deriving Inhabited
structure RuL where
  frm : Int
  to_ : Int
  gs : List (List Span)
  eat : Int
  out : List TmL
deriving Inhabited
structure FiL where
  frm : Int
  gs : List (List Span)
  out : List TmL
deriving Inhabited
/-- A number of the type int. -/
def IntR (x : Int) : Prop := -9223372036854775808 ≤ x ∧ x ≤ 9223372036854775807
/-- The slice value with address A and length n reads as the terms l, in a world. -/
def RTm (w : World) (A : Option Addr) (n : Nat) (l : List TmL) : Prop :=
  l.length = n ∧ (0 < n → ∃ b off, A = some ⟨b, off, none⟩ ∧ b < w.heap.size ∧ ∀ (j : Nat) (h : j < l.length),
    w.cell? ⟨b, off + j * 6, none⟩ = some (.int .i64 l[j].b) ∧ w.cell? ⟨b, off + j * 6 + 1, none⟩ = some (.int .i64 l[j].d) ∧ w.cell? ⟨b, off + j * 6 + 2, none⟩ = some (.int .i64 l[j].t) ∧ w.cell? ⟨b, off + j * 6 + 3, none⟩ = some (.int .i64 l[j].u) ∧ w.cell? ⟨b, off + j * 6 + 4, none⟩ = some (.int .i64 l[j].s) ∧
    ∃ A' c', w.cell? ⟨b, off + j * 6 + 5, none⟩ = some (.slice A' l[j].ps.length c') ∧ RP w w.heap.size A' l[j].ps.length l[j].ps ∧ l[j].ps.length ≤ c' ∧ l[j].ps.length ≤ maxLen)
theorem RTm.nil_ (w : World) (A : Option Addr) : RTm w A 0 [] := ⟨rfl, fun h => absurd h (by omega)⟩
section
variable {w w' : World} {A : Option Addr} {n : Nat}
theorem RTm.belowM {l : List TmL} (h : RTm w A n l) (hb : Below w.heap.size w w') : RTm w' A n l :=
  ⟨h.1, fun hn => by
    obtain ⟨b, off, e, hlt, hc⟩ := h.2 hn
    refine ⟨b, off, e, by have := hb.size; omega, fun j hj => ?_⟩
    obtain ⟨h1, h2, h3, h4, h5, A', c', h6, h7, h8⟩ := hc j hj
    exact ⟨(hb.cell hlt).trans h1, (hb.cell hlt).trans h2, (hb.cell hlt).trans h3, (hb.cell hlt).trans h4, (hb.cell hlt).trans h5, A', c', (hb.cell hlt).trans h6, h7.belowM hb, h8⟩⟩
theorem RTm.at_ {l : List TmL} (h : RTm w A n l) {k : Nat} (hk : k < l.length) : ∃ b off, A = some ⟨b, off, none⟩ ∧ b < w.heap.size ∧
    w.cell? ⟨b, off + k * 6, none⟩ = some (.int .i64 l[k].b) ∧ w.cell? ⟨b, off + k * 6 + 1, none⟩ = some (.int .i64 l[k].d) ∧ w.cell? ⟨b, off + k * 6 + 2, none⟩ = some (.int .i64 l[k].t) ∧ w.cell? ⟨b, off + k * 6 + 3, none⟩ = some (.int .i64 l[k].u) ∧ w.cell? ⟨b, off + k * 6 + 4, none⟩ = some (.int .i64 l[k].s) ∧
    ∃ A' c', w.cell? ⟨b, off + k * 6 + 5, none⟩ = some (.slice A' l[k].ps.length c') ∧ RP w w.heap.size A' l[k].ps.length l[k].ps ∧ l[k].ps.length ≤ c' ∧ l[k].ps.length ≤ maxLen := by
  obtain ⟨b, off, e, hb, hc⟩ := h.2 (by have := h.1; omega)
  exact ⟨b, off, e, hb, hc k hk⟩
end
end Go.Proofs.Ytboaifdkoemnbaa.De
/- The walks of term.Const, term.Copy, the document's Same (of two terms that are the same), the law's great. -/
namespace Go.Proofs.Ytboaifdkoemnbaa.Te
set_option maxRecDepth 100000
open Go Go.RowKit Go.Proofs.Ytboaifdkoemnbaa.Sp Go.Proofs.Ytboaifdkoemnbaa.Pa

def SRel (l : List PT) (B : Nat) (w2 : World) (iv : Value) (wr : World) : Prop := ∃ k : Nat, k ≤ l.length ∧ iv = .int .i64 k ∧ Below B w2 wr
attribute [local go_sem] part_guard part_eqN
set_option maxHeartbeats 4000000 in
theorem rsame_eq (b d t u s : Int) (A B : Option Addr) (n c e : Nat) (l : List PT) (w : World) (h : RP w w.heap.size A n l) (h' : RP w w.heap.size B n l) (hn : n ≤ maxLen) :
    Calls Try.prog 42 #[trm b d t u s A n c, trm b d t u s B n e] w (RetB true w) := by
  unfold maxLen at hn
  have hlen := h.1
  subst hlen
  have hb1 : Below w.heap.size w (w.alloc (.cells (tcells b d t u s A l.length c) 71)) := (Below.refl _ w).alloc (Nat.le_refl _) _
  obtain ⟨w1, hw1⟩ : ∃ w1, w.alloc (.cells (tcells b d t u s A l.length c) 71) = w1 := ⟨_, rfl⟩
  have hs1 : w1.heap.size = w.heap.size + 1 := by rw [← hw1]; simp
  have hbw : Below w1.heap.size w1 (w1.alloc (.cells (tcells b d t u s B l.length e) 71)) := (Below.refl _ w1).alloc (Nat.le_refl _) _
  obtain ⟨w0, hw0⟩ : ∃ w0, w1.alloc (.cells (tcells b d t u s B l.length e) 71) = w0 := ⟨_, rfl⟩
  have hs0 : w0.heap.size = w.heap.size + 1 + 1 := by rw [← hw0]; simp [hs1]
  have X5 := Lib.hid (fun W (hb : Below w0.heap.size w0 W) => show Boxed6 W w.heap.size b d t u s A l.length c from by
    rw [← hw1] at hbw hw0
    rw [← hw0] at hb
    exact boxed6 (((Below.refl _ _).alloc (Nat.le_refl _) _).trans (hb.mono (by simp))))
  have X6 := Lib.hid (fun W (hb : Below w0.heap.size w0 W) => show Boxed6 W w1.heap.size b d t u s B l.length e from by rw [← hw0] at hb; exact boxed6 hb)
  rw [hw0] at hbw
  rw [hw1] at hb1
  have HW := Lib.hid (hb1.trans (hbw.mono hb1.size))
  have H := Lib.hid (h.belowM HW.out)
  have H' := Lib.hid (h'.belowM HW.out)
  obtain ⟨r0, r1, r2, r3, r4, r5⟩ := X5.out w0 (Below.refl _ _)
  obtain ⟨q0, q1, q2, q3, q4, q5⟩ := X6.out w0 (Below.refl _ _)
  rw [hs1] at X6 q0 q1 q2 q3 q4 q5
  clear h h' hbw hb1
  go_enter Try.func42, Try.ntmps42
  go_wp2_with (fail)
  go_loopw [5] (fun i wr => SRel l w0.heap.size w0 i wr) (fun i _ => l.length - (intOf i).toNat)
  case atStart => exact ⟨0, Nat.zero_le _, rfl, Below.refl _ _⟩
  case round =>
    obtain ⟨k, hk, rfl, hb⟩ := hrel
    have HB := Lib.hid hb
    have hz := hb.size
    obtain ⟨y0, y1, y2, y3, y4, y5⟩ := X5.out wr hb
    obtain ⟨z0, z1, z2, z3, z4, z5⟩ := X6.out wr hb
    clear r0 r1 r2 r3 r4 r5 q0 q1 q2 q3 q4 q5
    by_cases hlt : k < l.length
    · obtain ⟨bb, off, a', d', t', u', hA', hbB, hlk, c1, c2, c3, c4⟩ := (H.out.below hb).at_ hlt
      obtain ⟨bb', off', a'', d'', t'', u'', hA'', hbB', hlk', c1', c2', c3', c4'⟩ := (H'.out.below hb).at_ hlt
      subst hA' hA''
      obtain ⟨hl, e1⟩ := hlk
      obtain ⟨_, e2⟩ := hlk'
      rw [e1] at e2
      injection e2 with f1 f2
      injection f2 with f2 f3
      injection f3 with f3 f4
      subst f1 f2 f3 f4
      clear e1 hb
      go_wp2_with (fail)
      go_quiet (fail)
      go_wp2_with (fail)
      go_roundw
      case rel => exact ⟨k + 1, by omega, by go_num, below_drewN HB.out _⟩
      case measure => simp [intOf]; omega
    · have hkl : k = l.length := by omega
      subst hkl
      clear hb
      go_wp2_with (fail)
      go_ret
      exact ⟨rfl, HW.out.trans (HB.out.mono HW.out.size)⟩
end Go.Proofs.Ytboaifdkoemnbaa.Te
