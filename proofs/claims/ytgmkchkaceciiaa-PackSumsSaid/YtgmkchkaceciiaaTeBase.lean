/- Words for terms: a slice value that reads as a list of parts (four cells each); a term, as a value; its box; parts held against each other. -/
import Derived.Test.YtgmkchkaceciiaaPaVal
namespace Go.Proofs.Ytgmkchkaceciiaa.Te
set_option maxRecDepth 100000
open Go Go.RowKit Go.Proofs.Ytgmkchkaceciiaa.Sp Go.Proofs.Ytgmkchkaceciiaa.Pa

/-- A part: At, Drop, Take, Up. -/
abbrev PT := Int × Int × Int × Int
/-- The slice value with address A and length n reads as the parts l, and lies below block B. -/
def RP (w : World) (B : Nat) (A : Option Addr) (n : Nat) (l : List PT) : Prop :=
  l.length = n ∧ (0 < n → ∃ b off, A = some ⟨b, off, none⟩ ∧ b < B ∧ ∀ (j : Nat) (h : j < l.length), w.cell? ⟨b, off + j * 4, none⟩ = some (.int .i64 l[j].1) ∧ w.cell? ⟨b, off + j * 4 + 1, none⟩ = some (.int .i64 l[j].2.1) ∧ w.cell? ⟨b, off + j * 4 + 2, none⟩ = some (.int .i64 l[j].2.2.1) ∧ w.cell? ⟨b, off + j * 4 + 3, none⟩ = some (.int .i64 l[j].2.2.2))
section
variable {w w' : World} {B B' n : Nat} {A : Option Addr} {l : List PT}
theorem RP.nil_ (w : World) (B : Nat) (A : Option Addr) : RP w B A 0 [] := ⟨rfl, fun h => absurd h (by omega)⟩
theorem RP.at_ {k : Nat} (h : RP w B A n l) (hk : k < n) : ∃ b off, ∃ a d t u : Int, A = some ⟨b, off, none⟩ ∧ b < B ∧ (∃ hl : k < l.length, l[k] = (a, d, t, u)) ∧ w.cell? ⟨b, off + k * 4, none⟩ = some (.int .i64 a) ∧ w.cell? ⟨b, off + k * 4 + 1, none⟩ = some (.int .i64 d) ∧ w.cell? ⟨b, off + k * 4 + 2, none⟩ = some (.int .i64 t) ∧ w.cell? ⟨b, off + k * 4 + 3, none⟩ = some (.int .i64 u) := by
  obtain ⟨b, off, e, hb, hc⟩ := h.2 (by omega)
  have hl : k < l.length := by have := h.1; omega
  exact ⟨b, off, l[k].1, l[k].2.1, l[k].2.2.1, l[k].2.2.2, e, hb, ⟨hl, rfl⟩, hc k hl⟩
theorem RP.keep (h : RP w B A n l) (hk : ∀ p : Addr, p.block < B → w'.cell? p = w.cell? p) : RP w' B A n l :=
  ⟨h.1, fun hn => by
    obtain ⟨b, off, e, hb, hc⟩ := h.2 hn
    exact ⟨b, off, e, hb, fun j hj => ⟨(hk _ hb).trans (hc j hj).1, (hk _ hb).trans (hc j hj).2.1, (hk _ hb).trans (hc j hj).2.2.1, (hk _ hb).trans (hc j hj).2.2.2⟩⟩⟩
theorem RP.more (h : RP w B A n l) (hB : B ≤ B') : RP w B' A n l :=
  ⟨h.1, fun hn => by
    obtain ⟨b, off, e, hb, hc⟩ := h.2 hn
    exact ⟨b, off, e, by omega, hc⟩⟩
theorem RP.below (h : RP w B A n l) (hb : Below B w w') : RP w' B A n l := h.keep fun _ hp => hb.cell hp
theorem RP.belowM (h : RP w w.heap.size A n l) (hb : Below w.heap.size w w') : RP w' w'.heap.size A n l := (h.below hb).more hb.size
end

/-- A term, as a value. -/
abbrev trm (b d t u s : Int) (A : Option Addr) (n c : Nat) : Value := .agg #[.int .i64 b, .int .i64 d, .int .i64 t, .int .i64 u, .int .i64 s, .slice A n c]
abbrev tcells (b d t u s : Int) (A : Option Addr) (n c : Nat) : Array Value := #[.int .i64 b, .int .i64 d, .int .i64 t, .int .i64 u, .int .i64 s, .slice A n c]
/-- The cells of a boxed term, in a world. -/
def Boxed6 (W : World) (g : Nat) (b d t u s : Int) (A : Option Addr) (n c : Nat) : Prop :=
  W.cell? ⟨g, 0, none⟩ = some (.int .i64 b) ∧ W.cell? ⟨g, 1, none⟩ = some (.int .i64 d) ∧ W.cell? ⟨g, 2, none⟩ = some (.int .i64 t) ∧ W.cell? ⟨g, 3, none⟩ = some (.int .i64 u) ∧ W.cell? ⟨g, 4, none⟩ = some (.int .i64 s) ∧ W.cell? ⟨g, 5, none⟩ = some (.slice A n c)
theorem boxed6 {w w1 : World} {b d t u s : Int} {A : Option Addr} {n c : Nat} {ty : TypeId} (hb : Below (w.alloc (.cells (tcells b d t u s A n c) ty)).heap.size (w.alloc (.cells (tcells b d t u s A n c) ty)) w1) : Boxed6 w1 w.heap.size b d t u s A n c := by
  have key : ∀ i, w1.cell? ⟨w.heap.size, i, none⟩ = (w.alloc (.cells (tcells b d t u s A n c) ty)).cell? ⟨w.heap.size, i, none⟩ := fun i => hb.cell (p := ⟨w.heap.size, i, none⟩) (by simp)
  unfold Boxed6
  rw [key, key, key, key, key, key]
  refine ⟨?_, ?_, ?_, ?_, ?_, ?_⟩ <;> simp [tcells]

theorem part_guardType : Try.prog.eqGuardType Try.prog.depth 120 = false := by kernel_rfl
theorem part_guard (w : World) (op : BinOp) (x y : Operand) (xs ys : Array Value) : (eqGuard op 120 x y (.agg xs) (.agg ys)).run Try.prog w = .ok () w := run_eqGuard_agg w op _ x y xs ys part_guardType
theorem part_eq (w : World) (a b c e a' b' c' e' : Int) : (Op.equalIn 10000 120 (prt a b c e) (prt a' b' c' e')).run Try.prog w = .ok (a == a' && (b == b' && (c == c' && e == e'))) w := by
  have u3 := Try.underlying3
  have a3 := Try.isAgg3
  have z3 := Try.sizeOf3
  have hS : Try.prog.underlying 120 = some (.struct (Try.prog.fieldsOf 120)) := by kernel_rfl
  have hp : Try.prog.stoodInHeld 120 = false := by kernel_rfl
  rw [show (10000 : Nat) = 9999 + 1 from rfl, run_equalIn_agg w 9999 120 _ _ hS hp]
  simp only [Program.fieldsOf, Try.underlying120]
  go_simp
  by_cases h1 : a = a' <;> by_cases h2 : b = b' <;> by_cases h3 : c = c' <;> by_cases h4 : e = e' <;> simp [h1, h2, h3, h4]

/-- Two parts held against each other, behind a name: so a walk doesn't part its cases. -/
def pEq (a b c e a' b' c' e' : Int) : Bool := a == a' && (b == b' && (c == c' && e == e'))
theorem part_eqN (w : World) (a b c e a' b' c' e' : Int) : (Op.equalIn 10000 120 (prt a b c e) (prt a' b' c' e')).run Try.prog w = .ok (pEq a b c e a' b' c' e') w := part_eq w a b c e a' b' c' e'
def Sm (x : Int) : Prop := -1114111 ≤ x ∧ x ≤ 1114111
instance (x : Int) : Decidable (Sm x) := by unfold Sm; infer_instance
def Rising : List PT → Prop
  | [] => True
  | [_] => True
  | p :: q :: l => p.2.2.2 < q.2.2.2 ∧ Rising (q :: l)
def takesAll (p : PT) : Bool := p.2.1 == 0 && (p.2.2.1 == 21 && p.2.2.2 == 0)
def plainT (b d t u : Int) : Bool := b == 0 && (d == 0 && (t == 21 && u == 0))
end Go.Proofs.Ytgmkchkaceciiaa.Te
