/- The frame of the part statements: an argument that is a part, opened; two parts held against each other. -/
import Derived.Test.YtldpoaknddhjfaaRows
import Derived.Test.YtldpoaknddhjfaaSpFrame
import Derived.Test.YtldpoaknddhjfaaPaAwake
import Derived.Lib.SmallJoins
namespace Go.Proofs.Ytldpoaknddhjfaa.Pa
set_option maxRecDepth 100000
open Go Go.RowKit Go.Joins Go.ChangeShapes Go.WideShapes Go.ChangeAt Go.Deep Go.Proofs.Ytldpoaknddhjfaa.Sp

theorem readablePart : Try.prog.readableRec 23 = true := by kernel_rfl
theorem rowPart : 23 < Try.prog.types.size := of_decide_eq_true (by kernel_rfl)
theorem onePart : ∃ f0 f1 f2 f3 : Field, Try.prog.underlying 23 = some (.struct #[f0, f1, f2, f3]) ∧ oneCellFields Try.prog #[f0, f1, f2, f3] = true ∧ f0.type = 3 ∧ f1.type = 3 ∧ f2.type = 3 ∧ f3.type = 3 := ⟨_, _, _, _, Try.underlying23, by kernel_rfl, rfl, rfl, rfl, rfl⟩
theorem cellsPart : Try.prog.cellsOf 23 = 4 := by kernel_rfl
theorem open_part {H : Type} {enc : TypeId × Value → H} {W : World} {r : Reach} {b0 : Nat} {v : Value} {d : DataW H} {p : List MemPlace} (hv : Value.okWide Try.prog W r b0 23 v) (h : DataW.Trod enc Try.prog W 0 (fun _ => true) true 23 v d p) :
    ∃ a b c e : Int, v = prt a b c e := by
  obtain ⟨f0, f1, f2, f3, hs, ho, e0, e1, e2, e3⟩ := onePart
  obtain ⟨v0, v1, v2, v3, y0, y1, y2, y3, n, rfl, _, _, t0, t1, t2, t3⟩ := open_agg4 hs ho cellsPart hv h
  rw [e0] at t0; rw [e1] at t1; rw [e2] at t2; rw [e3] at t3
  obtain ⟨q0, k0, _, _⟩ := DataW.trod_int Try.underlying3 t0
  obtain ⟨q1, k1, _, _⟩ := DataW.trod_int Try.underlying3 t1
  obtain ⟨q2, k2, _, _⟩ := DataW.trod_int Try.underlying3 t2
  obtain ⟨q3, k3, _, _⟩ := DataW.trod_int Try.underlying3 t3
  simp only [List.cons.injEq, and_true] at k0 k1 k2 k3
  subst k0 k1 k2 k3
  exact ⟨q0, q1, q2, q3, rfl⟩
theorem part_guardType : Try.prog.eqGuardType Try.prog.depth 23 = false := by kernel_rfl
theorem part_guard (w : World) (op : BinOp) (x y : Operand) (xs ys : Array Value) : (eqGuard op 23 x y (.agg xs) (.agg ys)).run Try.prog w = .ok () w := run_eqGuard_agg w op _ x y xs ys part_guardType
theorem part_eq (w : World) (a b c e a' b' c' e' : Int) : (Op.equalIn 10000 23 (prt a b c e) (prt a' b' c' e')).run Try.prog w = .ok (a == a' && (b == b' && (c == c' && e == e'))) w := by
  have u3 := Try.underlying3
  have a3 := Try.isAgg3
  have z3 := Try.sizeOf3
  have hS : Try.prog.underlying 23 = some (.struct (Try.prog.fieldsOf 23)) := by kernel_rfl
  have hp : Try.prog.stoodInHeld 23 = false := by kernel_rfl
  rw [show (10000 : Nat) = 9999 + 1 from rfl, run_equalIn_agg w 9999 23 _ _ hS hp]
  simp only [Program.fieldsOf, Try.underlying23]
  go_simp
  by_cases h1 : a = a' <;> by_cases h2 : b = b' <;> by_cases h3 : c = c' <;> by_cases h4 : e = e' <;> simp [h1, h2, h3, h4]
end Go.Proofs.Ytldpoaknddhjfaa.Pa
