/- The walk of term.Equal. -/
import Derived.Test.YtmcgapejebceoaaTePre
import Derived.Deep.DeepCutAuto
import Derived.Tactics2
namespace Go.Proofs.Ytmcgapejebceoaa.Te
set_option maxRecDepth 100000
open Go Go.RowKit Go.Proofs.Ytmcgapejebceoaa.Sp Go.Proofs.Ytmcgapejebceoaa.Pa

def ZB (W : World) (g : Nat) : Prop := W.cell? ⟨g, 0, none⟩ = some (.int .i64 0) ∧ W.cell? ⟨g, 1, none⟩ = some (.bool false) ∧ W.cell? ⟨g, 2, none⟩ = some (.int .i64 0) ∧ W.cell? ⟨g, 3, none⟩ = some (.int .i64 0) ∧ W.frozen? ⟨g, 0, none⟩ = false ∧ W.frozen? ⟨g, 1, none⟩ = false ∧ W.frozen? ⟨g, 2, none⟩ = false ∧ W.frozen? ⟨g, 3, none⟩ = false
theorem ZB.of {W : World} {g : Nat} (h : BoxS W g 0 false 0 0) : ZB W g := ⟨h.1.1, h.1.2.1, h.1.2.2.1, h.1.2.2.2, h.2 0 (by omega), h.2 1 (by omega), h.2 2 (by omega), h.2 3 (by omega)⟩
theorem ZB.carry {W W' : World} {g : Nat} (h : ZB W g) (hg : g < W.heap.size) (hb : Below W.heap.size W W') : ZB W' g := by
  obtain ⟨c0, c1, c2, c3, f0, f1, f2, f3⟩ := h
  exact ⟨(hb.cell hg).trans c0, (hb.cell hg).trans c1, (hb.cell hg).trans c2, (hb.cell hg).trans c3, (hb.frozen (p := ⟨g, 0, none⟩) hg).trans f0, (hb.frozen (p := ⟨g, 1, none⟩) hg).trans f1, (hb.frozen (p := ⟨g, 2, none⟩) hg).trans f2, (hb.frozen (p := ⟨g, 3, none⟩) hg).trans f3⟩
theorem zb_new (W : World) : ZB (W.alloc (.cells (scells 0 false 0 0) 73)) W.heap.size := ZB.of (BoxS.new W 0 false 0 0 _)
theorem zb_d1 {W W' : World} (hb : Below (W.alloc (.cells (scells 0 false 0 0) 73)).drew.heap.size (W.alloc (.cells (scells 0 false 0 0) 73)).drew W') : ZB W' W.heap.size ∧ W.heap.size + 1 ≤ W'.heap.size := by
  have hs := hb.size
  simp at hs
  have hd : ZB (W.alloc (.cells (scells 0 false 0 0) 73)).drew W.heap.size := by unfold ZB; simp
  exact ⟨hd.carry (by simp) hb, hs⟩
theorem zb_d2 {W W' : World} (hb : Below ((W.alloc (.cells (scells 0 false 0 0) 73)).alloc (.cells (scells 0 false 0 0) 73)).drew.heap.size ((W.alloc (.cells (scells 0 false 0 0) 73)).alloc (.cells (scells 0 false 0 0) 73)).drew W') : (ZB W' W.heap.size ∧ ZB W' (W.heap.size + 1)) ∧ W.heap.size + 1 + 1 ≤ W'.heap.size := by
  have hs := hb.size
  simp at hs
  have d1 : ZB ((W.alloc (.cells (scells 0 false 0 0) 73)).alloc (.cells (scells 0 false 0 0) 73)).drew W.heap.size := by unfold ZB; simp
  have d2 : ZB ((W.alloc (.cells (scells 0 false 0 0) 73)).alloc (.cells (scells 0 false 0 0) 73)).drew (W.heap.size + 1) := by unfold ZB; simp
  exact ⟨⟨d1.carry (by simp only [World.size_drew, World.size_alloc]; omega) hb, d2.carry (by simp) hb⟩, hs⟩
theorem zb_1 {W W' : World} (hb : Below (W.alloc (.cells (scells 0 false 0 0) 73)).heap.size (W.alloc (.cells (scells 0 false 0 0) 73)) W') : ZB W' W.heap.size ∧ W.heap.size + 1 ≤ W'.heap.size := ⟨(zb_new W).carry (by simp) hb, by have := hb.size; simpa using this⟩
theorem zb_2 {W W' : World} (hb : Below ((W.alloc (.cells (scells 0 false 0 0) 73)).alloc (.cells (scells 0 false 0 0) 73)).heap.size ((W.alloc (.cells (scells 0 false 0 0) 73)).alloc (.cells (scells 0 false 0 0) 73)) W') : (ZB W' W.heap.size ∧ ZB W' (W.heap.size + 1)) ∧ W.heap.size + 1 + 1 ≤ W'.heap.size := by
  have hs := hb.size
  simp at hs
  have h1 := (zb_new W).carry (W' := (W.alloc (.cells (scells 0 false 0 0) 73)).alloc (.cells (scells 0 false 0 0) 73)) (by simp) ((Below.refl _ _).alloc (Nat.le_refl _) _)
  have h2 := zb_new (W.alloc (.cells (scells 0 false 0 0) 73))
  rw [World.size_alloc] at h2
  exact ⟨⟨h1.carry (by simp only [World.size_alloc]; omega) hb, h2.carry (by simp) hb⟩, hs⟩
theorem below_st {wr W : World} {B g : Nat} {x0 x1 x2 x3 : Value} (h : Below B wr W) (hg : B ≤ g) : Below B wr ((((W.setCell ⟨g, 0, none⟩ x0).setCell ⟨g, 1, none⟩ x1).setCell ⟨g, 2, none⟩ x2).setCell ⟨g, 3, none⟩ x3) := (((h.setCell hg _).setCell hg _).setCell hg _).setCell hg _
theorem step_alloc71 {ops : Array Oper} {o : Oper} {a : Act} {K : Act → World → Prop} {Q : Exit → Act → World → Prop} {E : Prop} {w : World} (hgd : o.guard = none) (ho : o.op = .alloc 73)
    (h : ∀ w', ZB w' w.heap.size → Below w.heap.size w w' → w.heap.size < w'.heap.size → K (a.put o.dst (.pointer (some ⟨w.heap.size, 0, none⟩))) w') : if Region.wanted o (yielded ops a.tmps) = true then Oper.wp Try.prog o a w K Q else E := by
  have hw : Region.wanted o (yielded ops a.tmps) = true := by simp [Region.wanted, hgd]
  rw [if_pos hw]
  have hz := h (w.alloc (.cells (scells 0 false 0 0) 73)) (zb_new w) ((Below.refl _ _).alloc (Nat.le_refl _) _) (by simp)
  unfold Oper.wp execOp
  simp only [ho]
  go_simp
  exact hz
def Stored (w w' : World) (g : Nat) (f : St) : Prop := BoxS w' g f.last f.has f.value f.grow ∧ FarB w w' g ∧ ∀ B, B ≤ g → Below B w w'
theorem step_store71 {ops : Array Oper} {o : Oper} {a : Act} {K : Act → World → Prop} {Q : Exit → Act → World → Prop} {E : Prop} {w : World} (hgd : o.guard = none) (p v : Operand) (ho : o.op = .store 73 p v) (g : Nat) (f : St) (hp : a.eval p = .pointer (some ⟨g, 0, none⟩)) (hv : a.eval v = .agg (scells f.last f.has f.value f.grow)) (hz : ZB w g)
    (h : ∀ w', Stored w w' g f → K (a.put o.dst undef) w') : if Region.wanted o (yielded ops a.tmps) = true then Oper.wp Try.prog o a w K Q else E := by
  have hw : Region.wanted o (yielded ops a.tmps) = true := by simp [Region.wanted, hgd]
  rw [if_pos hw]
  obtain ⟨c0, c1, c2, c3, f0, f1, f2, f3⟩ := hz
  have hb : BoxS w g 0 false 0 0 := ⟨⟨c0, c1, c2, c3⟩, fun i hi => by rcases (show i = 0 ∨ i = 1 ∨ i = 2 ∨ i = 3 from by omega) with rfl | rfl | rfl | rfl <;> assumption⟩
  obtain ⟨w5, h5, hF, hL, hN⟩ := hb.store f.last f.has f.value f.grow
  have hz := h w5 ⟨hF, hN, hL⟩
  unfold Oper.wp execOp
  simp only [ho, hp, hv]
  go_simp
  exact hz
def BoxC (W : World) (g : Nat) (f : St) : Prop := W.cell? ⟨g, 0, none⟩ = some (.int .i64 f.last) ∧ W.cell? ⟨g, 1, none⟩ = some (.bool f.has) ∧ W.cell? ⟨g, 2, none⟩ = some (.int .i64 f.value) ∧ W.cell? ⟨g, 3, none⟩ = some (.int .i64 f.grow)
theorem ZB.far {W W' : World} {g g' : Nat} (h : ZB W g) (hw : FarB W W' g') (hne : g ≠ g') : ZB W' g := by
  obtain ⟨c0, c1, c2, c3, f0, f1, f2, f3⟩ := h
  have k := fun i => hw.1 ⟨g, i, none⟩ hne
  exact ⟨(k 0).1.trans c0, (k 1).1.trans c1, (k 2).1.trans c2, (k 3).1.trans c3, (k 0).2.trans f0, (k 1).2.trans f1, (k 2).2.trans f2, (k 3).2.trans f3⟩
theorem BoxC.of {W : World} {g : Nat} {f : St} (h : BoxS W g f.last f.has f.value f.grow) : BoxC W g f := h.1
/-- Both values are told, and are one. -/
def QE (a b : TM) (y : Int) : Prop := ∃ v, valueT a.b a.d a.t a.u a.s a.l [y] = (v, true) ∧ valueT b.b b.d b.t b.u b.s b.l [y] = (v, true)
end Go.Proofs.Ytmcgapejebceoaa.Te
