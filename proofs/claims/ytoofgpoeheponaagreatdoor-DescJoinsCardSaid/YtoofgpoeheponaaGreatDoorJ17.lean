import Derived.Test.YtoofgpoeheponaaGreatDoorJ15
import Derived.Test.YtoofgpoeheponaaGreatDoorJ16
import Derived.Deep.DeepCutAuto
namespace Go.Proofs.YtoofgpoeheponaaGreatDoor.De
set_option maxRecDepth 100000
open Go Go.RowKit Sp Pa Te Mi Fi
theorem infoRule : (Tryz.prog.info? 50).map (fun i => (i.zero, i.size, i.bytes)) = some (some (.agg #[.int .i64 0, .int .i64 0, .slice none 0 0, .int .i64 0, .slice none 0 0]), 5, 72) := by kernel_rfl
theorem infoFinal : (Tryz.prog.info? 45).map (fun i => (i.zero, i.size, i.bytes)) = some (some (.agg #[.int .i64 0, .slice none 0 0, .slice none 0 0]), 3, 56) := by kernel_rfl
theorem nextB {B : Nat} {w W W' : World} (h1 : Below B w W) (h2 : Below W.heap.size W W') (hB : B ≤ W.heap.size) : Below B w W' := h1.trans (h2.mono hB)
theorem Blk_keep {w w' : World} {g : Nat} {t : TypeId} {cs : Array Value} (h : Blk w g t cs) (hk : w'.heap[g]? = w.heap[g]?) : Blk w' g t cs := hk.trans h
theorem new_cells (W : World) (cs : Array Value) (t : TypeId) : ∃ w', W.alloc (.cells cs t) = w' ∧ Blk w' W.heap.size t cs ∧ W.heap.size < w'.heap.size ∧ Below W.heap.size W w' := ⟨_, rfl, heap_alloc_new W _, by simp, (Below.refl _ _).alloc (Nat.le_refl _) _⟩
section
variable {w w' : World} {p q : Nat → Prop}
structure NewGT (B : Nat) (gs : List (List Span)) (out : List TmL) (G : Option Addr) (gc : Nat) (T : Option Addr) (tc : Nat) (w : World) : Prop where
 g : RGp (fun b => B ≤ b) w G gs
 gl : gs.length ≤ gc
 t : RTp (fun b => B ≤ b) w T out
 tl : out.length ≤ tc
theorem NewGT.keep {B : Nat} {gs : List (List Span)} {out : List TmL} {G T : Option Addr} {gc tc : Nat} (h : NewGT B gs out G gc T tc w) (hs : w.heap.size ≤ w'.heap.size) (hk : ∀ b, B ≤ b → b < w.heap.size → w'.heap[b]? = w.heap[b]?) : NewGT B gs out G gc T tc w' :=
 ⟨h.g.keep ⟨hs, hk⟩ fun _ hb _ => hb, h.gl, h.t.keep ⟨hs, hk⟩ fun _ hb _ => hb, h.tl⟩
theorem rgp_keep {B C : Nat} {gs : List (List Span)} {G : Option Addr} (h : RGp (fun b => C ≤ b) w G gs) (hb : Below w.heap.size w w') (hBC : B ≤ C) : RGp (fun b => B ≤ b) w' G gs := h.keep ⟨hb.size, fun b _ hlt => hb.block b hlt⟩ fun _ hb _ => Nat.le_trans hBC hb
theorem rtp_keep {B C : Nat} {out : List TmL} {T : Option Addr} (h : RTp (fun b => C ≤ b) w T out) (hb : Below w.heap.size w w') (hBC : B ≤ C) : RTp (fun b => B ≤ b) w' T out := h.keep ⟨hb.size, fun b _ hlt => hb.block b hlt⟩ fun _ hb _ => Nat.le_trans hBC hb
end
theorem below_nextD {w W W' : World} (h1 : Below w.heap.size w W) (h2 : Below W.heap.size W W') : Below w.heap.size w W' := h1.trans (h2.mono h1.size)
def LrRel (bs x : Nat) (i o n s k0 : Int) (L rs : List RuL) (F : List FiL) (v vf : Value) (w : World) (iv : Value) (wr : World) : Prop :=
 ∃ (k : Nat) (v' : Value), k ≤ rs.length ∧ iv = .int .i64 k ∧ LayS bs x i o n s (L ++ (rs.take k).map (shR k0)) F v' vf wr ∧ KeepD x v vf w wr ∧ (∀ g, v'.ownBlock = some g → v.ownBlock = some g ∨ w.heap.size ≤ g) ∧ Below x w wr
def LfRel (bs x : Nat) (i o n s k0 : Int) (L : List RuL) (F fs : List FiL) (v vf v1 : Value) (w : World) (iv : Value) (wr : World) : Prop :=
 ∃ (k : Nat) (vf' : Value), k ≤ fs.length ∧ iv = .int .i64 k ∧ LayS bs x i o n s L (F ++ (fs.take k).map (shF k0)) v1 vf' wr ∧ KeepD x v vf w wr ∧ (∀ g, vf'.ownBlock = some g → vf.ownBlock = some g ∨ w.heap.size ≤ g) ∧ Below x w wr
section
variable {bs x k B gg capg : Nat} {i o n s k0 : Int} {L rs : List RuL} {F fs : List FiL} {v vf v' v1 vf' : Value} {w wr ws w9 : World} {r : RuL} {f : FiL} {AG AT : Option Addr} {cG cT : Nat} {vs : List Value}
theorem rule_next (hk : k < rs.length) (hrk : rs[k] = r) (hlay : LayS bs x i o n s (L ++ (rs.take k).map (shR k0)) F v' vf wr) (hkd : KeepD x v vf w wr) (hvv : ∀ g, v'.ownBlock = some g → v.ownBlock = some g ∨ w.heap.size ≤ g) (hbl : Below x w wr)
  (hbs : bs ≤ w.heap.size) (hbx : Below wr.heap.size wr ws) (hB : wr.heap.size ≤ B) (hgt : NewGT B r.gs r.out AG cG AT cT ws) (hvs : ws.ownsRow bs 50 5 v' (L ++ (rs.take k).map (shR k0)).length vs) (hg9 : ws.grownBy w9 v'.ownBlock)
  (hown9 : w9.ownsRow bs 50 5 (.slice (some ⟨gg, 0, none⟩) ((L ++ (rs.take k).map (shR k0)).length + 1) capg) ((L ++ (rs.take k).map (shR k0)).length + 1) (vs ++ [.int .i64 (r.frm + k0), .int .i64 (r.to_ + k0), .slice AG r.gs.length cG, .int .i64 r.eat, .slice AT r.out.length cT]))
  (hat : v'.ownBlock = some gg ∨ gg = ws.heap.size) :
  LrRel bs x i o n s k0 L rs F v vf w (.int .i64 ((k + 1 : Nat) : Int)) (w9.setCell ⟨x, 4, none⟩ (.slice (some ⟨gg, 0, none⟩) ((L ++ (rs.take k).map (shR k0)).length + 1) capg)) := by
 have hls := hlay.keep hbx
 have hown : ∀ g, v'.ownBlock = some g → g < wr.heap.size := fun g e => by
  obtain ⟨vs0, h0, _⟩ := hlay.rules
  exact (World.ownsRow.lt h0 g e).2
 have hownf : ∀ g, vf.ownBlock = some g → g < wr.heap.size := fun g e => by
  obtain ⟨vs0, h0, _⟩ := hlay.finals
  exact (World.ownsRow.lt h0 g e).2
 have hsz := hbx.size
 have hwr := hkd.1
 have hp : ∀ b, B ≤ b → b < ws.heap.size → (bs ≤ b ∧ vf.ownBlock ≠ some b) ∧ v'.ownBlock ≠ some b := fun b hb _ => ⟨⟨by omega, fun e => by have := hownf b e; omega⟩, fun e => by have := hown b e; omega⟩
 have hl := hls.rule (r := shR k0 r) (gc := cG) (tc := cT) (G := AG) (T := AT) (H := ws.heap.size) hvs (hgt.g.keep ⟨Nat.le_refl _, fun _ _ _ => rfl⟩ hp) hgt.gl (hgt.t.keep ⟨Nat.le_refl _, fun _ _ _ => rfl⟩ hp) hgt.tl hg9 hown9 (by
  rcases hat with e | e
  ·exact .inl (by rw [e]; rfl)
  ·exact .inr (by rw [e]; rfl)) (Nat.le_refl _)
 refine ⟨k + 1, .slice (some ⟨gg, 0, none⟩) ((L ++ (rs.take k).map (shR k0)).length + 1) capg, hk, rfl, ?_, ⟨?_, fun b hb hx h1 h2 => ?_⟩, fun g e => ?_, ?_⟩
 ·rw [List.take_succ_eq_append_getElem hk, List.map_append, ← List.append_assoc, hrk]
  exact hl
 ·have := hg9.size
  simp
  omega
 ·rw [heap_setCell_other w9 ⟨x, 4, none⟩ b _ hx, hg9.block b (by omega) (fun e => by rcases hvv b e.symm with q | q; exact h1 q; omega), hbx.block b (by omega)]
  exact hkd.2 b hb hx h1 h2
 ·have e : gg = g := by simpa [Value.ownBlock] using e
  subst e
  rcases hat with q | q
  ·exact hvv _ q
  ·exact .inr (by omega)
 ·have hlow := hlay.low
  have hlt := hlay.box.lt
  exact ((hbl.trans (hbx.mono (Nat.le_of_lt hlt))).grown hg9 (by omega) (fun q e => by have := (World.ownsRow.lt hvs q e).1; omega)).setCell (p := ⟨x, 4, none⟩) (Nat.le_refl _) _
theorem final_next (hk : k < fs.length) (hrk : fs[k] = f) (hlay : LayS bs x i o n s L (F ++ (fs.take k).map (shF k0)) v1 vf' wr) (hkd : KeepD x v vf w wr) (hvv : ∀ g, vf'.ownBlock = some g → vf.ownBlock = some g ∨ w.heap.size ≤ g) (hbl : Below x w wr)
  (hbs : bs ≤ w.heap.size) (hbx : Below wr.heap.size wr ws) (hB : wr.heap.size ≤ B) (hgt : NewGT B f.gs f.out AG cG AT cT ws) (hvs : ws.ownsRow bs 45 3 vf' (F ++ (fs.take k).map (shF k0)).length vs) (hg9 : ws.grownBy w9 vf'.ownBlock)
  (hown9 : w9.ownsRow bs 45 3 (.slice (some ⟨gg, 0, none⟩) ((F ++ (fs.take k).map (shF k0)).length + 1) capg) ((F ++ (fs.take k).map (shF k0)).length + 1) (vs ++ [.int .i64 (f.frm + k0), .slice AG f.gs.length cG, .slice AT f.out.length cT]))
  (hat : vf'.ownBlock = some gg ∨ gg = ws.heap.size) :
  LfRel bs x i o n s k0 L F fs v vf v1 w (.int .i64 ((k + 1 : Nat) : Int)) (w9.setCell ⟨x, 5, none⟩ (.slice (some ⟨gg, 0, none⟩) ((F ++ (fs.take k).map (shF k0)).length + 1) capg)) := by
 have hls := hlay.keep hbx
 have hown : ∀ g, v1.ownBlock = some g → g < wr.heap.size := fun g e => by
  obtain ⟨vs0, h0, _⟩ := hlay.rules
  exact (World.ownsRow.lt h0 g e).2
 have hownf : ∀ g, vf'.ownBlock = some g → g < wr.heap.size := fun g e => by
  obtain ⟨vs0, h0, _⟩ := hlay.finals
  exact (World.ownsRow.lt h0 g e).2
 have hsz := hbx.size
 have hwr := hkd.1
 have hp : ∀ b, B ≤ b → b < ws.heap.size → (bs ≤ b ∧ v1.ownBlock ≠ some b) ∧ vf'.ownBlock ≠ some b := fun b hb _ => ⟨⟨by omega, fun e => by have := hown b e; omega⟩, fun e => by have := hownf b e; omega⟩
 have hl := hls.final (r := shF k0 f) (gc := cG) (tc := cT) (G := AG) (T := AT) (H := ws.heap.size) hvs (hgt.g.keep ⟨Nat.le_refl _, fun _ _ _ => rfl⟩ hp) hgt.gl (hgt.t.keep ⟨Nat.le_refl _, fun _ _ _ => rfl⟩ hp) hgt.tl hg9 hown9 (by
  rcases hat with e | e
  ·exact .inl (by rw [e]; rfl)
  ·exact .inr (by rw [e]; rfl)) (Nat.le_refl _)
 refine ⟨k + 1, .slice (some ⟨gg, 0, none⟩) ((F ++ (fs.take k).map (shF k0)).length + 1) capg, hk, rfl, ?_, ⟨?_, fun b hb hx h1 h2 => ?_⟩, fun g e => ?_, ?_⟩
 ·rw [List.take_succ_eq_append_getElem hk, List.map_append, ← List.append_assoc, hrk]
  exact hl
 ·have := hg9.size
  simp
  omega
 ·rw [heap_setCell_other w9 ⟨x, 5, none⟩ b _ hx, hg9.block b (by omega) (fun e => by rcases hvv b e.symm with q | q; exact h2 q; omega), hbx.block b (by omega)]
  exact hkd.2 b hb hx h1 h2
 ·have e : gg = g := by simpa [Value.ownBlock] using e
  subst e
  rcases hat with q | q
  ·exact hvv _ q
  ·exact .inr (by omega)
 ·have hlow := hlay.low
  have hlt := hlay.box.lt
  exact ((hbl.trans (hbx.mono (Nat.le_of_lt hlt))).grown hg9 (by omega) (fun q e => by have := (World.ownsRow.lt hvs q e).1; omega)).setCell (p := ⟨x, 5, none⟩) (Nat.le_refl _) _
end
end Go.Proofs.YtoofgpoeheponaaGreatDoor.De
