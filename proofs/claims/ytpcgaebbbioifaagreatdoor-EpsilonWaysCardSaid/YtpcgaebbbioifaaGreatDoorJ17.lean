import Derived.Test.YtpcgaebbbioifaaGreatDoorJ15
import Derived.Test.YtpcgaebbbioifaaGreatDoorJ16
import Derived.Deep.DeepCutAuto
set_option maxRecDepth 100000
namespace Go.Proofs.YtpcgaebbbioifaaGreatDoor.De
open Go Go.RowKit Sp Pa Te Mi Fi
theorem infoRule : (Tryz.prog.info? 43).map (fun i=>(i.zero,i.size,i.bytes)) = some (some (.agg #[.int .i64 0,.int .i64 0,.slice none 0 0,.int .i64 0,.slice none 0 0]),5,72):=by kernel_rfl
theorem infoFinal : (Tryz.prog.info? 45).map (fun i=>(i.zero,i.size,i.bytes)) = some (some (.agg #[.int .i64 0,.slice none 0 0,.slice none 0 0]),3,56):=by kernel_rfl
theorem nextB {B : Nat} {w W W' : World} (h1 : Below B w W) (h2 : Below W.heap.size W W') (hB : B≤W.heap.size) : Below B w W':=h1.trans (h2.mono hB)
theorem Blk_keep {w w' : World} {g : Nat} {t : TypeId} {cs : Array Value} (h : Blk w g t cs) (hk : w'.heap[g]? = w.heap[g]?) : Blk w' g t cs:=hk.trans h
theorem new_cells (W : World) (cs : Array Value) (t : TypeId) : ∃ w',W.alloc (.cells cs t) = w'∧Blk w' W.heap.size t cs∧W.heap.size < w'.heap.size∧Below W.heap.size W w':=⟨_,rfl,heap_alloc_new W _,by simp,(Below.refl _ _).alloc (Nat.le_refl _) _⟩
section
variable {w w' : World} {p q : Nat→Prop}
structure NewGT (B : Nat) (gs : List (List Span)) (out : List TmL) (G : Option Addr) (gc : Nat) (T : Option Addr) (tc : Nat) (w : World) : Prop where
 g : RGp (fun b=>B≤b) w G gs
 gl : gs.length≤gc
 t : RTp (fun b=>B≤b) w T out
 tl : out.length≤tc
theorem NewGT.keep {B : Nat} {gs : List (List Span)} {out : List TmL} {G T : Option Addr} {gc tc : Nat} (h : NewGT B gs out G gc T tc w) (hs : w.heap.size≤w'.heap.size) (hk : ∀ b,B≤b→b < w.heap.size→w'.heap[b]? = w.heap[b]?) : NewGT B gs out G gc T tc w':=
 ⟨h.g.keep ⟨hs,hk⟩ fun _ hb _=>hb,h.gl,h.t.keep ⟨hs,hk⟩ fun _ hb _=>hb,h.tl⟩
theorem rgp_keep {B C : Nat} {gs : List (List Span)} {G : Option Addr} (h : RGp (fun b=>C≤b) w G gs) (hb : Below w.heap.size w w') (hBC : B≤C) : RGp (fun b=>B≤b) w' G gs:=h.keep ⟨hb.size,fun b _ hlt=>hb.block b hlt⟩ fun _ hb _=>Nat.le_trans hBC hb
theorem rtp_keep {B C : Nat} {out : List TmL} {T : Option Addr} (h : RTp (fun b=>C≤b) w T out) (hb : Below w.heap.size w w') (hBC : B≤C) : RTp (fun b=>B≤b) w' T out:=h.keep ⟨hb.size,fun b _ hlt=>hb.block b hlt⟩ fun _ hb _=>Nat.le_trans hBC hb
end
theorem below_nextD {w W W' : World} (h1 : Below w.heap.size w W) (h2 : Below W.heap.size W W') : Below w.heap.size w W':=h1.trans (h2.mono h1.size)
section
variable {bs x k B gg capg : Nat} {i o n s k0 : Int} {L rs : List RuL} {F fs : List FiL} {v vf v' v1 vf' : Value} {w wr ws w9 : World} {r : RuL} {f : FiL} {AG AT : Option Addr} {cG cT : Nat} {vs : List Value}
end
end Go.Proofs.YtpcgaebbbioifaaGreatDoor.De
