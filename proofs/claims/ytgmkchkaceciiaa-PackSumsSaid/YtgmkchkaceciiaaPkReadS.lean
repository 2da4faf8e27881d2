/- What (*pack.reader).table holds in its loops: the table's box, the row that grows, the reader. -/
import Derived.Test.YtgmkchkaceciiaaPkReadD
import Derived.Test.YtgmkchkaceciiaaPkLoad
import Derived.Laws.CopyRow
import Derived.Laws.IdiomCopy
namespace Go.Proofs.Ytgmkchkaceciiaa.Pk
set_option maxRecDepth 100000
open Go Go.RowKit Go.Proofs.Ytgmkchkaceciiaa.Sp Go.Proofs.Ytgmkchkaceciiaa.Pa Go.Proofs.Ytgmkchkaceciiaa.Te Go.Proofs.Ytgmkchkaceciiaa.Mi Go.Proofs.Ytgmkchkaceciiaa.De Go.Proofs.Ytgmkchkaceciiaa.Wo

/-- A table's cells, whatever its slices are. -/
def tbC (cls : List Nat) (a b c : Value) : List Value := clsV cls ++ [a, b, c]
section
variable {cls : List Nat} {a b c : Value}
theorem clsV_len (h : cls.length = 256) : (clsV cls).length = 256 := by unfold clsV; rw [List.length_map, h]
theorem tbC_length (h : cls.length = 256) : (tbC cls a b c).length = 259 := by
  unfold tbC
  rw [List.length_append, clsV_len h]
  rfl
theorem tbC_at0 (h : cls.length = 256) : (tbC cls a b c)[256]? = some a := by
  unfold tbC
  rw [List.getElem?_append_right (by rw [clsV_len h]; omega), clsV_len h]
  rfl
theorem tbC_at1 (h : cls.length = 256) : (tbC cls a b c)[257]? = some b := by
  unfold tbC
  rw [List.getElem?_append_right (by rw [clsV_len h]; omega), clsV_len h]
  rfl
theorem tbC_at2 (h : cls.length = 256) : (tbC cls a b c)[258]? = some c := by
  unfold tbC
  rw [List.getElem?_append_right (by rw [clsV_len h]; omega), clsV_len h]
  rfl
theorem tbC_set0 (h : cls.length = 256) (u : Value) : (tbC cls a b c).set 256 u = tbC cls u b c := by
  unfold tbC
  rw [List.set_append, if_neg (by rw [clsV_len h]; omega), clsV_len h]
  rfl
theorem tbC_set1 (h : cls.length = 256) (u : Value) : (tbC cls a b c).set 257 u = tbC cls a u c := by
  unfold tbC
  rw [List.set_append, if_neg (by rw [clsV_len h]; omega), clsV_len h]
  rfl
theorem tbC_set2 (h : cls.length = 256) (u : Value) : (tbC cls a b c).set 258 u = tbC cls a b u := by
  unfold tbC
  rw [List.set_append, if_neg (by rw [clsV_len h]; omega), clsV_len h]
  rfl
end
theorem tab_zero : Try.zeroCells44 = (tbC (List.replicate 256 0) (.slice none 0 0) (.slice none 0 0) (.slice none 0 0)).toArray := by kernel_rfl
/-- Only the reader's box and the table's are written to. -/
structure KeepT (x T : Nat) (w w' : World) : Prop where
  os : w'.os = w.os
  tape : w'.tape = w.tape
  output : w'.output = w.output
  size : w.heap.size ≤ w'.heap.size
  block : ∀ b, b < w.heap.size → b ≠ x → b ≠ T → w'.heap[b]? = w.heap[b]?
section
variable {x T : Nat} {w w1 w2 : World}
theorem KeepT.refl (x T : Nat) (w : World) : KeepT x T w w := ⟨rfl, rfl, rfl, Nat.le_refl _, fun _ _ _ _ => rfl⟩
theorem KeepT.trans (h : KeepT x T w w1) (h2 : KeepT x T w1 w2) : KeepT x T w w2 :=
  ⟨h2.os.trans h.os, h2.tape.trans h.tape, h2.output.trans h.output, Nat.le_trans h.size h2.size, fun b hb hx ht => (h2.block b (Nat.lt_of_lt_of_le hb h.size) hx ht).trans (h.block b hb hx ht)⟩
theorem KeepR.t (h : KeepR x w w1) : KeepT x T w w1 := ⟨h.os, h.tape, h.output, h.size, fun b hb hx _ => h.block b hb hx⟩
theorem KeepT.r (h : KeepT x T w1 w2) (hb : Below w.heap.size w w1) (hT : w.heap.size ≤ T) : KeepR x w w2 :=
  ⟨h.os.trans hb.os, h.tape.trans hb.tape, h.output.trans hb.output, Nat.le_trans hb.size h.size, fun b hlt hx => (h.block b (Nat.lt_of_lt_of_le hlt hb.size) hx (by omega)).trans (hb.block b hlt)⟩
theorem KeepT.q (h : KeepT x T w w1) {p : Nat → Prop} (hp : ∀ b, p b → b ≠ x ∧ b ≠ T) : KeepQ p w w1 := ⟨h.size, fun b hb hlt => h.block b hlt (hp b hb).1 (hp b hb).2⟩
theorem KeepT.set (x : Nat) (w : World) (T j : Nat) (v : Value) : KeepT x T w (w.setCell ⟨T, j, none⟩ v) := ⟨rfl, rfl, rfl, by simp, fun b _ _ hb => Below.heap_setCell w _ _ b hb⟩
theorem KeepT.setRow (x : Nat) (w : World) (T : Nat) (cs : Array Value) : KeepT x T w (w.setRow T cs) := ⟨rfl, rfl, rfl, by simp, fun b _ _ hb => setRow_other w T b cs hb⟩
theorem KeepT.grown (h : KeepT x T w w1) {row : Option Nat} (hg : w1.grownBy w2 row) (hr : ∀ g, row = some g → w.heap.size ≤ g) : KeepT x T w w2 :=
  ⟨hg.os.trans h.os, hg.tape.trans h.tape, hg.output.trans h.output, Nat.le_trans h.size hg.size, fun b hb hx ht => (hg.block b (Nat.lt_of_lt_of_le hb h.size) (fun e => by have := hr b e.symm; omega)).trans (h.block b hb hx ht)⟩
/-- A block above the reader's may be written to. -/
theorem RdS.other {B0 : Nat} {s : Rd} (h : RdS x B0 s w) (hk : ∀ b, b ≤ x → w1.heap[b]? = w.heap[b]?) : RdS x B0 s w1 := by
  obtain ⟨A, c, h1, h2, h3⟩ := h.box
  have hlow := h.low
  exact ⟨⟨A, c, (hk x (Nat.le_refl _)).trans h1, h2.keep fun p hp => World.cell?_of_block (hk p.block (by omega)), h3⟩, h.low, h.byte⟩
end
/-- A loop of the table's reader: the row v of the list l grows. -/
structure LpS {α : Type} (e : Enc α) (x B0 T : Nat) (mk : Value → List Value) (w0 : World) (v : Value) (l : List α) (s : Rd) (w : World) : Prop where
  box : w.heap[T]? = some (.cells (mk v).toArray 44 (0, 0))
  row : RowE e w0.heap.size w v l
  rd : RdS x B0 s w
  keep : KeepT x T w0 w
  xT : x < T
  T0 : T < w0.heap.size
section
variable {α : Type} {e : Enc α} {x B0 T : Nat} {mk : Value → List Value} {w0 w w' : World} {v : Value} {l : List α} {s s' : Rd}
theorem LpS.lt (h : LpS e x B0 T mk w0 v l s w) : T < w.heap.size := (Array.getElem?_eq_some_iff.1 h.box).1
theorem LpS.moved (h : LpS e x B0 T mk w0 v l s w) (hr : RdS x B0 s' w') (hk : KeepR x w w') : LpS e x B0 T mk w0 v l s' w' :=
  have h1 := h.xT
  have h2 := h.T0
  ⟨(hk.block T h.lt (by omega)).trans h.box, h.row.keep (hk.q fun b hb => by have hb : w0.heap.size ≤ b := hb; omega), hr, h.keep.trans hk.t, h1, h2⟩
theorem LpS.below (h : LpS e x B0 T mk w0 v l s w) (hb : Below w.heap.size w w') : LpS e x B0 T mk w0 v l s w' := h.moved (h.rd.keep hb) (KeepR.below hb)
theorem LpS.drew (h : LpS e x B0 T mk w0 v l s w) : LpS e x B0 T mk w0 v l s w.drew := h.below (Below.refl _ _).drew
theorem LpS.cell (h : LpS e x B0 T mk w0 v l s w) (off : Nat) : w.cell? ⟨T, off, none⟩ = (mk v)[off]? := by
  rw [cell_of_row w T off _ _ _ h.box]
  simp
theorem LpS.frozen (h : LpS e x B0 T mk w0 v l s w) (off : Nat) : w.frozen? ⟨T, off, none⟩ = false := by simp [World.frozen?, h.box]
/-- Blocks from the last call on are none of the row's. -/
theorem LpS.news (h : LpS e x B0 T mk w0 v l s w) (b : Nat) (hb : w.heap.size ≤ b) : w0.heap.size ≤ b ∧ v.ownBlock ≠ some b :=
  ⟨Nat.le_trans h.keep.size hb, fun q => by have := (h.row.lt b q).2; omega⟩
/-- The row behind an append. -/
theorem LpS.grown {w7 : World} (h : LpS e x B0 T mk w0 v l s w) (hg : w.grownBy w7 v.ownBlock) : w7.heap[T]? = w.heap[T]? :=
  hg.block T h.lt fun q => by have := (h.row.lt T q.symm).1; have := h.T0; omega
theorem LpS.push {w7 : World} {v7 : Value} {y : α} (h : LpS e x B0 T mk w0 v l s w) (hrow : RowE e w0.heap.size w7 v7 (l ++ [y])) (hg : w.grownBy w7 v.ownBlock) (off : Nat) (hset : (mk v).set off v7 = mk v7) :
    LpS e x B0 T mk w0 v7 (l ++ [y]) s (w7.setCell ⟨T, off, none⟩ v7) := by
  have h1 := h.xT
  have h2 := h.T0
  have hT : w7.heap[T]? = some (.cells (mk v).toArray 44 (0, 0)) := (hg.block T h.lt fun q => by have := (h.row.lt T q.symm).1; omega).trans h.box
  have hne : ∀ b, b ≠ T → (w7.setCell ⟨T, off, none⟩ v7).heap[b]? = w7.heap[b]? := fun b hb => heap_setCell_other w7 ⟨T, off, none⟩ b _ (fun e => hb e)
  have hxl := h.rd.lt
  refine ⟨?_, hrow.keep ⟨by simp, fun b hb _ => hne b (by have hb : w0.heap.size ≤ b := hb; omega)⟩, h.rd.other fun b hb => (hne b (by omega)).trans (hg.block b (by omega) fun q => by have := (h.row.lt b q.symm).1; omega), (h.keep.grown hg fun g q => (h.row.lt g q).1).trans (KeepT.set x w7 T off v7), h1, h2⟩
  have := heap_setCell_same w7 T off _ 44 v7 hT
  rw [this]
  congr 2
  rw [← hset]
  simp
theorem LpS.start (hT : w.heap[T]? = some (.cells (mk (.slice none 0 0)).toArray 44 (0, 0))) (hr : RdS x B0 s w) (hx : x < T) : LpS e x B0 T mk w (.slice none 0 0) [] s w :=
  ⟨hT, RowE.nil_ _ _, hr, KeepT.refl _ _ _, hx, (Array.getElem?_eq_some_iff.1 hT).1⟩
end
/-- The bytes that were read are laid into the table's box. -/
theorem wp_copy_cls {w : World} {o : Oper} {a : Act} {K : Act → World → Prop} {Q : Exit → Act → World → Prop} (d s : Operand)
    (ho : o.op = .call { callee := .builtin .copy, args := #[d, s], argTypes := #[46, 46] }) {T B0 n c : Nat} {A : Option Addr} {l : List Nat} (hd : a.eval d = .slice (some ⟨T, 0, none⟩) 256 256) (hs : a.eval s = .slice A n c)
    (hT : w.heap[T]? = some (.cells (tbC (List.replicate 256 0) (.slice none 0 0) (.slice none 0 0) (.slice none 0 0)).toArray 44 (0, 0))) (hl : l.length = n) (hn : n = 0 ∨ n = 256) (hr : RY w B0 A n (byI l))
    (h : ∀ w', w'.heap[T]? = some (.cells (tbC (l ++ List.replicate (256 - n) 0) (.slice none 0 0) (.slice none 0 0) (.slice none 0 0)).toArray 44 (0, 0)) → (∀ b, b ≠ T → w'.heap[b]? = w.heap[b]?) → (∀ x, KeepT x T w w') → K (a.put o.dst (.int .i64 (n : Int))) w') : Oper.wp Try.prog o a w K Q := by
  have hi : (Try.prog.info? 5).map (·.size) = some 1 := by kernel_rfl
  rcases hn with rfl | rfl
  · obtain rfl := List.eq_nil_of_length_eq_zero hl
    have hr := run_copy_none (P := Try.prog) w 46 46 o.type 5 (some ⟨T, 0, none⟩) A 256 256 0 c Try.underlying46 hi rfl
    unfold Oper.wp execOp
    simp only [ho, resolve, invoke, builtin, Sem.run_bind, Sem.run_pure, Result.andThen_ok, List.map_toArray, List.map_cons, List.map_nil, hd, hs, hr]
    exact h w hT (fun _ _ => rfl) fun x => KeepT.refl _ _ _
  · obtain ⟨_, h2⟩ := hr
    obtain ⟨b, off, rfl, _, hc⟩ := h2 (by omega)
    have hr := run_copy_row (P := Try.prog) w 46 46 o.type 5 T 0 256 256 ⟨b, off, none⟩ 256 c _ 44 (clsV l) Try.underlying46 hi hT (by rw [clsV_len hl]; rfl) (fun j u hu => by
      unfold clsV at hu
      rw [List.getElem?_map] at hu
      obtain ⟨z, hz, rfl⟩ := Option.map_eq_some_iff.1 hu
      obtain ⟨hj, hz⟩ := List.getElem?_eq_some_iff.1 hz
      have h3 := hc j (by rw [byI_length]; exact hj)
      rw [Addr.add_mid, h3, show (byI l)[j]'(by rw [byI_length]; exact hj) = ((l[j] : Nat) : Int) from by unfold byI; rw [List.getElem_map], hz]) (by rw [clsV_len hl, List.size_toArray, tbC_length (by simp)]; omega) (fun u hu => by
      obtain ⟨z, _, rfl⟩ := List.mem_map.1 hu
      rfl)
    unfold Oper.wp execOp
    simp only [ho, resolve, invoke, builtin, Sem.run_bind, Sem.run_pure, Result.andThen_ok, List.map_toArray, List.map_cons, List.map_nil, hd, hs, hr]
    have h9 := h (w.setRow T (tbC l (.slice none 0 0) (.slice none 0 0) (.slice none 0 0)).toArray) (by
      rw [show (256 - 256 : Nat) = 0 from rfl, List.replicate_zero, List.append_nil]
      exact setRow_heap w T _ _ _ _ hT) (fun b hb => setRow_other w T b _ hb) fun x => KeepT.setRow x w T _
    rw [clsV_len hl]
    exact h9
/-- A loop's relation. -/
def LpRel {α : Type} (e : Enc α) (f : Rd → α × Rd) (n x B0 T : Nat) (mk : Value → List Value) (s : Rd) (w0 : World) (iv : Value) (wr : World) : Prop :=
  ∃ (k : Nat) (v : Value), k ≤ n ∧ iv = .int .i64 k ∧ LpS e x B0 T mk w0 v (rdMany f k s).1 (rdMany f k s).2 wr
/-- A table whose memory lies in blocks from B on. -/
structure TF (B : Nat) (w : World) (t : TV) : Prop where
  cls : t.T.cls.length = 256
  byte : ∀ c ∈ t.T.cls, c < 256
  nodes : FarE eNode (fun b => B ≤ b) w t.A t.T.nodes
  acts : FarE eAct (fun b => B ≤ b) w t.B t.T.acts
  ends : FarE eEnd (fun b => B ≤ b) w t.C t.T.ends
  ca : t.T.nodes.length ≤ t.ca
  cb : t.T.acts.length ≤ t.cb
  cc : t.T.ends.length ≤ t.cc
  la : t.T.nodes.length ≤ maxLen
  lb : t.T.acts.length ≤ maxLen
  lc : t.T.ends.length ≤ maxLen
theorem TF.tm {B : Nat} {w : World} {t : TV} (h : TF B w t) : TM w t := ⟨h.cls, h.byte, far_nodes h.nodes, far_acts h.acts, far_ends h.ends, h.ca, h.cb, h.cc, h.la, h.lb, h.lc⟩
theorem TF.keep {B : Nat} {w w' : World} {t : TV} (h : TF B w t) (hk : KeepQ (fun b => B ≤ b) w w') : TF B w' t :=
  ⟨h.cls, h.byte, h.nodes.keep hk fun _ hb _ => hb, h.acts.keep hk fun _ hb _ => hb, h.ends.keep hk fun _ hb _ => hb, h.ca, h.cb, h.cc, h.la, h.lb, h.lc⟩
def TableR (x B0 : Nat) (s : Rd) (w : World) (en : Ending) (w' : World) : Prop := ∃ t : TV, en = .returned t.val ∧ t.T = (rdTab s).1 ∧ TF w.heap.size w' t ∧ RdS x B0 (rdTab s).2 w' ∧ KeepR x w w'
end Go.Proofs.Ytgmkchkaceciiaa.Pk
