/- Texts of this proof, joined: PkWrite, PkFar, PkReadP, PkReadT, PkTerms. -/
import Derived.Test.YtboaifdkoemnbaaJ7
import Derived.Test.YtboaifdkoemnbaaJ9
import Derived.Test.YtboaifdkoemnbaaJ10
import Derived.Test.YtboaifdkoemnbaaJ12
import Derived.Maps.AppendAt
import Derived.ArgAppend
import Derived.BigFrame
/- The walk of (*pack.writer).numbers. -/
namespace Go.Proofs.Ytboaifdkoemnbaa.Pk
set_option maxRecDepth 100000
open Go Go.RowKit Go.Proofs.Ytboaifdkoemnbaa.Sp Go.Proofs.Ytboaifdkoemnbaa.Pa Go.Proofs.Ytboaifdkoemnbaa.Te Go.Proofs.Ytboaifdkoemnbaa.Mi Go.Proofs.Ytboaifdkoemnbaa.De Go.Proofs.Ytboaifdkoemnbaa.Wo

def byV (l : List Nat) : List Value := (byI l).map (Value.int .u8)
theorem byV_append (l r : List Nat) : byV (l ++ r) = byV l ++ byV r := by unfold byV; rw [byI_append, List.map_append]
theorem byV_length (l : List Nat) : (byV l).length = l.length := by unfold byV; rw [List.length_map, byI_length]
theorem infoByteW : (Try.prog.info? 5).map (fun i => (i.zero, i.size, i.bytes)) = some (some (.int .u8 0), 1, 1) := by kernel_rfl
/-- What is neither the writer's box nor its row stays: a row is the old one, or a new one. -/
def OwnN (v v' : Value) (w : World) : Prop := ∀ g, v'.ownBlock = some g → v.ownBlock = some g ∨ w.heap.size ≤ g
/-- The bytes that were written: a row of the call's own, or a constant's, which is full. -/
def RowW (bs : Nat) (v : Value) (L : List Nat) (w : World) : Prop := w.ownsRow bs 5 1 v L.length (byV L) ∨
  ∃ g, v = .slice (some ⟨g, 0, none⟩) L.length L.length ∧ bs ≤ g ∧ w.heap[g]? = some (.cells (byV L).toArray 5 (L.length, L.length + 1))
section
variable {bs : Nat} {v : Value} {L : List Nat} {w w' : World}
theorem RowW.shape (h : RowW bs v L w) : ∃ A c, v = .slice A L.length c := by
  rcases h with h | ⟨g, rfl, _⟩
  · rcases h.2 with ⟨rfl, h0⟩ | ⟨g, cap, cur, rfl, _⟩
    · exact ⟨none, 0, by rw [h0]⟩
    · exact ⟨_, _, rfl⟩
  · exact ⟨_, _, rfl⟩
theorem RowW.lt (h : RowW bs v L w) (k : Nat) (e : v.ownBlock = some k) : bs ≤ k ∧ k < w.heap.size := by
  rcases h with h | ⟨g, rfl, hb, hg⟩
  · exact World.ownsRow.lt h k e
  · simp only [Value.ownBlock, Option.some.injEq] at e
    subst e
    exact ⟨hb, (Array.getElem?_eq_some_iff.1 hg).1⟩
theorem RowW.keep (h : RowW bs v L w) (hk : ∀ g, v.ownBlock = some g → w'.heap[g]? = w.heap[g]?) : RowW bs v L w' := by
  rcases h with h | ⟨g, rfl, hb, hg⟩
  · exact .inl (ownsRow_keep h hk)
  · exact .inr ⟨g, rfl, hb, (hk g rfl).trans hg⟩
theorem RowW.run (h : RowW bs v L w) (ty : TypeId) (ad : Addr) (m c : Nat) (news : List Value) (hl : news.length = m) (hnews : ∀ j u, news[j]? = some u → w.cell? (ad.add j) = some u) (h1 : ∀ u ∈ news, u.oneCell' = true) (hm : 0 < m) (hb : L.length + m ≤ 1099511627776) (hbase : bs ≤ w.heap.size) :
    ∃ v' w', (Builtin.append_ #[30, 30] ty #[v, .slice (some ad) m c]).run Try.prog w = .ok v' w' ∧ w'.ownsRow bs 5 1 v' (L.length + m) (byV L ++ news) ∧ w.grownBy w' v.ownBlock ∧ OwnN v v' w := by
  obtain ⟨i0, hi, hz0, hz1, hz2⟩ := info_parts infoByteW
  rcases h with h | ⟨g, rfl, hbg, hg⟩
  · obtain ⟨v', w', h1, h2, h3, _, h5⟩ := run_append_own_at (P := Try.prog) w bs 30 ty 5 i0 _ 1 1 Try.underlying30 hi hz0 hz1 hz2 rfl (by decide) v L.length (byV L) h ad m c news (by omega) hnews h1 (by simp only [maxLen]; omega) (by omega) hbase
    exact ⟨v', w', h1, h2, h3, fun k e => by
      rcases h5 with q | q
      · exact .inl (by rw [← q]; exact e)
      · rw [q] at e
        injection e with e
        exact .inr (by omega)⟩
  · obtain ⟨v', w', h1, h2, h3⟩ := run_append_arg_grows (P := Try.prog) w 30 ty 5 i0 _ 1 1 Try.underlying30 hi hz0 hz1 hz2 rfl (by decide) ⟨g, 0, none⟩ L.length L.length (byV L) (by rw [byV_length]; omega) (fun j u hj => by
        rw [Go.WideShapes.add_plain, Nat.zero_add, cell_of_row w g j _ _ _ hg]
        simpa using hj) ad m c news (by omega) hnews (by omega) (by simp only [maxLen]; omega) (by omega)
    refine ⟨v', w', h1, ⟨h2.1, ?_⟩, ⟨h3.os, h3.tape, h3.output, h3.size, fun k hk _ => h3.block k hk (fun e => by cases e)⟩, fun k e => .inr (World.ownsRow.lt h2 k e).1⟩
    rcases h2.2 with q | ⟨g', cap, cur, rfl, hg', hr⟩
    · exact .inl q
    · exact .inr ⟨g', cap, cur, rfl, by omega, hr⟩
end
theorem wpList_append_W {w : World} {ops : Array Oper} {rest : List Oper} {o : Oper} {a : Act} {Q : Exit → Act → World → Prop} (hgd : o.guard = none) (s x : Operand)
    (ho : o.op = .call { callee := .builtin .append, args := #[s, x], argTypes := #[30, 30] })
    {bs : Nat} {v : Value} {L : List Nat} (hs : a.eval s = v) (hrow : RowW bs v L w) (ad : Addr) (m c : Nat) (news : List Value) (hx : a.eval x = .slice (some ad) m c) (hl : news.length = m) (hnews : ∀ j u, news[j]? = some u → w.cell? (ad.add j) = some u) (h1 : ∀ u ∈ news, u.oneCell' = true) (hm : 0 < m) (hb : L.length + m ≤ 1099511627776) (hbase : bs ≤ w.heap.size)
    (h : ∀ v' w', w'.ownsRow bs 5 1 v' (L.length + m) (byV L ++ news) → w.grownBy w' v.ownBlock → OwnN v v' w → wpList Try.prog ops Q rest (a.put o.dst v') w') : wpList Try.prog ops Q (o :: rest) a w := by
  refine wpList_plain hgd fun K hK => ?_
  obtain ⟨v', w', hr, h2, h3, h4⟩ := hrow.run o.type ad m c news hl hnews h1 hm hb hbase
  unfold Oper.wp execOp
  simp only [ho, resolve, invoke, builtin, Sem.run_bind, Sem.run_pure, Result.andThen_ok, List.map_toArray, List.map_cons, List.map_nil, hs, hx, hr]
  exact hK _ _ (h v' w' h2 h3 h4)
theorem wp_append_W {w : World} {o : Oper} {a : Act} {K : Act → World → Prop} {Q : Exit → Act → World → Prop} (s x : Operand)
    (ho : o.op = .call { callee := .builtin .append, args := #[s, x], argTypes := #[30, 30] })
    {bs : Nat} {v : Value} {L : List Nat} (hs : a.eval s = v) (hrow : RowW bs v L w) (ad : Addr) (m c : Nat) (news : List Value) (hx : a.eval x = .slice (some ad) m c) (hl : news.length = m) (hnews : ∀ j u, news[j]? = some u → w.cell? (ad.add j) = some u) (h1 : ∀ u ∈ news, u.oneCell' = true) (hm : 0 < m) (hb : L.length + m ≤ 1099511627776) (hbase : bs ≤ w.heap.size)
    (h : ∀ v' w', w'.ownsRow bs 5 1 v' (L.length + m) (byV L ++ news) → w.grownBy w' v.ownBlock → OwnN v v' w → K (a.put o.dst v') w') : Oper.wp Try.prog o a w K Q := by
  obtain ⟨v', w', hr, h2, h3, h4⟩ := hrow.run o.type ad m c news hl hnews h1 hm hb hbase
  unfold Oper.wp execOp
  simp only [ho, resolve, invoke, builtin, Sem.run_bind, Sem.run_pure, Result.andThen_ok, List.map_toArray, List.map_cons, List.map_nil, hs, hx, hr]
  exact h v' w' h2 h3 h4
/-- A writer: its box lies in block x, its bytes in a row of their own. -/
structure WrS (x bs : Nat) (v : Value) (wide : Bool) (L : List Nat) (w : World) : Prop where
  box : w.heap[x]? = some (.cells #[v, .bool wide] 54 (0, 0))
  row : RowW bs v L w
  apart : v.ownBlock ≠ some x
  base : bs ≤ w.heap.size
/-- What is neither the writer's box nor its row stays. -/
structure KeepW (x : Nat) (v : Value) (w w' : World) : Prop where
  os : w'.os = w.os
  tape : w'.tape = w.tape
  output : w'.output = w.output
  size : w.heap.size ≤ w'.heap.size
  block : ∀ b, b < w.heap.size → b ≠ x → v.ownBlock ≠ some b → w'.heap[b]? = w.heap[b]?
section
variable {x bs : Nat} {v v1 : Value} {wide : Bool} {L : List Nat} {w w1 w2 : World}
theorem KeepW.refl (x : Nat) (v : Value) (w : World) : KeepW x v w w := ⟨rfl, rfl, rfl, Nat.le_refl _, fun _ _ _ _ => rfl⟩
theorem OwnN.refl (v : Value) (w : World) : OwnN v v w := fun _ h => .inl h
theorem KeepW.trans (h : KeepW x v w w1) (k : KeepW x v1 w1 w2) (hv : OwnN v v1 w) : KeepW x v w w2 :=
  ⟨k.os.trans h.os, k.tape.trans h.tape, k.output.trans h.output, Nat.le_trans h.size k.size, fun b hb hx ho => (k.block b (Nat.lt_of_lt_of_le hb h.size) hx (fun e => by
    rcases hv b e with q | q
    · exact ho q
    · omega)).trans (h.block b hb hx ho)⟩
theorem OwnN.trans {v2 : Value} (h : OwnN v v1 w) (k : OwnN v1 v2 w1) (hs : w.heap.size ≤ w1.heap.size) : OwnN v v2 w := fun g e => by
  rcases k g e with q | q
  · exact h g q
  · exact .inr (Nat.le_trans hs q)
theorem KeepW.below (hb : Below w.heap.size w w1) : KeepW x v w w1 := ⟨hb.os, hb.tape, hb.output, hb.size, fun b h _ _ => hb.block b h⟩
theorem WrS.lt (h : WrS x bs v wide L w) : x < w.heap.size := (Array.getElem?_eq_some_iff.1 h.box).1
theorem WrS.c0 (h : WrS x bs v wide L w) : w.cell? ⟨x, 0, none⟩ = some v := by rw [cell_of_row w x 0 _ _ _ h.box]; rfl
theorem WrS.c1 (h : WrS x bs v wide L w) : w.cell? ⟨x, 1, none⟩ = some (.bool wide) := by rw [cell_of_row w x 1 _ _ _ h.box]; rfl
theorem WrS.fr (h : WrS x bs v wide L w) (j : Nat) : w.frozen? ⟨x, j, none⟩ = false := by simp [World.frozen?, h.box]
theorem WrS.keep (h : WrS x bs v wide L w) (hb : Below w.heap.size w w1) : WrS x bs v wide L w1 :=
  ⟨(hb.block x h.lt).trans h.box, h.row.keep fun g e => hb.block g (h.row.lt g e).2, h.apart, Nat.le_trans h.base hb.size⟩
theorem WrS.wide_ (h : WrS x bs v wide L w) (b : Bool) : WrS x bs v b L (w.setCell ⟨x, 1, none⟩ (.bool b)) ∧ KeepW x v w (w.setCell ⟨x, 1, none⟩ (.bool b)) := by
  refine ⟨⟨setCell_block w x 1 _ _ _ h.box, h.row.keep fun g e => Below.heap_setCell w _ _ g (fun q => h.apart (by simp only at q; rw [← q]; exact e)), h.apart, by have := h.base; simpa using this⟩, ⟨rfl, rfl, rfl, by simp, fun b' _ hb _ => Below.heap_setCell w _ _ b' hb⟩⟩
theorem WrS.push (h : WrS x bs v wide L w) {l : List Nat} {w7 : World} (ho : w7.ownsRow bs 5 1 v1 (L.length + l.length) (byV L ++ byV l)) (hg : w.grownBy w7 v.ownBlock) (hat : OwnN v v1 w) :
    WrS x bs v1 wide (L ++ l) (w7.setCell ⟨x, 0, none⟩ v1) ∧ KeepW x v w (w7.setCell ⟨x, 0, none⟩ v1) ∧ OwnN v v1 w := by
  have hx := h.lt
  have hbx : w7.heap[x]? = some (.cells #[v, .bool wide] 54 (0, 0)) := (hg.block x hx (fun e => h.apart e.symm)).trans h.box
  have hv1 : v1.ownBlock ≠ some x := fun e => by
    rcases hat x e with q | q
    · exact h.apart q
    · omega
  refine ⟨⟨setCell_block w7 x 0 _ _ _ hbx, ?_, hv1, ?_⟩, ⟨hg.os, hg.tape, hg.output, by simpa using hg.size, fun b hb hx ho => ?_⟩, hat⟩
  · refine .inl ?_
    rw [List.length_append, byV_append]
    exact ownsRow_keep ho fun g e => Below.heap_setCell w7 _ _ g (fun q => hv1 (by simp only at q; rw [← q]; exact e))
  · have := h.base
    have := hg.size
    simp
    omega
  · exact (Below.heap_setCell w7 _ _ b hx).trans (hg.block b hb (fun e => ho e.symm))
end
/-- Whether some number is too wide. -/
def wideB (xs : List Int) : Bool := xs.any fun x => sgn (bits x) != x
theorem wideB_iff {xs : List Int} : wideB xs = false ↔ ∀ x ∈ xs, In32 x := by
  unfold wideB
  rw [List.any_eq_false]
  refine ⟨fun h x hx => in32_iff.2 (by simpa using h x hx), fun h x hx => by simpa using in32_iff.1 (h x hx)⟩
/-- A list that is read lies apart from the writer. -/
def ApartW (x : Nat) (v : Value) (A : Option Addr) : Prop := ∀ b off, A = some ⟨b, off, none⟩ → b ≠ x ∧ v.ownBlock ≠ some b
/-- A slice value reads as a list of integers (their range isn't told). -/
def RIc (w : World) (A : Option Addr) (n : Nat) (l : List Int) : Prop :=
  l.length = n ∧ (0 < n → ∃ b off, A = some ⟨b, off, none⟩ ∧ b < w.heap.size ∧ ∀ (j : Nat) (h : j < l.length), w.cell? ⟨b, off + j, none⟩ = some (.int .i64 l[j]))
theorem RI.c {w : World} {A : Option Addr} {n : Nat} {l : List Int} (h : RI w A n l) : RIc w A n l := ⟨h.1, h.2.1⟩
theorem RIc.at_ {w : World} {A : Option Addr} {n : Nat} {l : List Int} {k : Nat} (h : RIc w A n l) (hk : k < l.length) : ∃ b off, A = some ⟨b, off, none⟩ ∧ b < w.heap.size ∧ w.cell? ⟨b, off + k, none⟩ = some (.int .i64 l[k]) := by
  obtain ⟨b, off, e, hb, hc⟩ := h.2 (by have := h.1; omega)
  exact ⟨b, off, e, hb, hc k hk⟩
theorem RIc.keepW {x : Nat} {v : Value} {w w1 : World} {A : Option Addr} {n : Nat} {l : List Int} (h : RIc w A n l) (hk : KeepW x v w w1) (ha : 0 < n → ApartW x v A) : RIc w1 A n l :=
  ⟨h.1, fun hn => by
    obtain ⟨b, off, e, hlt, hc⟩ := h.2 hn
    refine ⟨b, off, e, Nat.lt_of_lt_of_le hlt hk.size, fun j hj => ?_⟩
    exact (World.cell?_of_block (hk.block b hlt ((ha hn) b off e).1 ((ha hn) b off e).2)).trans (hc j hj)⟩
/-- Numbers were written. -/
def WRel (x bs : Nat) (v : Value) (wide : Bool) (L : List Nat) (xs : List Int) (w w' : World) : Prop := ∃ v', WrS x bs v' (wide || wideB xs) (L ++ numsB xs) w' ∧ KeepW x v w w' ∧ OwnN v v' w
def WOut (x bs : Nat) (v : Value) (wide : Bool) (L : List Nat) (xs : List Int) (w : World) (e : Ending) (w' : World) : Prop :=
  e = .returned (.tuple #[]) ∧ WRel x bs v wide L xs w w'
theorem wideB_append (xs ys : List Int) : wideB (xs ++ ys) = (wideB xs || wideB ys) := by
  unfold wideB
  rw [List.any_append]
theorem WRel.refl {x bs : Nat} {v : Value} {wide : Bool} {L : List Nat} {w : World} (h : WrS x bs v wide L w) : WRel x bs v wide L [] w w := ⟨v, by simpa [wideB, numsB] using h, KeepW.refl _ _ _, OwnN.refl _ _⟩
/-- One behind the other. -/
theorem WRel.then {x bs : Nat} {v v1 : Value} {wide : Bool} {L : List Nat} {xs ys : List Int} {w w1 w2 : World} (k1 : KeepW x v w w1) (o1 : OwnN v v1 w) (h : WRel x bs v1 (wide || wideB xs) (L ++ numsB xs) ys w1 w2) : WRel x bs v wide L (xs ++ ys) w w2 := by
  obtain ⟨v2, a, b, c⟩ := h
  refine ⟨v2, ?_, k1.trans b o1, o1.trans c k1.size⟩
  rw [wideB_append, numsB_append, ← List.append_assoc, ← Bool.or_assoc]
  exact a
theorem WRel.below {x bs : Nat} {v : Value} {wide : Bool} {L : List Nat} {xs : List Int} {w w1 w2 : World} (h : WRel x bs v wide L xs w w1) (hb : Below w1.heap.size w1 w2) : WRel x bs v wide L xs w w2 := by
  obtain ⟨v1, a, b, c⟩ := h
  exact ⟨v1, a.keep hb, b.trans (KeepW.below (x := x) (v := v1) hb) c, c⟩
theorem WRel.pre {x bs : Nat} {v : Value} {wide : Bool} {L : List Nat} {xs : List Int} {w w1 w2 : World} (hb : Below w.heap.size w w1) (h : WRel x bs v wide L xs w1 w2) : WRel x bs v wide L xs w w2 := by
  obtain ⟨v1, a, b, c⟩ := h
  exact ⟨v1, a, (KeepW.below (x := x) (v := v) hb).trans b (OwnN.refl _ _), fun g e => by
    rcases c g e with q | q
    · exact .inl q
    · exact .inr (Nat.le_trans hb.size q)⟩
/-- What lay below the writer's box and row is as it was. -/
theorem KeepW.low {x bs B0 : Nat} {v : Value} {wide : Bool} {L : List Nat} {w w' : World} (h : KeepW x v w w') (hs : WrS x bs v wide L w) (hx : B0 ≤ x) (hb : B0 ≤ bs) : Below B0 w w' :=
  ⟨h.os, h.tape, h.output, h.size, fun b hlt => h.block b (by have := hs.lt; omega) (by omega) (fun e => by have := (hs.row.lt b e).1; omega)⟩
def NumRel (x bs : Nat) (v : Value) (wide : Bool) (L : List Nat) (xs : List Int) (w : World) (iv : Value) (wr : World) : Prop :=
  ∃ (k : Nat) (v' : Value), k ≤ xs.length ∧ iv = .int .i64 k ∧ WrS x bs v' (wide || wideB (xs.take k)) (L ++ numsB (xs.take k)) wr ∧ KeepW x v w wr ∧ OwnN v v' w
theorem wrap32_bits (x : Int) : IntKind.u32.wrap x = ((bits x : Nat) : Int) := by
  rw [IntKind.wrap_u32]
  unfold bits
  omega
theorem num4_vals {u : Nat} (hu : u < 4294967296) : [Value.int .u8 ((u : Int) / 16777216), .int .u8 ((u : Int) / 65536 % 256), .int .u8 ((u : Int) / 256 % 256), .int .u8 ((u : Int) % 256)] = byV (num4 u) := by
  simp only [byV, byI, num4, List.map_cons, List.map_nil]
  congr 2
  omega
theorem wideB_snoc (xs : List Int) (y : Int) : wideB (xs ++ [y]) = (wideB xs || (sgn (bits y) != y)) := by
  unfold wideB
  simp
set_option maxHeartbeats 8000000 in
theorem numbers_any (x bs : Nat) (v : Value) (wide : Bool) (L : List Nat) (A : Option Addr) (c : Nat) (xs : List Int) (w : World) (h : WrS x bs v wide L w) (hr : RIc w A xs.length xs) (ha : 0 < xs.length → ApartW x v A) (hL : L.length + 4 * xs.length ≤ 1099511627776) :
    Calls Try.prog 19 #[.pointer (some ⟨x, 0, none⟩), .slice A xs.length c] w (WOut x bs v wide L xs w) := by
  have HW := Lib.hid h
  have HR := Lib.hid hr
  have HA := Lib.hid ha
  obtain ⟨i0, hi0, hz0, hz1, hz2⟩ := info_parts infoByte
  have hxl : xs.length ≤ 1099511627776 := by omega
  clear h hr ha
  go_enter Try.func19, Try.ntmps19
  go_wp2_with (fail)
  go_loopw [9] (fun iv wr => NumRel x bs v wide L xs w iv wr) (fun i _ => xs.length - (intOf i).toNat)
  case atStart => exact ⟨0, v, Nat.zero_le _, rfl, by simpa [wideB, numsB] using HW.out, KeepW.refl _ _ _, OwnN.refl _ _⟩
  case round =>
    obtain ⟨k, v', hk, rfl, hws, hkw, hon⟩ := hrel
    by_cases hlt : k < xs.length
    · obtain ⟨b, off, rfl, hb, d0⟩ := (HR.out.keepW hkw HA.out).at_ hlt
      obtain ⟨y, hy⟩ : ∃ y, xs[k] = y := ⟨_, rfl⟩
      rw [hy] at d0
      have htk : xs.take (k + 1) = xs.take k ++ [y] := by rw [List.take_succ_eq_append_getElem hlt, hy]
      have hu := wrap32_bits y
      have hub := bits_lt y
      obtain ⟨u, hu2⟩ : ∃ u, bits y = u := ⟨_, rfl⟩
      obtain ⟨wd, hwd⟩ : ∃ wd, (wide || wideB (xs.take k)) = wd := ⟨_, rfl⟩
      obtain ⟨M, hM⟩ : ∃ M, L ++ numsB (xs.take k) = M := ⟨_, rfl⟩
      have hMl : M.length + 4 ≤ 1099511627776 := by
        rw [← hM, List.length_append, numsB_length, List.length_take]
        omega
      rw [hwd, hM] at hws
      obtain ⟨Av, cv, hv'⟩ := hws.row.shape
      have HFIN := Lib.hid (fun (B : Bool) (hB : B = (wd || (sgn u != y))) (ws w7 : World) (v7 : Value) (hw1 : WrS x bs v' B M ws) (hk1 : KeepW x v' wr ws) (ho : w7.ownsRow bs 5 1 v7 (M.length + 4) (byV M ++ byV (num4 u))) (hg : ws.grownBy w7 v'.ownBlock) (hat : OwnN v' v7 ws) =>
        show NumRel x bs v wide L xs w (.int .i64 ((k : Int) + 1)) (w7.setCell ⟨x, 0, none⟩ v7) from by
          obtain ⟨p1, p2, p3⟩ := hw1.push (l := num4 u) ho hg hat
          have p4 : OwnN v' v7 wr := fun g e => by
            rcases p3 g e with q | q
            · exact .inl q
            · exact .inr (Nat.le_trans hk1.size q)
          refine ⟨k + 1, v7, by omega, by go_num, ?_, hkw.trans (hk1.trans p2 (OwnN.refl _ _)) hon, hon.trans p4 hkw.size⟩
          rw [htk, wideB_snoc, numsB_append, hu2, ← Bool.or_assoc, hwd, ← List.append_assoc, hM, numsB_cons, numsB_nil, List.append_nil, hu2, ← hB]
          exact p1)
      have hwide := fun B => hws.wide_ B
      subst hv'
      rw [hu2] at hu hub
      have c0 := hws.c0
      have c1 := hws.c1
      have f0 := hws.fr 0
      have f1 := hws.fr 1
      have HV := Lib.hid (num4_vals hub)
      have HWI := Lib.hid hwide
      have HXW := Lib.hid hws.lt
      clear hy hws hkw hon hwd hu2 htk hM hwide
      cases wd
      · obtain ⟨ww, hww⟩ : ∃ ww, wr.setCell ⟨x, 1, none⟩ (.bool (sgn u != y)) = ww := ⟨_, rfl⟩
        have hw2 := HWI.out (sgn u != y)
        rw [hww] at hw2
        obtain ⟨hw2, hk2⟩ := hw2
        obtain ⟨ws, hws⟩ : ∃ ws, ww.alloc (.cells #[.int .u8 ((u : Int) / 16777216), .int .u8 ((u : Int) / 65536 % 256), .int .u8 ((u : Int) / 256 % 256), .int .u8 ((u : Int) % 256)] 5) = ws := ⟨_, rfl⟩
        have hbs : Below ww.heap.size ww ws := by rw [← hws]; exact (Below.refl _ _).alloc (Nat.le_refl _) _
        have HNS := Lib.hid (show ws.heap[ww.heap.size]? = some (.cells #[.int .u8 ((u : Int) / 16777216), .int .u8 ((u : Int) / 65536 % 256), .int .u8 ((u : Int) / 256 % 256), .int .u8 ((u : Int) % 256)] 5 (0, 0)) from by rw [← hws]; exact heap_alloc_new ww _)
        have HW3 := Lib.hid (hw2.keep hbs)
        have HK3 := Lib.hid (hk2.trans (KeepW.below (x := x) (v := .slice Av M.length cv) hbs) (OwnN.refl _ _))
        have HBO := Lib.hid (show (sgn u != y) = (false || (sgn u != y)) from rfl)
        have cc0 := hw2.c0
        have ff0 := hw2.fr 0
        have hzw : wr.heap.size = ww.heap.size := by rw [← hww]; simp
        clear hw2 hk2 hbs
        go_wp2_with (fail)
        refine (signed_any u hub _).mono ?_
        rintro e w2 ⟨rfl, rfl⟩
        go_wp2_with (at_builtin; refine wpList_append_W rfl _ _ rfl rfl HW3.out.row ⟨ww.heap.size, 0, none⟩ 4 4 [.int .u8 ((u : Int) / 16777216), .int .u8 ((u : Int) / 65536 % 256), .int .u8 ((u : Int) / 256 % 256), .int .u8 ((u : Int) % 256)] rfl rfl (World.news_of_block HNS.out) (by simp [Value.oneCell']) (by decide) (by omega) HW3.out.base ?_; intro v7 w7 ho7 hg7 hat7; have HREL := Lib.hid (HFIN.out _ HBO.out ws w7 v7 HW3.out HK3.out (by rw [← HV.out]; exact ho7) hg7 hat7); have c7 : w7.cell? ⟨x, 0, none⟩ = some (.slice Av M.length cv) := hg7.cell HW3.out.c0 (fun e => HW3.out.apart e.symm); have f7 : w7.frozen? ⟨x, 0, none⟩ = false := (World.frozen?_of_block (hg7.block x HW3.out.lt (fun e => HW3.out.apart e.symm))).trans (HW3.out.fr 0); obtain ⟨A7, cv7, hv7⟩ := own_shape ho7; subst hv7; clear ho7 hg7 hat7)
        go_roundw
        case rel => exact HREL.out
        case measure => simp [intOf]; omega
      · obtain ⟨ww, hww⟩ : ∃ ww, wr.setCell ⟨x, 1, none⟩ (.bool true) = ww := ⟨_, rfl⟩
        have hw2 := HWI.out true
        rw [hww] at hw2
        obtain ⟨hw2, hk2⟩ := hw2
        obtain ⟨ws, hws⟩ : ∃ ws, ww.alloc (.cells #[.int .u8 ((u : Int) / 16777216), .int .u8 ((u : Int) / 65536 % 256), .int .u8 ((u : Int) / 256 % 256), .int .u8 ((u : Int) % 256)] 5) = ws := ⟨_, rfl⟩
        have hbs : Below ww.heap.size ww ws := by rw [← hws]; exact (Below.refl _ _).alloc (Nat.le_refl _) _
        have HNS := Lib.hid (show ws.heap[ww.heap.size]? = some (.cells #[.int .u8 ((u : Int) / 16777216), .int .u8 ((u : Int) / 65536 % 256), .int .u8 ((u : Int) / 256 % 256), .int .u8 ((u : Int) % 256)] 5 (0, 0)) from by rw [← hws]; exact heap_alloc_new ww _)
        have HW3 := Lib.hid (hw2.keep hbs)
        have HK3 := Lib.hid (hk2.trans (KeepW.below (x := x) (v := .slice Av M.length cv) hbs) (OwnN.refl _ _))
        have HBO := Lib.hid (show true = (true || (sgn u != y)) from rfl)
        have cc0 := hw2.c0
        have ff0 := hw2.fr 0
        have hzw : wr.heap.size = ww.heap.size := by rw [← hww]; simp
        clear hw2 hk2 hbs
        go_wp2_with (at_builtin; refine wpList_append_W rfl _ _ rfl rfl HW3.out.row ⟨ww.heap.size, 0, none⟩ 4 4 [.int .u8 ((u : Int) / 16777216), .int .u8 ((u : Int) / 65536 % 256), .int .u8 ((u : Int) / 256 % 256), .int .u8 ((u : Int) % 256)] rfl rfl (World.news_of_block HNS.out) (by simp [Value.oneCell']) (by decide) (by omega) HW3.out.base ?_; intro v7 w7 ho7 hg7 hat7; have HREL := Lib.hid (HFIN.out _ HBO.out ws w7 v7 HW3.out HK3.out (by rw [← HV.out]; exact ho7) hg7 hat7); have c7 : w7.cell? ⟨x, 0, none⟩ = some (.slice Av M.length cv) := hg7.cell HW3.out.c0 (fun e => HW3.out.apart e.symm); have f7 : w7.frozen? ⟨x, 0, none⟩ = false := (World.frozen?_of_block (hg7.block x HW3.out.lt (fun e => HW3.out.apart e.symm))).trans (HW3.out.fr 0); obtain ⟨A7, cv7, hv7⟩ := own_shape ho7; subst hv7; clear ho7 hg7 hat7)
        go_roundw
        case rel => exact HREL.out
        case measure => simp [intOf]; omega
    · have HF := Lib.hid (show WOut x bs v wide L xs w (.returned (.tuple #[])) wr from ⟨rfl, v', by rw [List.take_of_length_le (by omega)] at hws; exact hws, hkw, hon⟩)
      clear hws hkw hon
      go_wp2_with (fail)
      go_end0
      exact HF.out
/-- Numbers that were laid into a new block are written. -/
theorem num_new {x bs : Nat} {v : Value} {wide : Bool} {L : List Nat} {W ws : World} (ys : List Int) (h : WrS x bs v wide L W) (hws : W.alloc (.cells (ys.map (Value.int .i64)).toArray 3) = ws) (hL : L.length + 4 * ys.length ≤ 1099511627776) :
    Calls Try.prog 19 #[.pointer (some ⟨x, 0, none⟩), .slice (some ⟨W.heap.size, 0, none⟩) ys.length ys.length] ws (WOut x bs v wide L ys W) := by
  have hb : Below W.heap.size W ws := by rw [← hws]; exact (Below.refl _ _).alloc (Nat.le_refl _) _
  have hq : ws.heap[W.heap.size]? = some (.cells (ys.map (Value.int .i64)).toArray 3 (0, 0)) := by rw [← hws]; exact heap_alloc_new W _
  refine (numbers_any x bs v wide L _ _ ys ws (h.keep hb) ⟨rfl, fun _ => ⟨_, _, rfl, (Array.getElem?_eq_some_iff.1 hq).1, fun j hj => ?_⟩⟩ (fun _ b off e => ?_) hL).mono ?_
  · rw [Nat.zero_add, cell_of_row ws W.heap.size j _ _ _ hq]
    simp [hj]
  · injection e with e
    injection e with e1 e2 _
    have := h.lt
    refine ⟨by omega, fun q => ?_⟩
    have := (h.row.lt b q).2
    omega
  · rintro e w' ⟨rfl, hr⟩
    exact ⟨rfl, hr.pre hb⟩
/-- Numbers that lie below are written. -/
theorem num_old {x bs : Nat} {v : Value} {wide : Bool} {L : List Nat} {w0 W : World} {A : Option Addr} (c : Nat) (ys : List Int) (h : WrS x bs v wide L W) (hr : RIc w0 A ys.length ys) (hb : Below w0.heap.size w0 W) (hx : w0.heap.size ≤ x) (hbs : w0.heap.size ≤ bs) (hL : L.length + 4 * ys.length ≤ 1099511627776) :
    Calls Try.prog 19 #[.pointer (some ⟨x, 0, none⟩), .slice A ys.length c] W (WOut x bs v wide L ys W) := by
  refine numbers_any x bs v wide L _ _ ys W h ⟨rfl, fun hn => ?_⟩ (fun hn b off e => ?_) hL
  · obtain ⟨b, off, e, hlt, hc⟩ := hr.2 hn
    exact ⟨b, off, e, by have := hb.size; omega, fun j hj => (hb.cell hlt).trans (hc j hj)⟩
  · obtain ⟨b', off', e', hlt, _⟩ := hr.2 hn
    rw [e] at e'
    injection e' with e'
    injection e' with e1 e2 _
    refine ⟨by omega, fun q => ?_⟩
    have := (h.row.lt b q).1
    omega
end Go.Proofs.Ytboaifdkoemnbaa.Pk
/- Rows of elements that lead to memory elsewhere: how they grow, and how they are kept. One text for parts, terms, nodes, acts and ends. -/
namespace Go.Proofs.Ytboaifdkoemnbaa.Pk
set_option maxRecDepth 100000
open Go Go.RowKit Go.Proofs.Ytboaifdkoemnbaa.Sp Go.Proofs.Ytboaifdkoemnbaa.Pa Go.Proofs.Ytboaifdkoemnbaa.Te Go.Proofs.Ytboaifdkoemnbaa.Mi Go.Proofs.Ytboaifdkoemnbaa.De

/-- Blocks of p stay as they are. -/
def KeepQ (p : Nat → Prop) (w w' : World) : Prop := w.heap.size ≤ w'.heap.size ∧ ∀ b, p b → b < w.heap.size → w'.heap[b]? = w.heap[b]?
theorem KeepQ.below {p : Nat → Prop} {w w' : World} (hb : Below w.heap.size w w') : KeepQ p w w' := ⟨hb.size, fun b _ h => hb.block b h⟩
theorem KeepQ.cell {p : Nat → Prop} {w w' : World} (h : KeepQ p w w') {b i : Nat} (hp : p b) (hb : b < w.heap.size) : w'.cell? ⟨b, i, none⟩ = w.cell? ⟨b, i, none⟩ := World.cell?_of_block (a := ⟨b, i, none⟩) (h.2 b hp hb)
/-- How elements lie in cells. -/
structure Enc (α : Type) where
  E : TypeId
  S : TypeId
  sz : Nat
  bytes : Nat
  z : Value
  hS : Try.prog.underlying S = some (.slice E)
  info : (Try.prog.info? E).map (fun i => (i.zero, i.size, i.bytes)) = some (some z, sz, bytes)
  hz : z.cells.size = sz
  pos : 0 < sz
  few : bytes ≤ 128
  ok : (Nat → Prop) → World → α → List Value → Prop
  len : ∀ {p w a cs}, ok p w a cs → cs.length = sz
  one : ∀ {p w a cs}, ok p w a cs → ∀ u ∈ cs, u.oneCell' = true
  keep : ∀ {p q w w' a cs}, ok p w a cs → KeepQ p w w' → (∀ b, p b → b < w.heap.size → q b) → ok q w' a cs
/-- A slice's elements, somewhere in blocks of p. -/
def FarE {α : Type} (e : Enc α) (p : Nat → Prop) (w : World) (A : Option Addr) (l : List α) : Prop :=
  0 < l.length → ∃ b off, A = some ⟨b, off, none⟩ ∧ p b ∧ b < w.heap.size ∧ ∀ (j : Nat) (h : j < l.length), ∃ cs, (∀ i u, cs[i]? = some u → w.cell? ⟨b, off + j * e.sz + i, none⟩ = some u) ∧ e.ok p w l[j] cs
theorem FarE.keep {α : Type} {e : Enc α} {p q : Nat → Prop} {w w' : World} {A : Option Addr} {l : List α} (h : FarE e p w A l) (hk : KeepQ p w w') (hq : ∀ b, p b → b < w.heap.size → q b) : FarE e q w' A l := fun hn => by
  obtain ⟨b, off, e1, hp, hb, hc⟩ := h hn
  refine ⟨b, off, e1, hq b hp hb, Nat.lt_of_lt_of_le hb hk.1, fun j hj => ?_⟩
  obtain ⟨cs, h1, h2⟩ := hc j hj
  exact ⟨cs, fun i u hu => (hk.cell hp hb).trans (h1 i u hu), e.keep h2 hk hq⟩
theorem FarE.nil_ {α : Type} {e : Enc α} {p : Nat → Prop} {w : World} {A : Option Addr} : FarE e p w A [] := fun h => absurd h (by simp)
/-- A row of the call's own that grows. -/
def RowE {α : Type} (e : Enc α) (base : Nat) (w : World) (v : Value) (l : List α) : Prop :=
  ∃ css : List (List Value), w.ownsRow base e.E e.sz v l.length css.flatten ∧ css.length = l.length ∧ ∀ (j : Nat) (h : j < l.length) (h2 : j < css.length), e.ok (fun b => base ≤ b ∧ v.ownBlock ≠ some b) w l[j] css[j]
theorem flatten_at {sz : Nat} : ∀ (css : List (List Value)), (∀ c ∈ css, c.length = sz) → ∀ (j i : Nat) (h : j < css.length), i < sz → css.flatten[j * sz + i]? = css[j][i]?
  | [], _, j, i, h, _ => by simp at h
  | c :: css, h, 0, i, _, hi => by
    have hc := h c List.mem_cons_self
    rw [List.flatten_cons, Nat.zero_mul, Nat.zero_add, List.getElem?_append_left (by omega)]
    rfl
  | c :: css, h, j + 1, i, hj, hi => by
    have hc := h c List.mem_cons_self
    rw [List.flatten_cons, List.getElem?_append_right (by rw [hc, Nat.add_mul, Nat.one_mul]; omega), hc, show (j + 1) * sz + i - sz = j * sz + i by rw [Nat.add_mul, Nat.one_mul]; omega]
    exact flatten_at css (fun d hd => h d (List.mem_cons_of_mem _ hd)) j i (by simpa using hj) hi
section
variable {α : Type} {e : Enc α} {base : Nat} {w w' : World} {v : Value} {l : List α}
theorem RowE.nil_ (w : World) (base : Nat) : RowE e base w (.slice none 0 0) [] := ⟨[], World.ownsRow_nil _ _ _ _, rfl, fun j h => absurd h (by simp)⟩
theorem RowE.lt (h : RowE e base w v l) (k : Nat) (hk : v.ownBlock = some k) : base ≤ k ∧ k < w.heap.size := by
  obtain ⟨css, h1, _⟩ := h
  exact World.ownsRow.lt h1 k hk
theorem RowE.shape (h : RowE e base w v l) : ∃ A c, v = .slice A l.length c := by
  obtain ⟨css, h1, _⟩ := h
  rcases h1.2 with ⟨rfl, h0⟩ | ⟨g, cap, cur, rfl, _⟩
  · exact ⟨none, 0, by rw [h0]⟩
  · exact ⟨_, _, rfl⟩
theorem RowE.keep (h : RowE e base w v l) (hk : KeepQ (fun b => base ≤ b) w w') : RowE e base w' v l := by
  obtain ⟨css, h1, h2, h3⟩ := h
  exact ⟨css, ownsRow_keep h1 fun g hg => hk.2 g (World.ownsRow.lt h1 g hg).1 (World.ownsRow.lt h1 g hg).2, h2, fun j a b => e.keep (h3 j a b) ⟨hk.1, fun b hb hlt => hk.2 b hb.1 hlt⟩ fun b hb _ => hb⟩
theorem RowE.far (h : RowE e base w v l) : ∃ A c, v = .slice A l.length c ∧ FarE e (fun b => base ≤ b) w A l ∧ l.length ≤ c := by
  obtain ⟨css, h1, h2, h3⟩ := h
  have hcs : ∀ c ∈ css, c.length = e.sz := fun c hc => by
    obtain ⟨j, hj, rfl⟩ := List.getElem_of_mem hc
    exact e.len (h3 j (by omega) hj)
  rcases h1.2 with ⟨rfl, h0⟩ | ⟨g, cap, cur, rfl, hg, hr⟩
  · obtain rfl := List.eq_nil_of_length_eq_zero h0
    exact ⟨none, 0, rfl, FarE.nil_, Nat.le_refl _⟩
  · refine ⟨_, cap, rfl, fun hn => ⟨g, 0, rfl, hg, (World.ownsRow.lt h1 g rfl).2, fun j hj => ⟨css[j]'(by omega), fun i u hu => ?_, ?_⟩⟩, hr.2.1⟩
    · have hi : i < e.sz := by
        have := hcs css[j] (List.getElem_mem _)
        rw [← this]
        exact (List.getElem?_eq_some_iff.1 hu).1
      rw [Nat.zero_add, World.ownsRow.cellAt h1 (j * e.sz + i) (by
        have : (j + 1) * e.sz ≤ l.length * e.sz := Nat.mul_le_mul_right _ hj
        rw [Nat.add_mul, Nat.one_mul] at this
        omega), flatten_at css hcs j i (by omega) hi]
      exact hu
    · exact e.keep (h3 j hj (by omega)) ⟨Nat.le_refl _, fun _ _ _ => rfl⟩ fun b hb _ => hb.1
/-- append of one element that lies in a block of its own. -/
theorem RowE.run (h : RowE e base w v l) (ty : TypeId) (ad : Addr) (c : Nat) {a : α} {cs : List Value} (ha : e.ok (fun b => base ≤ b ∧ v.ownBlock ≠ some b) w a cs) (hnews : ∀ j u, cs[j]? = some u → w.cell? (ad.add j) = some u) (hb : l.length + 1 ≤ 1099511627776) (hbase : base ≤ w.heap.size) :
    ∃ v' w', (Builtin.append_ #[e.S, e.S] ty #[v, .slice (some ad) 1 c]).run Try.prog w = .ok v' w' ∧ RowE e base w' v' (l ++ [a]) ∧ w.grownBy w' v.ownBlock ∧ OwnN v v' w := by
  obtain ⟨css, h1, h2, h3⟩ := h
  obtain ⟨i0, hi, hz0, hz1, hz2⟩ := info_parts e.info
  obtain ⟨v', w', r1, r2, r3, _, r5⟩ := run_append_own_at (P := Try.prog) w base e.S ty e.E i0 _ e.sz e.bytes e.hS hi hz0 hz1 hz2 e.hz e.pos v l.length css.flatten h1 ad 1 c cs (by rw [e.len ha, Nat.one_mul]) hnews (e.one ha) (by simp only [maxLen]; omega) (by
    have : (l.length + 1) * e.bytes ≤ (l.length + 1) * 128 := Nat.mul_le_mul_left _ e.few
    omega) hbase
  have hon : OwnN v v' w := fun k hk => by
    rcases r5 with q | q
    · exact .inl (by rw [← q]; exact hk)
    · rw [q] at hk
      injection hk with hk
      exact .inr (by omega)
  refine ⟨v', w', r1, ⟨css ++ [cs], ?_, by simp [h2], fun j hj hj2 => ?_⟩, r3, hon⟩
  · rw [List.length_append, List.length_singleton, List.flatten_append]
    simpa using r2
  · have hkq : KeepQ (fun b => base ≤ b ∧ v.ownBlock ≠ some b) w w' := ⟨r3.size, fun b hb hlt => r3.block b hlt fun q => hb.2 q.symm⟩
    have hnx : ∀ b, base ≤ b ∧ v.ownBlock ≠ some b → b < w.heap.size → base ≤ b ∧ v'.ownBlock ≠ some b := fun b hb hlt => ⟨hb.1, fun q => by
      rcases hon b q with z | z
      · exact hb.2 z
      · omega⟩
    rcases Nat.lt_or_ge j l.length with q | q
    · rw [List.getElem_append_left q, List.getElem_append_left (by omega)]
      exact e.keep (h3 j q (by omega)) hkq hnx
    · have hje : j = l.length := by simp at hj; omega
      subst hje
      rw [List.getElem_append_right (Nat.le_refl _), List.getElem_append_right (by omega)]
      simp only [h2, Nat.sub_self, List.getElem_cons_zero]
      exact e.keep ha hkq hnx
end
theorem wpList_append_E {α : Type} {e : Enc α} {w : World} {ops : Array Oper} {rest : List Oper} {o : Oper} {a : Act} {Q : Exit → Act → World → Prop} (hgd : o.guard = none) (s x : Operand)
    (ho : o.op = .call { callee := .builtin .append, args := #[s, x], argTypes := #[e.S, e.S] })
    {base : Nat} {v : Value} {l : List α} (hs : a.eval s = v) (hrow : RowE e base w v l) (ad : Addr) (c : Nat) {y : α} {cs : List Value} (hx : a.eval x = .slice (some ad) 1 c) (hy : e.ok (fun b => base ≤ b ∧ v.ownBlock ≠ some b) w y cs) (hnews : ∀ j u, cs[j]? = some u → w.cell? (ad.add j) = some u) (hb : l.length + 1 ≤ 1099511627776) (hbase : base ≤ w.heap.size)
    (h : ∀ v' w', RowE e base w' v' (l ++ [y]) → w.grownBy w' v.ownBlock → OwnN v v' w → wpList Try.prog ops Q rest (a.put o.dst v') w') : wpList Try.prog ops Q (o :: rest) a w := by
  refine wpList_plain hgd fun K hK => ?_
  obtain ⟨v', w', hr, h2, h3, h4⟩ := hrow.run o.type ad c hy hnews hb hbase
  unfold Oper.wp execOp
  simp only [ho, resolve, invoke, builtin, Sem.run_bind, Sem.run_pure, Result.andThen_ok, List.map_toArray, List.map_cons, List.map_nil, hs, hx, hr]
  exact hK _ _ (h v' w' h2 h3 h4)
theorem wp_append_E {α : Type} {e : Enc α} {w : World} {o : Oper} {a : Act} {K : Act → World → Prop} {Q : Exit → Act → World → Prop} (s x : Operand)
    (ho : o.op = .call { callee := .builtin .append, args := #[s, x], argTypes := #[e.S, e.S] })
    {base : Nat} {v : Value} {l : List α} (hs : a.eval s = v) (hrow : RowE e base w v l) (ad : Addr) (c : Nat) {y : α} {cs : List Value} (hx : a.eval x = .slice (some ad) 1 c) (hy : e.ok (fun b => base ≤ b ∧ v.ownBlock ≠ some b) w y cs) (hnews : ∀ j u, cs[j]? = some u → w.cell? (ad.add j) = some u) (hb : l.length + 1 ≤ 1099511627776) (hbase : base ≤ w.heap.size)
    (h : ∀ v' w', RowE e base w' v' (l ++ [y]) → w.grownBy w' v.ownBlock → OwnN v v' w → K (a.put o.dst v') w') : Oper.wp Try.prog o a w K Q := by
  obtain ⟨v', w', hr, h2, h3, h4⟩ := hrow.run o.type ad c hy hnews hb hbase
  unfold Oper.wp execOp
  simp only [ho, resolve, invoke, builtin, Sem.run_bind, Sem.run_pure, Result.andThen_ok, List.map_toArray, List.map_cons, List.map_nil, hs, hx, hr]
  exact h v' w' h2 h3 h4
/-- Parts, terms, nodes, acts, ends, integers. -/
def ePart : Enc PT where
  E := 77
  S := 69
  sz := 4
  bytes := 32
  z := .agg #[.int .i64 0, .int .i64 0, .int .i64 0, .int .i64 0]
  hS := Try.underlying69
  info := by kernel_rfl
  hz := rfl
  pos := by decide
  few := by decide
  ok := fun _ _ q cs => cs = [.int .i64 q.1, .int .i64 q.2.1, .int .i64 q.2.2.1, .int .i64 q.2.2.2]
  len := fun h => by subst h; rfl
  one := fun h u hu => by
    subst h
    simp only [List.mem_cons, List.not_mem_nil, or_false] at hu
    rcases hu with rfl | rfl | rfl | rfl <;> rfl
  keep := fun h _ _ => h
def eTerm : Enc TmL where
  E := 71
  S := 47
  sz := 6
  bytes := 64
  z := .agg #[.int .i64 0, .int .i64 0, .int .i64 0, .int .i64 0, .int .i64 0, .slice none 0 0]
  hS := Try.underlying47
  info := by kernel_rfl
  hz := rfl
  pos := by decide
  few := by decide
  ok := fun p w t cs => ∃ A c, cs = [.int .i64 t.b, .int .i64 t.d, .int .i64 t.t, .int .i64 t.u, .int .i64 t.s, .slice A t.ps.length c] ∧ FarE ePart p w A t.ps ∧ t.ps.length ≤ c ∧ t.ps.length ≤ maxLen
  len := fun ⟨_, _, h, _⟩ => by subst h; rfl
  one := fun ⟨_, _, h, _⟩ u hu => by
    subst h
    simp only [List.mem_cons, List.not_mem_nil, or_false] at hu
    rcases hu with rfl | rfl | rfl | rfl | rfl | rfl <;> rfl
  keep := fun ⟨A, c, h1, h2, h3⟩ hk hq => ⟨A, c, h1, h2.keep hk hq, h3⟩
def eInt : Enc Int where
  E := 3
  S := 43
  sz := 1
  bytes := 8
  z := .int .i64 0
  hS := Try.underlying43
  info := by kernel_rfl
  hz := rfl
  pos := by decide
  few := by decide
  ok := fun _ _ x cs => cs = [.int .i64 x]
  len := fun h => by subst h; rfl
  one := fun h u hu => by
    subst h
    simp only [List.mem_cons, List.not_mem_nil, or_false] at hu
    rw [hu]
    rfl
  keep := fun h _ _ => h
def eNode : Enc NdL where
  E := 45
  S := 23
  sz := 3
  bytes := 40
  z := .agg #[.int .i64 0, .slice none 0 0, .int .i64 0]
  hS := Try.underlying23
  info := by kernel_rfl
  hz := rfl
  pos := by decide
  few := by decide
  ok := fun p w n cs => ∃ A c, cs = [.int .i64 n.1, .slice A n.2.2.length c, .int .i64 n.2.1] ∧ FarE eInt p w A n.2.2 ∧ n.2.2.length ≤ c ∧ n.2.2.length ≤ maxLen ∧ ∀ x ∈ n.2.2, IntR x
  len := fun ⟨_, _, h, _⟩ => by subst h; rfl
  one := fun ⟨_, _, h, _⟩ u hu => by
    subst h
    simp only [List.mem_cons, List.not_mem_nil, or_false] at hu
    rcases hu with rfl | rfl | rfl <;> rfl
  keep := fun ⟨A, c, h1, h2, h3⟩ hk hq => ⟨A, c, h1, h2.keep hk hq, h3⟩
def eAct : Enc AcL where
  E := 49
  S := 24
  sz := 3
  bytes := 40
  z := .agg #[.int .i64 0, .int .i64 0, .slice none 0 0]
  hS := Try.underlying24
  info := by kernel_rfl
  hz := rfl
  pos := by decide
  few := by decide
  ok := fun p w n cs => ∃ A c, cs = [.int .i64 n.1, .int .i64 n.2.1, .slice A n.2.2.length c] ∧ FarE eTerm p w A n.2.2 ∧ n.2.2.length ≤ c ∧ n.2.2.length ≤ maxLen
  len := fun ⟨_, _, h, _⟩ => by subst h; rfl
  one := fun ⟨_, _, h, _⟩ u hu => by
    subst h
    simp only [List.mem_cons, List.not_mem_nil, or_false] at hu
    rcases hu with rfl | rfl | rfl <;> rfl
  keep := fun ⟨A, c, h1, h2, h3⟩ hk hq => ⟨A, c, h1, h2.keep hk hq, h3⟩
def eEnd : Enc (List TmL) where
  E := 47
  S := 25
  sz := 1
  bytes := 24
  z := .slice none 0 0
  hS := Try.underlying25
  info := by kernel_rfl
  hz := rfl
  pos := by decide
  few := by decide
  ok := fun p w l cs => ∃ A c, cs = [.slice A l.length c] ∧ FarE eTerm p w A l ∧ l.length ≤ c ∧ l.length ≤ maxLen
  len := fun ⟨_, _, h, _⟩ => by subst h; rfl
  one := fun ⟨_, _, h, _⟩ u hu => by
    subst h
    simp only [List.mem_cons, List.not_mem_nil, or_false] at hu
    rw [hu]
    rfl
  keep := fun ⟨A, c, h1, h2, h3⟩ hk hq => ⟨A, c, h1, h2.keep hk hq, h3⟩
section
variable {p : Nat → Prop} {w : World} {A : Option Addr}
theorem far_parts {l : List PT} (h : FarE ePart p w A l) : RP w w.heap.size A l.length l := ⟨rfl, fun hn => by
  obtain ⟨b, off, e, _, hb, hc⟩ := h hn
  refine ⟨b, off, e, hb, fun j hj => ?_⟩
  obtain ⟨cs, h1, rfl⟩ := hc j hj
  exact ⟨h1 0 _ rfl, h1 1 _ rfl, h1 2 _ rfl, h1 3 _ rfl⟩⟩
theorem far_terms {l : List TmL} (h : FarE eTerm p w A l) : RTm w A l.length l := ⟨rfl, fun hn => by
  obtain ⟨b, off, e, _, hb, hc⟩ := h hn
  refine ⟨b, off, e, hb, fun j hj => ?_⟩
  obtain ⟨cs, h1, A', c', rfl, h2, h3, h4⟩ := hc j hj
  exact ⟨h1 0 _ rfl, h1 1 _ rfl, h1 2 _ rfl, h1 3 _ rfl, h1 4 _ rfl, A', c', h1 5 _ rfl, far_parts h2, h3, h4⟩⟩
theorem far_nodes {l : List NdL} (h : FarE eNode p w A l) : RNd w A l.length l := ⟨rfl, fun hn => by
  obtain ⟨b, off, e, _, hb, hc⟩ := h hn
  refine ⟨b, off, e, hb, fun j hj => ?_⟩
  obtain ⟨cs, h1, A', c', rfl, h2, h3, h4, h5⟩ := hc j hj
  refine ⟨h1 0 _ rfl, h1 2 _ rfl, A', c', h1 1 _ rfl, ⟨rfl, fun hm => ?_, h5⟩, h3, h4⟩
  obtain ⟨b2, off2, e2, _, hb2, hc2⟩ := h2 hm
  refine ⟨b2, off2, e2, hb2, fun k hk => ?_⟩
  obtain ⟨cs2, h6, rfl⟩ := hc2 k hk
  have := h6 0 _ rfl
  rwa [show off2 + k * eInt.sz + 0 = off2 + k from by show off2 + k * 1 + 0 = _; omega] at this⟩
theorem far_acts {l : List AcL} (h : FarE eAct p w A l) : RAc w A l.length l := ⟨rfl, fun hn => by
  obtain ⟨b, off, e, _, hb, hc⟩ := h hn
  refine ⟨b, off, e, hb, fun j hj => ?_⟩
  obtain ⟨cs, h1, A', c', rfl, h2, h3, h4⟩ := hc j hj
  exact ⟨h1 0 _ rfl, h1 1 _ rfl, A', c', h1 2 _ rfl, far_terms h2, h3, h4⟩⟩
theorem far_ends {l : List (List TmL)} (h : FarE eEnd p w A l) : REn w A l.length l := ⟨rfl, fun hn => by
  obtain ⟨b, off, e, _, hb, hc⟩ := h hn
  refine ⟨b, off, e, hb, fun j hj => ?_⟩
  obtain ⟨cs, h1, A', c', rfl, h2, h3, h4⟩ := hc j hj
  have := h1 0 _ rfl
  rw [show off + j * eEnd.sz + 0 = off + j from by show off + j * 1 + 0 = _; omega] at this
  exact ⟨A', c', this, far_terms h2, h3, h4⟩⟩
end
end Go.Proofs.Ytboaifdkoemnbaa.Pk
/- The walk of (*pack.reader).parts. -/
namespace Go.Proofs.Ytboaifdkoemnbaa.Pk
set_option maxRecDepth 100000
open Go Go.RowKit Go.Proofs.Ytboaifdkoemnbaa.Sp Go.Proofs.Ytboaifdkoemnbaa.Pa Go.Proofs.Ytboaifdkoemnbaa.Te Go.Proofs.Ytboaifdkoemnbaa.Mi Go.Proofs.Ytboaifdkoemnbaa.De Go.Proofs.Ytboaifdkoemnbaa.Wo

theorem rdMany_snoc {α : Type} (f : Rd → α × Rd) : ∀ (k : Nat) (s : Rd), rdMany f (k + 1) s = ((rdMany f k s).1 ++ [(f (rdMany f k s).2).1], (f (rdMany f k s).2).2)
  | 0, s => rfl
  | k + 1, s => by
    show ((f s).1 :: (rdMany f (k + 1) (f s).2).1, (rdMany f (k + 1) (f s).2).2) = _
    rw [rdMany_snoc f k (f s).2]
    rfl
theorem KeepR.grown {x : Nat} {w ws w7 : World} {row : Option Nat} (h : KeepR x w ws) (hg : ws.grownBy w7 row) (hr : ∀ g, row = some g → w.heap.size ≤ g) : KeepR x w w7 :=
  ⟨hg.os.trans h.os, hg.tape.trans h.tape, hg.output.trans h.output, Nat.le_trans h.size hg.size, fun b hb hx => (hg.block b (Nat.lt_of_lt_of_le hb h.size) (fun e => by have := hr b e.symm; omega)).trans (h.block b hb hx)⟩
theorem RdS.grown {x B0 : Nat} {s : Rd} {w w' : World} {row : Option Nat} (h : RdS x B0 s w) (hg : w.grownBy w' row) (hr : ∀ g, row = some g → x < g) : RdS x B0 s w' := by
  obtain ⟨A, c, h1, h2, h3⟩ := h.box
  have hlt := h.lt
  have hlow := h.low
  have hk : ∀ b, b ≤ x → w'.heap[b]? = w.heap[b]? := fun b hb => hg.block b (by omega) (fun e => by have := hr b e.symm; omega)
  exact ⟨⟨A, c, (hk x (Nat.le_refl _)).trans h1, h2.keep fun p hp => World.cell?_of_block (hk p.block (by omega)), h3⟩, h.low, h.byte⟩
theorem KeepR.q {x : Nat} {w w' : World} (h : KeepR x w w') {p : Nat → Prop} (hp : ∀ b, p b → b ≠ x) : KeepQ p w w' := ⟨h.size, fun b hb hlt => h.block b hlt (hp b hb)⟩
/-- What is read lies in new memory. -/
def ReadR {α : Type} (e : Enc α) (x B0 : Nat) (r : List α × Rd) (w : World) (en : Ending) (w' : World) : Prop := ∃ A c, en = .returned (.slice A r.1.length c) ∧ FarE e (fun b => w.heap.size ≤ b) w' A r.1 ∧ r.1.length ≤ c ∧ RdS x B0 r.2 w' ∧ KeepR x w w'
/-- The loop of a reader of lists: k elements were read. -/
def RlRel {α : Type} (e : Enc α) (f : Rd → α × Rd) (n x B0 : Nat) (s : Rd) (w : World) (v iv : Value) (wr : World) : Prop := ∃ k : Nat, k ≤ n ∧ iv = .int .i64 k ∧ RowE e w.heap.size wr v (rdMany f k s).1 ∧ RdS x B0 (rdMany f k s).2 wr ∧ KeepR x w wr
theorem rd_left_le (s : Rd) : (rdNum s).2.left.length ≤ s.left.length := by
  unfold rdNum
  rcases s with ⟨l, wr⟩
  match l with
  | [] => exact Nat.le_refl _
  | [_] => exact Nat.le_refl _
  | [_, _] => exact Nat.le_refl _
  | [_, _, _] => exact Nat.le_refl _
  | _ :: _ :: _ :: _ :: l => simp only [rdN, List.length_cons]; omega
theorem rdCount_left (m : Nat) (s : Rd) : (rdCount m s).2.left.length ≤ s.left.length := by
  unfold rdCount
  split
  · exact rd_left_le s
  · exact rd_left_le s
set_option maxHeartbeats 8000000 in
theorem rparts_any (x B0 : Nat) (s : Rd) (w : World) (h : RdS x B0 s w) (hl : s.left.length ≤ 1099511627776) :
    Calls Try.prog 46 #[.pointer (some ⟨x, 0, none⟩)] w (ReadR ePart x B0 (rdParts s) w) := by
  obtain ⟨A, c, hb, hr, hc⟩ := h.box
  have c0 : w.cell? ⟨x, 0, none⟩ = some (.slice A s.left.length c) := by rw [cell_of_row w x 0 _ _ _ hb]; rfl
  have hxl := h.lt
  have e16 : ((s.left.length / 16 : Nat) : Int) = (s.left.length : Int) / 16 := by omega
  have hcc := rcount_any x B0 (s.left.length / 16) s w h
  rw [e16] at hcc
  have HC := Lib.hid hcc
  have hle := rdCount_le (s.left.length / 16) s
  obtain ⟨n, hn⟩ : ∃ n, (rdCount (s.left.length / 16) s).1 = n := ⟨_, rfl⟩
  obtain ⟨s1, hs1⟩ : ∃ s1, (rdCount (s.left.length / 16) s).2 = s1 := ⟨_, rfl⟩
  have HR := Lib.hid (show rdParts s = rdMany rdPart n s1 from by unfold rdParts rdList; simp only [hn, hs1])
  have HN := Lib.hid hn
  have HS1 := Lib.hid hs1
  rw [hn] at hle
  have hnb : n ≤ 1099511627775 := by omega
  clear h hb hr hn hs1 hcc e16 hle
  go_enter Try.func46, Try.ntmps46
  go_wp2_with (fail)
  refine HC.out.mono ?_
  rintro e w1 ⟨rfl, hr1, hk1⟩
  rw [HS1.out] at hr1
  rw [HN.out]
  have HR1 := Lib.hid hr1
  have HK1 := Lib.hid hk1
  clear hr1 hk1
  go_wp2_with (fail)
  go_loopw [3, 12] (fun v iv wr => RlRel ePart rdPart n x B0 s1 w v iv wr) (fun _ i _ => n - (intOf i).toNat)
  case atStart => exact ⟨0, Nat.zero_le _, rfl, RowE.nil_ _ _, HR1.out, HK1.out⟩
  case round =>
    obtain ⟨k, hk, rfl, hrow, hs, hkr⟩ := hrel
    obtain ⟨Av, cv, hv⟩ := hrow.shape
    subst hv
    by_cases hlt : k < n
    · obtain ⟨sk, hsk⟩ : ∃ sk, (rdMany rdPart k s1).2 = sk := ⟨_, rfl⟩
      have HNX := Lib.hid (rdMany_snoc rdPart k s1)
      have hlen := rdMany_length rdPart k s1
      obtain ⟨lk, hlk⟩ : ∃ lk, (rdMany rdPart k s1).1 = lk := ⟨_, rfl⟩
      rw [hsk] at hs
      rw [hlk] at hrow hlen
      have HSK := Lib.hid hsk
      have HLK := Lib.hid hlk
      have HROW := Lib.hid hrow
      have HKR := Lib.hid hkr
      have hzw := hkr.size
      have C1 := Lib.hid (rnumber_any x B0 sk wr hs)
      have HLEN := Lib.hid hlen
      rw [hlk]
      clear hlen hsk hlk hrow hkr hs
      go_wp2_with (fail)
      refine C1.out.mono ?_
      rintro e w2 ⟨rfl, hs2, hk2⟩
      have C2 := Lib.hid (rnumber_any x B0 _ w2 hs2)
      have HQ2 := Lib.hid hk2
      clear hs2 hk2
      go_wp2_with (fail)
      refine C2.out.mono ?_
      rintro e w3 ⟨rfl, hs3, hk3⟩
      have C3 := Lib.hid (rnumber_any x B0 _ w3 hs3)
      have HQ3 := Lib.hid (HQ2.out.trans hk3)
      clear hs3 hk3
      go_wp2_with (fail)
      refine C3.out.mono ?_
      rintro e w4 ⟨rfl, hs4, hk4⟩
      have C4 := Lib.hid (rnumber_any x B0 _ w4 hs4)
      have HQ4 := Lib.hid (HQ3.out.trans hk4)
      clear hs4 hk4
      go_wp2_with (fail)
      refine C4.out.mono ?_
      rintro e w5 ⟨rfl, hs5, hk5⟩
      have HQ5 := Lib.hid (HQ4.out.trans hk5)
      obtain ⟨pt, hpt⟩ : ∃ pt, (rdPart sk).1 = pt := ⟨_, rfl⟩
      have hp0 : (rdNum sk).1 = pt.1 := by rw [← hpt]; rfl
      have hp1 : (rdNum (rdNum sk).2).1 = pt.2.1 := by rw [← hpt]; rfl
      have hp2 : (rdNum (rdNum (rdNum sk).2).2).1 = pt.2.2.1 := by rw [← hpt]; rfl
      have hp3 : (rdNum (rdNum (rdNum (rdNum sk).2).2).2).1 = pt.2.2.2 := by rw [← hpt]; rfl
      have HS5 := Lib.hid (show RdS x B0 (rdPart sk).2 w5 from hs5)
      rw [hp0, hp1, hp2, hp3]
      have HPT := Lib.hid hpt
      obtain ⟨ws, hws⟩ : ∃ ws, w5.alloc (.cells #[.int .i64 pt.1, .int .i64 pt.2.1, .int .i64 pt.2.2.1, .int .i64 pt.2.2.2] 77) = ws := ⟨_, rfl⟩
      have hbs : Below w5.heap.size w5 ws := by rw [← hws]; exact (Below.refl _ _).alloc (Nat.le_refl _) _
      have HNS := Lib.hid (show ws.heap[w5.heap.size]? = some (.cells #[.int .i64 pt.1, .int .i64 pt.2.1, .int .i64 pt.2.2.1, .int .i64 pt.2.2.2] 77 (0, 0)) from by rw [← hws]; exact heap_alloc_new w5 _)
      have HKS := Lib.hid (HQ5.out.trans (KeepR.below hbs))
      have HRS := Lib.hid (HROW.out.keep (HKS.out.q (p := fun b => w.heap.size ≤ b) (fun b hb => by omega)))
      have HSS := Lib.hid (HS5.out.keep hbs)
      have hzs : w.heap.size ≤ ws.heap.size := Nat.le_trans hzw HKS.out.size
      clear hs5 hk5 hp0 hp1 hp2 hp3 hpt hbs
      go_wp2_with (at_builtin; refine wpList_append_E (e := ePart) rfl _ _ rfl rfl HRS.out ⟨w5.heap.size, 0, none⟩ 1 (y := pt) (cs := [.int .i64 pt.1, .int .i64 pt.2.1, .int .i64 pt.2.2.1, .int .i64 pt.2.2.2]) rfl rfl (World.news_of_block HNS.out) (by have := HLEN.out; omega) hzs ?_; intro v7 w7 hrow7 hg7 hon7; have HREL := Lib.hid (show RlRel ePart rdPart n x B0 s1 w v7 (.int .i64 ((k : Int) + 1)) w7 from ⟨k + 1, by omega, by go_num, by rw [HNX.out, HSK.out, HLK.out, HPT.out]; exact hrow7, by rw [HNX.out, HSK.out]; exact HSS.out.grown hg7 (fun g e => by have := (HRS.out.lt g e).1; omega), (HKR.out.trans HKS.out).grown hg7 (fun g e => (HRS.out.lt g e).1)⟩); obtain ⟨A7, c7, hv7⟩ := hrow7.shape; subst hv7; clear hrow7 hg7 hon7)
      go_roundw
      case rel => exact (by have h9 := HREL.out; rw [List.length_append, List.length_singleton] at h9; exact h9)
      case measure => simp [intOf]; omega
    · have HF := Lib.hid (show ReadR ePart x B0 (rdParts s) w (.returned (.slice Av (rdMany rdPart k s1).1.length cv)) wr from by
        obtain rfl : k = n := by omega
        rw [HR.out]
        obtain ⟨A', c', e, hf, hcc⟩ := hrow.far
        injection e with e1 _ e3
        subst e1 e3
        exact ⟨Av, cv, rfl, hf, hcc, hs, hkr⟩)
      clear hrow hs hkr
      go_wp2_with (fail)
      go_ret
      exact HF.out
end Go.Proofs.Ytboaifdkoemnbaa.Pk
/- The walk of (*pack.reader).terms. -/
namespace Go.Proofs.Ytboaifdkoemnbaa.Pk
set_option maxRecDepth 100000
open Go Go.RowKit Go.Proofs.Ytboaifdkoemnbaa.Sp Go.Proofs.Ytboaifdkoemnbaa.Pa Go.Proofs.Ytboaifdkoemnbaa.Te Go.Proofs.Ytboaifdkoemnbaa.Mi Go.Proofs.Ytboaifdkoemnbaa.De Go.Proofs.Ytboaifdkoemnbaa.Wo

/-- Reading never leaves more than there was. -/
def LeftLe {α : Type} (f : Rd → α × Rd) : Prop := ∀ s, (f s).2.left.length ≤ s.left.length
theorem LeftLe.num : LeftLe rdNum := rd_left_le
theorem LeftLe.then_ {α β : Type} {f : Rd → α × Rd} {g : α → Rd → β × Rd} (hf : LeftLe f) (hg : ∀ a, LeftLe (g a)) : LeftLe (rdThen f g) := fun s => Nat.le_trans (hg _ _) (hf s)
theorem LeftLe.many {α : Type} {f : Rd → α × Rd} (hf : LeftLe f) : ∀ n, LeftLe (rdMany f n)
  | 0, _ => Nat.le_refl _
  | n + 1, s => Nat.le_trans (LeftLe.many hf n _) (hf s)
theorem LeftLe.list {α : Type} {f : Rd → α × Rd} (hf : LeftLe f) (m : Rd → Nat) : LeftLe (rdList m f) := fun s => Nat.le_trans (LeftLe.many hf _ _) (rdCount_left _ s)
theorem LeftLe.map {α β : Type} {f : Rd → α × Rd} (hf : LeftLe f) (h : α → β) : LeftLe (rdMap h f) := fun s => hf s
theorem LeftLe.part : LeftLe rdPart := LeftLe.num.then_ fun _ => LeftLe.num.then_ fun _ => LeftLe.num.then_ fun _ => LeftLe.num
theorem LeftLe.parts : LeftLe rdParts := LeftLe.part.list _
theorem LeftLe.term : LeftLe rdTerm := (LeftLe.num.then_ fun _ => LeftLe.num.then_ fun _ => LeftLe.num.then_ fun _ => LeftLe.num.then_ fun _ => LeftLe.num.then_ fun _ => LeftLe.parts).map _
theorem LeftLe.terms : LeftLe rdTerms := LeftLe.term.list _
theorem parts_len_le (s : Rd) (hl : s.left.length ≤ 1099511627776) : (rdParts s).1.length ≤ maxLen := by
  have := rdList_length (fun s => s.left.length / 16) rdPart s
  unfold rdParts maxLen
  omega
set_option maxHeartbeats 8000000 in
theorem rterms_any (x B0 : Nat) (s : Rd) (w : World) (h : RdS x B0 s w) (hl : s.left.length ≤ 1099511627776) :
    Calls Try.prog 41 #[.pointer (some ⟨x, 0, none⟩)] w (ReadR eTerm x B0 (rdTerms s) w) := by
  have hxl := h.lt
  have HC := Lib.hid (rcount_any x B0 64 s w h)
  have hle := rdCount_le 64 s
  obtain ⟨n, hn⟩ : ∃ n, (rdCount 64 s).1 = n := ⟨_, rfl⟩
  obtain ⟨s1, hs1⟩ : ∃ s1, (rdCount 64 s).2 = s1 := ⟨_, rfl⟩
  have hl1 : s1.left.length ≤ 1099511627776 := by rw [← hs1]; exact Nat.le_trans (rdCount_left 64 s) hl
  have HLM := Lib.hid (fun k => show (rdMany rdTerm k s1).2.left.length ≤ 1099511627776 from Nat.le_trans (LeftLe.term.many k s1) hl1)
  have HR := Lib.hid (show rdTerms s = rdMany rdTerm n s1 from by unfold rdTerms rdList; simp only [hn, hs1])
  have HN := Lib.hid hn
  have HS1 := Lib.hid hs1
  rw [hn] at hle
  clear h hn hs1 hl1
  go_enter Try.func41, Try.ntmps41
  go_wp2_with (fail)
  refine HC.out.mono ?_
  rintro e w1 ⟨rfl, hr1, hk1⟩
  rw [HS1.out] at hr1
  rw [HN.out]
  have HR1 := Lib.hid hr1
  have HK1 := Lib.hid hk1
  clear hr1 hk1
  go_wp2_with (fail)
  go_loopw [3, 6] (fun v iv wr => RlRel eTerm rdTerm n x B0 s1 w v iv wr) (fun _ i _ => n - (intOf i).toNat)
  case atStart => exact ⟨0, Nat.zero_le _, rfl, RowE.nil_ _ _, HR1.out, HK1.out⟩
  case round =>
    obtain ⟨k, hk, rfl, hrow, hs, hkr⟩ := hrel
    obtain ⟨Av, cv, hv⟩ := hrow.shape
    subst hv
    by_cases hlt : k < n
    · obtain ⟨sk, hsk⟩ : ∃ sk, (rdMany rdTerm k s1).2 = sk := ⟨_, rfl⟩
      have HNX := Lib.hid (rdMany_snoc rdTerm k s1)
      have hlen := rdMany_length rdTerm k s1
      have hsl := HLM.out k
      obtain ⟨lk, hlk⟩ : ∃ lk, (rdMany rdTerm k s1).1 = lk := ⟨_, rfl⟩
      rw [hsk] at hs hsl
      rw [hlk] at hrow hlen
      have HSK := Lib.hid hsk
      have HLK := Lib.hid hlk
      have HROW := Lib.hid hrow
      have HKR := Lib.hid hkr
      have hzw := hkr.size
      have HLEN := Lib.hid hlen
      have HSL := Lib.hid hsl
      have C1 := Lib.hid (rnumber_any x B0 sk wr hs)
      rw [hlk]
      clear hlen hsk hlk hrow hkr hs hsl
      go_wp2_with (fail)
      refine C1.out.mono ?_
      rintro e w2 ⟨rfl, hs2, hk2⟩
      have HQ2 := Lib.hid (hk2)
      have C2 := Lib.hid (rnumber_any x B0 _ w2 hs2)
      clear hs2 hk2
      go_wp2_with (fail)
      refine C2.out.mono ?_
      rintro e w3 ⟨rfl, hs3, hk3⟩
      have HQ3 := Lib.hid (HQ2.out.trans hk3)
      have C3 := Lib.hid (rnumber_any x B0 _ w3 hs3)
      clear hs3 hk3
      go_wp2_with (fail)
      refine C3.out.mono ?_
      rintro e w4 ⟨rfl, hs4, hk4⟩
      have HQ4 := Lib.hid (HQ3.out.trans hk4)
      have C4 := Lib.hid (rnumber_any x B0 _ w4 hs4)
      clear hs4 hk4
      go_wp2_with (fail)
      refine C4.out.mono ?_
      rintro e w5 ⟨rfl, hs5, hk5⟩
      have HQ5 := Lib.hid (HQ4.out.trans hk5)
      have C5 := Lib.hid (rnumber_any x B0 _ w5 hs5)
      clear hs5 hk5
      go_wp2_with (fail)
      refine C5.out.mono ?_
      rintro e w6 ⟨rfl, hs6, hk6⟩
      have HQ6 := Lib.hid (HQ5.out.trans hk6)
      have C6 := Lib.hid (rparts_any x B0 _ w6 hs6 (by have := HSL.out; have h1 := LeftLe.num (rdNum (rdNum (rdNum (rdNum sk).2).2).2).2; have h2 := LeftLe.num (rdNum (rdNum (rdNum sk).2).2).2; have h3 := LeftLe.num (rdNum (rdNum sk).2).2; have h4 := LeftLe.num (rdNum sk).2; have h5 := LeftLe.num sk; omega))
      clear hs6 hk6
      go_wp2_with (fail)
      refine C6.out.mono ?_
      rintro e w7 ⟨Ap, cp, rfl, hf, hcp, hs7, hk7⟩
      have HQ7 := Lib.hid (HQ6.out.trans hk7)
      have hml := parts_len_le (rdNum (rdNum (rdNum (rdNum (rdNum sk).2).2).2).2).2 (by have := HSL.out; have h1 := LeftLe.num (rdNum (rdNum (rdNum (rdNum sk).2).2).2).2; have h2 := LeftLe.num (rdNum (rdNum (rdNum sk).2).2).2; have h3 := LeftLe.num (rdNum (rdNum sk).2).2; have h4 := LeftLe.num (rdNum sk).2; have h5 := LeftLe.num sk; omega)
      obtain ⟨tm, htm⟩ : ∃ tm, (rdTerm sk).1 = tm := ⟨_, rfl⟩
      have hp0 : (rdNum sk).1 = tm.b := by rw [← htm]; rfl
      have hp1 : (rdNum (rdNum sk).2).1 = tm.d := by rw [← htm]; rfl
      have hp2 : (rdNum (rdNum (rdNum sk).2).2).1 = tm.t := by rw [← htm]; rfl
      have hp3 : (rdNum (rdNum (rdNum (rdNum sk).2).2).2).1 = tm.u := by rw [← htm]; rfl
      have hp4 : (rdNum (rdNum (rdNum (rdNum (rdNum sk).2).2).2).2).1 = tm.s := by rw [← htm]; rfl
      have hp5 : (rdParts (rdNum (rdNum (rdNum (rdNum (rdNum sk).2).2).2).2).2).1 = tm.ps := by rw [← htm]; rfl
      have HS7 := Lib.hid (show RdS x B0 (rdTerm sk).2 w7 from hs7)
      rw [hp5] at hf hcp hml
      rw [hp0, hp1, hp2, hp3, hp4, hp5]
      have HTM := Lib.hid htm
      have hz6 : wr.heap.size ≤ w6.heap.size := HQ6.out.size
      have hnb : ∀ b, w6.heap.size ≤ b → w.heap.size ≤ b ∧ (Value.slice Av lk.length cv).ownBlock ≠ some b := fun b hb => ⟨by omega, fun q => by have := (HROW.out.lt b q).2; omega⟩
      obtain ⟨ws, hws⟩ : ∃ ws, w7.alloc (.cells #[.int .i64 tm.b, .int .i64 tm.d, .int .i64 tm.t, .int .i64 tm.u, .int .i64 tm.s, .slice Ap tm.ps.length cp] 71) = ws := ⟨_, rfl⟩
      have hbs : Below w7.heap.size w7 ws := by rw [← hws]; exact (Below.refl _ _).alloc (Nat.le_refl _) _
      have HNS := Lib.hid (show ws.heap[w7.heap.size]? = some (.cells #[.int .i64 tm.b, .int .i64 tm.d, .int .i64 tm.t, .int .i64 tm.u, .int .i64 tm.s, .slice Ap tm.ps.length cp] 71 (0, 0)) from by rw [← hws]; exact heap_alloc_new w7 _)
      have HOK := Lib.hid (show eTerm.ok (fun b => w.heap.size ≤ b ∧ (Value.slice Av lk.length cv).ownBlock ≠ some b) ws tm [.int .i64 tm.b, .int .i64 tm.d, .int .i64 tm.t, .int .i64 tm.u, .int .i64 tm.s, .slice Ap tm.ps.length cp] from ⟨Ap, cp, rfl, hf.keep (KeepQ.below hbs) (fun b hb _ => hnb b hb), hcp, hml⟩)
      have HKS := Lib.hid (HQ7.out.trans (KeepR.below hbs))
      have HRS := Lib.hid (HROW.out.keep (HKS.out.q (p := fun b => w.heap.size ≤ b) (fun b hb => by omega)))
      have HSS := Lib.hid (HS7.out.keep hbs)
      have hzs : w.heap.size ≤ ws.heap.size := Nat.le_trans hzw HKS.out.size
      clear hs7 hk7 hp0 hp1 hp2 hp3 hp4 hp5 htm hbs hf hnb
      go_wp2_with (at_builtin; refine wpList_append_E (e := eTerm) rfl _ _ rfl rfl HRS.out ⟨w7.heap.size, 0, none⟩ 1 (y := tm) (cs := [.int .i64 tm.b, .int .i64 tm.d, .int .i64 tm.t, .int .i64 tm.u, .int .i64 tm.s, .slice Ap tm.ps.length cp]) rfl HOK.out (World.news_of_block HNS.out) (by have := HLEN.out; omega) hzs ?_; intro v8 w8 hrow8 hg8 hon8; have HREL := Lib.hid (show RlRel eTerm rdTerm n x B0 s1 w v8 (.int .i64 ((k : Int) + 1)) w8 from ⟨k + 1, by omega, by go_num, by rw [HNX.out, HSK.out, HLK.out, HTM.out]; exact hrow8, by rw [HNX.out, HSK.out]; exact HSS.out.grown hg8 (fun g e => by have := (HRS.out.lt g e).1; omega), (HKR.out.trans HKS.out).grown hg8 (fun g e => (HRS.out.lt g e).1)⟩); obtain ⟨A8, c8, hv8⟩ := hrow8.shape; subst hv8; clear hrow8 hg8 hon8)
      go_roundw
      case rel => exact (by have h9 := HREL.out; rw [List.length_append, List.length_singleton] at h9; exact h9)
      case measure => simp [intOf]; omega
    · have HF := Lib.hid (show ReadR eTerm x B0 (rdTerms s) w (.returned (.slice Av (rdMany rdTerm k s1).1.length cv)) wr from by
        obtain rfl : k = n := by omega
        rw [HR.out]
        obtain ⟨A', c', e, hf, hcc⟩ := hrow.far
        injection e with e1 _ e3
        subst e1 e3
        exact ⟨Av, cv, rfl, hf, hcc, hs, hkr⟩)
      clear hrow hs hkr
      go_wp2_with (fail)
      go_ret
      exact HF.out
end Go.Proofs.Ytboaifdkoemnbaa.Pk
/- The walk of (*pack.writer).terms. -/
namespace Go.Proofs.Ytboaifdkoemnbaa.Pk
set_option maxRecDepth 100000
open Go Go.RowKit Go.Proofs.Ytboaifdkoemnbaa.Sp Go.Proofs.Ytboaifdkoemnbaa.Pa Go.Proofs.Ytboaifdkoemnbaa.Te Go.Proofs.Ytboaifdkoemnbaa.Mi Go.Proofs.Ytboaifdkoemnbaa.De Go.Proofs.Ytboaifdkoemnbaa.Wo

def WtRel (x bs : Nat) (v : Value) (wide : Bool) (L : List Nat) (ts : List TmL) (w : World) (iv : Value) (wr : World) : Prop := ∃ k : Nat, k ≤ ts.length ∧ iv = .int .i64 k ∧ WRel x bs v wide L ((ts.length : Int) :: (ts.take k).flatMap termI) w wr
def WpRel (x bs : Nat) (v : Value) (wide : Bool) (L : List Nat) (t : TmL) (w : World) (iv : Value) (wr : World) : Prop := ∃ k : Nat, k ≤ t.ps.length ∧ iv = .int .i64 k ∧ WRel x bs v wide L ([t.b, t.d, t.t, t.u, t.s, (t.ps.length : Int)] ++ (t.ps.take k).flatMap partI) w wr
theorem flat_len (l : List PT) : (l.flatMap partI).length = 4 * l.length := by
  induction l with
  | nil => rfl
  | cons a l ih => rw [List.flatMap_cons, List.length_append, ih, List.length_cons]; show 4 + 4 * l.length = _; omega
theorem termI_len (t : TmL) : (termI t).length = 6 + 4 * t.ps.length := by unfold termI; rw [List.length_append, flat_len]; rfl
theorem flatT_take (ts : List TmL) (k : Nat) : ((ts.take k).flatMap termI).length ≤ (ts.flatMap termI).length := by
  have h := List.take_append_drop k ts
  have h2 : ts.flatMap termI = (ts.take k).flatMap termI ++ (ts.drop k).flatMap termI := by rw [← List.flatMap_append, h]
  rw [h2, List.length_append]
  omega
theorem flatT_next {ts : List TmL} {k : Nat} (h : k < ts.length) : ((ts.take k).flatMap termI).length + (termI ts[k]).length ≤ (ts.flatMap termI).length := by
  have := flatT_take ts (k + 1)
  rw [List.take_succ_eq_append_getElem h, List.flatMap_append, List.length_append] at this
  simpa using this
theorem flatT_count (ts : List TmL) : 6 * ts.length ≤ (ts.flatMap termI).length := by
  induction ts with
  | nil => exact Nat.zero_le _
  | cons t ts ih => rw [List.flatMap_cons, List.length_append, termI_len, List.length_cons]; omega
set_option maxHeartbeats 8000000 in
theorem wterms_any (x bs : Nat) (v : Value) (wide : Bool) (L : List Nat) (A : Option Addr) (c : Nat) (ts : List TmL) (w0 w : World) (h : WrS x bs v wide L w) (hr : RTm w0 A ts.length ts) (hb : Below w0.heap.size w0 w) (hx : w0.heap.size ≤ x) (hbs : w0.heap.size ≤ bs) (hL : L.length + 4 * (termsI ts).length ≤ 1099511627776) :
    Calls Try.prog 34 #[.pointer (some ⟨x, 0, none⟩), .slice A ts.length c] w (WOut x bs v wide L (termsI ts) w) := by
  have htl := flatT_count ts
  have hL1 : L.length + 4 * ((ts.flatMap termI).length + 1) ≤ 1099511627776 := hL
  have hlw := h.lt
  have hts : ts.length ≤ 1099511627776 := by omega
  have HW := Lib.hid h
  have HR := Lib.hid hr
  have HB := Lib.hid hb
  have HFL := Lib.hid (fun k (hk : k < ts.length) => flatT_next hk)
  have HFT := Lib.hid (fun k => flatT_take ts k)
  obtain ⟨ws, hws⟩ : ∃ ws, w.alloc (.cells #[.int .i64 (ts.length : Int)] 3) = ws := ⟨_, rfl⟩
  have HC0 := Lib.hid (num_new [(ts.length : Int)] h hws (by simp; omega))
  clear h hr hb hL
  go_enter Try.func34, Try.ntmps34
  go_wp2_with (fail)
  refine HC0.out.mono ?_
  rintro e w1 ⟨rfl, hr1⟩
  have HR1 := Lib.hid hr1
  clear hr1 hws
  go_wp2_with (fail)
  go_loopw [15] (fun iv wr => WtRel x bs v wide L ts w iv wr) (fun i _ => ts.length - (intOf i).toNat)
  case atStart => exact ⟨0, Nat.zero_le _, rfl, by simpa using HR1.out⟩
  case round =>
    obtain ⟨k, hk, rfl, hrel⟩ := hrel
    obtain ⟨wo, rfl⟩ : ∃ wo : World, wo = wr := ⟨_, rfl⟩
    by_cases hlt : k < ts.length
    case neg =>
      have HF := Lib.hid (show WOut x bs v wide L (termsI ts) w (.returned (.tuple #[])) wo from ⟨rfl, by rw [List.take_of_length_le (by omega)] at hrel; exact hrel⟩)
      clear hrel
      go_wp2_with (fail)
      go_end0
      exact HF.out
    obtain ⟨v1, s1, k1, o1⟩ := hrel
    have hlow : Below w0.heap.size w0 wo := HB.out.trans (k1.low HW.out hx hbs)
    obtain ⟨b, off, hA, hbB, d0, d1, d2, d3, d4, A', c', d5, hp, hc, hm⟩ := HR.out.at_ hlt
    have hbo : b < wo.heap.size := by have := hlow.size; omega
    have hfk := HFL.out k hlt
    rw [termI_len] at hfk
    obtain ⟨t, ht⟩ : ∃ t, ts[k] = t := ⟨_, rfl⟩
    have HTK := Lib.hid (show (ts.take (k + 1)).flatMap termI = (ts.take k).flatMap termI ++ termI t by rw [List.take_succ_eq_append_getElem hlt, List.flatMap_append, ht]; simp)
    rw [ht] at d0 d1 d2 d3 d4 d5 hp hc hm hfk
    have d0 := (hlow.cell hbB).trans d0
    have d1 := (hlow.cell hbB).trans d1
    have d2 := (hlow.cell hbB).trans d2
    have d3 := (hlow.cell hbB).trans d3
    have d4 := (hlow.cell hbB).trans d4
    have d5 := (hlow.cell hbB).trans d5
    have HP := Lib.hid hp
    obtain ⟨w5, hw5⟩ : ∃ w5, wo.alloc (.cells (tcells t.b t.d t.t t.u t.s A' t.ps.length c') 71) = w5 := ⟨_, rfl⟩
    have hs5 : w5.heap.size = wo.heap.size + 1 := by rw [← hw5]; simp
    have hb5 : Below wo.heap.size wo w5 := by rw [← hw5]; exact (Below.refl _ _).alloc (Nat.le_refl _) _
    have HBX := Lib.hid (fun W (h : W.heap[wo.heap.size]? = w5.heap[wo.heap.size]?) => show Boxed6 W wo.heap.size t.b t.d t.t t.u t.s A' t.ps.length c' from by
      have e : ∀ j, W.cell? ⟨wo.heap.size, j, none⟩ = w5.cell? ⟨wo.heap.size, j, none⟩ := fun j => World.cell?_of_block h
      have h5 : w5.heap[wo.heap.size]? = some (.cells (tcells t.b t.d t.t t.u t.s A' t.ps.length c') 71 (0, 0)) := by rw [← hw5]; exact heap_alloc_new wo _
      unfold Boxed6
      simp only [e, cell_of_row w5 wo.heap.size _ _ _ _ h5]
      exact ⟨rfl, rfl, rfl, rfl, rfl, rfl⟩)
    obtain ⟨ws5, hws5⟩ : ∃ ws5, w5.alloc (.cells #[.int .i64 t.b, .int .i64 t.d, .int .i64 t.t, .int .i64 t.u, .int .i64 t.s, .int .i64 (t.ps.length : Int)] 3) = ws5 := ⟨_, rfl⟩
    have s5 := s1.keep hb5
    have hx1 := s1.lt
    have hno : ∀ g, v1.ownBlock = some g → g < wo.heap.size := fun g e => (s1.row.lt g e).2
    have HNO := Lib.hid hno
    have hml : (L ++ numsB ((ts.length : Int) :: (ts.take k).flatMap termI)).length = L.length + 4 * (((ts.take k).flatMap termI).length + 1) := by rw [List.length_append, numsB_length, List.length_cons]
    have hL2 : (L ++ numsB ((ts.length : Int) :: (ts.take k).flatMap termI)).length + 4 * (6 + 4 * t.ps.length) ≤ 1099511627776 := by rw [hml]; omega
    obtain ⟨M, hM⟩ : ∃ M, L ++ numsB ((ts.length : Int) :: (ts.take k).flatMap termI) = M := ⟨_, rfl⟩
    obtain ⟨wd, hwd⟩ : ∃ wd, (wide || wideB ((ts.length : Int) :: (ts.take k).flatMap termI)) = wd := ⟨_, rfl⟩
    have HTHEN := Lib.hid (fun w2 (hh : WRel x bs v1 wd M (termI t) wo w2) => show WtRel x bs v wide L ts w (.int .i64 ((k : Int) + 1)) w2 from ⟨k + 1, by omega, by go_num, by
      rw [HTK.out, ← List.cons_append]
      exact WRel.then k1 o1 (by rw [hM, hwd]; exact hh)⟩)
    rw [hM, hwd] at s5 s1
    rw [hM] at hL2
    have HS1 := Lib.hid s1
    have hc5 := num_new [t.b, t.d, t.t, t.u, t.s, (t.ps.length : Int)] s5 hws5 (by simp; omega)
    rw [hs5] at hc5
    have HC5 := Lib.hid hc5
    clear hc5
    have HB5 := Lib.hid hb5
    have HLO := Lib.hid hlow
    obtain ⟨r0, r1, r2, r3, r4, r5⟩ := HBX.out w5 rfl
    rw [hA]
    have HML := Lib.hid hm
    unfold maxLen at hm
    have HL2 := Lib.hid hL2
    have HFK := Lib.hid hfk
    have HL1 := Lib.hid hL1
    clear hA ht hp hc s1 k1 o1 hlow hml hM hwd hb5 s5 hno hL2 hfk hL1
    go_wp2_with (fail)
    refine HC5.out.mono ?_
    rintro e w6 ⟨rfl, hr6⟩
    obtain ⟨v6, s6, k6, o6⟩ := hr6
    have HR6 := Lib.hid (show WRel x bs v1 wd M ([t.b, t.d, t.t, t.u, t.s, (t.ps.length : Int)] ++ []) wo w6 from by
      rw [List.append_nil]
      exact WRel.pre HB5.out ⟨v6, s6, k6, o6⟩)
    have hq6 : w6.heap[wo.heap.size]? = w5.heap[wo.heap.size]? := k6.block _ (by omega) (by omega) (fun e => by have := HNO.out _ e; omega)
    obtain ⟨q0, q1, q2, q3, q4, q5⟩ := HBX.out w6 hq6
    clear s6 k6 o6 hq6 hws5 r0 r1 r2 r3 r4 r5 d0 d1 d2 d3 d4 d5
    go_wp2_with (fail)
    go_loopw [38] (fun iv wr => WpRel x bs v1 wd M t wo iv wr) (fun i _ => t.ps.length - (intOf i).toNat)
    case atStart => exact ⟨0, Nat.zero_le _, rfl, by simpa using HR6.out⟩
    case round =>
      obtain ⟨j, hj, rfl, hrel⟩ := hrel
      by_cases hlt2 : j < t.ps.length
      case neg =>
        have HF := Lib.hid (HTHEN.out wr (by rw [List.take_of_length_le (by omega)] at hrel; exact hrel))
        clear hrel
        go_wp2_with (fail)
        go_roundw
        case rel => exact HF.out
        case measure => simp [intOf]; omega
      obtain ⟨v7, s7, k7, o7⟩ := hrel
      have hlow7 : Below w0.heap.size w0 wr := HLO.out.trans (k7.low HS1.out hx hbs)
      obtain ⟨b7, off7, pa, pd, pt, pu, hA7, hb7, hlk, c70, c71, c72, c73⟩ := (HP.out.below hlow7).at_ hlt2
      subst hA7
      obtain ⟨hlj, hej⟩ := hlk
      have HPK := Lib.hid (show (t.ps.take (j + 1)).flatMap partI = (t.ps.take j).flatMap partI ++ [pa, pd, pt, pu] by rw [List.take_succ_eq_append_getElem hlj, List.flatMap_append, hej]; simp [partI])
      obtain ⟨w8, hw8⟩ : ∃ w8, wr.alloc (.cells #[.int .i64 pa, .int .i64 pd, .int .i64 pt, .int .i64 pu] 77) = w8 := ⟨_, rfl⟩
      have hs8 : w8.heap.size = wr.heap.size + 1 := by rw [← hw8]; simp
      have hb8 : Below wr.heap.size wr w8 := by rw [← hw8]; exact (Below.refl _ _).alloc (Nat.le_refl _) _
      have z0 : w8.cell? ⟨wr.heap.size, 0, none⟩ = some (.int .i64 pa) := by rw [← hw8]; simp
      have z1 : w8.cell? ⟨wr.heap.size, 1, none⟩ = some (.int .i64 pd) := by rw [← hw8]; simp
      have z2 : w8.cell? ⟨wr.heap.size, 2, none⟩ = some (.int .i64 pt) := by rw [← hw8]; simp
      have z3 : w8.cell? ⟨wr.heap.size, 3, none⟩ = some (.int .i64 pu) := by rw [← hw8]; simp
      obtain ⟨ws8, hws8⟩ : ∃ ws8, w8.alloc (.cells #[.int .i64 pa, .int .i64 pd, .int .i64 pt, .int .i64 pu] 3) = ws8 := ⟨_, rfl⟩
      have hl8 : (M ++ numsB ([t.b, t.d, t.t, t.u, t.s, (t.ps.length : Int)] ++ (t.ps.take j).flatMap partI)).length + 4 * 4 ≤ 1099511627776 := by
        have hL2 := HL2.out
        rw [List.length_append, numsB_length, List.length_append, flat_len, List.length_take]
        simp
        omega
      have hc8 := num_new [pa, pd, pt, pu] (s7.keep hb8) hws8 hl8
      rw [hs8] at hc8
      have HC8 := Lib.hid hc8
      clear hc8
      have HTH := Lib.hid (fun w2 (hh : WRel x bs v7 (wd || wideB ([t.b, t.d, t.t, t.u, t.s, (t.ps.length : Int)] ++ (t.ps.take j).flatMap partI)) (M ++ numsB ([t.b, t.d, t.t, t.u, t.s, (t.ps.length : Int)] ++ (t.ps.take j).flatMap partI)) [pa, pd, pt, pu] w8 w2) => show WpRel x bs v1 wd M t wo (.int .i64 ((j : Int) + 1)) w2 from ⟨j + 1, by omega, by go_num, by
        rw [HPK.out, ← List.append_assoc]
        exact WRel.then k7 o7 (hh.pre hb8)⟩)
      have hb7r : b7 < wr.heap.size := by have := hlow7.size; omega
      clear s7 k7 o7 hlow7 hej hb8 hl8 q0 q1 q2 q3 q4 q5
      go_wp2_with (fail)
      refine HC8.out.mono ?_
      rintro e w9 ⟨rfl, hr9⟩
      have HR9 := Lib.hid (HTH.out w9 hr9)
      clear hr9 hws8
      go_wp2_with (fail)
      go_roundw
      case rel => exact HR9.out
      case measure => simp [intOf]; omega
end Go.Proofs.Ytboaifdkoemnbaa.Pk
