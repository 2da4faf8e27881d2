/- The walk of (*pack.writer).numbers. -/
import Derived.Test.YtgmkchkaceciiaaPkSum
import Derived.Test.YtgmkchkaceciiaaPkNeedsS
import Derived.Maps.AppendAt
import Derived.ArgAppend
import Derived.BigFrame
namespace Go.Proofs.Ytgmkchkaceciiaa.Pk
set_option maxRecDepth 100000
open Go Go.RowKit Go.Proofs.Ytgmkchkaceciiaa.Sp Go.Proofs.Ytgmkchkaceciiaa.Pa Go.Proofs.Ytgmkchkaceciiaa.Te Go.Proofs.Ytgmkchkaceciiaa.Mi Go.Proofs.Ytgmkchkaceciiaa.De Go.Proofs.Ytgmkchkaceciiaa.Wo

def byV (l : List Nat) : List Value := (byI l).map (Value.int .u8)
theorem byV_append (l r : List Nat) : byV (l ++ r) = byV l ++ byV r := by unfold byV; rw [byI_append, List.map_append]
theorem byV_length (l : List Nat) : (byV l).length = l.length := by unfold byV; rw [List.length_map, byI_length]
theorem infoByteW : (Try.prog.info? 5).map (fun i => (i.zero, i.size, i.bytes)) = some (some (.int .u8 0), 1, 1) := by kernel_rfl
/-- What is neither the writer's box nor its row stays: a row is the old one, or a new one. -/
def OwnN (v v' : Value) (w : World) : Prop := ∀ g, v'.ownBlock = some g → v.ownBlock = some g ∨ w.heap.size ≤ g
/-- The bytes that were written: a row of the call's own, or a constant's, which is full. -/
def RowW (bs : Nat) (v : Value) (L : List Nat) (w : World) : Prop := w.ownsRow bs 5 1 v L.length (byV L) ∨
  ∃ g, v = .slice (some ⟨g, 0, none⟩) L.length L.length ∧ bs ≤ g ∧ w.heap[g]? = some (.cells (byV L).toArray 5 (L.length, L.length + 1))
section
variable {bs : Nat} {v : Value} {L : List Nat} {w w' : World}
theorem RowW.shape (h : RowW bs v L w) : ∃ A c, v = .slice A L.length c := by
  rcases h with h | ⟨g, rfl, _⟩
  · rcases h.2 with ⟨rfl, h0⟩ | ⟨g, cap, cur, rfl, _⟩
    · exact ⟨none, 0, by rw [h0]⟩
    · exact ⟨_, _, rfl⟩
  · exact ⟨_, _, rfl⟩
theorem RowW.lt (h : RowW bs v L w) (k : Nat) (e : v.ownBlock = some k) : bs ≤ k ∧ k < w.heap.size := by
  rcases h with h | ⟨g, rfl, hb, hg⟩
  · exact World.ownsRow.lt h k e
  · simp only [Value.ownBlock, Option.some.injEq] at e
    subst e
    exact ⟨hb, (Array.getElem?_eq_some_iff.1 hg).1⟩
theorem RowW.keep (h : RowW bs v L w) (hk : ∀ g, v.ownBlock = some g → w'.heap[g]? = w.heap[g]?) : RowW bs v L w' := by
  rcases h with h | ⟨g, rfl, hb, hg⟩
  · exact .inl (ownsRow_keep h hk)
  · exact .inr ⟨g, rfl, hb, (hk g rfl).trans hg⟩
theorem RowW.run (h : RowW bs v L w) (ty : TypeId) (ad : Addr) (m c : Nat) (news : List Value) (hl : news.length = m) (hnews : ∀ j u, news[j]? = some u → w.cell? (ad.add j) = some u) (h1 : ∀ u ∈ news, u.oneCell' = true) (hm : 0 < m) (hb : L.length + m ≤ 1099511627776) (hbase : bs ≤ w.heap.size) :
    ∃ v' w', (Builtin.append_ #[46, 46] ty #[v, .slice (some ad) m c]).run Try.prog w = .ok v' w' ∧ w'.ownsRow bs 5 1 v' (L.length + m) (byV L ++ news) ∧ w.grownBy w' v.ownBlock ∧ OwnN v v' w := by
  obtain ⟨i0, hi, hz0, hz1, hz2⟩ := info_parts infoByteW
  rcases h with h | ⟨g, rfl, hbg, hg⟩
  · obtain ⟨v', w', h1, h2, h3, _, h5⟩ := run_append_own_at (P := Try.prog) w bs 46 ty 5 i0 _ 1 1 Try.underlying46 hi hz0 hz1 hz2 rfl (by decide) v L.length (byV L) h ad m c news (by omega) hnews h1 (by simp only [maxLen]; omega) (by omega) hbase
    exact ⟨v', w', h1, h2, h3, fun k e => by
      rcases h5 with q | q
      · exact .inl (by rw [← q]; exact e)
      · rw [q] at e
        injection e with e
        exact .inr (by omega)⟩
  · obtain ⟨v', w', h1, h2, h3⟩ := run_append_arg_grows (P := Try.prog) w 46 ty 5 i0 _ 1 1 Try.underlying46 hi hz0 hz1 hz2 rfl (by decide) ⟨g, 0, none⟩ L.length L.length (byV L) (by rw [byV_length]; omega) (fun j u hj => by
        rw [Go.WideShapes.add_plain, Nat.zero_add, cell_of_row w g j _ _ _ hg]
        simpa using hj) ad m c news (by omega) hnews (by omega) (by simp only [maxLen]; omega) (by omega)
    refine ⟨v', w', h1, ⟨h2.1, ?_⟩, ⟨h3.os, h3.tape, h3.output, h3.size, fun k hk _ => h3.block k hk (fun e => by cases e)⟩, fun k e => .inr (World.ownsRow.lt h2 k e).1⟩
    rcases h2.2 with q | ⟨g', cap, cur, rfl, hg', hr⟩
    · exact .inl q
    · exact .inr ⟨g', cap, cur, rfl, by omega, hr⟩
end
theorem wpList_append_W {w : World} {ops : Array Oper} {rest : List Oper} {o : Oper} {a : Act} {Q : Exit → Act → World → Prop} (hgd : o.guard = none) (s x : Operand)
    (ho : o.op = .call { callee := .builtin .append, args := #[s, x], argTypes := #[46, 46] })
    {bs : Nat} {v : Value} {L : List Nat} (hs : a.eval s = v) (hrow : RowW bs v L w) (ad : Addr) (m c : Nat) (news : List Value) (hx : a.eval x = .slice (some ad) m c) (hl : news.length = m) (hnews : ∀ j u, news[j]? = some u → w.cell? (ad.add j) = some u) (h1 : ∀ u ∈ news, u.oneCell' = true) (hm : 0 < m) (hb : L.length + m ≤ 1099511627776) (hbase : bs ≤ w.heap.size)
    (h : ∀ v' w', w'.ownsRow bs 5 1 v' (L.length + m) (byV L ++ news) → w.grownBy w' v.ownBlock → OwnN v v' w → wpList Try.prog ops Q rest (a.put o.dst v') w') : wpList Try.prog ops Q (o :: rest) a w := by
  refine wpList_plain hgd fun K hK => ?_
  obtain ⟨v', w', hr, h2, h3, h4⟩ := hrow.run o.type ad m c news hl hnews h1 hm hb hbase
  unfold Oper.wp execOp
  simp only [ho, resolve, invoke, builtin, Sem.run_bind, Sem.run_pure, Result.andThen_ok, List.map_toArray, List.map_cons, List.map_nil, hs, hx, hr]
  exact hK _ _ (h v' w' h2 h3 h4)
theorem wp_append_W {w : World} {o : Oper} {a : Act} {K : Act → World → Prop} {Q : Exit → Act → World → Prop} (s x : Operand)
    (ho : o.op = .call { callee := .builtin .append, args := #[s, x], argTypes := #[46, 46] })
    {bs : Nat} {v : Value} {L : List Nat} (hs : a.eval s = v) (hrow : RowW bs v L w) (ad : Addr) (m c : Nat) (news : List Value) (hx : a.eval x = .slice (some ad) m c) (hl : news.length = m) (hnews : ∀ j u, news[j]? = some u → w.cell? (ad.add j) = some u) (h1 : ∀ u ∈ news, u.oneCell' = true) (hm : 0 < m) (hb : L.length + m ≤ 1099511627776) (hbase : bs ≤ w.heap.size)
    (h : ∀ v' w', w'.ownsRow bs 5 1 v' (L.length + m) (byV L ++ news) → w.grownBy w' v.ownBlock → OwnN v v' w → K (a.put o.dst v') w') : Oper.wp Try.prog o a w K Q := by
  obtain ⟨v', w', hr, h2, h3, h4⟩ := hrow.run o.type ad m c news hl hnews h1 hm hb hbase
  unfold Oper.wp execOp
  simp only [ho, resolve, invoke, builtin, Sem.run_bind, Sem.run_pure, Result.andThen_ok, List.map_toArray, List.map_cons, List.map_nil, hs, hx, hr]
  exact h v' w' h2 h3 h4
/-- A writer: its box lies in block x, its bytes in a row of their own. -/
structure WrS (x bs : Nat) (v : Value) (wide : Bool) (L : List Nat) (w : World) : Prop where
  box : w.heap[x]? = some (.cells #[v, .bool wide] 88 (0, 0))
  row : RowW bs v L w
  apart : v.ownBlock ≠ some x
  base : bs ≤ w.heap.size
/-- What is neither the writer's box nor its row stays. -/
structure KeepW (x : Nat) (v : Value) (w w' : World) : Prop where
  os : w'.os = w.os
  tape : w'.tape = w.tape
  output : w'.output = w.output
  size : w.heap.size ≤ w'.heap.size
  block : ∀ b, b < w.heap.size → b ≠ x → v.ownBlock ≠ some b → w'.heap[b]? = w.heap[b]?
section
variable {x bs : Nat} {v v1 : Value} {wide : Bool} {L : List Nat} {w w1 w2 : World}
theorem KeepW.refl (x : Nat) (v : Value) (w : World) : KeepW x v w w := ⟨rfl, rfl, rfl, Nat.le_refl _, fun _ _ _ _ => rfl⟩
theorem OwnN.refl (v : Value) (w : World) : OwnN v v w := fun _ h => .inl h
theorem KeepW.trans (h : KeepW x v w w1) (k : KeepW x v1 w1 w2) (hv : OwnN v v1 w) : KeepW x v w w2 :=
  ⟨k.os.trans h.os, k.tape.trans h.tape, k.output.trans h.output, Nat.le_trans h.size k.size, fun b hb hx ho => (k.block b (Nat.lt_of_lt_of_le hb h.size) hx (fun e => by
    rcases hv b e with q | q
    · exact ho q
    · omega)).trans (h.block b hb hx ho)⟩
theorem OwnN.trans {v2 : Value} (h : OwnN v v1 w) (k : OwnN v1 v2 w1) (hs : w.heap.size ≤ w1.heap.size) : OwnN v v2 w := fun g e => by
  rcases k g e with q | q
  · exact h g q
  · exact .inr (Nat.le_trans hs q)
theorem KeepW.below (hb : Below w.heap.size w w1) : KeepW x v w w1 := ⟨hb.os, hb.tape, hb.output, hb.size, fun b h _ _ => hb.block b h⟩
theorem WrS.lt (h : WrS x bs v wide L w) : x < w.heap.size := (Array.getElem?_eq_some_iff.1 h.box).1
theorem WrS.c0 (h : WrS x bs v wide L w) : w.cell? ⟨x, 0, none⟩ = some v := by rw [cell_of_row w x 0 _ _ _ h.box]; rfl
theorem WrS.c1 (h : WrS x bs v wide L w) : w.cell? ⟨x, 1, none⟩ = some (.bool wide) := by rw [cell_of_row w x 1 _ _ _ h.box]; rfl
theorem WrS.fr (h : WrS x bs v wide L w) (j : Nat) : w.frozen? ⟨x, j, none⟩ = false := by simp [World.frozen?, h.box]
theorem WrS.keep (h : WrS x bs v wide L w) (hb : Below w.heap.size w w1) : WrS x bs v wide L w1 :=
  ⟨(hb.block x h.lt).trans h.box, h.row.keep fun g e => hb.block g (h.row.lt g e).2, h.apart, Nat.le_trans h.base hb.size⟩
theorem WrS.wide_ (h : WrS x bs v wide L w) (b : Bool) : WrS x bs v b L (w.setCell ⟨x, 1, none⟩ (.bool b)) ∧ KeepW x v w (w.setCell ⟨x, 1, none⟩ (.bool b)) := by
  refine ⟨⟨setCell_block w x 1 _ _ _ h.box, h.row.keep fun g e => Below.heap_setCell w _ _ g (fun q => h.apart (by simp only at q; rw [← q]; exact e)), h.apart, by have := h.base; simpa using this⟩, ⟨rfl, rfl, rfl, by simp, fun b' _ hb _ => Below.heap_setCell w _ _ b' hb⟩⟩
theorem WrS.push (h : WrS x bs v wide L w) {l : List Nat} {w7 : World} (ho : w7.ownsRow bs 5 1 v1 (L.length + l.length) (byV L ++ byV l)) (hg : w.grownBy w7 v.ownBlock) (hat : OwnN v v1 w) :
    WrS x bs v1 wide (L ++ l) (w7.setCell ⟨x, 0, none⟩ v1) ∧ KeepW x v w (w7.setCell ⟨x, 0, none⟩ v1) ∧ OwnN v v1 w := by
  have hx := h.lt
  have hbx : w7.heap[x]? = some (.cells #[v, .bool wide] 88 (0, 0)) := (hg.block x hx (fun e => h.apart e.symm)).trans h.box
  have hv1 : v1.ownBlock ≠ some x := fun e => by
    rcases hat x e with q | q
    · exact h.apart q
    · omega
  refine ⟨⟨setCell_block w7 x 0 _ _ _ hbx, ?_, hv1, ?_⟩, ⟨hg.os, hg.tape, hg.output, by simpa using hg.size, fun b hb hx ho => ?_⟩, hat⟩
  · refine .inl ?_
    rw [List.length_append, byV_append]
    exact ownsRow_keep ho fun g e => Below.heap_setCell w7 _ _ g (fun q => hv1 (by simp only at q; rw [← q]; exact e))
  · have := h.base
    have := hg.size
    simp
    omega
  · exact (Below.heap_setCell w7 _ _ b hx).trans (hg.block b hb (fun e => ho e.symm))
end
/-- Whether some number is too wide. -/
def wideB (xs : List Int) : Bool := xs.any fun x => sgn (bits x) != x
theorem wideB_iff {xs : List Int} : wideB xs = false ↔ ∀ x ∈ xs, In32 x := by
  unfold wideB
  rw [List.any_eq_false]
  refine ⟨fun h x hx => in32_iff.2 (by simpa using h x hx), fun h x hx => by simpa using in32_iff.1 (h x hx)⟩
/-- A list that is read lies apart from the writer. -/
def ApartW (x : Nat) (v : Value) (A : Option Addr) : Prop := ∀ b off, A = some ⟨b, off, none⟩ → b ≠ x ∧ v.ownBlock ≠ some b
/-- A slice value reads as a list of integers (their range isn't told). -/
def RIc (w : World) (A : Option Addr) (n : Nat) (l : List Int) : Prop :=
  l.length = n ∧ (0 < n → ∃ b off, A = some ⟨b, off, none⟩ ∧ b < w.heap.size ∧ ∀ (j : Nat) (h : j < l.length), w.cell? ⟨b, off + j, none⟩ = some (.int .i64 l[j]))
theorem RI.c {w : World} {A : Option Addr} {n : Nat} {l : List Int} (h : RI w A n l) : RIc w A n l := ⟨h.1, h.2.1⟩
theorem RIc.at_ {w : World} {A : Option Addr} {n : Nat} {l : List Int} {k : Nat} (h : RIc w A n l) (hk : k < l.length) : ∃ b off, A = some ⟨b, off, none⟩ ∧ b < w.heap.size ∧ w.cell? ⟨b, off + k, none⟩ = some (.int .i64 l[k]) := by
  obtain ⟨b, off, e, hb, hc⟩ := h.2 (by have := h.1; omega)
  exact ⟨b, off, e, hb, hc k hk⟩
theorem RIc.keepW {x : Nat} {v : Value} {w w1 : World} {A : Option Addr} {n : Nat} {l : List Int} (h : RIc w A n l) (hk : KeepW x v w w1) (ha : 0 < n → ApartW x v A) : RIc w1 A n l :=
  ⟨h.1, fun hn => by
    obtain ⟨b, off, e, hlt, hc⟩ := h.2 hn
    refine ⟨b, off, e, Nat.lt_of_lt_of_le hlt hk.size, fun j hj => ?_⟩
    exact (World.cell?_of_block (hk.block b hlt ((ha hn) b off e).1 ((ha hn) b off e).2)).trans (hc j hj)⟩
/-- Numbers were written. -/
def WRel (x bs : Nat) (v : Value) (wide : Bool) (L : List Nat) (xs : List Int) (w w' : World) : Prop := ∃ v', WrS x bs v' (wide || wideB xs) (L ++ numsB xs) w' ∧ KeepW x v w w' ∧ OwnN v v' w
def WOut (x bs : Nat) (v : Value) (wide : Bool) (L : List Nat) (xs : List Int) (w : World) (e : Ending) (w' : World) : Prop :=
  e = .returned (.tuple #[]) ∧ WRel x bs v wide L xs w w'
theorem wideB_append (xs ys : List Int) : wideB (xs ++ ys) = (wideB xs || wideB ys) := by
  unfold wideB
  rw [List.any_append]
theorem WRel.refl {x bs : Nat} {v : Value} {wide : Bool} {L : List Nat} {w : World} (h : WrS x bs v wide L w) : WRel x bs v wide L [] w w := ⟨v, by simpa [wideB, numsB] using h, KeepW.refl _ _ _, OwnN.refl _ _⟩
/-- One behind the other. -/
theorem WRel.then {x bs : Nat} {v v1 : Value} {wide : Bool} {L : List Nat} {xs ys : List Int} {w w1 w2 : World} (k1 : KeepW x v w w1) (o1 : OwnN v v1 w) (h : WRel x bs v1 (wide || wideB xs) (L ++ numsB xs) ys w1 w2) : WRel x bs v wide L (xs ++ ys) w w2 := by
  obtain ⟨v2, a, b, c⟩ := h
  refine ⟨v2, ?_, k1.trans b o1, o1.trans c k1.size⟩
  rw [wideB_append, numsB_append, ← List.append_assoc, ← Bool.or_assoc]
  exact a
theorem WRel.below {x bs : Nat} {v : Value} {wide : Bool} {L : List Nat} {xs : List Int} {w w1 w2 : World} (h : WRel x bs v wide L xs w w1) (hb : Below w1.heap.size w1 w2) : WRel x bs v wide L xs w w2 := by
  obtain ⟨v1, a, b, c⟩ := h
  exact ⟨v1, a.keep hb, b.trans (KeepW.below (x := x) (v := v1) hb) c, c⟩
theorem WRel.pre {x bs : Nat} {v : Value} {wide : Bool} {L : List Nat} {xs : List Int} {w w1 w2 : World} (hb : Below w.heap.size w w1) (h : WRel x bs v wide L xs w1 w2) : WRel x bs v wide L xs w w2 := by
  obtain ⟨v1, a, b, c⟩ := h
  exact ⟨v1, a, (KeepW.below (x := x) (v := v) hb).trans b (OwnN.refl _ _), fun g e => by
    rcases c g e with q | q
    · exact .inl q
    · exact .inr (Nat.le_trans hb.size q)⟩
/-- What lay below the writer's box and row is as it was. -/
theorem KeepW.low {x bs B0 : Nat} {v : Value} {wide : Bool} {L : List Nat} {w w' : World} (h : KeepW x v w w') (hs : WrS x bs v wide L w) (hx : B0 ≤ x) (hb : B0 ≤ bs) : Below B0 w w' :=
  ⟨h.os, h.tape, h.output, h.size, fun b hlt => h.block b (by have := hs.lt; omega) (by omega) (fun e => by have := (hs.row.lt b e).1; omega)⟩
def NumRel (x bs : Nat) (v : Value) (wide : Bool) (L : List Nat) (xs : List Int) (w : World) (iv : Value) (wr : World) : Prop :=
  ∃ (k : Nat) (v' : Value), k ≤ xs.length ∧ iv = .int .i64 k ∧ WrS x bs v' (wide || wideB (xs.take k)) (L ++ numsB (xs.take k)) wr ∧ KeepW x v w wr ∧ OwnN v v' w
theorem wrap32_bits (x : Int) : IntKind.u32.wrap x = ((bits x : Nat) : Int) := by
  rw [IntKind.wrap_u32]
  unfold bits
  omega
theorem num4_vals {u : Nat} (hu : u < 4294967296) : [Value.int .u8 ((u : Int) / 16777216), .int .u8 ((u : Int) / 65536 % 256), .int .u8 ((u : Int) / 256 % 256), .int .u8 ((u : Int) % 256)] = byV (num4 u) := by
  simp only [byV, byI, num4, List.map_cons, List.map_nil]
  congr 2
  omega
theorem wideB_snoc (xs : List Int) (y : Int) : wideB (xs ++ [y]) = (wideB xs || (sgn (bits y) != y)) := by
  unfold wideB
  simp
set_option maxHeartbeats 8000000 in
theorem numbers_any (x bs : Nat) (v : Value) (wide : Bool) (L : List Nat) (A : Option Addr) (c : Nat) (xs : List Int) (w : World) (h : WrS x bs v wide L w) (hr : RIc w A xs.length xs) (ha : 0 < xs.length → ApartW x v A) (hL : L.length + 4 * xs.length ≤ 1099511627776) :
    Calls Try.prog 56 #[.pointer (some ⟨x, 0, none⟩), .slice A xs.length c] w (WOut x bs v wide L xs w) := by
  have HW := Lib.hid h
  have HR := Lib.hid hr
  have HA := Lib.hid ha
  obtain ⟨i0, hi0, hz0, hz1, hz2⟩ := info_parts infoByte
  have hxl : xs.length ≤ 1099511627776 := by omega
  clear h hr ha
  go_enter Try.func56, Try.ntmps56
  go_wp2_with (fail)
  go_loopw [9] (fun iv wr => NumRel x bs v wide L xs w iv wr) (fun i _ => xs.length - (intOf i).toNat)
  case atStart => exact ⟨0, v, Nat.zero_le _, rfl, by simpa [wideB, numsB] using HW.out, KeepW.refl _ _ _, OwnN.refl _ _⟩
  case round =>
    obtain ⟨k, v', hk, rfl, hws, hkw, hon⟩ := hrel
    by_cases hlt : k < xs.length
    · obtain ⟨b, off, rfl, hb, d0⟩ := (HR.out.keepW hkw HA.out).at_ hlt
      obtain ⟨y, hy⟩ : ∃ y, xs[k] = y := ⟨_, rfl⟩
      rw [hy] at d0
      have htk : xs.take (k + 1) = xs.take k ++ [y] := by rw [List.take_succ_eq_append_getElem hlt, hy]
      have hu := wrap32_bits y
      have hub := bits_lt y
      obtain ⟨u, hu2⟩ : ∃ u, bits y = u := ⟨_, rfl⟩
      obtain ⟨wd, hwd⟩ : ∃ wd, (wide || wideB (xs.take k)) = wd := ⟨_, rfl⟩
      obtain ⟨M, hM⟩ : ∃ M, L ++ numsB (xs.take k) = M := ⟨_, rfl⟩
      have hMl : M.length + 4 ≤ 1099511627776 := by
        rw [← hM, List.length_append, numsB_length, List.length_take]
        omega
      rw [hwd, hM] at hws
      obtain ⟨Av, cv, hv'⟩ := hws.row.shape
      have HFIN := Lib.hid (fun (B : Bool) (hB : B = (wd || (sgn u != y))) (ws w7 : World) (v7 : Value) (hw1 : WrS x bs v' B M ws) (hk1 : KeepW x v' wr ws) (ho : w7.ownsRow bs 5 1 v7 (M.length + 4) (byV M ++ byV (num4 u))) (hg : ws.grownBy w7 v'.ownBlock) (hat : OwnN v' v7 ws) =>
        show NumRel x bs v wide L xs w (.int .i64 ((k : Int) + 1)) (w7.setCell ⟨x, 0, none⟩ v7) from by
          obtain ⟨p1, p2, p3⟩ := hw1.push (l := num4 u) ho hg hat
          have p4 : OwnN v' v7 wr := fun g e => by
            rcases p3 g e with q | q
            · exact .inl q
            · exact .inr (Nat.le_trans hk1.size q)
          refine ⟨k + 1, v7, by omega, by go_num, ?_, hkw.trans (hk1.trans p2 (OwnN.refl _ _)) hon, hon.trans p4 hkw.size⟩
          rw [htk, wideB_snoc, numsB_append, hu2, ← Bool.or_assoc, hwd, ← List.append_assoc, hM, numsB_cons, numsB_nil, List.append_nil, hu2, ← hB]
          exact p1)
      have hwide := fun B => hws.wide_ B
      subst hv'
      rw [hu2] at hu hub
      have c0 := hws.c0
      have c1 := hws.c1
      have f0 := hws.fr 0
      have f1 := hws.fr 1
      have HV := Lib.hid (num4_vals hub)
      have HWI := Lib.hid hwide
      have HXW := Lib.hid hws.lt
      clear hy hws hkw hon hwd hu2 htk hM hwide
      cases wd
      · obtain ⟨ww, hww⟩ : ∃ ww, wr.setCell ⟨x, 1, none⟩ (.bool (sgn u != y)) = ww := ⟨_, rfl⟩
        have hw2 := HWI.out (sgn u != y)
        rw [hww] at hw2
        obtain ⟨hw2, hk2⟩ := hw2
        obtain ⟨ws, hws⟩ : ∃ ws, ww.alloc (.cells #[.int .u8 ((u : Int) / 16777216), .int .u8 ((u : Int) / 65536 % 256), .int .u8 ((u : Int) / 256 % 256), .int .u8 ((u : Int) % 256)] 5) = ws := ⟨_, rfl⟩
        have hbs : Below ww.heap.size ww ws := by rw [← hws]; exact (Below.refl _ _).alloc (Nat.le_refl _) _
        have HNS := Lib.hid (show ws.heap[ww.heap.size]? = some (.cells #[.int .u8 ((u : Int) / 16777216), .int .u8 ((u : Int) / 65536 % 256), .int .u8 ((u : Int) / 256 % 256), .int .u8 ((u : Int) % 256)] 5 (0, 0)) from by rw [← hws]; exact heap_alloc_new ww _)
        have HW3 := Lib.hid (hw2.keep hbs)
        have HK3 := Lib.hid (hk2.trans (KeepW.below (x := x) (v := .slice Av M.length cv) hbs) (OwnN.refl _ _))
        have HBO := Lib.hid (show (sgn u != y) = (false || (sgn u != y)) from rfl)
        have cc0 := hw2.c0
        have ff0 := hw2.fr 0
        have hzw : wr.heap.size = ww.heap.size := by rw [← hww]; simp
        clear hw2 hk2 hbs
        go_wp2_with (fail)
        refine (signed_any u hub _).mono ?_
        rintro e w2 ⟨rfl, rfl⟩
        go_wp2_with (at_builtin; refine wpList_append_W rfl _ _ rfl rfl HW3.out.row ⟨ww.heap.size, 0, none⟩ 4 4 [.int .u8 ((u : Int) / 16777216), .int .u8 ((u : Int) / 65536 % 256), .int .u8 ((u : Int) / 256 % 256), .int .u8 ((u : Int) % 256)] rfl rfl (World.news_of_block HNS.out) (by simp [Value.oneCell']) (by decide) (by omega) HW3.out.base ?_; intro v7 w7 ho7 hg7 hat7; have HREL := Lib.hid (HFIN.out _ HBO.out ws w7 v7 HW3.out HK3.out (by rw [← HV.out]; exact ho7) hg7 hat7); have c7 : w7.cell? ⟨x, 0, none⟩ = some (.slice Av M.length cv) := hg7.cell HW3.out.c0 (fun e => HW3.out.apart e.symm); have f7 : w7.frozen? ⟨x, 0, none⟩ = false := (World.frozen?_of_block (hg7.block x HW3.out.lt (fun e => HW3.out.apart e.symm))).trans (HW3.out.fr 0); obtain ⟨A7, cv7, hv7⟩ := own_shape ho7; subst hv7; clear ho7 hg7 hat7)
        go_roundw
        case rel => exact HREL.out
        case measure => simp [intOf]; omega
      · obtain ⟨ww, hww⟩ : ∃ ww, wr.setCell ⟨x, 1, none⟩ (.bool true) = ww := ⟨_, rfl⟩
        have hw2 := HWI.out true
        rw [hww] at hw2
        obtain ⟨hw2, hk2⟩ := hw2
        obtain ⟨ws, hws⟩ : ∃ ws, ww.alloc (.cells #[.int .u8 ((u : Int) / 16777216), .int .u8 ((u : Int) / 65536 % 256), .int .u8 ((u : Int) / 256 % 256), .int .u8 ((u : Int) % 256)] 5) = ws := ⟨_, rfl⟩
        have hbs : Below ww.heap.size ww ws := by rw [← hws]; exact (Below.refl _ _).alloc (Nat.le_refl _) _
        have HNS := Lib.hid (show ws.heap[ww.heap.size]? = some (.cells #[.int .u8 ((u : Int) / 16777216), .int .u8 ((u : Int) / 65536 % 256), .int .u8 ((u : Int) / 256 % 256), .int .u8 ((u : Int) % 256)] 5 (0, 0)) from by rw [← hws]; exact heap_alloc_new ww _)
        have HW3 := Lib.hid (hw2.keep hbs)
        have HK3 := Lib.hid (hk2.trans (KeepW.below (x := x) (v := .slice Av M.length cv) hbs) (OwnN.refl _ _))
        have HBO := Lib.hid (show true = (true || (sgn u != y)) from rfl)
        have cc0 := hw2.c0
        have ff0 := hw2.fr 0
        have hzw : wr.heap.size = ww.heap.size := by rw [← hww]; simp
        clear hw2 hk2 hbs
        go_wp2_with (at_builtin; refine wpList_append_W rfl _ _ rfl rfl HW3.out.row ⟨ww.heap.size, 0, none⟩ 4 4 [.int .u8 ((u : Int) / 16777216), .int .u8 ((u : Int) / 65536 % 256), .int .u8 ((u : Int) / 256 % 256), .int .u8 ((u : Int) % 256)] rfl rfl (World.news_of_block HNS.out) (by simp [Value.oneCell']) (by decide) (by omega) HW3.out.base ?_; intro v7 w7 ho7 hg7 hat7; have HREL := Lib.hid (HFIN.out _ HBO.out ws w7 v7 HW3.out HK3.out (by rw [← HV.out]; exact ho7) hg7 hat7); have c7 : w7.cell? ⟨x, 0, none⟩ = some (.slice Av M.length cv) := hg7.cell HW3.out.c0 (fun e => HW3.out.apart e.symm); have f7 : w7.frozen? ⟨x, 0, none⟩ = false := (World.frozen?_of_block (hg7.block x HW3.out.lt (fun e => HW3.out.apart e.symm))).trans (HW3.out.fr 0); obtain ⟨A7, cv7, hv7⟩ := own_shape ho7; subst hv7; clear ho7 hg7 hat7)
        go_roundw
        case rel => exact HREL.out
        case measure => simp [intOf]; omega
    · have HF := Lib.hid (show WOut x bs v wide L xs w (.returned (.tuple #[])) wr from ⟨rfl, v', by rw [List.take_of_length_le (by omega)] at hws; exact hws, hkw, hon⟩)
      clear hws hkw hon
      go_wp2_with (fail)
      go_end0
      exact HF.out
/-- Numbers that were laid into a new block are written. -/
theorem num_new {x bs : Nat} {v : Value} {wide : Bool} {L : List Nat} {W ws : World} (ys : List Int) (h : WrS x bs v wide L W) (hws : W.alloc (.cells (ys.map (Value.int .i64)).toArray 3) = ws) (hL : L.length + 4 * ys.length ≤ 1099511627776) :
    Calls Try.prog 56 #[.pointer (some ⟨x, 0, none⟩), .slice (some ⟨W.heap.size, 0, none⟩) ys.length ys.length] ws (WOut x bs v wide L ys W) := by
  have hb : Below W.heap.size W ws := by rw [← hws]; exact (Below.refl _ _).alloc (Nat.le_refl _) _
  have hq : ws.heap[W.heap.size]? = some (.cells (ys.map (Value.int .i64)).toArray 3 (0, 0)) := by rw [← hws]; exact heap_alloc_new W _
  refine (numbers_any x bs v wide L _ _ ys ws (h.keep hb) ⟨rfl, fun _ => ⟨_, _, rfl, (Array.getElem?_eq_some_iff.1 hq).1, fun j hj => ?_⟩⟩ (fun _ b off e => ?_) hL).mono ?_
  · rw [Nat.zero_add, cell_of_row ws W.heap.size j _ _ _ hq]
    simp [hj]
  · injection e with e
    injection e with e1 e2 _
    have := h.lt
    refine ⟨by omega, fun q => ?_⟩
    have := (h.row.lt b q).2
    omega
  · rintro e w' ⟨rfl, hr⟩
    exact ⟨rfl, hr.pre hb⟩
/-- Numbers that lie below are written. -/
theorem num_old {x bs : Nat} {v : Value} {wide : Bool} {L : List Nat} {w0 W : World} {A : Option Addr} (c : Nat) (ys : List Int) (h : WrS x bs v wide L W) (hr : RIc w0 A ys.length ys) (hb : Below w0.heap.size w0 W) (hx : w0.heap.size ≤ x) (hbs : w0.heap.size ≤ bs) (hL : L.length + 4 * ys.length ≤ 1099511627776) :
    Calls Try.prog 56 #[.pointer (some ⟨x, 0, none⟩), .slice A ys.length c] W (WOut x bs v wide L ys W) := by
  refine numbers_any x bs v wide L _ _ ys W h ⟨rfl, fun hn => ?_⟩ (fun hn b off e => ?_) hL
  · obtain ⟨b, off, e, hlt, hc⟩ := hr.2 hn
    exact ⟨b, off, e, by have := hb.size; omega, fun j hj => (hb.cell hlt).trans (hc j hj)⟩
  · obtain ⟨b', off', e', hlt, _⟩ := hr.2 hn
    rw [e] at e'
    injection e' with e'
    injection e' with e1 e2 _
    refine ⟨by omega, fun q => ?_⟩
    have := (h.row.lt b q).1
    omega
end Go.Proofs.Ytgmkchkaceciiaa.Pk
