import Derived.Test.YtbhocpjogkobgaaGreatDoorS15
import Derived.Test.YtbhocpjogkobgaaGreatDoorS38
import Derived.Maps.AppendAt
import Derived.Laws.AppendOwnNone
namespace Go.Proofs.YtbhocpjogkobgaaGreatDoor.De
set_option maxRecDepth 100000
open Go Go.RowKit Sp Pa Te Mi Fi
theorem rgp_all {w : World} {A : Option Addr} {n : Nat} {fam : List (List Span)} (h : RGs w A n fam) : RGp (fun b => b < w.heap.size) w A fam := fun hn => by
 obtain ⟨b, off, e, hb, hc⟩ := h.2 (by have := h.1; omega)
 refine ⟨b, off, e, hb, hb, fun j hj => ?_⟩
 obtain ⟨Aj, cj, h1, h2, h3, h4⟩ := hc j hj
 refine ⟨Aj, cj, h1, ⟨h2, fun hp b' off' e' => ?_⟩, h3, h4⟩
 obtain ⟨b2, off2, e2, hb2, _⟩ := h2.2 hp
 rw [e2] at e'
 injection e' with e'
 injection e' with e'
 omega
theorem rtp_all {w : World} {A : Option Addr} {n : Nat} {ts : List TmL} (h : RTm w A n ts) : RTp (fun b => b < w.heap.size) w A ts := fun hn => by
 obtain ⟨b, off, e, hb, hc⟩ := h.2 (by have := h.1; omega)
 refine ⟨b, off, e, hb, hb, fun j hj => ?_⟩
 obtain ⟨h0, h1, h2, h3, h4, A', c', h5, h6, h7, h8⟩ := hc j hj
 refine ⟨h0, h1, h2, h3, h4, A', c', h5, ⟨h6, fun hp b' off' e' => ?_⟩, h7, h8⟩
 obtain ⟨b2, off2, e2, hb2, _⟩ := h6.2 hp
 rw [e2] at e'
 injection e' with e'
 injection e' with e'
 omega
def cellsAt (w : World) (b off n : Nat) : List Value := (List.range n).map fun j => (w.cell? ⟨b, off + j, none⟩).getD undef
theorem cellsAt_len (w : World) (b off n : Nat) : (cellsAt w b off n).length = n := by simp [cellsAt]
theorem cellsAt_get {w : World} {b off n j : Nat} {u : Value} (hj : j < n) (h : w.cell? ⟨b, off + j, none⟩ = some u) : (cellsAt w b off n)[j]? = some u := by
 simp [cellsAt, hj, h]
theorem cellsAt_news {w : World} {b off n : Nat} (hall : ∀ j, j < n → ∃ u, w.cell? ⟨b, off + j, none⟩ = some u) : ∀ j u, (cellsAt w b off n)[j]? = some u → w.cell? ((⟨b, off, none⟩ : Addr).add j) = some u := fun j u h => by
 have hj : j < n := by
  rcases Nat.lt_or_ge j n with q | q
  ·exact q
  ·rw [List.getElem?_eq_none (by rw [cellsAt_len]; exact q)] at h; cases h
 obtain ⟨u', hu⟩ := hall j hj
 rw [cellsAt_get hj hu] at h
 rw [← h]
 by_cases e : j = 0
 ·subst e; simpa [Addr.add] using hu
 ·simpa [Addr.add, e] using hu
theorem ru_cells {w : World} {A : Option Addr} {n : Nat} {L : List RuL} (h : RRu w A n L) (hn : 0 < n) : ∃ b off, A = some ⟨b, off, none⟩ ∧ b < w.heap.size ∧ (∀ j, j < n * 5 → ∃ u, w.cell? ⟨b, off + j, none⟩ = some u ∧ u.oneCell' = true) ∧
  ∀ (j : Nat) (hj : j < L.length), ∃ G gc T tc, RuCells (cellsAt w b off (n * 5)) j L[j] G gc T tc ∧ RGp (fun b => b < w.heap.size) w G L[j].gs ∧ L[j].gs.length ≤ gc ∧ RTp (fun b => b < w.heap.size) w T L[j].out ∧ L[j].out.length ≤ tc := by
 obtain ⟨b, off, e, hb, hc⟩ := h.2 hn
 have hl := h.1
 refine ⟨b, off, e, hb, fun j hj => ?_, fun j hj => ?_⟩
 ·obtain ⟨h0, h1, h3, ⟨A', c', h2, _⟩, A2, c2, h4, _⟩ := hc (j / 5) (by omega)
  have hm : j % 5 = 0 ∨ j % 5 = 1 ∨ j % 5 = 2 ∨ j % 5 = 3 ∨ j % 5 = 4 := by omega
  rcases hm with q | q | q | q | q
  ·rw [show off + j = off + j / 5 * 5 by omega]; exact ⟨_, h0, rfl⟩
  ·rw [show off + j = off + j / 5 * 5 + 1 by omega]; exact ⟨_, h1, rfl⟩
  ·rw [show off + j = off + j / 5 * 5 + 2 by omega]; exact ⟨_, h2, rfl⟩
  ·rw [show off + j = off + j / 5 * 5 + 3 by omega]; exact ⟨_, h3, rfl⟩
  ·rw [show off + j = off + j / 5 * 5 + 4 by omega]; exact ⟨_, h4, rfl⟩
 ·obtain ⟨h0, h1, h3, ⟨A', c', h2, hg, hgc, _⟩, A2, c2, h4, ht, htc, _⟩ := hc j hj
  refine ⟨A', c', A2, c2, ⟨cellsAt_get (by omega) h0, cellsAt_get (by omega) h1, cellsAt_get (by omega) h2, cellsAt_get (by omega) h3, cellsAt_get (by omega) h4⟩, rgp_all hg, hgc, rtp_all ht, htc⟩
theorem heap_other {w : World} {a : Addr} {v : Value} {g : Nat} (h : g ≠ a.block) : (w.setCell a v).heap[g]? = w.heap[g]? := heap_setCell_other w a g _ h
theorem row_copied {w w' : World} {base : Nat} {v : Value} {b off : Nat} {L : List RuL} (hH : w.heap.size ≤ base) (hs : w.heap.size ≤ w'.heap.size) (hk : ∀ g, g < w.heap.size → w'.heap[g]? = w.heap[g]?)
  (hown : w'.ownsRow base 41 5 v L.length (cellsAt w b off (L.length * 5)))
  (hc : ∀ (j : Nat) (hj : j < L.length), ∃ G gc T tc, RuCells (cellsAt w b off (L.length * 5)) j L[j] G gc T tc ∧ RGp (fun b => b < w.heap.size) w G L[j].gs ∧ L[j].gs.length ≤ gc ∧ RTp (fun b => b < w.heap.size) w T L[j].out ∧ L[j].out.length ≤ tc) :
  RowRu (fun b => b < w.heap.size) w' base v L := by
 refine ⟨_, hown, fun j hj => ?_⟩
 obtain ⟨G, gc, T, tc, h1, h2, h3, h4, h5⟩ := hc j hj
 have hq : ∀ g, g < w.heap.size → g < w.heap.size → g < w.heap.size ∧ v.ownBlock ≠ some g := fun g hg _ => ⟨hg, fun e => by have := (World.ownsRow.lt hown g e).1; omega⟩
 exact ⟨G, gc, T, tc, h1, h2.keep ⟨hs, fun g hg _ => hk g hg⟩ hq, h3, h4.keep ⟨hs, fun g hg _ => hk g hg⟩ hq, h5⟩
theorem RowRu.any {p : Nat → Prop} {w : World} {base : Nat} {v : Value} {L : List RuL} (h : RowRu p w base v L) : RowRu (fun _ => True) w base v L := by
 obtain ⟨vs, h1, h2⟩ := h
 refine ⟨vs, h1, fun j hj => ?_⟩
 obtain ⟨G, gc, T, tc, c1, c2, c3, c4, c5⟩ := h2 j hj
 exact ⟨G, gc, T, tc, c1, c2.keep ⟨Nat.le_refl _, fun _ _ _ => rfl⟩ (fun _ h _ => ⟨trivial, h.2⟩), c3, c4.keep ⟨Nat.le_refl _, fun _ _ _ => rfl⟩ (fun _ h _ => ⟨trivial, h.2⟩), c5⟩
def updI (r : Nat) (x : Int) (q : RuL) : RuL := if r = 0 then ⟨x, q.to_, q.gs, q.eat, q.out⟩ else if r = 1 then ⟨q.frm, x, q.gs, q.eat, q.out⟩ else ⟨q.frm, q.to_, q.gs, x, q.out⟩
theorem set_cells {vs : List Value} {j k r : Nat} {u : Value} {q : RuL} {G T : Option Addr} {gc tc : Nat} (hne : j ≠ k) (hr : r < 5) (h : RuCells vs j q G gc T tc) : RuCells (vs.set (k * 5 + r) u) j q G gc T tc := by
 obtain ⟨h0, h1, h2, h3, h4⟩ := h
 refine ⟨?_, ?_, ?_, ?_, ?_⟩ <;> (rw [List.getElem?_set_ne (by omega)]; assumption)
theorem row_set {p : Nat → Prop} {w : World} {base g c : Nat} {L : List RuL} {k r : Nat} {u : Value} {q : RuL} (h : RowRu p w base (.slice (some ⟨g, 0, none⟩) L.length c) L) (hk : k < L.length) (hr : r < 5)
  (hq : ∀ vs : List Value, (k * 5 + r) < vs.length → ∀ G gc T tc, RuCells vs k L[k] G gc T tc → RGp (fun b => p b ∧ (Value.slice (some ⟨g, 0, none⟩) L.length c).ownBlock ≠ some b) w G L[k].gs → L[k].gs.length ≤ gc → RTp (fun b => p b ∧ (Value.slice (some ⟨g, 0, none⟩) L.length c).ownBlock ≠ some b) w T L[k].out → L[k].out.length ≤ tc →
   ∃ G gc T tc, RuCells (vs.set (k * 5 + r) u) k q G gc T tc ∧ RGp (fun b => p b ∧ (Value.slice (some ⟨g, 0, none⟩) L.length c).ownBlock ≠ some b) w G q.gs ∧ q.gs.length ≤ gc ∧ RTp (fun b => p b ∧ (Value.slice (some ⟨g, 0, none⟩) L.length c).ownBlock ≠ some b) w T q.out ∧ q.out.length ≤ tc) :
  RowRu p (w.setCell ⟨g, k * 5 + r, none⟩ u) base (.slice (some ⟨g, 0, none⟩) L.length c) (L.set k q) := by
 obtain ⟨vs, h1, h2⟩ := h
 have hst := (World.ownsRow.stored h1 (k * 5 + r) u).1
 have hlen := h1.1
 have keep : KeepQ (fun b => p b ∧ (Value.slice (some ⟨g, 0, none⟩) L.length c).ownBlock ≠ some b) w (w.setCell ⟨g, k * 5 + r, none⟩ u) := ⟨by simp, fun b hb _ => heap_other (fun e => hb.2 (by rw [e]; rfl))⟩
 refine ⟨vs.set (k * 5 + r) u, by rw [List.length_set]; exact hst, fun j hj => ?_⟩
 have hj' : j < L.length := by rw [List.length_set] at hj; exact hj
 obtain ⟨G, gc, T, tc, c1, c2, c3, c4, c5⟩ := h2 j hj'
 by_cases e : j = k
 ·subst e
  obtain ⟨G', gc', T', tc', d1, d2, d3, d4, d5⟩ := hq vs (by rw [hlen]; omega) G gc T tc c1 c2 c3 c4 c5
  refine ⟨G', gc', T', tc', ?_⟩
  rw [show (L.set j q)[j]'hj = q from by simp]
  exact ⟨d1, d2.keep keep (fun _ h _ => h), d3, d4.keep keep (fun _ h _ => h), d5⟩
 ·refine ⟨G, gc, T, tc, ?_⟩
  rw [show (L.set k q)[j]'hj = L[j] from by rw [List.getElem_set_ne (fun z => e z.symm)]]
  exact ⟨set_cells e hr c1, c2.keep keep (fun _ h _ => h), c3, c4.keep keep (fun _ h _ => h), c5⟩
theorem row_setI {p : Nat → Prop} {w : World} {base g c : Nat} {L : List RuL} {k : Nat} {x : Int} {r : Nat} (h : RowRu p w base (.slice (some ⟨g, 0, none⟩) L.length c) L) (hk : k < L.length) (hr : r = 0 ∨ r = 1 ∨ r = 3) :
  RowRu p (w.setCell ⟨g, k * 5 + r, none⟩ (.int .i64 x)) base (.slice (some ⟨g, 0, none⟩) L.length c) (L.set k (updI r x L[k])) := by
 refine row_set h hk (by omega) fun vs hv G gc T tc ⟨h0, h1, h2, h3, h4⟩ d1 d2 d3 d4 => ⟨G, gc, T, tc, ?_⟩
 rcases hr with rfl | rfl | rfl
 ·refine ⟨⟨by rw [Nat.add_zero, List.getElem?_set_self (by omega)]; rfl, ?_, ?_, ?_, ?_⟩, d1, d2, d3, d4⟩ <;> (rw [List.getElem?_set_ne (by omega)]; assumption)
 ·refine ⟨⟨?_, by rw [List.getElem?_set_self (by omega)]; rfl, ?_, ?_, ?_⟩, d1, d2, d3, d4⟩ <;> (rw [List.getElem?_set_ne (by omega)]; assumption)
 ·refine ⟨⟨?_, ?_, ?_, by rw [List.getElem?_set_self (by omega)]; rfl, ?_⟩, d1, d2, d3, d4⟩ <;> (rw [List.getElem?_set_ne (by omega)]; assumption)
theorem row_setT {p : Nat → Prop} {w : World} {base g c : Nat} {L : List RuL} {k : Nat} {T' : Option Addr} {tc' : Nat} {ts : List TmL} (h : RowRu p w base (.slice (some ⟨g, 0, none⟩) L.length c) L) (hk : k < L.length) (ht : RTp (fun b => p b ∧ (Value.slice (some ⟨g, 0, none⟩) L.length c).ownBlock ≠ some b) w T' ts) (hc : ts.length ≤ tc') :
  RowRu p (w.setCell ⟨g, k * 5 + 4, none⟩ (.slice T' ts.length tc')) base (.slice (some ⟨g, 0, none⟩) L.length c) (L.set k ⟨L[k].frm, L[k].to_, L[k].gs, L[k].eat, ts⟩) := by
 refine row_set h hk (by omega) fun vs hv G gc T tc ⟨h0, h1, h2, h3, h4⟩ d1 d2 d3 d4 => ⟨G, gc, T', tc', ?_⟩
 refine ⟨⟨?_, ?_, ?_, ?_, by rw [List.getElem?_set_self (by omega)]⟩, d1, d2, ht, hc⟩ <;> (rw [List.getElem?_set_ne (by omega)]; assumption)
def BndR (r : RuL) : Prop := r.gs.length ≤ maxLen ∧ (∀ g ∈ r.gs, g.length ≤ maxLen) ∧ r.out.length ≤ maxLen ∧ IntR r.eat
theorem ru_bounds {w : World} {A : Option Addr} {n : Nat} {L : List RuL} (h : RRu w A n L) : ∀ r ∈ L, BndR r := fun r hr => by
 obtain ⟨j, hj, rfl⟩ := List.getElem_of_mem hr
 obtain ⟨b, off, _, _, hc⟩ := h.2 (by have := h.1; omega)
 obtain ⟨_, _, _, ⟨_, _, _, _, _, h1, h2⟩, _, _, _, _, _, h3, h4⟩ := hc j hj
 exact ⟨h1, h2, h3, h4⟩
theorem bnd_set {L : List RuL} {k : Nat} {q : RuL} (h : ∀ r ∈ L, BndR r) (hq : BndR q) : ∀ r ∈ L.set k q, BndR r := fun r hr => by
 rcases List.mem_or_eq_of_mem_set hr with h1 | h1
 ·exact h r h1
 ·rw [h1]; exact hq
def SpdD (i o : Int) (B : Option Addr) (cf : Nat) (fs : List FiL) (b : Nat) (W : World) : Prop :=
 ∃ n s A c rs, DB W b i o n s A rs.length c B fs.length cf ∧ RRu W A rs.length rs ∧ rs.length ≤ maxLen ∧ RFi W B fs.length fs
theorem spd_mk {p : Nat → Prop} {i o n s : Int} {B : Option Addr} {cf : Nat} {fs : List FiL} {b : Nat} {W : World} {base g m c : Nat} {L : List RuL} (hm : L.length = m) (h : RowRu p W base (.slice (some ⟨g, 0, none⟩) m c) L) (hb : ∀ r ∈ L, BndR r)
  (hd : DB W b i o n s (some ⟨g, 0, none⟩) m c B fs.length cf) (hf : RFi W B fs.length fs) : SpdD i o B cf fs b W := by
 subst hm
 obtain ⟨A, c', e, h1, h2, h3⟩ := h.reads hb
 injection e with e1 _ e2
 subst e1 e2
 exact ⟨n, s, _, _, L, hd, h1, h3, hf⟩
theorem blk_of {w : World} {base g m c size : Nat} {e : TypeId} {vs : List Value} (h : w.ownsRow base e size (.slice (some ⟨g, 0, none⟩) m c) m vs) : ∃ cs, Blk w g e cs := by
 rcases h.2 with ⟨h', _⟩ | ⟨g', cap', cur, h', _, hg, _⟩
 ·simp at h'
 ·simp only [Value.slice.injEq, Option.some.injEq, Addr.mk.injEq, and_true, true_and] at h'
  obtain ⟨rfl, rfl⟩ := h'
  exact ⟨_, hg⟩
theorem rule_at {p : Nat → Prop} {w : World} {base g c : Nat} {L : List RuL} {k : Nat} (h : RowRu p w base (.slice (some ⟨g, 0, none⟩) L.length c) L) (hk : k < L.length) :
  (∀ r, w.frozen? ⟨g, r, none⟩ = false) ∧ g < w.heap.size ∧ w.cell? ⟨g, k * 5, none⟩ = some (.int .i64 L[k].frm) ∧ w.cell? ⟨g, k * 5 + 1, none⟩ = some (.int .i64 L[k].to_) ∧ w.cell? ⟨g, k * 5 + 3, none⟩ = some (.int .i64 L[k].eat) ∧
   ∃ T tc, w.cell? ⟨g, k * 5 + 4, none⟩ = some (.slice T L[k].out.length tc) ∧ RTp (fun b => p b ∧ b ≠ g) w T L[k].out ∧ L[k].out.length ≤ tc := by
 obtain ⟨vs, h1, h2⟩ := h
 obtain ⟨cs, hb⟩ := blk_of h1
 obtain ⟨G, gc, T, tc, ⟨a0, a1, a2, a3, a4⟩, b1, b2, b3, b4⟩ := h2 k hk
 have cc : ∀ r, r < 5 → w.cell? ⟨g, k * 5 + r, none⟩ = vs[k * 5 + r]? := fun r hr => World.ownsRow.cellAt h1 (k * 5 + r) (by omega)
 have c0 := cc 0 (by omega)
 rw [Nat.add_zero] at c0
 refine ⟨fun r => hb.frozen r, hb.lt, c0.trans a0, (cc 1 (by omega)).trans a1, (cc 3 (by omega)).trans a3, T, tc, (cc 4 (by omega)).trans a4, ?_, b4⟩
 exact b3.keep ⟨Nat.le_refl _, fun _ _ _ => rfl⟩ (fun b hb _ => ⟨hb.1, fun e => hb.2 (by rw [e]; rfl)⟩)
theorem run_append_none {P : Program} {w : World} (base : Nat) (t ty e : TypeId) (i : TypeInfo) (size : Nat) (ht : P.underlying t = some (.slice e)) (hi : P.info? e = some i)
  (v : Value) (n : Nat) (xs : List Value) (hown : w.ownsRow base e size v n xs) (c : Nat) :
  (Builtin.append_ #[t, t] ty #[v, .slice none 0 c]).run P w = .ok v w := by
 rcases hown.2 with ⟨rfl, rfl⟩ | ⟨g, cap, cur, rfl, _, _, hnc, _⟩
 ·simp [Builtin.append_, run_underlying ht, sizeOf, typeInfo, hi, Builtin.lenOf, Builtin.firstCells]
 ·simp [Builtin.append_, run_underlying ht, sizeOf, typeInfo, hi, Builtin.lenOf, Builtin.firstCells, hnc, storeCells]
theorem wpList_append_none {P : Program} {w : World} {ops : Array Oper} {rest : List Oper} {o : Oper} {a : Act} {Q : Exit → Act → World → Prop} (hgd : o.guard = none) (s x : Operand) (t : TypeId)
  (ho : o.op = .call { callee := .builtin .append, args := #[s, x], argTypes := #[t, t] })
  (base : Nat) (e : TypeId) (i : TypeInfo) (size : Nat) (ht : P.underlying t = some (.slice e)) (hi : P.info? e = some i)
  (v : Value) (n : Nat) (xs : List Value) (hs : a.eval s = v) (hown : w.ownsRow base e size v n xs) (c : Nat) (hx : a.eval x = .slice none 0 c)
  (h : wpList P ops Q rest (a.put o.dst v) w) : wpList P ops Q (o :: rest) a w := by
 refine wpList_plain hgd fun K hK => ?_
 have hrun := run_append_none (P := P) base t o.type e i size ht hi v n xs hown c
 unfold Oper.wp
 simp [execOp, ho, resolve, invoke, builtin, hs, hx, hrun, Result.andThen]
 exact hK _ _ h
theorem wpList_append_tms {w : World} {ops : Array Oper} {rest : List Oper} {o : Oper} {a : Act} {Q : Exit → Act → World → Prop} (hgd : o.guard = none) (s x : Operand)
  (ho : o.op = .call { callee := .builtin .append, args := #[s, x], argTypes := #[39, 39] })
  (base : Nat) (v : Value) (hs : a.eval s = v) (hown : w.ownsRow base 45 6 v 0 [])
  (T : Option Addr) (m c : Nat) (cells : List Value) (hx : a.eval x = .slice T m c) (hl : cells.length = m * 6) (hnews : 0 < m → ∃ b off, T = some ⟨b, off, none⟩ ∧ ∀ j u, cells[j]? = some u → w.cell? ((⟨b, off, none⟩ : Addr).add j) = some u) (h1 : ∀ u ∈ cells, u.oneCell' = true)
  (h200 : m ≤ 200) (hbase : base ≤ w.heap.size)
  (h : ∀ v' w', w'.ownsRow base 45 6 v' m cells → w.grownBy w' v.ownBlock → wpList Tryz.prog ops Q rest (a.put o.dst v') w') :
  wpList Tryz.prog ops Q (o :: rest) a w := by
 obtain ⟨i0, hi0, hz0, hz1, hz2⟩ := info_parts infoTerm
 rcases Nat.eq_zero_or_pos m with hm | hm
 ·subst hm
  have : cells = [] := List.eq_nil_of_length_eq_zero (by omega)
  subst this
  cases T with
  | none =>
   exact wpList_append_none hgd s x 39 ho base 45 i0 6 Tryz.underlying39 hi0 v 0 [] hs hown c hx (h v w hown ⟨rfl, rfl, rfl, Nat.le_refl _, fun _ _ _ => rfl⟩)
  | some ad =>
   refine wpList_append_own_at w hgd s x 39 ho base 45 i0 _ 6 64 Tryz.underlying39 hi0 hz0 hz1 hz2 rfl (by decide) v 0 [] hs hown ad 0 c [] hx rfl (fun j u e => by simp at e) (fun u hu => by cases hu) (by simp only [maxLen]; omega) (by omega) hbase ?_
   intro v' w' o1 o2 _ _
   exact h v' w' o1 o2
 ·obtain ⟨b, off, e, hn⟩ := hnews hm
  subst e
  refine wpList_append_own_at w hgd s x 39 ho base 45 i0 _ 6 64 Tryz.underlying39 hi0 hz0 hz1 hz2 rfl (by decide) v 0 [] hs hown ⟨b, off, none⟩ m c cells hx hl hn h1 (by simp only [maxLen]; omega) (by omega) hbase ?_
  intro v' w' o1 o2 _ _
  rw [Nat.zero_add] at o1
  exact h v' w' o1 o2
theorem tm_row {p : Nat → Prop} {w : World} {ts : List TmL} {base g c m : Nat} {vs : List Value} (hm : ts.length = m) (hown : w.ownsRow base 45 6 (.slice (some ⟨g, 0, none⟩) m c) m vs) (hp : p g)
  (hc : ∀ (j : Nat) (hj : j < ts.length), ∃ A' c', vs[j * 6]? = some (.int .i64 ts[j].b) ∧ vs[j * 6 + 1]? = some (.int .i64 ts[j].d) ∧ vs[j * 6 + 2]? = some (.int .i64 ts[j].t) ∧ vs[j * 6 + 3]? = some (.int .i64 ts[j].u) ∧ vs[j * 6 + 4]? = some (.int .i64 ts[j].s) ∧ vs[j * 6 + 5]? = some (.slice A' ts[j].ps.length c') ∧ RPp p w A' ts[j].ps ∧ ts[j].ps.length ≤ c' ∧ ts[j].ps.length ≤ maxLen) :
  RTp p w (some ⟨g, 0, none⟩) ts := fun hn => by
 subst hm
 refine ⟨g, 0, rfl, hp, (World.ownsRow.lt hown g rfl).2, fun j hj => ?_⟩
 have cc : ∀ r, r < 6 → w.cell? ⟨g, 0 + j * 6 + r, none⟩ = vs[j * 6 + r]? := fun r hr => by rw [Nat.zero_add]; exact World.ownsRow.cellAt hown (j * 6 + r) (by omega)
 obtain ⟨A', c', a0, a1, a2, a3, a4, a5, a6, a7, a8⟩ := hc j hj
 have c0 := cc 0 (by omega)
 rw [Nat.add_zero, Nat.add_zero] at c0
 exact ⟨c0.trans a0, (cc 1 (by omega)).trans a1, (cc 2 (by omega)).trans a2, (cc 3 (by omega)).trans a3, (cc 4 (by omega)).trans a4, A', c', (cc 5 (by omega)).trans a5, a6, a7, a8⟩
theorem spd_int {i o n s : Int} {B : Option Addr} {cf : Nat} {fs : List FiL} {b : Nat} {W : World} {base g c k r : Nat} {x : Int} {L : List RuL} (h : RowRu (fun _ => True) W base (.slice (some ⟨g, 0, none⟩) L.length c) L) (hk : k < L.length) (hr : r = 0 ∨ r = 1 ∨ r = 3) (hb : ∀ r ∈ L, BndR r) (hx : IntR x)
  (hd : DB W b i o n s (some ⟨g, 0, none⟩) L.length c B fs.length cf) (hbg : b < g) (hf : RFi (W.setCell ⟨g, k * 5 + r, none⟩ (.int .i64 x)) B fs.length fs) : SpdD i o B cf fs b (W.setCell ⟨g, k * 5 + r, none⟩ (.int .i64 x)) := by
 refine spd_mk (L := L.set k (updI r x L[k])) (by simp) (row_setI h hk hr) (bnd_set hb ?_) (hd.below (b := b + 1) (by omega) ((Below.refl (b + 1) W).setCell (show b + 1 ≤ (⟨g, k * 5 + r, none⟩ : Addr).block from hbg) _)) hf
 obtain ⟨h1, h2, h3, h4⟩ := hb _ (List.getElem_mem hk)
 unfold updI
 split
 ·exact ⟨h1, h2, h3, h4⟩
 ·split
  ·exact ⟨h1, h2, h3, h4⟩
  ·exact ⟨h1, h2, h3, hx⟩
theorem spd_box {i o n s : Int} {B : Option Addr} {cf : Nat} {fs : List FiL} {b : Nat} {W : World} {base g c r : Nat} {x : Int} {L : List RuL} (h : RowRu (fun q => q < b) W base (.slice (some ⟨g, 0, none⟩) L.length c) L) (hr : r = 2 ∨ r = 3) (hb : ∀ r ∈ L, BndR r)
  (hd : DB W b i o n s (some ⟨g, 0, none⟩) L.length c B fs.length cf) (hbg : b < g) (hf : RFi (W.setCell ⟨b, r, none⟩ (.int .i64 x)) B fs.length fs) : SpdD i o B cf fs b (W.setCell ⟨b, r, none⟩ (.int .i64 x)) := by
 have hrow : RowRu (fun _ => True) (W.setCell ⟨b, r, none⟩ (.int .i64 x)) base (.slice (some ⟨g, 0, none⟩) L.length c) L := by
  refine (h.keep (q := fun q => q < b) (by simp) (fun q e => heap_other (fun z => ?_)) (fun q hq _ _ => heap_other (fun z => ?_)) (fun q hq _ => hq)).any
  ·have : g = q := by simpa [Value.ownBlock] using e
   simp only at z
   omega
  ·simp only at z hq; omega
 have hset : ∀ j, j ≠ r → (W.setCell ⟨b, r, none⟩ (.int .i64 x)).cell? ⟨b, j, none⟩ = W.cell? ⟨b, j, none⟩ := fun j hj => World.cell?_setCell_other _ _ _ _ (fun q => hj (by injection q with _ q; exact q.symm))
 obtain ⟨y0, y1, y2, y3, y4, y5⟩ := hd
 rcases hr with rfl | rfl
 ·exact spd_mk rfl hrow hb (n := x) (s := s) ⟨(hset 0 (by decide)).trans y0, (hset 1 (by decide)).trans y1, World.cell?_setCell_same _ _ _ y2, (hset 3 (by decide)).trans y3, (hset 4 (by decide)).trans y4, (hset 5 (by decide)).trans y5⟩ hf
 ·exact spd_mk rfl hrow hb (n := n) (s := x) ⟨(hset 0 (by decide)).trans y0, (hset 1 (by decide)).trans y1, (hset 2 (by decide)).trans y2, World.cell?_setCell_same _ _ _ y3, (hset 4 (by decide)).trans y4, (hset 5 (by decide)).trans y5⟩ hf
theorem spd_terms {i o n s : Int} {B : Option Addr} {cf : Nat} {fs : List FiL} {b : Nat} {W : World} {base g c k m : Nat} {T : Option Addr} {tc : Nat} {ts : List TmL} {L : List RuL} (h : RowRu (fun _ => True) W base (.slice (some ⟨g, 0, none⟩) L.length c) L) (hk : k < L.length) (hb : ∀ r ∈ L, BndR r)
  (hd : DB W b i o n s (some ⟨g, 0, none⟩) L.length c B fs.length cf) (hbg : b < g) (hm : ts.length = m) (ht : RTp (fun q => q ≠ g) W T ts) (hc : m ≤ tc) (hmx : m ≤ maxLen) (hf : RFi (W.setCell ⟨g, k * 5 + 4, none⟩ (.slice T m tc)) B fs.length fs) :
  SpdD i o B cf fs b (W.setCell ⟨g, k * 5 + 4, none⟩ (.slice T m tc)) := by
 subst hm
 refine spd_mk (L := L.set k ⟨L[k].frm, L[k].to_, L[k].gs, L[k].eat, ts⟩) (by simp) (row_setT h hk (ht.keep ⟨Nat.le_refl _, fun _ _ _ => rfl⟩ (fun q hq _ => ⟨trivial, fun e => hq (by simpa [Value.ownBlock] using e.symm)⟩)) hc) (bnd_set hb ?_) (hd.below (b := b + 1) (by omega) ((Below.refl (b + 1) W).setCell (show b + 1 ≤ (⟨g, k * 5 + 4, none⟩ : Addr).block from hbg) _)) hf
 obtain ⟨h1, h2, h3, h4⟩ := hb _ (List.getElem_mem hk)
 exact ⟨h1, h2, hmx, h4⟩
theorem tms_cells {p : Nat → Prop} {w : World} {T : Option Addr} {ts : List TmL} (h : RTp p w T ts) : ∃ cells : List Value, cells.length = ts.length * 6 ∧ (0 < ts.length → ∃ b off, T = some ⟨b, off, none⟩ ∧ b < w.heap.size ∧ ∀ j u, cells[j]? = some u → w.cell? ((⟨b, off, none⟩ : Addr).add j) = some u) ∧ (∀ u ∈ cells, u.oneCell' = true) ∧
  ∀ (j : Nat) (hj : j < ts.length), ∃ A' c', cells[j * 6]? = some (.int .i64 ts[j].b) ∧ cells[j * 6 + 1]? = some (.int .i64 ts[j].d) ∧ cells[j * 6 + 2]? = some (.int .i64 ts[j].t) ∧ cells[j * 6 + 3]? = some (.int .i64 ts[j].u) ∧ cells[j * 6 + 4]? = some (.int .i64 ts[j].s) ∧ cells[j * 6 + 5]? = some (.slice A' ts[j].ps.length c') ∧ RPp p w A' ts[j].ps ∧ ts[j].ps.length ≤ c' ∧ ts[j].ps.length ≤ maxLen := by
 rcases Nat.eq_zero_or_pos ts.length with hz | hz
 ·exact ⟨[], by simp [hz], fun q => by omega, fun u hu => (by cases hu), fun j hj => by omega⟩
 obtain ⟨b, off, e, _, hb, hc⟩ := h hz
 have hall : ∀ j, j < ts.length * 6 → ∃ u, w.cell? ⟨b, off + j, none⟩ = some u ∧ u.oneCell' = true := fun j hj => by
  obtain ⟨h0, h1, h2, h3, h4, A', c', h5, _⟩ := hc (j / 6) (by omega)
  have hm : j % 6 = 0 ∨ j % 6 = 1 ∨ j % 6 = 2 ∨ j % 6 = 3 ∨ j % 6 = 4 ∨ j % 6 = 5 := by omega
  rcases hm with q | q | q | q | q | q
  ·rw [show off + j = off + j / 6 * 6 by omega]; exact ⟨_, h0, rfl⟩
  ·rw [show off + j = off + j / 6 * 6 + 1 by omega]; exact ⟨_, h1, rfl⟩
  ·rw [show off + j = off + j / 6 * 6 + 2 by omega]; exact ⟨_, h2, rfl⟩
  ·rw [show off + j = off + j / 6 * 6 + 3 by omega]; exact ⟨_, h3, rfl⟩
  ·rw [show off + j = off + j / 6 * 6 + 4 by omega]; exact ⟨_, h4, rfl⟩
  ·rw [show off + j = off + j / 6 * 6 + 5 by omega]; exact ⟨_, h5, rfl⟩
 refine ⟨cellsAt w b off (ts.length * 6), cellsAt_len _ _ _ _, fun _ => ⟨b, off, e, hb, cellsAt_news fun j hj => ⟨_, (hall j hj).choose_spec.1⟩⟩, fun u hu => ?_, fun j hj => ?_⟩
 ·obtain ⟨j, hj, rfl⟩ := List.getElem_of_mem hu
  have hj' : j < ts.length * 6 := by rw [cellsAt_len] at hj; exact hj
  obtain ⟨u', h1, h2⟩ := hall j hj'
  have h3 := cellsAt_get hj' h1
  rw [List.getElem?_eq_getElem hj] at h3
  injection h3 with h3
  rw [h3]; exact h2
 ·obtain ⟨h0, h1, h2, h3, h4, A', c', h5, h6, h7, h8⟩ := hc j hj
  exact ⟨A', c', cellsAt_get (by omega) h0, cellsAt_get (by omega) h1, cellsAt_get (by omega) h2, cellsAt_get (by omega) h3, cellsAt_get (by omega) h4, cellsAt_get (by omega) h5, h6, h7, h8⟩
theorem own_cap {w : World} {base g m c size : Nat} {e : TypeId} {vs : List Value} (h : w.ownsRow base e size (.slice (some ⟨g, 0, none⟩) m c) m vs) : m ≤ c := by
 rcases h.2 with ⟨h', _⟩ | ⟨g', cap', cur, h', _, _, hn, _⟩
 ·simp at h'
 ·simp only [Value.slice.injEq, Option.some.injEq, Addr.mk.injEq, and_true, true_and] at h'
  obtain ⟨rfl, rfl⟩ := h'
  exact hn
theorem terms_more {p q : Nat → Prop} {w w' : World} {ts : List TmL} {cells : List Value} {base g c : Nat} {x : Int} (hcl : cells.length = ts.length * 6)
  (hc : ∀ (j : Nat) (hj : j < ts.length), ∃ A' c', cells[j * 6]? = some (.int .i64 ts[j].b) ∧ cells[j * 6 + 1]? = some (.int .i64 ts[j].d) ∧ cells[j * 6 + 2]? = some (.int .i64 ts[j].t) ∧ cells[j * 6 + 3]? = some (.int .i64 ts[j].u) ∧ cells[j * 6 + 4]? = some (.int .i64 ts[j].s) ∧ cells[j * 6 + 5]? = some (.slice A' ts[j].ps.length c') ∧ RPp p w A' ts[j].ps ∧ ts[j].ps.length ≤ c' ∧ ts[j].ps.length ≤ maxLen)
  (hown : w'.ownsRow base 45 6 (.slice (some ⟨g, 0, none⟩) (ts.length + 1) c) (ts.length + 1) (cells ++ [.int .i64 0, .int .i64 0, .int .i64 21, .int .i64 0, .int .i64 x, .slice none 0 0])) (hk : Below w.heap.size w w') (hp : q g) (hq : ∀ b, p b → q b) :
  RTp q w' (some ⟨g, 0, none⟩) (ts ++ [⟨0, 0, 21, 0, x, []⟩]) := by
 refine tm_row (by simp) hown hp fun j hj => ?_
 rw [List.length_append, List.length_singleton] at hj
 rcases Nat.lt_or_ge j ts.length with h | h
 ·obtain ⟨A', c', a0, a1, a2, a3, a4, a5, a6, a7, a8⟩ := hc j h
  rw [show (ts ++ [(⟨0, 0, 21, 0, x, []⟩ : TmL)])[j]'(by simp; omega) = ts[j] from List.getElem_append_left h]
  have e : ∀ r, r < 6 → (cells ++ [Value.int .i64 0, .int .i64 0, .int .i64 21, .int .i64 0, .int .i64 x, .slice none 0 0])[j * 6 + r]? = cells[j * 6 + r]? := fun r hr => List.getElem?_append_left (by omega)
  exact ⟨A', c', (e 0 (by omega)).trans a0, (e 1 (by omega)).trans a1, (e 2 (by omega)).trans a2, (e 3 (by omega)).trans a3, (e 4 (by omega)).trans a4, (e 5 (by omega)).trans a5, a6.keep ⟨hk.size, fun b _ hb => hk.block b hb⟩ (fun b hb _ => hq b hb), a7, a8⟩
 ·have hj' : j = ts.length := by omega
  subst hj'
  rw [show (ts ++ [(⟨0, 0, 21, 0, x, []⟩ : TmL)])[ts.length]'(by simp) = ⟨0, 0, 21, 0, x, []⟩ from by simp]
  have e : ∀ r, (cells ++ [Value.int .i64 0, .int .i64 0, .int .i64 21, .int .i64 0, .int .i64 x, .slice none 0 0])[ts.length * 6 + r]? = [Value.int .i64 0, .int .i64 0, .int .i64 21, .int .i64 0, .int .i64 x, .slice none 0 0][r]? := fun r => by
   rw [List.getElem?_append_right (by omega)]
   congr 1
   omega
  exact ⟨none, 0, e 0, e 1, e 2, e 3, e 4, e 5, ⟨RP.nil_ _ _ _, fun h => by simp at h⟩, Nat.le_refl _, Nat.zero_le _⟩
end Go.Proofs.YtbhocpjogkobgaaGreatDoor.De
