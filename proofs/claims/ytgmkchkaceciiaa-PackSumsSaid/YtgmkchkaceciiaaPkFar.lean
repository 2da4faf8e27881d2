/- Rows of elements that lead to memory elsewhere: how they grow, and how they are kept. One text for parts, terms, nodes, acts and ends. -/
import Derived.Test.YtgmkchkaceciiaaPkMem
import Derived.Test.YtgmkchkaceciiaaPkWrite
import Derived.Maps.AppendAt
namespace Go.Proofs.Ytgmkchkaceciiaa.Pk
set_option maxRecDepth 100000
open Go Go.RowKit Go.Proofs.Ytgmkchkaceciiaa.Sp Go.Proofs.Ytgmkchkaceciiaa.Pa Go.Proofs.Ytgmkchkaceciiaa.Te Go.Proofs.Ytgmkchkaceciiaa.Mi Go.Proofs.Ytgmkchkaceciiaa.De

/-- Blocks of p stay as they are. -/
def KeepQ (p : Nat → Prop) (w w' : World) : Prop := w.heap.size ≤ w'.heap.size ∧ ∀ b, p b → b < w.heap.size → w'.heap[b]? = w.heap[b]?
theorem KeepQ.below {p : Nat → Prop} {w w' : World} (hb : Below w.heap.size w w') : KeepQ p w w' := ⟨hb.size, fun b _ h => hb.block b h⟩
theorem KeepQ.cell {p : Nat → Prop} {w w' : World} (h : KeepQ p w w') {b i : Nat} (hp : p b) (hb : b < w.heap.size) : w'.cell? ⟨b, i, none⟩ = w.cell? ⟨b, i, none⟩ := World.cell?_of_block (a := ⟨b, i, none⟩) (h.2 b hp hb)
/-- How elements lie in cells. -/
structure Enc (α : Type) where
  E : TypeId
  S : TypeId
  sz : Nat
  bytes : Nat
  z : Value
  hS : Try.prog.underlying S = some (.slice E)
  info : (Try.prog.info? E).map (fun i => (i.zero, i.size, i.bytes)) = some (some z, sz, bytes)
  hz : z.cells.size = sz
  pos : 0 < sz
  few : bytes ≤ 128
  ok : (Nat → Prop) → World → α → List Value → Prop
  len : ∀ {p w a cs}, ok p w a cs → cs.length = sz
  one : ∀ {p w a cs}, ok p w a cs → ∀ u ∈ cs, u.oneCell' = true
  keep : ∀ {p q w w' a cs}, ok p w a cs → KeepQ p w w' → (∀ b, p b → b < w.heap.size → q b) → ok q w' a cs
/-- A slice's elements, somewhere in blocks of p. -/
def FarE {α : Type} (e : Enc α) (p : Nat → Prop) (w : World) (A : Option Addr) (l : List α) : Prop :=
  0 < l.length → ∃ b off, A = some ⟨b, off, none⟩ ∧ p b ∧ b < w.heap.size ∧ ∀ (j : Nat) (h : j < l.length), ∃ cs, (∀ i u, cs[i]? = some u → w.cell? ⟨b, off + j * e.sz + i, none⟩ = some u) ∧ e.ok p w l[j] cs
theorem FarE.keep {α : Type} {e : Enc α} {p q : Nat → Prop} {w w' : World} {A : Option Addr} {l : List α} (h : FarE e p w A l) (hk : KeepQ p w w') (hq : ∀ b, p b → b < w.heap.size → q b) : FarE e q w' A l := fun hn => by
  obtain ⟨b, off, e1, hp, hb, hc⟩ := h hn
  refine ⟨b, off, e1, hq b hp hb, Nat.lt_of_lt_of_le hb hk.1, fun j hj => ?_⟩
  obtain ⟨cs, h1, h2⟩ := hc j hj
  exact ⟨cs, fun i u hu => (hk.cell hp hb).trans (h1 i u hu), e.keep h2 hk hq⟩
theorem FarE.nil_ {α : Type} {e : Enc α} {p : Nat → Prop} {w : World} {A : Option Addr} : FarE e p w A [] := fun h => absurd h (by simp)
/-- A row of the call's own that grows. -/
def RowE {α : Type} (e : Enc α) (base : Nat) (w : World) (v : Value) (l : List α) : Prop :=
  ∃ css : List (List Value), w.ownsRow base e.E e.sz v l.length css.flatten ∧ css.length = l.length ∧ ∀ (j : Nat) (h : j < l.length) (h2 : j < css.length), e.ok (fun b => base ≤ b ∧ v.ownBlock ≠ some b) w l[j] css[j]
theorem flatten_len {sz : Nat} : ∀ (css : List (List Value)), (∀ c ∈ css, c.length = sz) → css.flatten.length = css.length * sz
  | [], _ => by simp
  | c :: css, h => by
    rw [List.flatten_cons, List.length_append, flatten_len css (fun d hd => h d (List.mem_cons_of_mem _ hd)), h c List.mem_cons_self, List.length_cons, Nat.add_mul, Nat.one_mul, Nat.add_comm]
theorem flatten_at {sz : Nat} : ∀ (css : List (List Value)), (∀ c ∈ css, c.length = sz) → ∀ (j i : Nat) (h : j < css.length), i < sz → css.flatten[j * sz + i]? = css[j][i]?
  | [], _, j, i, h, _ => by simp at h
  | c :: css, h, 0, i, _, hi => by
    have hc := h c List.mem_cons_self
    rw [List.flatten_cons, Nat.zero_mul, Nat.zero_add, List.getElem?_append_left (by omega)]
    rfl
  | c :: css, h, j + 1, i, hj, hi => by
    have hc := h c List.mem_cons_self
    rw [List.flatten_cons, List.getElem?_append_right (by rw [hc, Nat.add_mul, Nat.one_mul]; omega), hc, show (j + 1) * sz + i - sz = j * sz + i by rw [Nat.add_mul, Nat.one_mul]; omega]
    exact flatten_at css (fun d hd => h d (List.mem_cons_of_mem _ hd)) j i (by simpa using hj) hi
section
variable {α : Type} {e : Enc α} {base : Nat} {w w' : World} {v : Value} {l : List α}
theorem RowE.nil_ (w : World) (base : Nat) : RowE e base w (.slice none 0 0) [] := ⟨[], World.ownsRow_nil _ _ _ _, rfl, fun j h => absurd h (by simp)⟩
theorem RowE.lt (h : RowE e base w v l) (k : Nat) (hk : v.ownBlock = some k) : base ≤ k ∧ k < w.heap.size := by
  obtain ⟨css, h1, _⟩ := h
  exact World.ownsRow.lt h1 k hk
theorem RowE.shape (h : RowE e base w v l) : ∃ A c, v = .slice A l.length c := by
  obtain ⟨css, h1, _⟩ := h
  rcases h1.2 with ⟨rfl, h0⟩ | ⟨g, cap, cur, rfl, _⟩
  · exact ⟨none, 0, by rw [h0]⟩
  · exact ⟨_, _, rfl⟩
theorem RowE.keep (h : RowE e base w v l) (hk : KeepQ (fun b => base ≤ b) w w') : RowE e base w' v l := by
  obtain ⟨css, h1, h2, h3⟩ := h
  exact ⟨css, ownsRow_keep h1 fun g hg => hk.2 g (World.ownsRow.lt h1 g hg).1 (World.ownsRow.lt h1 g hg).2, h2, fun j a b => e.keep (h3 j a b) ⟨hk.1, fun b hb hlt => hk.2 b hb.1 hlt⟩ fun b hb _ => hb⟩
theorem RowE.far (h : RowE e base w v l) : ∃ A c, v = .slice A l.length c ∧ FarE e (fun b => base ≤ b) w A l ∧ l.length ≤ c := by
  obtain ⟨css, h1, h2, h3⟩ := h
  have hcs : ∀ c ∈ css, c.length = e.sz := fun c hc => by
    obtain ⟨j, hj, rfl⟩ := List.getElem_of_mem hc
    exact e.len (h3 j (by omega) hj)
  rcases h1.2 with ⟨rfl, h0⟩ | ⟨g, cap, cur, rfl, hg, hr⟩
  · obtain rfl := List.eq_nil_of_length_eq_zero h0
    exact ⟨none, 0, rfl, FarE.nil_, Nat.le_refl _⟩
  · refine ⟨_, cap, rfl, fun hn => ⟨g, 0, rfl, hg, (World.ownsRow.lt h1 g rfl).2, fun j hj => ⟨css[j]'(by omega), fun i u hu => ?_, ?_⟩⟩, hr.2.1⟩
    · have hi : i < e.sz := by
        have := hcs css[j] (List.getElem_mem _)
        rw [← this]
        exact (List.getElem?_eq_some_iff.1 hu).1
      rw [Nat.zero_add, World.ownsRow.cellAt h1 (j * e.sz + i) (by
        have : (j + 1) * e.sz ≤ l.length * e.sz := Nat.mul_le_mul_right _ hj
        rw [Nat.add_mul, Nat.one_mul] at this
        omega), flatten_at css hcs j i (by omega) hi]
      exact hu
    · exact e.keep (h3 j hj (by omega)) ⟨Nat.le_refl _, fun _ _ _ => rfl⟩ fun b hb _ => hb.1
/-- append of one element that lies in a block of its own. -/
theorem RowE.run (h : RowE e base w v l) (ty : TypeId) (ad : Addr) (c : Nat) {a : α} {cs : List Value} (ha : e.ok (fun b => base ≤ b ∧ v.ownBlock ≠ some b) w a cs) (hnews : ∀ j u, cs[j]? = some u → w.cell? (ad.add j) = some u) (hb : l.length + 1 ≤ 1099511627776) (hbase : base ≤ w.heap.size) :
    ∃ v' w', (Builtin.append_ #[e.S, e.S] ty #[v, .slice (some ad) 1 c]).run Try.prog w = .ok v' w' ∧ RowE e base w' v' (l ++ [a]) ∧ w.grownBy w' v.ownBlock ∧ OwnN v v' w := by
  obtain ⟨css, h1, h2, h3⟩ := h
  obtain ⟨i0, hi, hz0, hz1, hz2⟩ := info_parts e.info
  obtain ⟨v', w', r1, r2, r3, _, r5⟩ := run_append_own_at (P := Try.prog) w base e.S ty e.E i0 _ e.sz e.bytes e.hS hi hz0 hz1 hz2 e.hz e.pos v l.length css.flatten h1 ad 1 c cs (by rw [e.len ha, Nat.one_mul]) hnews (e.one ha) (by simp only [maxLen]; omega) (by
    have : (l.length + 1) * e.bytes ≤ (l.length + 1) * 128 := Nat.mul_le_mul_left _ e.few
    omega) hbase
  have hon : OwnN v v' w := fun k hk => by
    rcases r5 with q | q
    · exact .inl (by rw [← q]; exact hk)
    · rw [q] at hk
      injection hk with hk
      exact .inr (by omega)
  refine ⟨v', w', r1, ⟨css ++ [cs], ?_, by simp [h2], fun j hj hj2 => ?_⟩, r3, hon⟩
  · rw [List.length_append, List.length_singleton, List.flatten_append]
    simpa using r2
  · have hkq : KeepQ (fun b => base ≤ b ∧ v.ownBlock ≠ some b) w w' := ⟨r3.size, fun b hb hlt => r3.block b hlt fun q => hb.2 q.symm⟩
    have hnx : ∀ b, base ≤ b ∧ v.ownBlock ≠ some b → b < w.heap.size → base ≤ b ∧ v'.ownBlock ≠ some b := fun b hb hlt => ⟨hb.1, fun q => by
      rcases hon b q with z | z
      · exact hb.2 z
      · omega⟩
    rcases Nat.lt_or_ge j l.length with q | q
    · rw [List.getElem_append_left q, List.getElem_append_left (by omega)]
      exact e.keep (h3 j q (by omega)) hkq hnx
    · have hje : j = l.length := by simp at hj; omega
      subst hje
      rw [List.getElem_append_right (Nat.le_refl _), List.getElem_append_right (by omega)]
      simp only [h2, Nat.sub_self, List.getElem_cons_zero]
      exact e.keep ha hkq hnx
end
theorem wpList_append_E {α : Type} {e : Enc α} {w : World} {ops : Array Oper} {rest : List Oper} {o : Oper} {a : Act} {Q : Exit → Act → World → Prop} (hgd : o.guard = none) (s x : Operand)
    (ho : o.op = .call { callee := .builtin .append, args := #[s, x], argTypes := #[e.S, e.S] })
    {base : Nat} {v : Value} {l : List α} (hs : a.eval s = v) (hrow : RowE e base w v l) (ad : Addr) (c : Nat) {y : α} {cs : List Value} (hx : a.eval x = .slice (some ad) 1 c) (hy : e.ok (fun b => base ≤ b ∧ v.ownBlock ≠ some b) w y cs) (hnews : ∀ j u, cs[j]? = some u → w.cell? (ad.add j) = some u) (hb : l.length + 1 ≤ 1099511627776) (hbase : base ≤ w.heap.size)
    (h : ∀ v' w', RowE e base w' v' (l ++ [y]) → w.grownBy w' v.ownBlock → OwnN v v' w → wpList Try.prog ops Q rest (a.put o.dst v') w') : wpList Try.prog ops Q (o :: rest) a w := by
  refine wpList_plain hgd fun K hK => ?_
  obtain ⟨v', w', hr, h2, h3, h4⟩ := hrow.run o.type ad c hy hnews hb hbase
  unfold Oper.wp execOp
  simp only [ho, resolve, invoke, builtin, Sem.run_bind, Sem.run_pure, Result.andThen_ok, List.map_toArray, List.map_cons, List.map_nil, hs, hx, hr]
  exact hK _ _ (h v' w' h2 h3 h4)
theorem wp_append_E {α : Type} {e : Enc α} {w : World} {o : Oper} {a : Act} {K : Act → World → Prop} {Q : Exit → Act → World → Prop} (s x : Operand)
    (ho : o.op = .call { callee := .builtin .append, args := #[s, x], argTypes := #[e.S, e.S] })
    {base : Nat} {v : Value} {l : List α} (hs : a.eval s = v) (hrow : RowE e base w v l) (ad : Addr) (c : Nat) {y : α} {cs : List Value} (hx : a.eval x = .slice (some ad) 1 c) (hy : e.ok (fun b => base ≤ b ∧ v.ownBlock ≠ some b) w y cs) (hnews : ∀ j u, cs[j]? = some u → w.cell? (ad.add j) = some u) (hb : l.length + 1 ≤ 1099511627776) (hbase : base ≤ w.heap.size)
    (h : ∀ v' w', RowE e base w' v' (l ++ [y]) → w.grownBy w' v.ownBlock → OwnN v v' w → K (a.put o.dst v') w') : Oper.wp Try.prog o a w K Q := by
  obtain ⟨v', w', hr, h2, h3, h4⟩ := hrow.run o.type ad c hy hnews hb hbase
  unfold Oper.wp execOp
  simp only [ho, resolve, invoke, builtin, Sem.run_bind, Sem.run_pure, Result.andThen_ok, List.map_toArray, List.map_cons, List.map_nil, hs, hx, hr]
  exact h v' w' h2 h3 h4
/-- Parts, terms, nodes, acts, ends, integers. -/
def ePart : Enc PT where
  E := 120
  S := 112
  sz := 4
  bytes := 32
  z := .agg #[.int .i64 0, .int .i64 0, .int .i64 0, .int .i64 0]
  hS := Try.underlying112
  info := by kernel_rfl
  hz := rfl
  pos := by decide
  few := by decide
  ok := fun _ _ q cs => cs = [.int .i64 q.1, .int .i64 q.2.1, .int .i64 q.2.2.1, .int .i64 q.2.2.2]
  len := fun h => by subst h; rfl
  one := fun h u hu => by
    subst h
    simp only [List.mem_cons, List.not_mem_nil, or_false] at hu
    rcases hu with rfl | rfl | rfl | rfl <;> rfl
  keep := fun h _ _ => h
def eTerm : Enc TmL where
  E := 114
  S := 83
  sz := 6
  bytes := 64
  z := .agg #[.int .i64 0, .int .i64 0, .int .i64 0, .int .i64 0, .int .i64 0, .slice none 0 0]
  hS := Try.underlying83
  info := by kernel_rfl
  hz := rfl
  pos := by decide
  few := by decide
  ok := fun p w t cs => ∃ A c, cs = [.int .i64 t.b, .int .i64 t.d, .int .i64 t.t, .int .i64 t.u, .int .i64 t.s, .slice A t.ps.length c] ∧ FarE ePart p w A t.ps ∧ t.ps.length ≤ c ∧ t.ps.length ≤ maxLen
  len := fun ⟨_, _, h, _⟩ => by subst h; rfl
  one := fun ⟨_, _, h, _⟩ u hu => by
    subst h
    simp only [List.mem_cons, List.not_mem_nil, or_false] at hu
    rcases hu with rfl | rfl | rfl | rfl | rfl | rfl <;> rfl
  keep := fun ⟨A, c, h1, h2, h3⟩ hk hq => ⟨A, c, h1, h2.keep hk hq, h3⟩
def eInt : Enc Int where
  E := 3
  S := 63
  sz := 1
  bytes := 8
  z := .int .i64 0
  hS := Try.underlying63
  info := by kernel_rfl
  hz := rfl
  pos := by decide
  few := by decide
  ok := fun _ _ x cs => cs = [.int .i64 x]
  len := fun h => by subst h; rfl
  one := fun h u hu => by
    subst h
    simp only [List.mem_cons, List.not_mem_nil, or_false] at hu
    rw [hu]
    rfl
  keep := fun h _ _ => h
def eNode : Enc NdL where
  E := 81
  S := 40
  sz := 3
  bytes := 40
  z := .agg #[.int .i64 0, .slice none 0 0, .int .i64 0]
  hS := Try.underlying40
  info := by kernel_rfl
  hz := rfl
  pos := by decide
  few := by decide
  ok := fun p w n cs => ∃ A c, cs = [.int .i64 n.1, .slice A n.2.2.length c, .int .i64 n.2.1] ∧ FarE eInt p w A n.2.2 ∧ n.2.2.length ≤ c ∧ n.2.2.length ≤ maxLen ∧ ∀ x ∈ n.2.2, IntR x
  len := fun ⟨_, _, h, _⟩ => by subst h; rfl
  one := fun ⟨_, _, h, _⟩ u hu => by
    subst h
    simp only [List.mem_cons, List.not_mem_nil, or_false] at hu
    rcases hu with rfl | rfl | rfl <;> rfl
  keep := fun ⟨A, c, h1, h2, h3⟩ hk hq => ⟨A, c, h1, h2.keep hk hq, h3⟩
def eAct : Enc AcL where
  E := 85
  S := 41
  sz := 3
  bytes := 40
  z := .agg #[.int .i64 0, .int .i64 0, .slice none 0 0]
  hS := Try.underlying41
  info := by kernel_rfl
  hz := rfl
  pos := by decide
  few := by decide
  ok := fun p w n cs => ∃ A c, cs = [.int .i64 n.1, .int .i64 n.2.1, .slice A n.2.2.length c] ∧ FarE eTerm p w A n.2.2 ∧ n.2.2.length ≤ c ∧ n.2.2.length ≤ maxLen
  len := fun ⟨_, _, h, _⟩ => by subst h; rfl
  one := fun ⟨_, _, h, _⟩ u hu => by
    subst h
    simp only [List.mem_cons, List.not_mem_nil, or_false] at hu
    rcases hu with rfl | rfl | rfl <;> rfl
  keep := fun ⟨A, c, h1, h2, h3⟩ hk hq => ⟨A, c, h1, h2.keep hk hq, h3⟩
def eEnd : Enc (List TmL) where
  E := 83
  S := 42
  sz := 1
  bytes := 24
  z := .slice none 0 0
  hS := Try.underlying42
  info := by kernel_rfl
  hz := rfl
  pos := by decide
  few := by decide
  ok := fun p w l cs => ∃ A c, cs = [.slice A l.length c] ∧ FarE eTerm p w A l ∧ l.length ≤ c ∧ l.length ≤ maxLen
  len := fun ⟨_, _, h, _⟩ => by subst h; rfl
  one := fun ⟨_, _, h, _⟩ u hu => by
    subst h
    simp only [List.mem_cons, List.not_mem_nil, or_false] at hu
    rw [hu]
    rfl
  keep := fun ⟨A, c, h1, h2, h3⟩ hk hq => ⟨A, c, h1, h2.keep hk hq, h3⟩
section
variable {p : Nat → Prop} {w : World} {A : Option Addr}
theorem far_parts {l : List PT} (h : FarE ePart p w A l) : RP w w.heap.size A l.length l := ⟨rfl, fun hn => by
  obtain ⟨b, off, e, _, hb, hc⟩ := h hn
  refine ⟨b, off, e, hb, fun j hj => ?_⟩
  obtain ⟨cs, h1, rfl⟩ := hc j hj
  exact ⟨h1 0 _ rfl, h1 1 _ rfl, h1 2 _ rfl, h1 3 _ rfl⟩⟩
theorem far_terms {l : List TmL} (h : FarE eTerm p w A l) : RTm w A l.length l := ⟨rfl, fun hn => by
  obtain ⟨b, off, e, _, hb, hc⟩ := h hn
  refine ⟨b, off, e, hb, fun j hj => ?_⟩
  obtain ⟨cs, h1, A', c', rfl, h2, h3, h4⟩ := hc j hj
  exact ⟨h1 0 _ rfl, h1 1 _ rfl, h1 2 _ rfl, h1 3 _ rfl, h1 4 _ rfl, A', c', h1 5 _ rfl, far_parts h2, h3, h4⟩⟩
theorem far_nodes {l : List NdL} (h : FarE eNode p w A l) : RNd w A l.length l := ⟨rfl, fun hn => by
  obtain ⟨b, off, e, _, hb, hc⟩ := h hn
  refine ⟨b, off, e, hb, fun j hj => ?_⟩
  obtain ⟨cs, h1, A', c', rfl, h2, h3, h4, h5⟩ := hc j hj
  refine ⟨h1 0 _ rfl, h1 2 _ rfl, A', c', h1 1 _ rfl, ⟨rfl, fun hm => ?_, h5⟩, h3, h4⟩
  obtain ⟨b2, off2, e2, _, hb2, hc2⟩ := h2 hm
  refine ⟨b2, off2, e2, hb2, fun k hk => ?_⟩
  obtain ⟨cs2, h6, rfl⟩ := hc2 k hk
  have := h6 0 _ rfl
  rwa [show off2 + k * eInt.sz + 0 = off2 + k from by show off2 + k * 1 + 0 = _; omega] at this⟩
theorem far_acts {l : List AcL} (h : FarE eAct p w A l) : RAc w A l.length l := ⟨rfl, fun hn => by
  obtain ⟨b, off, e, _, hb, hc⟩ := h hn
  refine ⟨b, off, e, hb, fun j hj => ?_⟩
  obtain ⟨cs, h1, A', c', rfl, h2, h3, h4⟩ := hc j hj
  exact ⟨h1 0 _ rfl, h1 1 _ rfl, A', c', h1 2 _ rfl, far_terms h2, h3, h4⟩⟩
theorem far_ends {l : List (List TmL)} (h : FarE eEnd p w A l) : REn w A l.length l := ⟨rfl, fun hn => by
  obtain ⟨b, off, e, _, hb, hc⟩ := h hn
  refine ⟨b, off, e, hb, fun j hj => ?_⟩
  obtain ⟨cs, h1, A', c', rfl, h2, h3, h4⟩ := hc j hj
  have := h1 0 _ rfl
  rw [show off + j * eEnd.sz + 0 = off + j from by show off + j * 1 + 0 = _; omega] at this
  exact ⟨A', c', this, far_terms h2, h3, h4⟩⟩
end
end Go.Proofs.Ytgmkchkaceciiaa.Pk
