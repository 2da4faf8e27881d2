import Derived.Test.YtoofgpoeheponaaGreatDoorJ18
import Derived.Test.YtoofgpoeheponaaGreatDoorJ37
set_option maxRecDepth 100000
namespace Go.Proofs.YtoofgpoeheponaaGreatDoor.De
open Go Go.RowKit Sp Pa Te Mi Fi
structure DV where
 i : Int
 o : Int
 n : Int
 s : Int
 A : Option Addr
 cr : Nat
 B : Option Addr
 cf : Nat
 rs : List RuL
 fs : List FiL
abbrev DV.val (d : DV) : Value := dsc d.i d.o d.n d.s d.A d.rs.length d.cr d.B d.fs.length d.cf
structure DM (w : World) (d : DV) : Prop where
 rules : RRu w d.A d.rs.length d.rs
 rl : d.rs.length ≤ maxLen
 finals : RFi w d.B d.fs.length d.fs
 fl : d.fs.length ≤ maxLen
 nr : NilT w d.A d.rs.length 5 4
 nf : NilT w d.B d.fs.length 3 2
theorem nil_below {w w' : World} {A : Option Addr} {n m k : Nat} (h : NilT w A n m k) (hA : 0 < n → ∃ b off, A = some ⟨b, off, none⟩ ∧ b < w.heap.size) (hb : Below w.heap.size w w') : NilT w' A n m k := fun b off e j hj l c hc => by
 obtain ⟨b', off', e', hlt⟩ := hA (by omega)
 rw [e] at e'
 injection e' with e'
 injection e' with e'
 subst e'
 exact h b off e j hj l c ((hb.cell (p := ⟨b, off + j * m + k, none⟩) hlt).symm.trans hc)
theorem DM.below {w w' : World} {d : DV} (h : DM w d) (hb : Below w.heap.size w w') : DM w' d :=
 ⟨h.rules.belowM hb, h.rl, h.finals.belowM hb, h.fl, nil_below h.nr (fun hn => by
  obtain ⟨b, off, e, hlt, _⟩ := h.rules.2 hn
  exact ⟨b, off, e, hlt⟩) hb, nil_below h.nf (fun hn => by
  obtain ⟨b, off, e, hlt, _⟩ := h.finals.2 hn
  exact ⟨b, off, e, hlt⟩) hb⟩
def DV.right (d : DV) : Prop := (whereD d.i d.o d.n d.s d.rs d.fs).1 = 0
theorem badAt_none {α : Type} {P : α → Bool} {l : List α} (h : badAt P l = none) : ∀ x ∈ l, P x = true := fun x hx => by
 unfold badAt at h
 have := List.findIdx?_eq_none_iff.1 h x hx
 simpa using this
structure RightD (d : DV) : Prop where
 i : d.i = 1 ∨ d.i = 2
 o : d.o = 1 ∨ d.o = 2
 n : 1 ≤ d.n ∧ d.n ≤ 1024
 s : 0 ≤ d.s ∧ d.s < d.n
 r : d.rs.length ≤ 4096
 f : d.fs.length ≤ 4096
 rs : ∀ r ∈ d.rs, 0 ≤ r.frm ∧ r.frm < d.n ∧ 0 ≤ r.to_ ∧ r.to_ < d.n ∧ r.gs.length ≤ 4 ∧ (∀ g ∈ r.gs, g.length ≤ 64) ∧ r.out.length ≤ 64 ∧ (∀ t ∈ r.out, t.ps.length ≤ 4) ∧ 0 ≤ r.eat ∧ r.eat ≤ 4
 fs : ∀ r ∈ d.fs, 0 ≤ r.frm ∧ r.frm < d.n ∧ r.gs.length ≤ 4 ∧ (∀ g ∈ r.gs, g.length ≤ 64) ∧ r.out.length ≤ 64 ∧ (∀ t ∈ r.out, t.ps.length ≤ 4)
theorem guards_bound {i : Int} {gs : List (List Span)} (h : guardsB i gs = true) : gs.length ≤ 4 ∧ ∀ g ∈ gs, g.length ≤ 64 := by
 unfold guardsB at h
 rw [Bool.and_eq_true, decide_eq_true_eq] at h
 refine ⟨h.1, fun g hg => ?_⟩
 have h2 := List.all_eq_true.1 h.2 g hg
 unfold guardB at h2
 simp only [Bool.and_eq_true, decide_eq_true_eq] at h2
 exact h2.2.1
theorem terms_bound {i o : Int} {gs : List (List Span)} {ts : List TmL} (h : termsB (fitF i o gs) ts = true) : ts.length ≤ 64 ∧ ∀ t ∈ ts, t.ps.length ≤ 4 := by
 unfold termsB at h
 rw [Bool.and_eq_true, decide_eq_true_eq] at h
 refine ⟨h.1, fun t ht => ?_⟩
 have h2 := (fitF_iff i o gs t).1 (List.all_eq_true.1 h.2 t ht)
 exact (Fi.num_parts (Fi.right_num h2.2.1).1).2.2.2
theorem DV.right.rightD {d : DV} (h : d.right) : RightD d := by
 unfold DV.right whereD whereV at h
 split at h
 ·next hh =>
  unfold headB at hh
  simp only [Bool.and_eq_true, decide_eq_true_eq] at hh
  obtain ⟨h1, h2, h3, h4, h5, h6, h7⟩ := hh
  unfold stB at h5
  rw [decide_eq_true_eq] at h5
  split at h
  ·simp at h
  ·next hr =>
   split at h
   ·simp at h
   ·next hf =>
    unfold sortB at h1 h2
    refine ⟨by simpa using h1, by simpa using h2, ⟨h3, h4⟩, h5, h6, h7, fun r hr' => ?_, fun r hr' => ?_⟩
    ·have q := badAt_none hr r hr'
     unfold ruleB stB eatB at q
     simp only [Bool.and_eq_true, decide_eq_true_eq] at q
     obtain ⟨q1, q2, q3, q4, q5⟩ := q
     obtain ⟨g1, g2⟩ := guards_bound q3
     obtain ⟨t1, t2⟩ := terms_bound q5
     refine ⟨q1.1, q1.2, q2.1, q2.2, g1, g2, t1, t2, ?_, ?_⟩ <;> omega
    ·have q := badAt_none hf r hr'
     unfold finB stB at q
     simp only [Bool.and_eq_true, decide_eq_true_eq] at q
     obtain ⟨q1, q3, q5⟩ := q
     obtain ⟨g1, g2⟩ := guards_bound q3
     obtain ⟨t1, t2⟩ := terms_bound q5
     exact ⟨q1.1, q1.2, g1, g2, t1, t2⟩
 ·simp at h
def viaR (to_ : Int) : RuL := ⟨0, to_, [], 0, []⟩
def joinR (a b : DV) : List RuL := [viaR (1 + a.s), viaR (1 + a.n + b.s)] ++ a.rs.map (shR 1) ++ b.rs.map (shR (1 + a.n))
def joinF (a b : DV) : List FiL := a.fs.map (shF 1) ++ b.fs.map (shF (1 + a.n))
theorem RowRu.reads {p : Nat → Prop} {w : World} {base : Nat} {v : Value} {L : List RuL} (h : RowRu p w base v L) (hl : ∀ r ∈ L, r.gs.length ≤ maxLen ∧ (∀ g ∈ r.gs, g.length ≤ maxLen) ∧ r.out.length ≤ maxLen ∧ IntR r.eat) : ∃ A c, v = .slice A L.length c ∧ RRu w A L.length L ∧ L.length ≤ c ∧ L.length ≤ maxLen := by
 obtain ⟨vs, h1, h2⟩ := h
 have hrow := h1
 rcases h1.2 with ⟨hv, hn⟩ | ⟨g, cap, cur, hv, hg, hb, hn, hm, hs, ht⟩
 ·have : L = [] := List.eq_nil_of_length_eq_zero hn
  subst this
  exact ⟨none, 0, hv, RRu.nil_ _ _, Nat.le_refl _, Nat.zero_le _⟩
 ·subst hv
  refine ⟨some ⟨g, 0, none⟩, cap, rfl, ⟨rfl, fun hn0 => ⟨g, 0, rfl, (World.ownsRow.lt hrow g rfl).2, fun j hj => ?_⟩⟩, hn, by omega⟩
  obtain ⟨G, gc, T, tc, ⟨a0, a1, a2, a3, a4⟩, b1, b2, b3, b4⟩ := h2 j hj
  obtain ⟨l1, l2, l3, l4⟩ := hl _ (List.getElem_mem hj)
  have cc : ∀ r, r < 5 → w.cell? ⟨g, 0 + j * 5 + r, none⟩ = vs[j * 5 + r]? := fun r hr => by rw [Nat.zero_add]; exact World.ownsRow.cellAt hrow (j * 5 + r) (by omega)
  have c0 := cc 0 (by omega)
  rw [Nat.add_zero, Nat.add_zero] at c0
  exact ⟨c0.trans a0, (cc 1 (by omega)).trans a1, (cc 3 (by omega)).trans a3, ⟨G, gc, (cc 2 (by omega)).trans a2, b1.reads, b2, l1, l2⟩, T, tc, (cc 4 (by omega)).trans a4, b3.reads, b4, l3, l4⟩
theorem RowFi.reads {p : Nat → Prop} {w : World} {base : Nat} {v : Value} {L : List FiL} (h : RowFi p w base v L) (hl : ∀ r ∈ L, r.gs.length ≤ maxLen ∧ (∀ g ∈ r.gs, g.length ≤ maxLen) ∧ r.out.length ≤ maxLen) : ∃ A c, v = .slice A L.length c ∧ RFi w A L.length L ∧ L.length ≤ c ∧ L.length ≤ maxLen := by
 obtain ⟨vs, h1, h2⟩ := h
 have hrow := h1
 rcases h1.2 with ⟨hv, hn⟩ | ⟨g, cap, cur, hv, hg, hb, hn, hm, hs, ht⟩
 ·have : L = [] := List.eq_nil_of_length_eq_zero hn
  subst this
  exact ⟨none, 0, hv, RFi.nil_ _ _, Nat.le_refl _, Nat.zero_le _⟩
 ·subst hv
  refine ⟨some ⟨g, 0, none⟩, cap, rfl, ⟨rfl, fun hn0 => ⟨g, 0, rfl, (World.ownsRow.lt hrow g rfl).2, fun j hj => ?_⟩⟩, hn, by omega⟩
  obtain ⟨G, gc, T, tc, ⟨a0, a1, a2⟩, b1, b2, b3, b4⟩ := h2 j hj
  obtain ⟨l1, l2, l3⟩ := hl _ (List.getElem_mem hj)
  have cc : ∀ r, r < 3 → w.cell? ⟨g, 0 + j * 3 + r, none⟩ = vs[j * 3 + r]? := fun r hr => by rw [Nat.zero_add]; exact World.ownsRow.cellAt hrow (j * 3 + r) (by omega)
  have c0 := cc 0 (by omega)
  rw [Nat.add_zero, Nat.add_zero] at c0
  exact ⟨c0.trans a0, ⟨G, gc, (cc 1 (by omega)).trans a1, b1.reads, b2, l1, l2⟩, T, tc, (cc 2 (by omega)).trans a2, b3.reads, b4, l3⟩
section
variable {w w' : World} {bs x : Nat} {i o n s n' : Int} {L : List RuL} {F : List FiL} {v vf : Value}
theorem DBox.cells (h : DBox w x i o n s v vf) : w.cell? ⟨x, 0, none⟩ = some (.int .i64 i) ∧ w.cell? ⟨x, 1, none⟩ = some (.int .i64 o) ∧ w.cell? ⟨x, 2, none⟩ = some (.int .i64 n) ∧ w.cell? ⟨x, 3, none⟩ = some (.int .i64 s) ∧ w.cell? ⟨x, 4, none⟩ = some v ∧ w.cell? ⟨x, 5, none⟩ = some vf := by
 have hb : Blk w x 26 #[.int .i64 i, .int .i64 o, .int .i64 n, .int .i64 s, v, vf] := h
 exact ⟨hb.cell 0, hb.cell 1, hb.cell 2, hb.cell 3, hb.cell 4, hb.cell 5⟩
theorem DBox.set2 (h : DBox w x i o n s v vf) (n' : Int) : DBox (w.setCell ⟨x, 2, none⟩ (.int .i64 n')) x i o n' s v vf := by
 have hb : Blk w x 26 #[.int .i64 i, .int .i64 o, .int .i64 n, .int .i64 s, v, vf] := h
 exact hb.set_ 2 _
theorem LayS.states (h : LayS bs x i o n s L F v vf w) (n' : Int) : LayS bs x i o n' s L F v vf (w.setCell ⟨x, 2, none⟩ (.int .i64 n')) := by
 have hlow := h.low
 have hset : ∀ g, g ≠ x → (w.setCell ⟨x, 2, none⟩ (.int .i64 n')).heap[g]? = w.heap[g]? := fun g hg => heap_setCell_other w ⟨x, 2, none⟩ g _ hg
 have hv : ∀ g, v.ownBlock = some g → bs ≤ g := fun g e => by
  obtain ⟨vs0, h0, _⟩ := h.rules
  exact (World.ownsRow.lt h0 g e).1
 have hvf : ∀ g, vf.ownBlock = some g → bs ≤ g := fun g e => by
  obtain ⟨vs0, h0, _⟩ := h.finals
  exact (World.ownsRow.lt h0 g e).1
 refine ⟨h.box.set2 n', h.rules.keep (by simp) (fun g e => hset g (by have := hv g e; omega)) (fun b hb _ _ => hset b (by have := hb.1; omega)) (fun _ hp _ => hp), h.finals.keep (by simp) (fun g e => hset g (by have := hvf g e; omega)) (fun b hb _ _ => hset b (by have := hb.1; omega)) (fun _ hp _ => hp), h.apart, h.low⟩
end
theorem DM.keepH {w w' : World} {d : DV} (h : DM w d) (hs : w.heap.size ≤ w'.heap.size) (hk : ∀ b, b < w.heap.size → w'.heap[b]? = w.heap[b]?) : DM w' d := by
 have hb : Below w.heap.size w { w' with os := w.os, tape := w.tape, output := w.output } := ⟨rfl, rfl, rfl, hs, hk⟩
 have q := h.below hb
 exact ⟨q.rules, q.rl, q.finals, q.fl, q.nr, q.nf⟩
theorem DM.keepD {w W W' : World} {d : DV} {bs x : Nat} {i o n s : Int} {L : List RuL} {F : List FiL} {v vf : Value} (h : DM w d) (hb : Below w.heap.size w W) (hx : w.heap.size ≤ x) (hl : LayS bs x i o n s L F v vf W) (hk : KeepD x v vf W W') : DM W' d := by
 have hlow := hl.low
 have hxl := hl.box.lt
 refine h.keepH (Nat.le_trans hb.size hk.1) fun b hlt => ?_
 rw [hk.2 b (by omega) (by omega) (fun e => by
  obtain ⟨vs0, h0, _⟩ := hl.rules
  have := (World.ownsRow.lt h0 b e).1
  omega) (fun e => by
  obtain ⟨vs0, h0, _⟩ := hl.finals
  have := (World.ownsRow.lt h0 b e).1
  omega)]
 exact hb.block b hlt
theorem LayS.start {w : World} {x : Nat} {i o n s : Int} (h : DBox w x i o n s (.slice none 0 0) (.slice none 0 0)) : LayS (x + 1) x i o n s [] [] (.slice none 0 0) (.slice none 0 0) w :=
 ⟨h, RowRu.nil_ _ _ _, RowFi.nil_ _ _ _, fun g e => by simp [Value.ownBlock] at e, Nat.lt_succ_self _⟩
open Go.Lib (hid)
def JoinOk (a b : DV) : Prop := a.right ∧ b.right ∧ a.i = b.i ∧ a.o = b.o
def JoinFew (a b : DV) : Prop := 1 + a.n + b.n ≤ 1024 ∧ (joinR a b).length ≤ 4096 ∧ (joinF a b).length ≤ 4096
def JoinOut (a b : DV) (w : World) (e : Ending) (w' : World) : Prop := Below w.heap.size w w' ∧
 (¬ JoinOk a b → e = .returned (.tuple #[dsc 0 0 0 0 none 0 0 none 0 0, .int .i64 2])) ∧
 (JoinOk a b → ¬ JoinFew a b → e = .returned (.tuple #[dsc 0 0 0 0 none 0 0 none 0 0, .int .i64 4])) ∧
 (JoinOk a b → JoinFew a b → ∃ A cr B cf, e = .returned (.tuple #[dsc a.i a.o (1 + a.n + b.n) 0 A (joinR a b).length cr B (joinF a b).length cf, .int .i64 0]) ∧ RRu w' A (joinR a b).length (joinR a b) ∧ RFi w' B (joinF a b).length (joinF a b) ∧ (joinR a b).length ≤ cr ∧ (joinF a b).length ≤ cf)
set_option maxHeartbeats 16000000 in
theorem join_any (a b : DV) (w : World) (ha : DM w a) (hb : DM w b) (hT : TabB w) : Calls Tryz.prog 10 #[a.val, b.val] w (JoinOut a b w) := by
 obtain ⟨w3, hw3⟩ : ∃ w3, ((w.alloc (.cells #[.int .i64 a.i, .int .i64 a.o, .int .i64 a.n, .int .i64 a.s, .slice a.A a.rs.length a.cr, .slice a.B a.fs.length a.cf] 26)).alloc (.cells #[.int .i64 b.i, .int .i64 b.o, .int .i64 b.n, .int .i64 b.s, .slice b.A b.rs.length b.cr, .slice b.B b.fs.length b.cf] 26)).alloc (.cells #[.int .i64 0, .int .i64 0, .int .i64 0, .int .i64 0, .slice none 0 0, .slice none 0 0] 26) = w3 := ⟨_, rfl⟩
 have hs3 : w3.heap.size = w.heap.size + 3 := by rw [← hw3]; simp
 have hb3 : Below w.heap.size w w3 := by rw [← hw3]; exact (((Below.refl _ _).alloc (Nat.le_refl _) _).alloc (by simp) _).alloc (by simp; omega) _
 have hqa : Blk w3 w.heap.size 26 #[.int .i64 a.i, .int .i64 a.o, .int .i64 a.n, .int .i64 a.s, .slice a.A a.rs.length a.cr, .slice a.B a.fs.length a.cf] := by
  rw [← hw3]
  exact ((show Blk _ _ _ _ from heap_alloc_new w _).alloc _).alloc _
 have hqb : Blk w3 (w.heap.size + 1) 26 #[.int .i64 b.i, .int .i64 b.o, .int .i64 b.n, .int .i64 b.s, .slice b.A b.rs.length b.cr, .slice b.B b.fs.length b.cf] := by
  rw [← hw3]
  have h := (show Blk _ _ _ _ from heap_alloc_new (w.alloc (.cells #[.int .i64 a.i, .int .i64 a.o, .int .i64 a.n, .int .i64 a.s, .slice a.A a.rs.length a.cr, .slice a.B a.fs.length a.cf] 26)) (.cells #[.int .i64 b.i, .int .i64 b.o, .int .i64 b.n, .int .i64 b.s, .slice b.A b.rs.length b.cr, .slice b.B b.fs.length b.cf] 26)).alloc (.cells #[.int .i64 0, .int .i64 0, .int .i64 0, .int .i64 0, .slice none 0 0, .slice none 0 0] 26)
  rw [World.size_alloc] at h
  exact h
 have hqz : Blk w3 (w.heap.size + 2) 26 #[.int .i64 0, .int .i64 0, .int .i64 0, .int .i64 0, .slice none 0 0, .slice none 0 0] := by
  rw [← hw3]
  have h := (show Blk _ _ _ _ from heap_alloc_new ((w.alloc (.cells #[.int .i64 a.i, .int .i64 a.o, .int .i64 a.n, .int .i64 a.s, .slice a.A a.rs.length a.cr, .slice a.B a.fs.length a.cf] 26)).alloc (.cells #[.int .i64 b.i, .int .i64 b.o, .int .i64 b.n, .int .i64 b.s, .slice b.A b.rs.length b.cr, .slice b.B b.fs.length b.cf] 26)) (.cells #[.int .i64 0, .int .i64 0, .int .i64 0, .int .i64 0, .slice none 0 0, .slice none 0 0] 26))
  simp only [World.size_alloc] at h
  exact h
 have HA := hid ha
 have HBD := hid hb
 have HT := hid hT
 have HB3 := hid hb3
 have HCA := hid (fun W (hW : Below w.heap.size w W) => checkD_any a.i a.o a.n a.s a.A a.cr a.B a.cf a.rs a.fs W (ha.below hW).rules ha.rl (ha.below hW).finals ha.fl (hT.next hW))
 have HCB := hid (fun W (hW : Below w.heap.size w W) => checkD_any b.i b.o b.n b.s b.A b.cr b.B b.cf b.rs b.fs W (hb.below hW).rules hb.rl (hb.below hW).finals hb.fl (hT.next hW))
 have HEND2 := hid (fun (hn : ¬ JoinOk a b) wE (hE : Below w.heap.size w wE) => show JoinOut a b w (.returned (.tuple #[dsc 0 0 0 0 none 0 0 none 0 0, .int .i64 2])) wE from ⟨hE, fun _ => rfl, fun h => absurd h hn, fun h => absurd h hn⟩)
 have HEND4 := hid (fun (hy : JoinOk a b) (hn : ¬ JoinFew a b) wE (hE : Below w.heap.size w wE) => show JoinOut a b w (.returned (.tuple #[dsc 0 0 0 0 none 0 0 none 0 0, .int .i64 4])) wE from ⟨hE, fun h => absurd hy h, fun _ _ => rfl, fun _ h => absurd h hn⟩)
 have HBOX := hid (fun W (hW : Below w3.heap.size w3 W) => show Blk W w.heap.size 26 #[.int .i64 a.i, .int .i64 a.o, .int .i64 a.n, .int .i64 a.s, .slice a.A a.rs.length a.cr, .slice a.B a.fs.length a.cf] ∧ Blk W (w.heap.size + 1) 26 #[.int .i64 b.i, .int .i64 b.o, .int .i64 b.n, .int .i64 b.s, .slice b.A b.rs.length b.cr, .slice b.B b.fs.length b.cf] from ⟨hqa.below hW (by omega), hqb.below hW (by omega)⟩)
 have HZQ := hid (fun W (hW : Below w3.heap.size w3 W) => show Blk W (w.heap.size + 2) 26 #[.int .i64 0, .int .i64 0, .int .i64 0, .int .i64 0, .slice none 0 0, .slice none 0 0] from hqz.below hW (by omega))
 clear ha hb hT hb3 hqa hqb hqz
 have a0 := (HBOX.out w3 (Below.refl _ _)).1.cell 0
 have a1 := (HBOX.out w3 (Below.refl _ _)).1.cell 1
 have a2 := (HBOX.out w3 (Below.refl _ _)).1.cell 2
 have a3 := (HBOX.out w3 (Below.refl _ _)).1.cell 3
 have a4 := (HBOX.out w3 (Below.refl _ _)).1.cell 4
 have a5 := (HBOX.out w3 (Below.refl _ _)).1.cell 5
 have b0 := (HBOX.out w3 (Below.refl _ _)).2.cell 0
 have b1 := (HBOX.out w3 (Below.refl _ _)).2.cell 1
 have b2 := (HBOX.out w3 (Below.refl _ _)).2.cell 2
 have b3 := (HBOX.out w3 (Below.refl _ _)).2.cell 3
 have b4 := (HBOX.out w3 (Below.refl _ _)).2.cell 4
 have b5 := (HBOX.out w3 (Below.refl _ _)).2.cell 5
 simp only [List.getElem?_toArray, List.getElem?_cons_zero, List.getElem?_cons_succ] at a0 a1 a2 a3 a4 a5 b0 b1 b2 b3 b4 b5
 go_enter Tryz.func10, Tryz.ntmps10
 by_cases ra : a.right
 case neg =>
  have HE := hid (HEND2.out (fun h => ra h.1))
  have e1 := HCA.out w3 HB3.out
  rw [if_neg (show ¬ (whereD a.i a.o a.n a.s a.rs a.fs).1 = 0 from ra)] at e1
  have HC := hid e1
  clear HEND2
  have HEND2 := HE
  clear e1
  go_wp2_with (fail)
  refine HC.out.mono ?_
  rintro e w4 ⟨rfl, hb4⟩
  have HZ := hid (HZQ.out w4 hb4)
  have HB4 := hid (HB3.out.trans (hb4.mono (by omega)))
  clear hb4 a0 a1 a2 a3 a4 a5 b0 b1 b2 b3 b4 b5
  have z0 := HZ.out.cell 0
  have y0 := HZ.out.frozen 0
  have z1 := HZ.out.cell 1
  have y1 := HZ.out.frozen 1
  have z2 := HZ.out.cell 2
  have y2 := HZ.out.frozen 2
  have z3 := HZ.out.cell 3
  have y3 := HZ.out.frozen 3
  have z4 := HZ.out.cell 4
  have y4 := HZ.out.frozen 4
  have z5 := HZ.out.cell 5
  have y5 := HZ.out.frozen 5
  simp only [List.getElem?_toArray, List.getElem?_cons_zero, List.getElem?_cons_succ] at z0 z1 z2 z3 z4 z5
  go_wp2_with (fail)
  obtain ⟨wE, hwE⟩ : ∃ wE, ((((((w4.setCell ⟨w.heap.size + 2, 0, none⟩ (.int .i64 0)).setCell ⟨w.heap.size + 2, 1, none⟩ (.int .i64 0)).setCell ⟨w.heap.size + 2, 2, none⟩ (.int .i64 0)).setCell ⟨w.heap.size + 2, 3, none⟩ (.int .i64 0)).setCell ⟨w.heap.size + 2, 4, none⟩ (.slice none 0 0)).setCell ⟨w.heap.size + 2, 5, none⟩ (.slice none 0 0)) = wE := ⟨_, rfl⟩
  have hqE : Blk wE (w.heap.size + 2) 26 #[.int .i64 0, .int .i64 0, .int .i64 0, .int .i64 0, .slice none 0 0, .slice none 0 0] := by
   rw [← hwE]
   exact (((((HZ.out.set_ 0 _).set_ 1 _).set_ 2 _).set_ 3 _).set_ 4 _).set_ 5 _
  have hbE : Below w.heap.size w wE := by
   rw [← hwE]
   exact (((((HB4.out.setCell (by simp) _).setCell (by simp) _).setCell (by simp) _).setCell (by simp) _).setCell (by simp) _).setCell (by simp) _
  have k0 := hqE.cell 0
  have k1 := hqE.cell 1
  have k2 := hqE.cell 2
  have k3 := hqE.cell 3
  have k4 := hqE.cell 4
  have k5 := hqE.cell 5
  simp only [List.getElem?_toArray, List.getElem?_cons_zero, List.getElem?_cons_succ] at k0 k1 k2 k3 k4 k5
  try rw [hwE]
  exact bodyPost_ret (v := .tuple #[dsc 0 0 0 0 none 0 0 none 0 0, .int .i64 2]) (by simp [results, Tryz.results10, go_sem, k0, k1, k2, k3, k4, k5]) rfl (HEND2.out wE hbE)
 case pos =>
  have e1 := HCA.out w3 HB3.out
  rw [if_pos (show (whereD a.i a.o a.n a.s a.rs a.fs).1 = 0 from ra)] at e1
  have HC := hid e1
  clear e1
  go_wp2_with (fail)
  refine HC.out.mono ?_
  rintro e w4 ⟨rfl, hb4⟩
  clear a0 a1 a2 a3 a4 a5 b0 b1 b2 b3 b4 b5
  have a0 := (HBOX.out w4 hb4).1.cell 0
  have a1 := (HBOX.out w4 hb4).1.cell 1
  have a2 := (HBOX.out w4 hb4).1.cell 2
  have a3 := (HBOX.out w4 hb4).1.cell 3
  have a4 := (HBOX.out w4 hb4).1.cell 4
  have a5 := (HBOX.out w4 hb4).1.cell 5
  have b0 := (HBOX.out w4 hb4).2.cell 0
  have b1 := (HBOX.out w4 hb4).2.cell 1
  have b2 := (HBOX.out w4 hb4).2.cell 2
  have b3 := (HBOX.out w4 hb4).2.cell 3
  have b4 := (HBOX.out w4 hb4).2.cell 4
  have b5 := (HBOX.out w4 hb4).2.cell 5
  simp only [List.getElem?_toArray, List.getElem?_cons_zero, List.getElem?_cons_succ] at a0 a1 a2 a3 a4 a5 b0 b1 b2 b3 b4 b5
  have HB4 := hid (HB3.out.trans (hb4.mono (by omega)))
  have H34 := hid hb4
  by_cases rb : b.right
  case neg =>
   have HE := hid (HEND2.out (fun h => rb h.2.1))
   have e1 := HCB.out w4 HB4.out
   rw [if_neg (show ¬ (whereD b.i b.o b.n b.s b.rs b.fs).1 = 0 from rb)] at e1
   have HC := hid e1
   clear HEND2
   have HEND2 := HE
   clear e1
   go_wp2_with (fail)
   refine HC.out.mono ?_
   rintro e w5 ⟨rfl, hb5⟩
   have HZ := hid (HZQ.out w5 (H34.out.trans (hb5.mono H34.out.size)))
   have HB5 := hid (HB4.out.trans (hb5.mono HB4.out.size))
   clear hb5 hb4 a0 a1 a2 a3 a4 a5 b0 b1 b2 b3 b4 b5
   have z0 := HZ.out.cell 0
   have y0 := HZ.out.frozen 0
   have z1 := HZ.out.cell 1
   have y1 := HZ.out.frozen 1
   have z2 := HZ.out.cell 2
   have y2 := HZ.out.frozen 2
   have z3 := HZ.out.cell 3
   have y3 := HZ.out.frozen 3
   have z4 := HZ.out.cell 4
   have y4 := HZ.out.frozen 4
   have z5 := HZ.out.cell 5
   have y5 := HZ.out.frozen 5
   simp only [List.getElem?_toArray, List.getElem?_cons_zero, List.getElem?_cons_succ] at z0 z1 z2 z3 z4 z5
   go_wp2_with (fail)
   obtain ⟨wE, hwE⟩ : ∃ wE, ((((((w5.setCell ⟨w.heap.size + 2, 0, none⟩ (.int .i64 0)).setCell ⟨w.heap.size + 2, 1, none⟩ (.int .i64 0)).setCell ⟨w.heap.size + 2, 2, none⟩ (.int .i64 0)).setCell ⟨w.heap.size + 2, 3, none⟩ (.int .i64 0)).setCell ⟨w.heap.size + 2, 4, none⟩ (.slice none 0 0)).setCell ⟨w.heap.size + 2, 5, none⟩ (.slice none 0 0)) = wE := ⟨_, rfl⟩
   have hqE : Blk wE (w.heap.size + 2) 26 #[.int .i64 0, .int .i64 0, .int .i64 0, .int .i64 0, .slice none 0 0, .slice none 0 0] := by
    rw [← hwE]
    exact (((((HZ.out.set_ 0 _).set_ 1 _).set_ 2 _).set_ 3 _).set_ 4 _).set_ 5 _
   have hbE : Below w.heap.size w wE := by
    rw [← hwE]
    exact (((((HB5.out.setCell (by simp) _).setCell (by simp) _).setCell (by simp) _).setCell (by simp) _).setCell (by simp) _).setCell (by simp) _
   have k0 := hqE.cell 0
   have k1 := hqE.cell 1
   have k2 := hqE.cell 2
   have k3 := hqE.cell 3
   have k4 := hqE.cell 4
   have k5 := hqE.cell 5
   simp only [List.getElem?_toArray, List.getElem?_cons_zero, List.getElem?_cons_succ] at k0 k1 k2 k3 k4 k5
   try rw [hwE]
   exact bodyPost_ret (v := .tuple #[dsc 0 0 0 0 none 0 0 none 0 0, .int .i64 2]) (by simp [results, Tryz.results10, go_sem, k0, k1, k2, k3, k4, k5]) rfl (HEND2.out wE hbE)
  case pos =>
   have e1 := HCB.out w4 HB4.out
   rw [if_pos (show (whereD b.i b.o b.n b.s b.rs b.fs).1 = 0 from rb)] at e1
   have HC := hid e1
   clear e1
   go_wp2_with (fail)
   refine HC.out.mono ?_
   rintro e w5 ⟨rfl, hb5⟩
   have H35 := hid (H34.out.trans (hb5.mono H34.out.size))
   have HB5 := hid (HB4.out.trans (hb5.mono HB4.out.size))
   clear hb5 hb4 a0 a1 a2 a3 a4 a5 b0 b1 b2 b3 b4 b5
   have a0 := (HBOX.out w5 H35.out).1.cell 0
   have a1 := (HBOX.out w5 H35.out).1.cell 1
   have a2 := (HBOX.out w5 H35.out).1.cell 2
   have a3 := (HBOX.out w5 H35.out).1.cell 3
   have a4 := (HBOX.out w5 H35.out).1.cell 4
   have a5 := (HBOX.out w5 H35.out).1.cell 5
   have b0 := (HBOX.out w5 H35.out).2.cell 0
   have b1 := (HBOX.out w5 H35.out).2.cell 1
   have b2 := (HBOX.out w5 H35.out).2.cell 2
   have b3 := (HBOX.out w5 H35.out).2.cell 3
   have b4 := (HBOX.out w5 H35.out).2.cell 4
   have b5 := (HBOX.out w5 H35.out).2.cell 5
   simp only [List.getElem?_toArray, List.getElem?_cons_zero, List.getElem?_cons_succ] at a0 a1 a2 a3 a4 a5 b0 b1 b2 b3 b4 b5
   by_cases ii : a.i = b.i
   case neg =>
    have HE := hid (HEND2.out (fun h => ii h.2.2.1))
    clear HEND2
    have HEND2 := HE
    have HZ := hid (HZQ.out w5 H35.out)
    have z0 := HZ.out.cell 0
    have y0 := HZ.out.frozen 0
    have z1 := HZ.out.cell 1
    have y1 := HZ.out.frozen 1
    have z2 := HZ.out.cell 2
    have y2 := HZ.out.frozen 2
    have z3 := HZ.out.cell 3
    have y3 := HZ.out.frozen 3
    have z4 := HZ.out.cell 4
    have y4 := HZ.out.frozen 4
    have z5 := HZ.out.cell 5
    have y5 := HZ.out.frozen 5
    simp only [List.getElem?_toArray, List.getElem?_cons_zero, List.getElem?_cons_succ] at z0 z1 z2 z3 z4 z5
    go_wp2_with (fail)
    obtain ⟨wE, hwE⟩ : ∃ wE, ((((((w5.setCell ⟨w.heap.size + 2, 0, none⟩ (.int .i64 0)).setCell ⟨w.heap.size + 2, 1, none⟩ (.int .i64 0)).setCell ⟨w.heap.size + 2, 2, none⟩ (.int .i64 0)).setCell ⟨w.heap.size + 2, 3, none⟩ (.int .i64 0)).setCell ⟨w.heap.size + 2, 4, none⟩ (.slice none 0 0)).setCell ⟨w.heap.size + 2, 5, none⟩ (.slice none 0 0)) = wE := ⟨_, rfl⟩
    have hqE : Blk wE (w.heap.size + 2) 26 #[.int .i64 0, .int .i64 0, .int .i64 0, .int .i64 0, .slice none 0 0, .slice none 0 0] := by
     rw [← hwE]
     exact (((((HZ.out.set_ 0 _).set_ 1 _).set_ 2 _).set_ 3 _).set_ 4 _).set_ 5 _
    have hbE : Below w.heap.size w wE := by
     rw [← hwE]
     exact (((((HB5.out.setCell (by simp) _).setCell (by simp) _).setCell (by simp) _).setCell (by simp) _).setCell (by simp) _).setCell (by simp) _
    have k0 := hqE.cell 0
    have k1 := hqE.cell 1
    have k2 := hqE.cell 2
    have k3 := hqE.cell 3
    have k4 := hqE.cell 4
    have k5 := hqE.cell 5
    simp only [List.getElem?_toArray, List.getElem?_cons_zero, List.getElem?_cons_succ] at k0 k1 k2 k3 k4 k5
    try rw [hwE]
    exact bodyPost_ret (v := .tuple #[dsc 0 0 0 0 none 0 0 none 0 0, .int .i64 2]) (by simp [results, Tryz.results10, go_sem, k0, k1, k2, k3, k4, k5]) rfl (HEND2.out wE hbE)
   case pos =>
    by_cases oo : a.o = b.o
    case neg =>
     have HE := hid (HEND2.out (fun h => oo h.2.2.2))
     clear HEND2
     have HEND2 := HE
     have HZ := hid (HZQ.out w5 H35.out)
     have z0 := HZ.out.cell 0
     have y0 := HZ.out.frozen 0
     have z1 := HZ.out.cell 1
     have y1 := HZ.out.frozen 1
     have z2 := HZ.out.cell 2
     have y2 := HZ.out.frozen 2
     have z3 := HZ.out.cell 3
     have y3 := HZ.out.frozen 3
     have z4 := HZ.out.cell 4
     have y4 := HZ.out.frozen 4
     have z5 := HZ.out.cell 5
     have y5 := HZ.out.frozen 5
     simp only [List.getElem?_toArray, List.getElem?_cons_zero, List.getElem?_cons_succ] at z0 z1 z2 z3 z4 z5
     go_wp2_with (fail)
     obtain ⟨wE, hwE⟩ : ∃ wE, ((((((w5.setCell ⟨w.heap.size + 2, 0, none⟩ (.int .i64 0)).setCell ⟨w.heap.size + 2, 1, none⟩ (.int .i64 0)).setCell ⟨w.heap.size + 2, 2, none⟩ (.int .i64 0)).setCell ⟨w.heap.size + 2, 3, none⟩ (.int .i64 0)).setCell ⟨w.heap.size + 2, 4, none⟩ (.slice none 0 0)).setCell ⟨w.heap.size + 2, 5, none⟩ (.slice none 0 0)) = wE := ⟨_, rfl⟩
     have hqE : Blk wE (w.heap.size + 2) 26 #[.int .i64 0, .int .i64 0, .int .i64 0, .int .i64 0, .slice none 0 0, .slice none 0 0] := by
      rw [← hwE]
      exact (((((HZ.out.set_ 0 _).set_ 1 _).set_ 2 _).set_ 3 _).set_ 4 _).set_ 5 _
     have hbE : Below w.heap.size w wE := by
      rw [← hwE]
      exact (((((HB5.out.setCell (by simp) _).setCell (by simp) _).setCell (by simp) _).setCell (by simp) _).setCell (by simp) _).setCell (by simp) _
     have k0 := hqE.cell 0
     have k1 := hqE.cell 1
     have k2 := hqE.cell 2
     have k3 := hqE.cell 3
     have k4 := hqE.cell 4
     have k5 := hqE.cell 5
     simp only [List.getElem?_toArray, List.getElem?_cons_zero, List.getElem?_cons_succ] at k0 k1 k2 k3 k4 k5
     try rw [hwE]
     exact bodyPost_ret (v := .tuple #[dsc 0 0 0 0 none 0 0 none 0 0, .int .i64 2]) (by simp [results, Tryz.results10, go_sem, k0, k1, k2, k3, k4, k5]) rfl (HEND2.out wE hbE)
    case pos =>
     have HOK := hid (show JoinOk a b from ⟨ra, rb, ii, oo⟩)
     have ix0 : ∀ w : World, (Instr.index 56 (.agg #[.int .i64 a.i, .int .i64 a.o, .int .i64 a.n, .int .i64 a.s, .slice a.A a.rs.length a.cr, .slice a.B a.fs.length a.cf, .int .i64 b.i, .int .i64 b.o, .int .i64 b.n, .int .i64 b.s, .slice b.A b.rs.length b.cr, .slice b.B b.fs.length b.cf]) (.int .i64 0)).run Tryz.prog w = .ok (.agg #[.int .i64 a.i, .int .i64 a.o, .int .i64 a.n, .int .i64 a.s, .slice a.A a.rs.length a.cr, .slice a.B a.fs.length a.cf]) w := fun _ => by kernel_rfl
     have ix1 : ∀ w : World, (Instr.index 56 (.agg #[.int .i64 a.i, .int .i64 a.o, .int .i64 a.n, .int .i64 a.s, .slice a.A a.rs.length a.cr, .slice a.B a.fs.length a.cf, .int .i64 b.i, .int .i64 b.o, .int .i64 b.n, .int .i64 b.s, .slice b.A b.rs.length b.cr, .slice b.B b.fs.length b.cf]) (.int .i64 1)).run Tryz.prog w = .ok (.agg #[.int .i64 b.i, .int .i64 b.o, .int .i64 b.n, .int .i64 b.s, .slice b.A b.rs.length b.cr, .slice b.B b.fs.length b.cf]) w := fun _ => by kernel_rfl
     have HRa := hid ra.rightD
     have HRb := hid rb.rightD
     go_wp2_with (fail)
     have HIO := hid (And.intro ii oo)
     rw [← ii, ← oo]
     clear ii oo
     refine (empty_any a.i a.o w5).mono ?_
     rintro e w6 ⟨rfl, hb6⟩
     have hs6 := hb6.size
     have hs5 := H35.out.size
     obtain ⟨w7, hw7⟩ : ∃ w7, w6.alloc (.cells #[.int .i64 a.i, .int .i64 a.o, .int .i64 1, .int .i64 0, .slice none 0 0, .slice none 0 0] 26) = w7 := ⟨_, rfl⟩
     have hs7 : w7.heap.size = w6.heap.size + 1 := by rw [← hw7]; simp
     have hb67 : Below w6.heap.size w6 w7 := by rw [← hw7]; exact (Below.refl _ _).alloc (Nat.le_refl _) _
     have h37 : Below w3.heap.size w3 w7 := H35.out.trans ((hb6.trans (hb67.mono (by omega))).mono (by omega))
     have HB7 := hid (HB3.out.trans (h37.mono (by omega)))
     have H37 := hid h37
     have hd7 : DBox w7 w6.heap.size a.i a.o 1 0 (.slice none 0 0) (.slice none 0 0) := by rw [← hw7]; exact heap_alloc_new w6 _
     have HL7 := hid (LayS.start hd7)
     have HBXW := hid (fun W (hW : Below w6.heap.size w7 W) => HBOX.out W (h37.trans (hW.mono (by omega))))
     have HZW := hid (fun W (hW : Below w6.heap.size w7 W) => HZQ.out W (h37.trans (hW.mono (by omega))))
     have hna := HRa.out.n
     have hnb := HRb.out.n
     have hsa := HRa.out.s
     have hsb := HRb.out.s
     obtain ⟨i0, hi0, hz0, hz1, hz2⟩ := info_parts infoRule
     have HW7 := hid hw7
     clear hb6 hb67 h37 hd7 hw7 a0 a1 a2 a3 a4 a5 b0 b1 b2 b3 b4 b5
     go_upto_region 4 with (fail)
     rw [HW7.out]
     have a0 := (HBXW.out w7 (Below.refl _ _)).1.cell 0
     have a1 := (HBXW.out w7 (Below.refl _ _)).1.cell 1
     have a2 := (HBXW.out w7 (Below.refl _ _)).1.cell 2
     have a3 := (HBXW.out w7 (Below.refl _ _)).1.cell 3
     have a4 := (HBXW.out w7 (Below.refl _ _)).1.cell 4
     have a5 := (HBXW.out w7 (Below.refl _ _)).1.cell 5
     have b0 := (HBXW.out w7 (Below.refl _ _)).2.cell 0
     have b1 := (HBXW.out w7 (Below.refl _ _)).2.cell 1
     have b2 := (HBXW.out w7 (Below.refl _ _)).2.cell 2
     have b3 := (HBXW.out w7 (Below.refl _ _)).2.cell 3
     have b4 := (HBXW.out w7 (Below.refl _ _)).2.cell 4
     have b5 := (HBXW.out w7 (Below.refl _ _)).2.cell 5
     simp only [List.getElem?_toArray, List.getElem?_cons_zero, List.getElem?_cons_succ] at a0 a1 a2 a3 a4 a5 b0 b1 b2 b3 b4 b5
     go_wp2_with (fail)
     go_loopw [43] (fun iv wr => ∃ v : Value, Below w6.heap.size w7 wr ∧ ((iv = .int .i64 0 ∧ LayS (w6.heap.size + 1) w6.heap.size a.i a.o 1 0 [] [] v (.slice none 0 0) wr) ∨ (iv = .int .i64 1 ∧ LayS (w6.heap.size + 1) w6.heap.size a.i a.o (1 + a.n) 0 [viaR (1 + a.s)] [] v (.slice none 0 0) wr) ∨ (iv = .int .i64 2 ∧ LayS (w6.heap.size + 1) w6.heap.size a.i a.o (1 + a.n + b.n) 0 [viaR (1 + a.s), viaR (1 + a.n + b.s)] [] v (.slice none 0 0) wr))) (fun iv _ => 2 - (intOf iv).toNat)
     case atStart => exact ⟨_, Below.refl _ _, .inl ⟨rfl, HL7.out⟩⟩
     case round =>
      clear a0 a1 a2 a3 a4 a5 b0 b1 b2 b3 b4 b5
      obtain ⟨v, hbl, ⟨rfl, hlay⟩ | ⟨rfl, hlay⟩ | ⟨rfl, hlay⟩⟩ := hrel
      ·have HBW := hid hbl
       clear hbl
       obtain ⟨wq, hwq⟩ : ∃ wq, wr.alloc (.cells #[.int .i64 a.i, .int .i64 a.o, .int .i64 a.n, .int .i64 a.s, .slice a.A a.rs.length a.cr, .slice a.B a.fs.length a.cf] 26) = wq := ⟨_, rfl⟩
       obtain ⟨wp, hwp⟩ : ∃ wp, wq.alloc (.cells #[.int .i64 0, .int .i64 (1 + a.s), .slice none 0 0, .int .i64 0, .slice none 0 0] 50) = wp := ⟨_, rfl⟩
       have hsq : wq.heap.size = wr.heap.size + 1 := by rw [← hwq]; simp
       have hsp : wp.heap.size = wr.heap.size + 2 := by rw [← hwp]; simp [hsq]
       have hrq : Below wr.heap.size wr wq := by rw [← hwq]; exact (Below.refl _ _).alloc (Nat.le_refl _) _
       have hqp : Below wq.heap.size wq wp := by rw [← hwp]; exact (Below.refl _ _).alloc (Nat.le_refl _) _
       have hrp : Below wr.heap.size wr wp := hrq.trans (hqp.mono (by omega))
       have hbox : Blk wq wr.heap.size 26 #[.int .i64 a.i, .int .i64 a.o, .int .i64 a.n, .int .i64 a.s, .slice a.A a.rs.length a.cr, .slice a.B a.fs.length a.cf] := by rw [← hwq]; exact heap_alloc_new wr _
       have hbp : Blk wp wr.heap.size 26 #[.int .i64 a.i, .int .i64 a.o, .int .i64 a.n, .int .i64 a.s, .slice a.A a.rs.length a.cr, .slice a.B a.fs.length a.cf] := hbox.below hqp (by omega)
       have hnew : Blk wp wq.heap.size 50 #[.int .i64 0, .int .i64 (1 + a.s), .slice none 0 0, .int .i64 0, .slice none 0 0] := by rw [← hwp]; exact heap_alloc_new wq _
       obtain ⟨_, _, x2, _, x4, _⟩ := (hlay.keep hrq).box.cells
       obtain ⟨c0, c1, c2, c3, c4, c5⟩ := DBox.cells (v := .slice a.A a.rs.length a.cr) (vf := .slice a.B a.fs.length a.cf) hbox
       have s1 : IntKind.i64.wrap (1 + a.s) = 1 + a.s := IntWalk.i64_in _ (by omega)
       have s2 : IntKind.i64.wrap (1 + a.n) = 1 + a.n := IntWalk.i64_in _ (by omega)
       have hlp := hlay.keep hrp
       obtain ⟨vs, hvs, hvr⟩ := hlp.rules
       have hxs : w6.heap.size < wr.heap.size := hlay.box.lt
       have HLP := hid hlp
       have HVS := hid hvs
       have HRP := hid hrp
       rw [hsq] at hnew
       have HNEW := hid hnew
       have HBP := hid hbp
       have HVX := hid (show (∀ g, v.ownBlock = some g → w6.heap.size + 1 ≤ g ∧ g < wr.heap.size) from fun g e => by
        obtain ⟨vs0, h0, _⟩ := hlay.rules
        exact World.ownsRow.lt h0 g e)
       clear hlay hlp hvs hvr hrp hrq hqp hbox hbp hnew
       go_wp2_with (at_builtin; go_must (refine wpList_append_own_at _ rfl _ _ 23 rfl (w6.heap.size + 1) 50 i0 _ 5 72 Tryz.underlying23 hi0 hz0 hz1 hz2 rfl (by decide) v 0 vs rfl (HVS.out) ⟨wr.heap.size + 1, 0, none⟩ 1 1 [.int .i64 0, .int .i64 (1 + a.s), .slice none 0 0, .int .i64 0, .slice none 0 0] rfl rfl (World.news_of_block (cs := #[.int .i64 0, .int .i64 (1 + a.s), .slice none 0 0, .int .i64 0, .slice none 0 0]) (t := 50) (fr := (0, 0)) HNEW.out) ?c20 ?c30 ?c40 ?c50 ?_))
       case c20 => simp [Value.oneCell']
       case c30 => simp only [maxLen]; omega
       case c40 => omega
       case c50 => omega
       intro v1 w8 hown1 hg1 _ hat
       try simp only [Nat.zero_add, Nat.reduceAdd] at hown1
       obtain ⟨A1, c1', hv1⟩ := own_shape hown1
       subst hv1
       have HAT := hid hat
       have HG1 := hid hg1
       have HOWN := hid hown1
       have hX8 := hg1.block w6.heap.size (by omega) (fun e => by have := (HVX.out w6.heap.size e.symm).1; omega)
       have hd8 := HLP.out.box.keep hX8
       have hR8 := hg1.block wr.heap.size (by omega) (fun e => by have := (HVX.out wr.heap.size e.symm).2; omega)
       have hbx8 := Blk_keep HBP.out hR8
       obtain ⟨wS, hwS⟩ : ∃ wS, w8.setCell ⟨w6.heap.size, 4, none⟩ (.slice A1 1 c1') = wS := ⟨_, rfl⟩
       have hl9 : LayS (w6.heap.size + 1) w6.heap.size a.i a.o 1 0 [viaR (1 + a.s)] [] (.slice A1 1 c1') (.slice none 0 0) wS := by
        rw [← hwS]
        exact HLP.out.rule (r := viaR (1 + a.s)) (G := none) (T := none) (gc := 0) (tc := 0) (H := wr.heap.size + 2) HVS.out (fun hn => absurd hn (by simp [viaR])) (Nat.le_refl _) (fun hn => absurd hn (by simp [viaR])) (Nat.le_refl _) HG1.out HOWN.out HAT.out (by omega)
       obtain ⟨wT, hwT⟩ : ∃ wT, wS.setCell ⟨w6.heap.size, 2, none⟩ (.int .i64 (1 + a.n)) = wT := ⟨_, rfl⟩
       have HL2 := hid (show LayS (w6.heap.size + 1) w6.heap.size a.i a.o (1 + a.n) 0 [viaR (1 + a.s)] [] (.slice A1 1 c1') (.slice none 0 0) wT by rw [← hwT]; exact hl9.states _)
       have HBT := hid (show Below w6.heap.size w7 wT by
        rw [← hwT, ← hwS]
        exact ((((HBW.out.trans (HRP.out.mono (by omega))).grown HG1.out (by omega) (fun q e => by have := (HVX.out q e).1; omega)).setCell (p := ⟨w6.heap.size, 4, none⟩) (Nat.le_refl _) _).setCell (p := ⟨w6.heap.size, 2, none⟩) (Nat.le_refl _) _))
       have m4 : w8.cell? ⟨w6.heap.size, 4, none⟩ = some v := hd8.cells.2.2.2.2.1
       have m4f := hd8.frozen 4
       obtain ⟨_, _, o2, _, _, _⟩ := hl9.box.cells
       have o2f := hl9.box.frozen 2
       have n2 : wS.cell? ⟨wr.heap.size, 2, none⟩ = some (.int .i64 a.n) := by
        rw [← hwS, World.cell?_setCell_other _ _ _ _ (fun e => by injection e with e; omega)]
        exact hbx8.cell 2
       clear hg1 hown1 hat hX8 hR8 hd8 hl9 x2 x4 c0 c1 c2 c3 c4 c5 hbx8
       go_wp2_with (fail)
       go_roundw
       case rel => exact ⟨_, HBT.out, .inr (.inl ⟨rfl, HL2.out⟩)⟩
       case measure => simp [intOf]
      ·have HBW := hid hbl
       clear hbl
       obtain ⟨wq, hwq⟩ : ∃ wq, wr.alloc (.cells #[.int .i64 b.i, .int .i64 b.o, .int .i64 b.n, .int .i64 b.s, .slice b.A b.rs.length b.cr, .slice b.B b.fs.length b.cf] 26) = wq := ⟨_, rfl⟩
       obtain ⟨wp, hwp⟩ : ∃ wp, wq.alloc (.cells #[.int .i64 0, .int .i64 (1 + a.n + b.s), .slice none 0 0, .int .i64 0, .slice none 0 0] 50) = wp := ⟨_, rfl⟩
       have hsq : wq.heap.size = wr.heap.size + 1 := by rw [← hwq]; simp
       have hsp : wp.heap.size = wr.heap.size + 2 := by rw [← hwp]; simp [hsq]
       have hrq : Below wr.heap.size wr wq := by rw [← hwq]; exact (Below.refl _ _).alloc (Nat.le_refl _) _
       have hqp : Below wq.heap.size wq wp := by rw [← hwp]; exact (Below.refl _ _).alloc (Nat.le_refl _) _
       have hrp : Below wr.heap.size wr wp := hrq.trans (hqp.mono (by omega))
       have hbox : Blk wq wr.heap.size 26 #[.int .i64 b.i, .int .i64 b.o, .int .i64 b.n, .int .i64 b.s, .slice b.A b.rs.length b.cr, .slice b.B b.fs.length b.cf] := by rw [← hwq]; exact heap_alloc_new wr _
       have hbp : Blk wp wr.heap.size 26 #[.int .i64 b.i, .int .i64 b.o, .int .i64 b.n, .int .i64 b.s, .slice b.A b.rs.length b.cr, .slice b.B b.fs.length b.cf] := hbox.below hqp (by omega)
       have hnew : Blk wp wq.heap.size 50 #[.int .i64 0, .int .i64 (1 + a.n + b.s), .slice none 0 0, .int .i64 0, .slice none 0 0] := by rw [← hwp]; exact heap_alloc_new wq _
       obtain ⟨_, _, x2, _, x4, _⟩ := (hlay.keep hrq).box.cells
       obtain ⟨c0, c1, c2, c3, c4, c5⟩ := DBox.cells (v := .slice b.A b.rs.length b.cr) (vf := .slice b.B b.fs.length b.cf) hbox
       have s1 : IntKind.i64.wrap (1 + a.n + b.s) = 1 + a.n + b.s := IntWalk.i64_in _ (by omega)
       have s2 : IntKind.i64.wrap (1 + a.n + b.n) = 1 + a.n + b.n := IntWalk.i64_in _ (by omega)
       have hlp := hlay.keep hrp
       obtain ⟨vs, hvs, hvr⟩ := hlp.rules
       have hxs : w6.heap.size < wr.heap.size := hlay.box.lt
       have HLP := hid hlp
       have HVS := hid hvs
       have HRP := hid hrp
       rw [hsq] at hnew
       have HNEW := hid hnew
       have HBP := hid hbp
       have HVX := hid (show (∀ g, v.ownBlock = some g → w6.heap.size + 1 ≤ g ∧ g < wr.heap.size) from fun g e => by
        obtain ⟨vs0, h0, _⟩ := hlay.rules
        exact World.ownsRow.lt h0 g e)
       clear hlay hlp hvs hvr hrp hrq hqp hbox hbp hnew
       go_wp2_with (at_builtin; go_must (refine wpList_append_own_at _ rfl _ _ 23 rfl (w6.heap.size + 1) 50 i0 _ 5 72 Tryz.underlying23 hi0 hz0 hz1 hz2 rfl (by decide) v 1 vs rfl (HVS.out) ⟨wr.heap.size + 1, 0, none⟩ 1 1 [.int .i64 0, .int .i64 (1 + a.n + b.s), .slice none 0 0, .int .i64 0, .slice none 0 0] rfl rfl (World.news_of_block (cs := #[.int .i64 0, .int .i64 (1 + a.n + b.s), .slice none 0 0, .int .i64 0, .slice none 0 0]) (t := 50) (fr := (0, 0)) HNEW.out) ?c21 ?c31 ?c41 ?c51 ?_))
       case c21 => simp [Value.oneCell']
       case c31 => simp only [maxLen]; omega
       case c41 => omega
       case c51 => omega
       intro v1 w8 hown1 hg1 _ hat
       try simp only [Nat.zero_add, Nat.reduceAdd] at hown1
       obtain ⟨A1, c1', hv1⟩ := own_shape hown1
       subst hv1
       have HAT := hid hat
       have HG1 := hid hg1
       have HOWN := hid hown1
       have hX8 := hg1.block w6.heap.size (by omega) (fun e => by have := (HVX.out w6.heap.size e.symm).1; omega)
       have hd8 := HLP.out.box.keep hX8
       have hR8 := hg1.block wr.heap.size (by omega) (fun e => by have := (HVX.out wr.heap.size e.symm).2; omega)
       have hbx8 := Blk_keep HBP.out hR8
       obtain ⟨wS, hwS⟩ : ∃ wS, w8.setCell ⟨w6.heap.size, 4, none⟩ (.slice A1 2 c1') = wS := ⟨_, rfl⟩
       have hl9 : LayS (w6.heap.size + 1) w6.heap.size a.i a.o (1 + a.n) 0 [viaR (1 + a.s), viaR (1 + a.n + b.s)] [] (.slice A1 2 c1') (.slice none 0 0) wS := by
        rw [← hwS]
        exact HLP.out.rule (r := viaR (1 + a.n + b.s)) (G := none) (T := none) (gc := 0) (tc := 0) (H := wr.heap.size + 2) HVS.out (fun hn => absurd hn (by simp [viaR])) (Nat.le_refl _) (fun hn => absurd hn (by simp [viaR])) (Nat.le_refl _) HG1.out HOWN.out HAT.out (by omega)
       obtain ⟨wT, hwT⟩ : ∃ wT, wS.setCell ⟨w6.heap.size, 2, none⟩ (.int .i64 (1 + a.n + b.n)) = wT := ⟨_, rfl⟩
       have HL2 := hid (show LayS (w6.heap.size + 1) w6.heap.size a.i a.o (1 + a.n + b.n) 0 [viaR (1 + a.s), viaR (1 + a.n + b.s)] [] (.slice A1 2 c1') (.slice none 0 0) wT by rw [← hwT]; exact hl9.states _)
       have HBT := hid (show Below w6.heap.size w7 wT by
        rw [← hwT, ← hwS]
        exact ((((HBW.out.trans (HRP.out.mono (by omega))).grown HG1.out (by omega) (fun q e => by have := (HVX.out q e).1; omega)).setCell (p := ⟨w6.heap.size, 4, none⟩) (Nat.le_refl _) _).setCell (p := ⟨w6.heap.size, 2, none⟩) (Nat.le_refl _) _))
       have m4 : w8.cell? ⟨w6.heap.size, 4, none⟩ = some v := hd8.cells.2.2.2.2.1
       have m4f := hd8.frozen 4
       obtain ⟨_, _, o2, _, _, _⟩ := hl9.box.cells
       have o2f := hl9.box.frozen 2
       have n2 : wS.cell? ⟨wr.heap.size, 2, none⟩ = some (.int .i64 b.n) := by
        rw [← hwS, World.cell?_setCell_other _ _ _ _ (fun e => by injection e with e; omega)]
        exact hbx8.cell 2
       clear hg1 hown1 hat hX8 hR8 hd8 hl9 x2 x4 c0 c1 c2 c3 c4 c5 hbx8
       go_wp2_with (fail)
       go_roundw
       case rel => exact ⟨_, HBT.out, .inr (.inr ⟨rfl, HL2.out⟩)⟩
       case measure => simp [intOf]
      ·obtain ⟨wA, hwA⟩ : ∃ wA : World, wA = wr := ⟨_, rfl⟩
       subst hwA
       have a0 := (HBXW.out wA hbl).1.cell 0
       have a1 := (HBXW.out wA hbl).1.cell 1
       have a2 := (HBXW.out wA hbl).1.cell 2
       have a3 := (HBXW.out wA hbl).1.cell 3
       have a4 := (HBXW.out wA hbl).1.cell 4
       have a5 := (HBXW.out wA hbl).1.cell 5
       have b0 := (HBXW.out wA hbl).2.cell 0
       have b1 := (HBXW.out wA hbl).2.cell 1
       have b2 := (HBXW.out wA hbl).2.cell 2
       have b3 := (HBXW.out wA hbl).2.cell 3
       have b4 := (HBXW.out wA hbl).2.cell 4
       have b5 := (HBXW.out wA hbl).2.cell 5
       simp only [List.getElem?_toArray, List.getElem?_cons_zero, List.getElem?_cons_succ] at a0 a1 a2 a3 a4 a5 b0 b1 b2 b3 b4 b5
       have HLA := hid hlay
       have HBA := hid hbl
       clear hlay hbl
       go_wp2_with (fail)
       go_loopw [9, 67] (fun bv iv wr => ∃ v vf : Value, Below w6.heap.size w7 wr ∧ ((iv = .int .i64 0 ∧ bv = .int .i64 1 ∧ LayS (w6.heap.size + 1) w6.heap.size a.i a.o (1 + a.n + b.n) 0 [viaR (1 + a.s), viaR (1 + a.n + b.s)] [] v vf wr) ∨ (iv = .int .i64 1 ∧ bv = .int .i64 (1 + a.n) ∧ LayS (w6.heap.size + 1) w6.heap.size a.i a.o (1 + a.n + b.n) 0 ([viaR (1 + a.s), viaR (1 + a.n + b.s)] ++ a.rs.map (shR 1)) ([] ++ a.fs.map (shF 1)) v vf wr) ∨ (iv = .int .i64 2 ∧ bv = .int .i64 (1 + a.n + b.n) ∧ LayS (w6.heap.size + 1) w6.heap.size a.i a.o (1 + a.n + b.n) 0 (joinR a b) (joinF a b) v vf wr))) (fun _ iv _ => 2 - (intOf iv).toNat)
       case atStart => exact ⟨v, _, HBA.out, .inl ⟨rfl, rfl, HLA.out⟩⟩
       case round =>
        clear a0 a1 a2 a3 a4 a5 b0 b1 b2 b3 b4 b5
        obtain ⟨v, vf, hbl, ⟨rfl, rfl, hlay⟩ | ⟨rfl, rfl, hlay⟩ | ⟨rfl, rfl, hlay⟩⟩ := hrel
        ·skip
         obtain ⟨wq, hwq⟩ : ∃ wq, wr.alloc (.cells #[.int .i64 a.i, .int .i64 a.o, .int .i64 a.n, .int .i64 a.s, .slice a.A a.rs.length a.cr, .slice a.B a.fs.length a.cf] 26) = wq := ⟨_, rfl⟩
         have hsq : wq.heap.size = wr.heap.size + 1 := by rw [← hwq]; simp
         have hrq : Below wr.heap.size wr wq := by rw [← hwq]; exact (Below.refl _ _).alloc (Nat.le_refl _) _
         have hbox : Blk wq wr.heap.size 26 #[.int .i64 a.i, .int .i64 a.o, .int .i64 a.n, .int .i64 a.s, .slice a.A a.rs.length a.cr, .slice a.B a.fs.length a.cf] := by rw [← hwq]; exact heap_alloc_new wr _
         have hxs : w6.heap.size < wr.heap.size := hlay.box.lt
         have hlq := hlay.keep hrq
         have hbq : Below w6.heap.size w7 wq := hbl.trans (hrq.mono (by omega))
         have hbwq : Below w.heap.size w wq := HB7.out.trans (hbq.mono (by omega))
         have HLQ := hid hlq
         have HBQ := hid hbq
         have HBOXQ := hid hbox
         have HOWN := hid (show (∀ g, v.ownBlock = some g → w6.heap.size + 1 ≤ g ∧ g < wr.heap.size) ∧ (∀ g, vf.ownBlock = some g → w6.heap.size + 1 ≤ g ∧ g < wr.heap.size) from ⟨fun g e => by
          obtain ⟨vs0, h0, _⟩ := hlay.rules
          exact World.ownsRow.lt h0 g e, fun g e => by
          obtain ⟨vs0, h0, _⟩ := hlay.finals
          exact World.ownsRow.lt h0 g e⟩)
         have HMEM := hid (fun W (hW : KeepD w6.heap.size v vf wq W) => HA.out.keepD (bs := w6.heap.size + 1) hbwq (by omega) hlq hW)
         have HLC := hid (lay_any (w6.heap.size + 1) w6.heap.size a.i a.o (1 + a.n + b.n) 0 1 [viaR (1 + a.s), viaR (1 + a.n + b.s)] [] v vf a.i a.o a.n a.s a.A a.cr a.B a.cf a.rs a.fs wq hlq (by omega) (fun W hW => ⟨(HMEM.out W hW).rules, (HMEM.out W hW).nr⟩) HRa.out.r (fun W hW => ⟨(HMEM.out W hW).finals, (HMEM.out W hW).nf⟩) HRa.out.f (by omega) (by have := HRa.out.r; have := HRb.out.r; simp [viaR]; try omega) (by have := HRa.out.f; have := HRb.out.f; simp; try omega)
          (fun r hr => by
           obtain ⟨q1, q2, q3, q4, q5, q6, q7, q8, _⟩ := HRa.out.rs r hr
           exact ⟨q1, by omega, q3, by omega, by omega, fun g hg => by have := q6 g hg; omega, by omega, fun t ht => by have := q8 t ht; omega⟩)
          (fun r hr => by
           obtain ⟨q1, q2, q5, q6, q7, q8⟩ := HRa.out.fs r hr
           exact ⟨q1, by omega, by omega, fun g hg => by have := q6 g hg; omega, by omega, fun t ht => by have := q8 t ht; omega⟩))
         obtain ⟨c0, c1, c2, c3, c4, c5⟩ := DBox.cells (v := .slice a.A a.rs.length a.cr) (vf := .slice a.B a.fs.length a.cf) hbox
         have s2 : IntKind.i64.wrap (1 + a.n) = 1 + a.n := IntWalk.i64_in _ (by omega)
         clear hlay hlq hbq hrq hbox hbwq hbl
         go_wp2_with (fail)
         refine HLC.out.mono ?_
         rintro e w8 ⟨rfl, v2, vf2, hl8, hk8, _, _, hb8⟩
         have HLN := hid (show LayS (w6.heap.size + 1) w6.heap.size a.i a.o (1 + a.n + b.n) 0 ([viaR (1 + a.s), viaR (1 + a.n + b.s)] ++ a.rs.map (shR 1)) ([] ++ a.fs.map (shF 1)) v2 vf2 w8 by
          have h := hl8
          exact h)
         have HBN := hid (HBQ.out.trans hb8)
         have n2 : w8.cell? ⟨wr.heap.size, 2, none⟩ = some (.int .i64 a.n) := (Blk_keep HBOXQ.out (hk8.2 wr.heap.size (by omega) (by omega) (fun e => by have := (HOWN.out.1 _ e).2; omega) (fun e => by have := (HOWN.out.2 _ e).2; omega))).cell 2
         clear hl8 hk8 hb8 c0 c1 c2 c3 c4 c5
         go_wp2_with (fail)
         go_roundw
         case rel => exact ⟨v2, vf2, HBN.out, .inr (.inl ⟨rfl, rfl, HLN.out⟩)⟩
         case measure => simp [intOf]
        ·skip
         obtain ⟨wq, hwq⟩ : ∃ wq, wr.alloc (.cells #[.int .i64 b.i, .int .i64 b.o, .int .i64 b.n, .int .i64 b.s, .slice b.A b.rs.length b.cr, .slice b.B b.fs.length b.cf] 26) = wq := ⟨_, rfl⟩
         have hsq : wq.heap.size = wr.heap.size + 1 := by rw [← hwq]; simp
         have hrq : Below wr.heap.size wr wq := by rw [← hwq]; exact (Below.refl _ _).alloc (Nat.le_refl _) _
         have hbox : Blk wq wr.heap.size 26 #[.int .i64 b.i, .int .i64 b.o, .int .i64 b.n, .int .i64 b.s, .slice b.A b.rs.length b.cr, .slice b.B b.fs.length b.cf] := by rw [← hwq]; exact heap_alloc_new wr _
         have hxs : w6.heap.size < wr.heap.size := hlay.box.lt
         have hlq := hlay.keep hrq
         have hbq : Below w6.heap.size w7 wq := hbl.trans (hrq.mono (by omega))
         have hbwq : Below w.heap.size w wq := HB7.out.trans (hbq.mono (by omega))
         have HLQ := hid hlq
         have HBQ := hid hbq
         have HBOXQ := hid hbox
         have HOWN := hid (show (∀ g, v.ownBlock = some g → w6.heap.size + 1 ≤ g ∧ g < wr.heap.size) ∧ (∀ g, vf.ownBlock = some g → w6.heap.size + 1 ≤ g ∧ g < wr.heap.size) from ⟨fun g e => by
          obtain ⟨vs0, h0, _⟩ := hlay.rules
          exact World.ownsRow.lt h0 g e, fun g e => by
          obtain ⟨vs0, h0, _⟩ := hlay.finals
          exact World.ownsRow.lt h0 g e⟩)
         have HMEM := hid (fun W (hW : KeepD w6.heap.size v vf wq W) => HBD.out.keepD (bs := w6.heap.size + 1) hbwq (by omega) hlq hW)
         have HLC := hid (lay_any (w6.heap.size + 1) w6.heap.size a.i a.o (1 + a.n + b.n) 0 (1 + a.n) ([viaR (1 + a.s), viaR (1 + a.n + b.s)] ++ a.rs.map (shR 1)) ([] ++ a.fs.map (shF 1)) v vf b.i b.o b.n b.s b.A b.cr b.B b.cf b.rs b.fs wq hlq (by omega) (fun W hW => ⟨(HMEM.out W hW).rules, (HMEM.out W hW).nr⟩) HRb.out.r (fun W hW => ⟨(HMEM.out W hW).finals, (HMEM.out W hW).nf⟩) HRb.out.f (by omega) (by have := HRa.out.r; have := HRb.out.r; simp [viaR]; try omega) (by have := HRa.out.f; have := HRb.out.f; simp; try omega)
          (fun r hr => by
           obtain ⟨q1, q2, q3, q4, q5, q6, q7, q8, _⟩ := HRb.out.rs r hr
           exact ⟨q1, by omega, q3, by omega, by omega, fun g hg => by have := q6 g hg; omega, by omega, fun t ht => by have := q8 t ht; omega⟩)
          (fun r hr => by
           obtain ⟨q1, q2, q5, q6, q7, q8⟩ := HRb.out.fs r hr
           exact ⟨q1, by omega, by omega, fun g hg => by have := q6 g hg; omega, by omega, fun t ht => by have := q8 t ht; omega⟩))
         obtain ⟨c0, c1, c2, c3, c4, c5⟩ := DBox.cells (v := .slice b.A b.rs.length b.cr) (vf := .slice b.B b.fs.length b.cf) hbox
         have s2 : IntKind.i64.wrap (1 + a.n + b.n) = 1 + a.n + b.n := IntWalk.i64_in _ (by omega)
         clear hlay hlq hbq hrq hbox hbwq hbl
         go_wp2_with (fail)
         refine HLC.out.mono ?_
         rintro e w8 ⟨rfl, v2, vf2, hl8, hk8, _, _, hb8⟩
         have HLN := hid (show LayS (w6.heap.size + 1) w6.heap.size a.i a.o (1 + a.n + b.n) 0 (joinR a b) (joinF a b) v2 vf2 w8 by
          have h := hl8
          have e1 : ([viaR (1 + a.s), viaR (1 + a.n + b.s)] ++ a.rs.map (shR 1)) ++ b.rs.map (shR (1 + a.n)) = joinR a b := by simp [joinR]
          have e2 : ([] ++ a.fs.map (shF 1)) ++ b.fs.map (shF (1 + a.n)) = joinF a b := by simp [joinF]
          rw [e1, e2] at h
          exact h)
         have HBN := hid (HBQ.out.trans hb8)
         have n2 : w8.cell? ⟨wr.heap.size, 2, none⟩ = some (.int .i64 b.n) := (Blk_keep HBOXQ.out (hk8.2 wr.heap.size (by omega) (by omega) (fun e => by have := (HOWN.out.1 _ e).2; omega) (fun e => by have := (HOWN.out.2 _ e).2; omega))).cell 2
         clear hl8 hk8 hb8 c0 c1 c2 c3 c4 c5
         go_wp2_with (fail)
         go_roundw
         case rel => exact ⟨v2, vf2, HBN.out, .inr (.inr ⟨rfl, rfl, HLN.out⟩)⟩
         case measure => simp [intOf]
        ·have hbw := HB7.out.trans (hbl.mono (by omega))
         have hzr := HZW.out wr hbl
         have hxr := hlay.box.lt
         have HZ := hid hzr
         have hbR : ∀ r ∈ joinR a b, r.gs.length ≤ maxLen ∧ (∀ g ∈ r.gs, g.length ≤ maxLen) ∧ r.out.length ≤ maxLen ∧ IntR r.eat := fun r hr => by
          have key : ∀ q : RuL, (0 ≤ q.eat ∧ q.eat ≤ 4) → q.gs.length ≤ 4 → (∀ g ∈ q.gs, g.length ≤ 64) → q.out.length ≤ 64 → q.gs.length ≤ maxLen ∧ (∀ g ∈ q.gs, g.length ≤ maxLen) ∧ q.out.length ≤ maxLen ∧ IntR q.eat := fun q h1 h2 h3 h4 => by
           unfold maxLen IntR
           exact ⟨by omega, fun g hg => by have := h3 g hg; omega, by omega, by omega, by omega⟩
          unfold joinR at hr
          rcases List.mem_append.1 hr with hr | hr
          ·rcases List.mem_append.1 hr with hr | hr
           ·rcases (show r = viaR (1 + a.s) ∨ r = viaR (1 + a.n + b.s) by simpa using hr) with rfl | rfl
            ·exact key _ (by simp [viaR]) (by simp [viaR]) (fun g hg => by simp [viaR] at hg) (by simp [viaR])
            ·exact key _ (by simp [viaR]) (by simp [viaR]) (fun g hg => by simp [viaR] at hg) (by simp [viaR])
           ·obtain ⟨q, hq, rfl⟩ := List.mem_map.1 hr
            obtain ⟨_, _, _, _, q5, q6, q7, _, q9, q10⟩ := HRa.out.rs q hq
            exact key _ ⟨q9, q10⟩ q5 q6 q7
          ·obtain ⟨q, hq, rfl⟩ := List.mem_map.1 hr
           obtain ⟨_, _, _, _, q5, q6, q7, _, q9, q10⟩ := HRb.out.rs q hq
           exact key _ ⟨q9, q10⟩ q5 q6 q7
         have hbF : ∀ r ∈ joinF a b, r.gs.length ≤ maxLen ∧ (∀ g ∈ r.gs, g.length ≤ maxLen) ∧ r.out.length ≤ maxLen := fun r hr => by
          have key : ∀ q : FiL, q.gs.length ≤ 4 → (∀ g ∈ q.gs, g.length ≤ 64) → q.out.length ≤ 64 → q.gs.length ≤ maxLen ∧ (∀ g ∈ q.gs, g.length ≤ maxLen) ∧ q.out.length ≤ maxLen := fun q h2 h3 h4 => by
           unfold maxLen
           exact ⟨by omega, fun g hg => by have := h3 g hg; omega, by omega⟩
          unfold joinF at hr
          rcases List.mem_append.1 hr with hr | hr
          ·obtain ⟨q, hq, rfl⟩ := List.mem_map.1 hr
           obtain ⟨_, _, q5, q6, q7, _⟩ := HRa.out.fs q hq
           exact key _ q5 q6 q7
          ·obtain ⟨q, hq, rfl⟩ := List.mem_map.1 hr
           obtain ⟨_, _, q5, q6, q7, _⟩ := HRb.out.fs q hq
           exact key _ q5 q6 q7
         obtain ⟨AR, cR, hvR, hrR, hcR, hmR⟩ := RowRu.reads hlay.rules hbR
         obtain ⟨AF, cF, hvF, hrF, hcF, hmF⟩ := RowFi.reads hlay.finals hbF
         subst hvR hvF
         obtain ⟨x0, x1, x2, x3, x4, x5⟩ := hlay.box.cells
         have HBW := hid hbw
         have HLZ := hid hlay
         have HBR := hid hbR
         have HBF := hid hbF
         have HXL := hid (show w.heap.size + 2 < w6.heap.size by omega)
         clear hlay hbl hzr hrR hrF hbw hbR hbF
         unfold maxLen at hmR hmF
         by_cases hfew : JoinFew a b
         ·obtain ⟨j1, j2, j3⟩ := hfew
          have HFEW := hid (show JoinFew a b from ⟨j1, j2, j3⟩)
          have z0 := HZ.out.cell 0
          have y0 := HZ.out.frozen 0
          have z1 := HZ.out.cell 1
          have y1 := HZ.out.frozen 1
          have z2 := HZ.out.cell 2
          have y2 := HZ.out.frozen 2
          have z3 := HZ.out.cell 3
          have y3 := HZ.out.frozen 3
          have z4 := HZ.out.cell 4
          have y4 := HZ.out.frozen 4
          have z5 := HZ.out.cell 5
          have y5 := HZ.out.frozen 5
          simp only [List.getElem?_toArray, List.getElem?_cons_zero, List.getElem?_cons_succ] at z0 z1 z2 z3 z4 z5
          go_wp2_with (fail)
          obtain ⟨wE, hwE⟩ : ∃ wE, ((((((wr.setCell ⟨w.heap.size + 2, 0, none⟩ (.int .i64 a.i)).setCell ⟨w.heap.size + 2, 1, none⟩ (.int .i64 a.o)).setCell ⟨w.heap.size + 2, 2, none⟩ (.int .i64 (1 + a.n + b.n))).setCell ⟨w.heap.size + 2, 3, none⟩ (.int .i64 0)).setCell ⟨w.heap.size + 2, 4, none⟩ (.slice AR (joinR a b).length cR)).setCell ⟨w.heap.size + 2, 5, none⟩ (.slice AF (joinF a b).length cF)) = wE := ⟨_, rfl⟩
          have hqE : Blk wE (w.heap.size + 2) 26 #[.int .i64 a.i, .int .i64 a.o, .int .i64 (1 + a.n + b.n), .int .i64 0, .slice AR (joinR a b).length cR, .slice AF (joinF a b).length cF] := by
           rw [← hwE]
           exact (((((HZ.out.set_ 0 _).set_ 1 _).set_ 2 _).set_ 3 _).set_ 4 _).set_ 5 _
          have hbE : Below w.heap.size w wE := by
           rw [← hwE]
           exact (((((HBW.out.setCell (by simp) _).setCell (by simp) _).setCell (by simp) _).setCell (by simp) _).setCell (by simp) _).setCell (by simp) _
          have hother : ∀ g, g ≠ w.heap.size + 2 → wE.heap[g]? = wr.heap[g]? := fun g hg => by
           rw [← hwE]
           rw [heap_setCell_other _ ⟨w.heap.size + 2, 5, none⟩ g _ hg, heap_setCell_other _ ⟨w.heap.size + 2, 4, none⟩ g _ hg, heap_setCell_other _ ⟨w.heap.size + 2, 3, none⟩ g _ hg, heap_setCell_other _ ⟨w.heap.size + 2, 2, none⟩ g _ hg, heap_setCell_other _ ⟨w.heap.size + 2, 1, none⟩ g _ hg, heap_setCell_other _ ⟨w.heap.size + 2, 0, none⟩ g _ hg]
          have k0 := hqE.cell 0
          have k1 := hqE.cell 1
          have k2 := hqE.cell 2
          have k3 := hqE.cell 3
          have k4 := hqE.cell 4
          have k5 := hqE.cell 5
          simp only [List.getElem?_toArray, List.getElem?_cons_zero, List.getElem?_cons_succ] at k0 k1 k2 k3 k4 k5
          try rw [hwE]
          have hrr : RowRu _ wE (w6.heap.size + 1) _ (joinR a b) := HLZ.out.rules.keep (by rw [← hwE]; simp) (fun g e => hother g (by
           obtain ⟨vs0, h0, _⟩ := HLZ.out.rules
           have := (World.ownsRow.lt h0 g e).1
           have := HXL.out
           omega)) (fun g hg _ _ => hother g (by have := hg.1; have := HXL.out; omega)) (fun _ hp _ => hp)
          have hff : RowFi _ wE (w6.heap.size + 1) _ (joinF a b) := HLZ.out.finals.keep (by rw [← hwE]; simp) (fun g e => hother g (by
           obtain ⟨vs0, h0, _⟩ := HLZ.out.finals
           have := (World.ownsRow.lt h0 g e).1
           have := HXL.out
           omega)) (fun g hg _ _ => hother g (by have := hg.1; have := HXL.out; omega)) (fun _ hp _ => hp)
          obtain ⟨AR', cR', hvR', hrR', _, _⟩ := RowRu.reads hrr HBR.out
          obtain ⟨AF', cF', hvF', hrF', _, _⟩ := RowFi.reads hff HBF.out
          injection hvR' with e1 _ e2
          injection hvF' with e3 _ e4
          subst e1 e3
          exact bodyPost_ret (v := .tuple #[dsc a.i a.o (1 + a.n + b.n) 0 AR (joinR a b).length cR AF (joinF a b).length cF, .int .i64 0]) (by simp [results, Tryz.results10, go_sem, k0, k1, k2, k3, k4, k5]) rfl ⟨hbE, fun h => absurd HOK.out h, fun _ h => absurd HFEW.out h, fun _ _ => ⟨AR, cR, AF, cF, rfl, hrR', hrF', hcR, hcF⟩⟩
         ·have HE := hid (HEND4.out HOK.out hfew)
          clear HEND4
          have HEND4 := HE
          by_cases j1 : 1 + a.n + b.n ≤ 1024
          ·by_cases j2 : (joinR a b).length ≤ 4096
           ·have j3 : ¬ (joinF a b).length ≤ 4096 := fun h => hfew ⟨j1, j2, h⟩
            clear hfew
            have z0 := HZ.out.cell 0
            have y0 := HZ.out.frozen 0
            have z1 := HZ.out.cell 1
            have y1 := HZ.out.frozen 1
            have z2 := HZ.out.cell 2
            have y2 := HZ.out.frozen 2
            have z3 := HZ.out.cell 3
            have y3 := HZ.out.frozen 3
            have z4 := HZ.out.cell 4
            have y4 := HZ.out.frozen 4
            have z5 := HZ.out.cell 5
            have y5 := HZ.out.frozen 5
            simp only [List.getElem?_toArray, List.getElem?_cons_zero, List.getElem?_cons_succ] at z0 z1 z2 z3 z4 z5
            go_wp2_with (fail)
            obtain ⟨wE, hwE⟩ : ∃ wE, ((((((wr.setCell ⟨w.heap.size + 2, 0, none⟩ (.int .i64 0)).setCell ⟨w.heap.size + 2, 1, none⟩ (.int .i64 0)).setCell ⟨w.heap.size + 2, 2, none⟩ (.int .i64 0)).setCell ⟨w.heap.size + 2, 3, none⟩ (.int .i64 0)).setCell ⟨w.heap.size + 2, 4, none⟩ (.slice none 0 0)).setCell ⟨w.heap.size + 2, 5, none⟩ (.slice none 0 0)) = wE := ⟨_, rfl⟩
            have hqE : Blk wE (w.heap.size + 2) 26 #[.int .i64 0, .int .i64 0, .int .i64 0, .int .i64 0, .slice none 0 0, .slice none 0 0] := by
             rw [← hwE]
             exact (((((HZ.out.set_ 0 _).set_ 1 _).set_ 2 _).set_ 3 _).set_ 4 _).set_ 5 _
            have hbE : Below w.heap.size w wE := by
             rw [← hwE]
             exact (((((HBW.out.setCell (by simp) _).setCell (by simp) _).setCell (by simp) _).setCell (by simp) _).setCell (by simp) _).setCell (by simp) _
            have k0 := hqE.cell 0
            have k1 := hqE.cell 1
            have k2 := hqE.cell 2
            have k3 := hqE.cell 3
            have k4 := hqE.cell 4
            have k5 := hqE.cell 5
            simp only [List.getElem?_toArray, List.getElem?_cons_zero, List.getElem?_cons_succ] at k0 k1 k2 k3 k4 k5
            try rw [hwE]
            exact bodyPost_ret (v := .tuple #[dsc 0 0 0 0 none 0 0 none 0 0, .int .i64 4]) (by simp [results, Tryz.results10, go_sem, k0, k1, k2, k3, k4, k5]) rfl (HEND4.out wE hbE)
           ·clear hfew
            have z0 := HZ.out.cell 0
            have y0 := HZ.out.frozen 0
            have z1 := HZ.out.cell 1
            have y1 := HZ.out.frozen 1
            have z2 := HZ.out.cell 2
            have y2 := HZ.out.frozen 2
            have z3 := HZ.out.cell 3
            have y3 := HZ.out.frozen 3
            have z4 := HZ.out.cell 4
            have y4 := HZ.out.frozen 4
            have z5 := HZ.out.cell 5
            have y5 := HZ.out.frozen 5
            simp only [List.getElem?_toArray, List.getElem?_cons_zero, List.getElem?_cons_succ] at z0 z1 z2 z3 z4 z5
            go_wp2_with (fail)
            obtain ⟨wE, hwE⟩ : ∃ wE, ((((((wr.setCell ⟨w.heap.size + 2, 0, none⟩ (.int .i64 0)).setCell ⟨w.heap.size + 2, 1, none⟩ (.int .i64 0)).setCell ⟨w.heap.size + 2, 2, none⟩ (.int .i64 0)).setCell ⟨w.heap.size + 2, 3, none⟩ (.int .i64 0)).setCell ⟨w.heap.size + 2, 4, none⟩ (.slice none 0 0)).setCell ⟨w.heap.size + 2, 5, none⟩ (.slice none 0 0)) = wE := ⟨_, rfl⟩
            have hqE : Blk wE (w.heap.size + 2) 26 #[.int .i64 0, .int .i64 0, .int .i64 0, .int .i64 0, .slice none 0 0, .slice none 0 0] := by
             rw [← hwE]
             exact (((((HZ.out.set_ 0 _).set_ 1 _).set_ 2 _).set_ 3 _).set_ 4 _).set_ 5 _
            have hbE : Below w.heap.size w wE := by
             rw [← hwE]
             exact (((((HBW.out.setCell (by simp) _).setCell (by simp) _).setCell (by simp) _).setCell (by simp) _).setCell (by simp) _).setCell (by simp) _
            have k0 := hqE.cell 0
            have k1 := hqE.cell 1
            have k2 := hqE.cell 2
            have k3 := hqE.cell 3
            have k4 := hqE.cell 4
            have k5 := hqE.cell 5
            simp only [List.getElem?_toArray, List.getElem?_cons_zero, List.getElem?_cons_succ] at k0 k1 k2 k3 k4 k5
            try rw [hwE]
            exact bodyPost_ret (v := .tuple #[dsc 0 0 0 0 none 0 0 none 0 0, .int .i64 4]) (by simp [results, Tryz.results10, go_sem, k0, k1, k2, k3, k4, k5]) rfl (HEND4.out wE hbE)
          ·clear hfew
           have z0 := HZ.out.cell 0
           have y0 := HZ.out.frozen 0
           have z1 := HZ.out.cell 1
           have y1 := HZ.out.frozen 1
           have z2 := HZ.out.cell 2
           have y2 := HZ.out.frozen 2
           have z3 := HZ.out.cell 3
           have y3 := HZ.out.frozen 3
           have z4 := HZ.out.cell 4
           have y4 := HZ.out.frozen 4
           have z5 := HZ.out.cell 5
           have y5 := HZ.out.frozen 5
           simp only [List.getElem?_toArray, List.getElem?_cons_zero, List.getElem?_cons_succ] at z0 z1 z2 z3 z4 z5
           go_wp2_with (fail)
           obtain ⟨wE, hwE⟩ : ∃ wE, ((((((wr.setCell ⟨w.heap.size + 2, 0, none⟩ (.int .i64 0)).setCell ⟨w.heap.size + 2, 1, none⟩ (.int .i64 0)).setCell ⟨w.heap.size + 2, 2, none⟩ (.int .i64 0)).setCell ⟨w.heap.size + 2, 3, none⟩ (.int .i64 0)).setCell ⟨w.heap.size + 2, 4, none⟩ (.slice none 0 0)).setCell ⟨w.heap.size + 2, 5, none⟩ (.slice none 0 0)) = wE := ⟨_, rfl⟩
           have hqE : Blk wE (w.heap.size + 2) 26 #[.int .i64 0, .int .i64 0, .int .i64 0, .int .i64 0, .slice none 0 0, .slice none 0 0] := by
            rw [← hwE]
            exact (((((HZ.out.set_ 0 _).set_ 1 _).set_ 2 _).set_ 3 _).set_ 4 _).set_ 5 _
           have hbE : Below w.heap.size w wE := by
            rw [← hwE]
            exact (((((HBW.out.setCell (by simp) _).setCell (by simp) _).setCell (by simp) _).setCell (by simp) _).setCell (by simp) _).setCell (by simp) _
           have k0 := hqE.cell 0
           have k1 := hqE.cell 1
           have k2 := hqE.cell 2
           have k3 := hqE.cell 3
           have k4 := hqE.cell 4
           have k5 := hqE.cell 5
           simp only [List.getElem?_toArray, List.getElem?_cons_zero, List.getElem?_cons_succ] at k0 k1 k2 k3 k4 k5
           try rw [hwE]
           exact bodyPost_ret (v := .tuple #[dsc 0 0 0 0 none 0 0 none 0 0, .int .i64 4]) (by simp [results, Tryz.results10, go_sem, k0, k1, k2, k3, k4, k5]) rfl (HEND4.out wE hbE)
theorem val_all {x : Int} (hx : Sy x) : valI 0 21 0 x = x := by
 unfold Sy at hx
 have h0 : pw 0 = 1 := by decide
 have h1 : pw 21 = 2097152 := by decide
 unfold valI
 rw [h0, h1]
 omega
def cpT : TmL := ⟨0, 0, 21, 0, 0, [(0, 0, 21, 0)]⟩
theorem num_cp : numB 0 0 21 0 0 [(0, 0, 21, 0)] = true := by
 unfold numB
 have hr : riseB [(0, 0, 21, 0)] = true := riseB_true (k := 1) (fun i h1 h2 => by omega) (Nat.le_refl _)
 rw [hr]
 decide
theorem parts_cp {n : Int} (hn : 1 ≤ n) : partsB n [(0, 0, 21, 0)] = true := by
 unfold partsB rightB
 simp only [List.all_cons, List.all_nil, Bool.and_true, decide_eq_true_eq]
 refine ⟨Int.le_refl _, by omega, by decide⟩
theorem value_cp {x : Int} (hx : Sy x) : valueT 0 0 21 0 0 [(0, 0, 21, 0)] [x] = (x, true) := by
 rw [Fi.value_is num_cp (parts_cp (by simp))]
 have hi : Fi.innT [x] 0 [(0, 0, 21, 0)] = x := by
  unfold Fi.innT atI
  simp [val_all hx]
 rw [hi, if_pos ⟨fun y hy => by obtain rfl := List.mem_singleton.1 hy; exact hx, hx⟩, val_all hx, Int.zero_add]
theorem dom_sy {k x : Int} (h : mem (domL k) x) : Sy x := by
 unfold domL at h
 obtain ⟨_, p, hp, h1, h2⟩ := h
 unfold Sy
 split at hp
 ·obtain rfl := List.mem_singleton.1 hp
  simp only at h1 h2
  omega
 ·split at hp
  ·rcases (show p = (0, 55295) ∨ p = (57344, 1114111) by simpa using hp) with rfl | rfl <;> (simp only at h1 h2; omega)
  ·cases hp
theorem fits_cp {k : Int} (hk : k = 1 ∨ k = 2) : fitF k k [domL k] cpT = true := by
 rw [fitF_iff]
 refine ⟨by simp, ?_, fun xs hw hs => ?_⟩
 ·unfold rightT
  simp only [cpT]
  rw [num_cp, parts_cp (by simp)]
  rcases hk with rfl | rfl <;> decide
 ·obtain ⟨hl, hm⟩ := hw
  obtain ⟨x, rfl⟩ := List.length_eq_one_iff.1 hl
  have hx := hm 0 (by simp) (by simp)
  simp only [List.getElem_cons_zero] at hx
  have hv := value_cp (dom_sy hx)
  unfold Fi.HasVal
  simp only [cpT]
  rw [hv]
  exact ⟨rfl, hx⟩
theorem dom_plain (k : Int) : Plain (domL k) := by
 unfold domL
 split
 ·exact ⟨List.pairwise_singleton _ _, fun p hp => by obtain rfl := List.mem_singleton.1 hp; unfold Ok; simp only; omega⟩
 ·split
  ·refine ⟨?_, fun p hp => ?_⟩
   ·simp
   ·rcases (show p = (0, 55295) ∨ p = (57344, 1114111) by simpa using hp) with rfl | rfl <;> (unfold Ok; simp only; omega)
  ·exact Plain.nil
theorem guards_dom {k : Int} (hk : k = 1 ∨ k = 2) : guardsB k [domL k] = true := by
 unfold guardsB guardB
 have h1 : plainB (domL k) = true := plainB_true (dom_plain k)
 have h2 : subB k (domL k) = true := by
  unfold subB
  exact @decide_eq_true _ (Classical.propDecidable _) fun x h => h.2 h.1
 simp only [List.all_cons, List.all_nil, h1, h2]
 rcases hk with rfl | rfl <;> decide
theorem guards_nil (k : Int) : guardsB k [] = true := by
 unfold guardsB
 simp
theorem badAt_all {α : Type} {P : α → Bool} {l : List α} (h : ∀ x ∈ l, P x = true) : badAt P l = none := by
 unfold badAt
 rw [List.findIdx?_eq_none_iff]
 intro x hx
 simp [h x hx]
theorem where_zero {i o n s : Int} {rs : List RuL} {fs : List FiL} (hh : headB i o n s rs.length fs.length = true) (hr : ∀ r ∈ rs, ruleB i n (fitF i o) r = true) (hf : ∀ f ∈ fs, finB i n (fitF i o) f = true) (hc : cycE (epsE rs) n.toNat = false) : whereD i o n s rs fs = (0, 0) := by
 unfold whereD whereV
 rw [if_pos hh, badAt_all hr, badAt_all hf, hc]
 rfl
theorem cyc_no {E : List Eg} {N : Nat} (h : ∀ q, ¬ Walk E (N + 1) q) : cycE E N = false := by
 unfold cycE
 exact @decide_eq_false _ (Classical.propDecidable _) fun ⟨q, hq⟩ => h q hq
theorem cyc_nil (N : Nat) : cycE [] N = false := cyc_no fun q ⟨e, he, _⟩ => by cases he
theorem same_rule {k n : Int} (hk : k = 1 ∨ k = 2) {f t : Int} (hf : 0 ≤ f ∧ f < n) (ht : 0 ≤ t ∧ t < n) : ruleB k n (fitF k k) ⟨f, t, [domL k], 1, [cpT]⟩ = true := by
 unfold ruleB eatB termsB
 rw [stB_t hf.1 hf.2, stB_t ht.1 ht.2, guards_dom hk]
 simp [fits_cp hk]
theorem empty_final {i o n f : Int} (hf : 0 ≤ f ∧ f < n) : finB i n (fitF i o) ⟨f, [], []⟩ = true := by
 unfold finB termsB
 rw [stB_t hf.1 hf.2, guards_nil]
 simp
theorem via_rule {i o n t : Int} (hn : 0 < n) (ht : 0 ≤ t ∧ t < n) : ruleB i n (fitF i o) (viaR t) = true := by
 unfold ruleB eatB termsB viaR
 rw [stB_t (Int.le_refl _) hn, stB_t ht.1 ht.2, guards_nil]
 simp
theorem sort_one {k : Int} (hk : k = 1 ∨ k = 2) : sortB k = true := by
 unfold sortB
 rcases hk with rfl | rfl <;> decide
theorem empty_where {i o : Int} (hi : i = 1 ∨ i = 2) (ho : o = 1 ∨ o = 2) : whereD i o 1 0 [] [] = (0, 0) :=
 where_zero (by unfold headB; rw [sort_one hi, sort_one ho]; decide) (fun r hr => by cases hr) (fun f hf => by cases hf) (cyc_nil _)
theorem same_where {k : Int} (hk : k = 1 ∨ k = 2) : whereD k k 1 0 (sameR k) sameF = (0, 0) :=
 where_zero (by unfold headB; rw [sort_one hk]; rfl) (fun r hr => by
  obtain rfl := List.mem_singleton.1 hr
  exact same_rule hk ⟨by omega, by omega⟩ ⟨by omega, by omega⟩) (fun f hf => by
  obtain rfl := List.mem_singleton.1 hf
  exact empty_final ⟨by omega, by omega⟩) (cyc_nil _)
def exR : List RuL := [viaR 1, viaR 2, ⟨1, 1, [domL 1], 1, [cpT]⟩]
def exF : List FiL := [⟨1, [], []⟩]
theorem ex_where : whereD 1 1 3 0 exR exF = (0, 0) :=
 where_zero (by unfold headB; rw [sort_one (.inl rfl)]; decide) (fun r hr => by
  rcases (show r = viaR 1 ∨ r = viaR 2 ∨ r = ⟨1, 1, [domL 1], 1, [cpT]⟩ by simpa [exR] using hr) with rfl | rfl | rfl
  ·exact via_rule (by omega) ⟨by omega, by omega⟩
  ·exact via_rule (by omega) ⟨by omega, by omega⟩
  ·exact same_rule (.inl rfl) ⟨by omega, by omega⟩ ⟨by omega, by omega⟩) (fun f hf => by
  obtain rfl := List.mem_singleton.1 hf
  exact empty_final ⟨by omega, by omega⟩) (by
  have he : epsE exR = [(0, 1), (0, 2)] := by decide
  rw [he]
  refine cyc_no fun q hq => ?_
  obtain ⟨e, he, _, e2, he2, h2, _⟩ := hq
  have h0 : e.1 = 0 := by rcases (show e = (0, 1) ∨ e = (0, 2) by simpa using he) with rfl | rfl <;> rfl
  rw [h0] at h2
  rcases (show e2 = (0, 1) ∨ e2 = (0, 2) by simpa using he2) with rfl | rfl <;> simp at h2)
open Go.Lib (hid)
def sameD (A B : Option Addr) : DV := ⟨1, 1, 1, 0, A, 1, B, 1, sameR 1, sameF⟩
def emptyD : DV := ⟨1, 1, 1, 0, none, 0, none, 0, [], []⟩
theorem emptyD_mem (w : World) : DM w emptyD := ⟨RRu.nil_ _ _, Nat.zero_le _, RFi.nil_ _ _, Nat.zero_le _, fun _ _ e => (by cases e), fun _ _ e => (by cases e)⟩
def ExOut (w : World) (e : Ending) (w' : World) : Prop := ∃ A cr B cf, e = .returned (.tuple #[dsc 1 1 3 0 A 3 cr B 1 cf, .int .i64 0]) ∧ RRu w' A 3 exR ∧ RFi w' B 1 exF ∧ Below w.heap.size w w'
theorem joinR_ex (A B : Option Addr) : joinR (sameD A B) emptyD = exR := rfl
theorem joinF_ex (A B : Option Addr) : joinF (sameD A B) emptyD = exF := rfl
theorem ex_any (A B : Option Addr) (w : World) (hr : RRu w A 1 (sameR 1)) (hf : RFi w B 1 sameF) (hn1 : NilT w A 1 5 4) (hn2 : NilT w B 1 3 2) (hT : TabB w) :
  Calls Tryz.prog 10 #[dsc 1 1 1 0 A 1 1 B 1 1, dsc 1 1 1 0 none 0 0 none 0 0] w (ExOut w) := by
 have h := join_any (sameD A B) emptyD w ⟨hr, show 1 ≤ maxLen by simp only [maxLen]; decide, hf, show 1 ≤ maxLen by simp only [maxLen]; decide, hn1, hn2⟩ (emptyD_mem w) hT
 refine Calls.mono (show Calls Tryz.prog 10 #[dsc 1 1 1 0 A 1 1 B 1 1, dsc 1 1 1 0 none 0 0 none 0 0] w _ from h) ?_
 rintro e w' ⟨hb, _, _, h3⟩
 have hok : JoinOk (sameD A B) emptyD := ⟨by
  show (whereD 1 1 1 0 (sameR 1) sameF).1 = 0
  rw [same_where (.inl rfl)], by
  show (whereD 1 1 1 0 [] []).1 = 0
  rw [empty_where (.inl rfl) (.inl rfl)], rfl, rfl⟩
 have hfew : JoinFew (sameD A B) emptyD := ⟨show (1 : Int) + 1 + 1 ≤ 1024 by decide, by rw [joinR_ex]; decide, by rw [joinF_ex]; decide⟩
 obtain ⟨A', cr, B', cf, e1, h4, h5, _, _⟩ := h3 hok hfew
 rw [joinR_ex, joinF_ex] at e1
 rw [joinR_ex] at h4
 rw [joinF_ex] at h5
 exact ⟨A', cr, B', cf, e1, h4, h5, hb⟩
set_option maxHeartbeats 8000000 in
theorem awake_any (w : World) (hT : TabB w) : Calls Tryz.prog 9 #[] w (RetB true w) := by
 have HT := hid hT
 clear hT
 go_enter Tryz.func9, Tryz.ntmps9
 go_wp2_with (fail)
 refine (same_any 1 w).mono ?_
 rintro e w1 ⟨A, B, rfl, hrr, hff, hb1, hn1, hn2⟩
 have HR := hid hrr
 have HF := hid hff
 have HN := hid (And.intro hn1 hn2)
 have HB1 := hid hb1
 clear hrr hff hb1 hn1 hn2
 go_wp2_with (fail)
 refine (empty_any 1 1 w1).mono ?_
 rintro e w2 ⟨rfl, hb2⟩
 have hs12 := hb2.size
 have hs1 := HB1.out.size
 have HJ := hid (ex_any A B w2 (HR.out.belowM hb2) (HF.out.belowM hb2) (nil_below HN.out.1 (fun hn => by
  obtain ⟨b, off, e, hlt, _⟩ := HR.out.2 hn
  exact ⟨b, off, e, hlt⟩) hb2) (nil_below HN.out.2 (fun hn => by
  obtain ⟨b, off, e, hlt, _⟩ := HF.out.2 hn
  exact ⟨b, off, e, hlt⟩) hb2) (HT.out.next (HB1.out.trans (hb2.mono hs1))))
 have HB2 := hid (HB1.out.trans (hb2.mono hs1))
 clear hb2
 go_wp2_with (fail)
 refine HJ.out.mono ?_
 rintro e w3 ⟨AR, cR, AF, cF, rfl, hrr, hff, hb3⟩
 have hs3 := hb3.size
 have HB3 := hid (HB2.out.trans (hb3.mono (by omega)))
 obtain ⟨w4, hw4⟩ : ∃ w4, w3.alloc (.cells #[.int .i64 1, .int .i64 1, .int .i64 3, .int .i64 0, .slice AR 3 cR, .slice AF 1 cF] 26) = w4 := ⟨_, rfl⟩
 have HW4 := hid hw4
 have hb4 : Below w3.heap.size w3 w4 := by rw [← hw4]; exact (Below.refl _ _).alloc (Nat.le_refl _) _
 have hd4 : DB w4 w3.heap.size 1 1 3 0 AR 3 cR AF 1 cF := by rw [← hw4]; exact DB.boxed
 have hs4 : w4.heap.size = w3.heap.size + 1 := by rw [← hw4]; simp
 have HR4 := hid (hrr.belowM hb4)
 have HF4 := hid (hff.belowM hb4)
 have HB4 := hid (HB3.out.trans (hb4.mono (by omega)))
 have HC := hid (checkD_any 1 1 3 0 AR cR AF cF exR exF w4 HR4.out (by simp only [maxLen]; decide) HF4.out (by simp only [maxLen]; decide) (HT.out.next HB4.out))
 rw [ex_where] at HC
 obtain ⟨p0, p1, p2, p3, p4, p5⟩ := hd4
 obtain ⟨b, off, e, hbl, hc⟩ := HR4.out.2 (by omega)
 obtain ⟨_, k1, _⟩ := hc 1 (by decide)
 obtain ⟨k2, _, k3, _⟩ := hc 2 (by decide)
 have k1' : w4.cell? ⟨b, off + 5 + 1, none⟩ = some (.int .i64 2) := k1
 have k2' : w4.cell? ⟨b, off + 10, none⟩ = some (.int .i64 1) := k2
 have k3' : w4.cell? ⟨b, off + 10 + 3, none⟩ = some (.int .i64 1) := k3
 subst e
 clear hrr hff hb3 hb4 hw4 hc k1 k2 k3
 go_upto_region 2 with (fail)
 rw [HW4.out]
 go_wp2_with (fail)
 refine HC.out.mono ?_
 rintro e w5 ⟨rfl, hb5⟩
 have HB5 := hid (HB4.out.trans (hb5.mono HB4.out.size))
 clear hb5
 go_wp2_with (fail)
 go_ret
 exact ⟨rfl, HB5.out⟩
theorem rgp_all {w : World} {A : Option Addr} {n : Nat} {fam : List (List Span)} (h : RGs w A n fam) : RGp (fun b => b < w.heap.size) w A fam := fun hn => by
 obtain ⟨b, off, e, hb, hc⟩ := h.2 (by have := h.1; omega)
 refine ⟨b, off, e, hb, hb, fun j hj => ?_⟩
 obtain ⟨Aj, cj, h1, h2, h3, h4⟩ := hc j hj
 refine ⟨Aj, cj, h1, ⟨h2, fun hp b' off' e' => ?_⟩, h3, h4⟩
 obtain ⟨b2, off2, e2, hb2, _⟩ := h2.2 hp
 rw [e2] at e'
 injection e' with e'
 injection e' with e'
 omega
theorem rtp_all {w : World} {A : Option Addr} {n : Nat} {ts : List TmL} (h : RTm w A n ts) : RTp (fun b => b < w.heap.size) w A ts := fun hn => by
 obtain ⟨b, off, e, hb, hc⟩ := h.2 (by have := h.1; omega)
 refine ⟨b, off, e, hb, hb, fun j hj => ?_⟩
 obtain ⟨h0, h1, h2, h3, h4, A', c', h5, h6, h7, h8⟩ := hc j hj
 refine ⟨h0, h1, h2, h3, h4, A', c', h5, ⟨h6, fun hp b' off' e' => ?_⟩, h7, h8⟩
 obtain ⟨b2, off2, e2, hb2, _⟩ := h6.2 hp
 rw [e2] at e'
 injection e' with e'
 injection e' with e'
 omega
theorem RowRu.any {p : Nat → Prop} {w : World} {base : Nat} {v : Value} {L : List RuL} (h : RowRu p w base v L) : RowRu (fun _ => True) w base v L := by
 obtain ⟨vs, h1, h2⟩ := h
 refine ⟨vs, h1, fun j hj => ?_⟩
 obtain ⟨G, gc, T, tc, c1, c2, c3, c4, c5⟩ := h2 j hj
 exact ⟨G, gc, T, tc, c1, c2.keep ⟨Nat.le_refl _, fun _ _ _ => rfl⟩ (fun _ h _ => ⟨trivial, h.2⟩), c3, c4.keep ⟨Nat.le_refl _, fun _ _ _ => rfl⟩ (fun _ h _ => ⟨trivial, h.2⟩), c5⟩
structure RJ (B0 bs x : Nat) (i o n s : Int) (L : List RuL) (F : List FiL) (v vf : Value) (w : World) : Prop where
 box : DBox w x i o n s v vf
 rules : RowRu (fun b => b < B0) w bs v L
 finals : RowFi (fun b => b < B0) w bs vf F
 apart : ∀ g, v.ownBlock = some g → vf.ownBlock ≠ some g
 low : x < bs
 old : B0 ≤ x
section
variable {w w' : World} {B0 bs x : Nat} {i o n s : Int} {L : List RuL} {F : List FiL} {v vf v' : Value}
theorem RJ.keep (h : RJ B0 bs x i o n s L F v vf w) (hb : Below w.heap.size w w') : RJ B0 bs x i o n s L F v vf w' where
 box := h.box.keep (hb.block x h.box.lt)
 rules := h.rules.keep hb.size (fun g e => hb.block g (by obtain ⟨vs, h1, _⟩ := h.rules; exact (World.ownsRow.lt h1 g e).2)) (fun b _ _ hlt => hb.block b hlt) (fun _ hp _ => hp)
 finals := h.finals.keep hb.size (fun g e => hb.block g (by obtain ⟨vs, h1, _⟩ := h.finals; exact (World.ownsRow.lt h1 g e).2)) (fun b _ _ hlt => hb.block b hlt) (fun _ hp _ => hp)
 apart := h.apart
 low := h.low
 old := h.old
theorem RJ.rule {vs : List Value} {r : RuL} {G T : Option Addr} {gc tc H : Nat} (h : RJ B0 bs x i o n s L F v vf w) (hvs : w.ownsRow bs 50 5 v L.length vs)
  (hg : RGp (fun b => b < B0) w G r.gs) (hgc : r.gs.length ≤ gc) (ht : RTp (fun b => b < B0) w T r.out) (htc : r.out.length ≤ tc)
  (hgr : w.grownBy w' v.ownBlock) (ho : w'.ownsRow bs 50 5 v' (L.length + 1) (vs ++ [.int .i64 r.frm, .int .i64 r.to_, .slice G r.gs.length gc, .int .i64 r.eat, .slice T r.out.length tc])) (hat : v'.ownBlock = v.ownBlock ∨ v'.ownBlock = some H) (hH : w.heap.size ≤ H) :
  RJ B0 bs x i o n s (L ++ [r]) F v' vf (w'.setCell ⟨x, 4, none⟩ v') := by
 have hxl := h.box.lt
 have hlo := h.low
 have hol := h.old
 have hnx : ∀ g, bs ≤ g → g ≠ x := fun g hg e => by omega
 have hvx : v.ownBlock ≠ some x := fun e => by have := (World.ownsRow.lt hvs x e).1; omega
 have hset : ∀ g, g ≠ x → (w'.setCell ⟨x, 4, none⟩ v').heap[g]? = w'.heap[g]? := fun g hg => heap_setCell_other w' ⟨x, 4, none⟩ g v' hg
 have hsz : w'.heap.size = (w'.setCell ⟨x, 4, none⟩ v').heap.size := by simp
 have hno : ∀ b, b < B0 → v.ownBlock ≠ some b := fun b hb e => by have := (World.ownsRow.lt hvs b e).1; omega
 have hru := h.rules.more hvs (hg.keep ⟨Nat.le_refl _, fun _ _ _ => rfl⟩ (fun b hb _ => ⟨hb, hno b hb⟩)) hgc (ht.keep ⟨Nat.le_refl _, fun _ _ _ => rfl⟩ (fun b hb _ => ⟨hb, hno b hb⟩)) htc hgr ho hat hH
 obtain ⟨fs', hf1, hf2⟩ := h.finals
 have hfb : ∀ g, vf.ownBlock = some g → bs ≤ g ∧ g < w.heap.size := fun g e => World.ownsRow.lt hf1 g e
 refine ⟨(h.box.keep (hgr.block x hxl (fun e => hvx e.symm))).set4 v', hru.keep (by omega) (fun g e => hset g (hnx g (World.ownsRow.lt ho g e).1)) (fun b hb _ _ => hset b (by omega)) (fun _ hp _ => hp), ?_, fun g e q => ?_, hlo, hol⟩
 ·refine RowFi.keep (w := w) ⟨fs', hf1, hf2⟩ (by have := hgr.size; omega) (fun g e => ?_) (fun b hb _ hlt => ?_) (fun b hb hlt => hb)
  ·rw [hset g (hnx g (hfb g e).1)]
   exact hgr.block g (hfb g e).2 (fun q => h.apart g q.symm e)
  ·rw [hset b (by omega)]
   exact hgr.block b hlt (fun q => hno b hb q.symm)
 ·have h1 := (hfb g q).2
  rcases hat with k | k
  ·exact h.apart g (by rw [← k, e]) q
  ·rw [k] at e
   injection e with e
   omega
theorem RJ.final {vs : List Value} {r : FiL} {G T : Option Addr} {gc tc H : Nat} (h : RJ B0 bs x i o n s L F v vf w) (hvs : w.ownsRow bs 45 3 vf F.length vs)
  (hg : RGp (fun b => b < B0) w G r.gs) (hgc : r.gs.length ≤ gc) (ht : RTp (fun b => b < B0) w T r.out) (htc : r.out.length ≤ tc)
  (hgr : w.grownBy w' vf.ownBlock) (ho : w'.ownsRow bs 45 3 v' (F.length + 1) (vs ++ [.int .i64 r.frm, .slice G r.gs.length gc, .slice T r.out.length tc])) (hat : v'.ownBlock = vf.ownBlock ∨ v'.ownBlock = some H) (hH : w.heap.size ≤ H) :
  RJ B0 bs x i o n s L (F ++ [r]) v v' (w'.setCell ⟨x, 5, none⟩ v') := by
 have hxl := h.box.lt
 have hlo := h.low
 have hol := h.old
 have hnx : ∀ g, bs ≤ g → g ≠ x := fun g hg e => by omega
 have hvx : vf.ownBlock ≠ some x := fun e => by have := (World.ownsRow.lt hvs x e).1; omega
 have hset : ∀ g, g ≠ x → (w'.setCell ⟨x, 5, none⟩ v').heap[g]? = w'.heap[g]? := fun g hg => heap_setCell_other w' ⟨x, 5, none⟩ g v' hg
 have hsz : w'.heap.size = (w'.setCell ⟨x, 5, none⟩ v').heap.size := by simp
 have hno : ∀ b, b < B0 → vf.ownBlock ≠ some b := fun b hb e => by have := (World.ownsRow.lt hvs b e).1; omega
 have hru := h.finals.more hvs (hg.keep ⟨Nat.le_refl _, fun _ _ _ => rfl⟩ (fun b hb _ => ⟨hb, hno b hb⟩)) hgc (ht.keep ⟨Nat.le_refl _, fun _ _ _ => rfl⟩ (fun b hb _ => ⟨hb, hno b hb⟩)) htc hgr ho hat hH
 obtain ⟨fs', hf1, hf2⟩ := h.rules
 have hfb : ∀ g, v.ownBlock = some g → bs ≤ g ∧ g < w.heap.size := fun g e => World.ownsRow.lt hf1 g e
 refine ⟨(h.box.keep (hgr.block x hxl (fun e => hvx e.symm))).set5 v', ?_, hru.keep (by omega) (fun g e => hset g (hnx g (World.ownsRow.lt ho g e).1)) (fun b hb _ _ => hset b (by omega)) (fun _ hp _ => hp), fun g e q => ?_, hlo, hol⟩
 ·refine RowRu.keep (w := w) ⟨fs', hf1, hf2⟩ (by have := hgr.size; omega) (fun g e => ?_) (fun b hb _ hlt => ?_) (fun b hb hlt => hb)
  ·rw [hset g (hnx g (hfb g e).1)]
   exact hgr.block g (hfb g e).2 (fun q => h.apart g e q.symm)
  ·rw [hset b (by omega)]
   exact hgr.block b hlt (fun q => hno b hb q.symm)
 ·have h1 := (hfb g e).2
  rcases hat with k | k
  ·exact h.apart g e (by rw [← k, q])
  ·rw [k] at q
   injection q with q
   omega
end
theorem ru_here {w W : World} {A : Option Addr} {n : Nat} {L : List RuL} (h : RRu w A n L) (hb : Below w.heap.size w W) {k : Nat} (hk : k < L.length) : ∃ b off G gc T tc, A = some ⟨b, off, none⟩ ∧ b < w.heap.size ∧
  W.cell? ⟨b, off + k * 5, none⟩ = some (.int .i64 L[k].frm) ∧ W.cell? ⟨b, off + k * 5 + 1, none⟩ = some (.int .i64 L[k].to_) ∧ W.cell? ⟨b, off + k * 5 + 2, none⟩ = some (.slice G L[k].gs.length gc) ∧ W.cell? ⟨b, off + k * 5 + 3, none⟩ = some (.int .i64 L[k].eat) ∧ W.cell? ⟨b, off + k * 5 + 4, none⟩ = some (.slice T L[k].out.length tc) ∧
  RGp (fun b => b < w.heap.size) W G L[k].gs ∧ L[k].gs.length ≤ gc ∧ RTp (fun b => b < w.heap.size) W T L[k].out ∧ L[k].out.length ≤ tc := by
 obtain ⟨b, off, e, hlt, hc⟩ := h.2 (by have := h.1; omega)
 obtain ⟨h0, h1, h3, ⟨G, gc, h2, hg, hgc, _⟩, T, tc, h4, ht, htc, _⟩ := hc k hk
 exact ⟨b, off, G, gc, T, tc, e, hlt, (hb.cell hlt).trans h0, (hb.cell hlt).trans h1, (hb.cell hlt).trans h2, (hb.cell hlt).trans h3, (hb.cell hlt).trans h4,
  (rgp_all hg).keep ⟨hb.size, fun q hq _ => hb.block q hq⟩ (fun _ hq _ => hq), hgc, (rtp_all ht).keep ⟨hb.size, fun q hq _ => hb.block q hq⟩ (fun _ hq _ => hq), htc⟩
theorem fi_here {w W : World} {A : Option Addr} {n : Nat} {L : List FiL} (h : RFi w A n L) (hb : Below w.heap.size w W) {k : Nat} (hk : k < L.length) : ∃ b off G gc T tc, A = some ⟨b, off, none⟩ ∧ b < w.heap.size ∧
  W.cell? ⟨b, off + k * 3, none⟩ = some (.int .i64 L[k].frm) ∧ W.cell? ⟨b, off + k * 3 + 1, none⟩ = some (.slice G L[k].gs.length gc) ∧ W.cell? ⟨b, off + k * 3 + 2, none⟩ = some (.slice T L[k].out.length tc) ∧
  RGp (fun b => b < w.heap.size) W G L[k].gs ∧ L[k].gs.length ≤ gc ∧ RTp (fun b => b < w.heap.size) W T L[k].out ∧ L[k].out.length ≤ tc := by
 obtain ⟨b, off, e, hlt, hc⟩ := h.2 (by have := h.1; omega)
 obtain ⟨h0, ⟨G, gc, h2, hg, hgc, _⟩, T, tc, h4, ht, htc, _⟩ := hc k hk
 exact ⟨b, off, G, gc, T, tc, e, hlt, (hb.cell hlt).trans h0, (hb.cell hlt).trans h2, (hb.cell hlt).trans h4,
  (rgp_all hg).keep ⟨hb.size, fun q hq _ => hb.block q hq⟩ (fun _ hq _ => hq), hgc, (rtp_all ht).keep ⟨hb.size, fun q hq _ => hb.block q hq⟩ (fun _ hq _ => hq), htc⟩
theorem RJ.start {w w' : World} {B0 bs x : Nat} {i o n s p q : Int} {v' : Value} (h : DBox w x i o n s (.slice none 0 0) (.slice none 0 0)) (hlo : x < bs) (hol : B0 ≤ x) (hgr : w.grownBy w' none)
  (ho : w'.ownsRow bs 50 5 v' 2 [.int .i64 0, .int .i64 p, .slice none 0 0, .int .i64 0, .slice none 0 0, .int .i64 0, .int .i64 q, .slice none 0 0, .int .i64 0, .slice none 0 0]) :
  RJ B0 bs x i o n s [viaR p, viaR q] [] v' (.slice none 0 0) (w'.setCell ⟨x, 4, none⟩ v') := by
 have hxl := h.lt
 have hrow : RowRu (fun b => b < B0) w' bs v' [viaR p, viaR q] := by
  refine ⟨_, ho, fun j hj => ?_⟩
  have hj' : j = 0 ∨ j = 1 := by simp at hj; omega
  rcases hj' with rfl | rfl
  ·exact ⟨none, 0, none, 0, ⟨rfl, rfl, rfl, rfl, rfl⟩, fun hn => absurd hn (by simp [viaR]), Nat.le_refl _, fun hn => absurd hn (by simp [viaR]), Nat.le_refl _⟩
  ·exact ⟨none, 0, none, 0, ⟨rfl, rfl, rfl, rfl, rfl⟩, fun hn => absurd hn (by simp [viaR]), Nat.le_refl _, fun hn => absurd hn (by simp [viaR]), Nat.le_refl _⟩
 have hset : ∀ g, g ≠ x → (w'.setCell ⟨x, 4, none⟩ v').heap[g]? = w'.heap[g]? := fun g hg => heap_setCell_other w' ⟨x, 4, none⟩ g v' hg
 refine ⟨(h.keep (hgr.block x hxl (fun e => by cases e))).set4 v', hrow.keep (by simp) (fun g e => hset g (by have := (World.ownsRow.lt ho g e).1; omega)) (fun b hb _ _ => hset b (by omega)) (fun _ hp _ => hp), RowFi.nil_ _ _ _, fun g e => (by simp [Value.ownBlock]), hlo, hol⟩
theorem joinR_bnd {a b : DV} (Ra : RightD a) (Rb : RightD b) : ∀ r ∈ joinR a b, r.gs.length ≤ maxLen ∧ (∀ g ∈ r.gs, g.length ≤ maxLen) ∧ r.out.length ≤ maxLen ∧ IntR r.eat := fun r hr => by
 have key : ∀ q : RuL, (0 ≤ q.eat ∧ q.eat ≤ 4) → q.gs.length ≤ 4 → (∀ g ∈ q.gs, g.length ≤ 64) → q.out.length ≤ 64 → q.gs.length ≤ maxLen ∧ (∀ g ∈ q.gs, g.length ≤ maxLen) ∧ q.out.length ≤ maxLen ∧ IntR q.eat := fun q h1 h2 h3 h4 => by
  unfold maxLen IntR
  exact ⟨by omega, fun g hg => by have := h3 g hg; omega, by omega, by omega, by omega⟩
 unfold joinR at hr
 rcases List.mem_append.1 hr with hr | hr
 ·rcases List.mem_append.1 hr with hr | hr
  ·rcases (show r = viaR (1 + a.s) ∨ r = viaR (1 + a.n + b.s) by simpa using hr) with rfl | rfl
   ·exact key _ (by simp [viaR]) (by simp [viaR]) (fun g hg => by simp [viaR] at hg) (by simp [viaR])
   ·exact key _ (by simp [viaR]) (by simp [viaR]) (fun g hg => by simp [viaR] at hg) (by simp [viaR])
  ·obtain ⟨q, hq, rfl⟩ := List.mem_map.1 hr
   obtain ⟨_, _, _, _, q5, q6, q7, _, q9, q10⟩ := Ra.rs q hq
   exact key _ ⟨q9, q10⟩ q5 q6 q7
 ·obtain ⟨q, hq, rfl⟩ := List.mem_map.1 hr
  obtain ⟨_, _, _, _, q5, q6, q7, _, q9, q10⟩ := Rb.rs q hq
  exact key _ ⟨q9, q10⟩ q5 q6 q7
theorem joinF_bnd {a b : DV} (Ra : RightD a) (Rb : RightD b) : ∀ r ∈ joinF a b, r.gs.length ≤ maxLen ∧ (∀ g ∈ r.gs, g.length ≤ maxLen) ∧ r.out.length ≤ maxLen := fun r hr => by
 have key : ∀ q : FiL, q.gs.length ≤ 4 → (∀ g ∈ q.gs, g.length ≤ 64) → q.out.length ≤ 64 → q.gs.length ≤ maxLen ∧ (∀ g ∈ q.gs, g.length ≤ maxLen) ∧ q.out.length ≤ maxLen := fun q h2 h3 h4 => by
  unfold maxLen
  exact ⟨by omega, fun g hg => by have := h3 g hg; omega, by omega⟩
 unfold joinF at hr
 rcases List.mem_append.1 hr with hr | hr
 ·obtain ⟨q, hq, rfl⟩ := List.mem_map.1 hr
  obtain ⟨_, _, q5, q6, q7, _⟩ := Ra.fs q hq
  exact key _ q5 q6 q7
 ·obtain ⟨q, hq, rfl⟩ := List.mem_map.1 hr
  obtain ⟨_, _, q5, q6, q7, _⟩ := Rb.fs q hq
  exact key _ q5 q6 q7
end Go.Proofs.YtoofgpoeheponaaGreatDoor.De
