/- The walk of minterm.Split, in general. -/
import Derived.Test.YtgmkchkaceciiaaMiEdges
import Derived.StillTailTactics
import Derived.BigQuiet
import Derived.Deep.RegionHeld3
import Derived.Deep.DeepCutAuto
import Derived.Deep.CutRange
namespace Go.Proofs.Ytgmkchkaceciiaa.Mi
set_option maxRecDepth 100000
open Go Go.RowKit Go.Shelf Go.Lib Go.Sort Go.Proofs.Ytgmkchkaceciiaa.Sp Go.Maps

theorem infoByte : (Try.prog.info? 5).map (fun i => (i.zero, i.size, i.bytes)) = some (some (.int .u8 0), 1, 1) := by kernel_rfl
theorem infoRow : (Try.prog.info? 22).map (fun i => (i.zero, i.size, i.bytes)) = some (some (.slice none 0 0), 1, 24) := by kernel_rfl
theorem lawS : Keyed Try.prog 9 := string_keyed Try.underlying9
theorem zeroI (w : World) : (zeroValue 3).run Try.prog w = .ok (.int .i64 0) w := by kernel_rfl

theorem bits_xor8 {x s y : Nat} (hx : x < 256) (hs : s < 256) (hy : x ^^^ s = y) : bits .xor .u8 (x : Int) (s : Int) = (y : Int) := by
  have hlt : x ^^^ s < 256 := Nat.xor_lt_two_pow (n := 8) hx hs
  have ea : (BitVec.ofInt 8 (x : Int)).toNat = x := by rw [BitVec.toNat_ofInt]; omega
  have ec : (BitVec.ofInt 8 (s : Int)).toNat = s := by rw [BitVec.toNat_ofInt]; omega
  show IntKind.u8.wrap ((BitVec.ofInt 8 (x : Int) ^^^ BitVec.ofInt 8 (s : Int)).toNat : Int) = _
  rw [BitVec.toNat_xor, ea, ec, hy]
  rw [hy] at hlt
  have : ∀ z : Nat, z < 256 → IntKind.u8.wrap (z : Int) = (z : Int) := by decide
  exact this y hlt
theorem bits_and8 {x : Nat} (hx : x < 256) : bits .and .u8 (x : Int) 1 = ((x % 2 : Nat) : Int) := by
  have : ∀ z : Nat, z < 256 → bits .and .u8 (z : Int) 1 = ((z % 2 : Nat) : Int) := by decide
  exact this x hx
theorem ownB_cellM {w : World} {base g cap m : Nat} {bs : List Nat} (hl : bs.length = m) (h : OwnsB w base (.slice (some ⟨g, 0, none⟩) m cap) bs) {j : Nat} (hj : j < m) : w.cell? ⟨g, j, none⟩ = some (.int .u8 (bs.getD j 0 : Nat)) := by
  subst hl
  exact ownB_cell h hj
theorem ownB_frozenM {w : World} {base g cap m : Nat} {bs : List Nat} (hl : bs.length = m) (h : OwnsB w base (.slice (some ⟨g, 0, none⟩) m cap) bs) (j : Nat) : w.frozen? ⟨g, j, none⟩ = false := by
  subst hl
  exact World.ownsRow.frozenAt h j
theorem ownB_storedM {w : World} {base g cap m : Nat} {bs : List Nat} (hl : bs.length = m) (h : OwnsB w base (.slice (some ⟨g, 0, none⟩) m cap) bs) (j : Nat) (b : Nat) :
    OwnsB (w.setCell ⟨g, j, none⟩ (.int .u8 (b : Int))) base (.slice (some ⟨g, 0, none⟩) m cap) (bs.set j b) := by
  subst hl
  have := (ownB_stored h j b).1
  rwa [List.length_set] at this
/-- What stands behind the toggle: the box of the edge, the toggled byte, all else as it was. -/
theorem keepsM {AE : Option Addr} {cE m gB gM q y k : Nat} {E : List (Int × Int)} {bs : List Nat} {D : DataW Unit} {L : List (List Span)} {v : Value} {at_ t : Int} {w wr w5 w6 : World} (h5 : Below wr.heap.size wr w5)
    (hw5 : wr.alloc (.cells #[.int .i64 at_, .int .i64 t] 78) = w5) (hw6 : w6 = (w5.setCell ⟨gB, q, none⟩ (.int .u8 (y : Int))).drew)
    (HA : ∀ b off, AE = some ⟨b, off, none⟩ → b < gB) (hoE : OwnsE wr w.heap.size (.slice AE E.length cE) E) (hoB : OwnsB wr w.heap.size (.slice (some ⟨gB, 0, none⟩) m m) bs) (hbl : bs.length = m)
    (hmp : wr.ownsMap Try.prog 9 (plainElem Try.prog 3) gM k D) (hoG : OwnsG wr (gM + 1) v L) (hb : Below w.heap.size w wr) (hgBM : gB < gM) (hsz : gM + 1 ≤ wr.heap.size) (hqm : q < m) :
    OwnsE w6 w.heap.size (.slice AE E.length cE) E ∧ OwnsB w6 w.heap.size (.slice (some ⟨gB, 0, none⟩) m m) (bs.set q y) ∧ w6.ownsMap Try.prog 9 (plainElem Try.prog 3) gM k D ∧ OwnsG w6 (gM + 1) v L ∧ Below w.heap.size w w6 ∧ w6.heap.size = wr.heap.size + 1 ∧ w6.cell? ⟨wr.heap.size, 0, none⟩ = some (.int .i64 at_) := by
  have hg : wr.grownBy w5 none := by rw [← hw5]; exact World.grownBy_alloc _ _ _
  have hwB := World.ownsRow.lt hoB gB rfl
  have hoB5 : OwnsB w5 w.heap.size (.slice (some ⟨gB, 0, none⟩) m m) bs := World.ownsRow.kept hoB hg (.inr (by simp [Value.ownBlock]))
  have hoE5 : OwnsE w5 w.heap.size (.slice AE E.length cE) E := World.ownsRow.kept hoE hg (by cases (Value.slice AE E.length cE).ownBlock <;> simp)
  have hg6 : w5.grownBy (w5.setCell ⟨gB, q, none⟩ (.int .u8 (y : Int))) (some gB) := by
    subst hbl
    exact (ownB_stored hoB5 q y).2
  have hmp7 : (w5.setCell ⟨gB, q, none⟩ (.int .u8 (y : Int))).ownsMap Try.prog 9 (plainElem Try.prog 3) gM k D := World.ownsMap.kept (World.ownsMap.kept hmp hg (by simp)) hg6 (by simp; omega)
  have hoG7 : OwnsG (w5.setCell ⟨gB, q, none⟩ (.int .u8 (y : Int))) (gM + 1) v L := (hoG.kept hg (fun k hk => by cases hk)).kept hg6 (fun k hk => by injection hk with hk; omega)
  have hoB7 := ownB_storedM hbl hoB5 q y
  have hoE7 : OwnsE (w5.setCell ⟨gB, q, none⟩ (.int .u8 (y : Int))) w.heap.size (.slice AE E.length cE) E := by
      refine World.ownsRow.kept hoE5 hg6 ?_
      cases hv : (Value.slice AE E.length cE).ownBlock with
      | none => exact .inl rfl
      | some b =>
        refine .inr fun e => ?_
        injection e with e
        cases AE with
        | none => simp [Value.ownBlock] at hv
        | some a =>
          have : a.block = b := by simpa [Value.ownBlock] using hv
          obtain ⟨ab, ao, ap⟩ := a
          have hpath : ap = none := by
            rcases hoE.2 with ⟨h0, _⟩ | ⟨g, cap, cur, h0, _⟩
            · cases h0
            · injection h0 with h0
              injection h0 with h0
              injection h0 with _ _ h0
          subst hpath
          have := HA ab ao rfl
          simp only at *
          omega
  have hb7 : Below w.heap.size w (w5.setCell ⟨gB, q, none⟩ (.int .u8 (y : Int))) := (hb.trans (h5.mono hb.size)).grown hg6 (by have := hb.size; have := h5.size; omega) (fun k hk => by injection hk with hk; omega)
  subst hw6
  refine ⟨hoE7, hoB7, hmp7, hoG7, hb7.drew, ?_, ?_⟩
  · rw [show ((w5.setCell ⟨gB, q, none⟩ (.int .u8 (y : Int))).drew).heap.size = w5.heap.size by simp, ← hw5]
    simp
  · have e : w5.cell? ⟨wr.heap.size, 0, none⟩ = some (.int .i64 at_) := by rw [← hw5]; simp
    exact hg6.cell e (by intro h; injection h with h; simp only at h; omega)
theorem ownB_convM {w : World} {base g cap m : Nat} {bs : List Nat} (hl : bs.length = m) (h : OwnsB w base (.slice (some ⟨g, 0, none⟩) m cap) bs) (hs : ∀ b ∈ bs, b < 256) : (convert 46 9 (.slice (some ⟨g, 0, none⟩) m cap)).run Try.prog w = .ok (.string ⟨(bs.map UInt8.ofNat).toArray⟩) w := by
  subst hl
  exact ownB_conv h hs
theorem grown_setCell (w : World) (g j : Nat) (u : Value) : w.grownBy (w.setCell ⟨g, j, none⟩ u) (some g) :=
  ⟨rfl, rfl, rfl, by simp, fun k _ hk => heap_setCell_other w ⟨g, j, none⟩ k u (fun e => hk (by simp [e]))⟩
/-- What a change behind the map's block keeps. -/
theorem keepsR {vE : Value} {E : List (Int × Int)} {m gB gM n B : Nat} {bt : List Nat} {D : DataW Unit} {w wa wb : World} {row : Option Nat} (hg : wa.grownBy wb row) (hr : ∀ k, row = some k → gM + 1 ≤ k) (hvE : ∀ b, vE.ownBlock = some b → b < gM) (hgBM : gB < gM) (hB : B = w.heap.size)
    (hoE : OwnsE wa B vE E) (hoB : OwnsB wa B (.slice (some ⟨gB, 0, none⟩) m m) bt) (hmp : wa.ownsMap Try.prog 9 (plainElem Try.prog 3) gM n D) (hb : Below w.heap.size w wa) (hle : B ≤ gM) :
    OwnsE wb B vE E ∧ OwnsB wb B (.slice (some ⟨gB, 0, none⟩) m m) bt ∧ wb.ownsMap Try.prog 9 (plainElem Try.prog 3) gM n D ∧ Below w.heap.size w wb := by
  refine ⟨World.ownsRow.kept hoE hg ?_, World.ownsRow.kept hoB hg (.inr fun e => ?_), World.ownsMap.kept hmp hg fun e => ?_, hb.grown hg hb.size fun k hk => ?_⟩
  · cases hv : vE.ownBlock with
    | none => exact .inl rfl
    | some b => exact .inr fun e => by have := hvE b hv; have := hr b e.symm; omega
  · have := hr gB e.symm; omega
  · have := hr gM e.symm; omega
  · have := hr k hk; omega
/-- What stands ahead of the append of a cell: its block is there, at place j. -/
def CutRel (st : List Entry) (bt : List Nat) (p : Span) (vE : Value) (E : List (Int × Int)) (m gB gM eb k : Nat) (w : World) (at_ : Int) (v i : Value) (wx : World) : Prop :=
  ∃ (st' : List Entry) (j : Nat) (D : DataW Unit), j < st'.length ∧ i = .int .i64 j ∧ addCell st (bt, p) = st'.modify j (fun e => (e.1, e.2 ++ [p])) ∧ Tells D st' ∧ st'.length ≤ 1024 ∧ OwnsE wx w.heap.size vE E ∧ OwnsB wx w.heap.size (.slice (some ⟨gB, 0, none⟩) m m) bt ∧
    wx.ownsMap Try.prog 9 (plainElem Try.prog 3) gM (k + 1) D ∧ OwnsG wx (gM + 1) v (st'.map (·.2)) ∧ wx.cell? ⟨eb, 0, none⟩ = some (.int .i64 at_) ∧ Below w.heap.size w wx ∧ eb < wx.heap.size ∧ (∀ e ∈ st', e.2.length ≤ k) ∧ gM + 1 ≤ wx.heap.size
theorem group_few (C : List Cell) : ∀ e ∈ group C, e.2.length ≤ C.length := by
  have key : ∀ (n : Nat) (C : List Cell), C.length = n → ∀ e ∈ group C, e.2.length ≤ n := by
    intro n
    induction n with
    | zero =>
      intro C hl e he
      have : C = [] := List.length_eq_zero_iff.1 hl
      subst this
      simp [group] at he
    | succ n ih =>
      intro C hl e he
      obtain ⟨C', c, rfl⟩ : ∃ C' c, C = C' ++ [c] := by
        rcases List.eq_nil_or_concat C with rfl | ⟨C', c, rfl⟩
        · simp at hl
        · exact ⟨C', c, by simp⟩
      have g := ih C' (by simpa using hl)
      rw [group_snoc] at he
      unfold addCell at he
      split at he
      · obtain ⟨j, hj, rfl⟩ := List.getElem_of_mem he
        have hj' : j < (group C').length := by simpa using hj
        have := g _ (List.getElem_mem hj')
        rw [List.getElem_modify]
        split
        · simp only [List.length_append, List.length_singleton]; omega
        · omega
      · rcases List.mem_append.1 he with he | he
        · have := g e he
          omega
        · obtain rfl := List.mem_singleton.1 he
          simp
  exact key C.length C rfl
theorem cells_few (m : Nat) (E : List (Int × Int)) (n : Nat) : (cellsTo m E n).length ≤ n := by
  unfold cellsTo
  exact Nat.le_trans (List.length_filterMap_le _ _) (by simp)
/-- What stands behind the append of a cell's span to its block. -/
theorem finM {vE : Value} {E : List (Int × Int)} {m gB gM g cap j nj n cj gg capg : Nat} {Aj : Option Addr} {a b : Int} {bt : List Nat} {D : DataW Unit} {LL : List (List Span)} {vs : List Value} {w wc w4 : World}
    (hvE : ∀ b, vE.ownBlock = some b → b < gM) (hgBM : gB < gM) (hle : w.heap.size ≤ gM) (hc : OwnsE wc w.heap.size vE E ∧ OwnsB wc w.heap.size (.slice (some ⟨gB, 0, none⟩) m m) bt ∧ wc.ownsMap Try.prog 9 (plainElem Try.prog 3) gM n D ∧ Below w.heap.size w wc)
    (hv : vs.length = LL.length ∧ wc.ownsRow (gM + 1) 22 1 (.slice (some ⟨g, 0, none⟩) LL.length cap) LL.length vs ∧ (∀ (j : Nat) (h : j < LL.length) (h' : j < vs.length), OwnsL wc (gM + 1) vs[j] LL[j]) ∧
      (∀ (i j : Nat) (hi : i < vs.length) (hj : j < vs.length) (k : Nat), vs[i].ownBlock = some k → vs[j].ownBlock = some k → i = j) ∧ (∀ (i : Nat) (hi : i < vs.length) (k : Nat), vs[i].ownBlock = some k → (Value.slice (some ⟨g, 0, none⟩) LL.length cap).ownBlock ≠ some k))
    (hjL : j < LL.length) (hjv : j < vs.length) (hvj : vs[j] = .slice Aj (LL[j]).length cj) (hnj : (LL[j]).length = nj) (hgb : gM + 1 ≤ g) (hsz : gM + 1 ≤ wc.heap.size)
    (hown1 : w4.ownsRow (gM + 1) 61 2 (.slice (some ⟨gg, 0, none⟩) (nj + 1) capg) (nj + 1) (flat LL[j] ++ [.int .i64 a, .int .i64 b]))
    (hgrow : (wc.alloc (.cells #[.int .i64 a, .int .i64 b] 61)).drew.grownBy w4 (Value.slice Aj nj cj).ownBlock) (hat : (Value.slice Aj nj cj).ownBlock = some gg ∨ gg = wc.heap.size + 1) :
    OwnsE (w4.setCell ⟨g, j, none⟩ (.slice (some ⟨gg, 0, none⟩) (nj + 1) capg)) w.heap.size vE E ∧ OwnsB (w4.setCell ⟨g, j, none⟩ (.slice (some ⟨gg, 0, none⟩) (nj + 1) capg)) w.heap.size (.slice (some ⟨gB, 0, none⟩) m m) bt ∧
    (w4.setCell ⟨g, j, none⟩ (.slice (some ⟨gg, 0, none⟩) (nj + 1) capg)).ownsMap Try.prog 9 (plainElem Try.prog 3) gM n D ∧ Below w.heap.size w (w4.setCell ⟨g, j, none⟩ (.slice (some ⟨gg, 0, none⟩) (nj + 1) capg)) ∧
    OwnsG (w4.setCell ⟨g, j, none⟩ (.slice (some ⟨gg, 0, none⟩) (nj + 1) capg)) (gM + 1) (.slice (some ⟨g, 0, none⟩) LL.length cap) (LL.modify j fun l => l ++ [(a, b)]) ∧ gM + 1 ≤ (w4.setCell ⟨g, j, none⟩ (.slice (some ⟨gg, 0, none⟩) (nj + 1) capg)).heap.size := by
  obtain ⟨hE, hB, hM, hb⟩ := hc
  obtain ⟨l1, l2, l3, l4, l5⟩ := hv
  have hrow : ∀ k, (Value.slice Aj nj cj).ownBlock = some k → gM + 1 ≤ k := fun k hk => (World.ownsRow.lt (l3 j hjL hjv) k (by rw [hvj, hnj]; exact hk)).1
  obtain ⟨hE2, hB2, hM2, hb2⟩ := keepsR (World.grownBy_alloc wc (.cells #[.int .i64 a, .int .i64 b] 61) none) (fun k hk => by cases hk) hvE hgBM rfl hE hB hM hb hle
  obtain ⟨hE3, hB3, hM3, hb3⟩ := keepsR hgrow hrow hvE hgBM rfl (show OwnsE (wc.alloc _).drew w.heap.size vE E from hE2) hB2 hM2 hb2.drew hle
  have hgs := hgrow.size
  have hws : (wc.alloc (.cells #[.int .i64 a, .int .i64 b] 61)).drew.heap.size = wc.heap.size + 1 := by simp
  have hgS := grown_setCell w4 g j (.slice (some ⟨gg, 0, none⟩) (nj + 1) capg)
  obtain ⟨hE4, hB4, hM4, hb4⟩ := keepsR hgS (fun k hk => by injection hk with hk; omega) hvE hgBM rfl hE3 hB3 hM3 hb3 hle
  refine ⟨hE4, hB4, hM4, hb4, ?_, by have := hgS.size; omega⟩
  have ho : OwnsL w4 (gM + 1) (.slice (some ⟨gg, 0, none⟩) (nj + 1) capg) (LL[j] ++ [(a, b)]) := by
    unfold OwnsL
    rw [flat_append, List.length_append, hnj]
    exact hown1
  refine OwnsG.longer (w := (wc.alloc (.cells #[.int .i64 a, .int .i64 b] 61)).drew) vs l1 (World.ownsRow.alloc l2 _).drew (fun i hi hi' => (World.ownsRow.alloc (l3 i hi hi') _).drew) l4 l5 hjL hjv (a, b) ho ?_ ?_
  · rw [hvj, hnj]
    exact hgrow
  · rw [hvj, hnj]
    rcases hat with e | e
    · exact .inl (by rw [e]; rfl)
    · exact .inr ⟨gg, rfl, by omega⟩
def SplitOut (all : List Span) (fam : List (List Span)) (w : World) (e : Ending) (w' : World) : Prop :=
  ∃ v L, IsBlocks all fam L ∧ ((e = .returned (.tuple #[v, .int .i64 0]) ∧ L.length ≤ 1024 ∧ OwnsG w' w.heap.size v L) ∨ (e = .returned (.tuple #[.slice none 0 0, .int .i64 4]) ∧ 1024 < L.length)) ∧ Below w.heap.size w w'
theorem blocks_of {all p0 : List Span} {fam ps L : List (List Span)} (h0 : Is p0 (mem all)) (hl : ps.length = fam.length) (h : ∀ (j : Nat) (h : j < ps.length) (h' : j < fam.length), Is ps[j] (mem fam[j])) (hb : IsBlocks p0 ps L) : IsBlocks all fam L := by
  refine hb.congr h0.2 fun x y => ⟨fun hh s hs => ?_, fun hh s hs => ?_⟩
  · obtain ⟨j, hj, rfl⟩ := List.getElem_of_mem hs
    have := hh ps[j] (List.getElem_mem (by omega))
    rw [(h j (by omega) hj).2, (h j (by omega) hj).2] at this
    exact this
  · obtain ⟨j, hj, rfl⟩ := List.getElem_of_mem hs
    have := hh fam[j] (List.getElem_mem (by omega))
    rw [← (h j hj (by omega)).2, ← (h j hj (by omega)).2] at this
    exact this
/-- What the loop keeps. -/
def SRel (vE : Value) (E : List (Int × Int)) (m gB gM : Nat) (w : World) (v i : Value) (wr : World) : Prop :=
  ∃ (k : Nat) (D : DataW Unit), k ≤ E.length ∧ i = .int .i64 k ∧ OwnsE wr w.heap.size vE E ∧ OwnsB wr w.heap.size (.slice (some ⟨gB, 0, none⟩) m m) (marksAt m (E.take k)) ∧ wr.ownsMap Try.prog 9 (plainElem Try.prog 3) gM k D ∧
    Tells D (group (cellsTo m E k)) ∧ (group (cellsTo m E k)).length ≤ 1024 ∧ OwnsG wr (gM + 1) v ((group (cellsTo m E k)).map (·.2)) ∧ Below w.heap.size w wr ∧ gM + 1 ≤ wr.heap.size
set_option maxHeartbeats 4000000 in
theorem split_any (As : Option Addr) (cs : Nat) (all : List Span) (Af : Option Addr) (cf : Nat) (fam : List (List Span)) (w : World) (hall : RS w w.heap.size As all.length all) (hal : all.length ≤ 1000000) (hfam : RGs w Af fam.length fam) (hfl : fam.length ≤ 2000) (hfs : ∀ s ∈ fam, s.length ≤ 1000) :
    Calls Try.prog 26 #[.slice As all.length cs, .slice Af fam.length cf] w (SplitOut all fam w) := by
  obtain ⟨ti0, hi0, hz0, hz1, hz2⟩ := info_parts infoByte
  obtain ⟨ti1, hi1, hy0, hy1, hy2⟩ := info_parts infoRow
  obtain ⟨ti2, hi2, hx0, hx1, hx2⟩ := info_parts infoSpan
  have HE := Lib.hid (edges_any As cs all Af cf fam w hall hal hfam hfl hfs)
  have hmm := @run_makeMap Try.prog
  clear hall hfam hfs
  obtain ⟨m, hm⟩ : ∃ m, fam.length / 8 + 1 = m := ⟨_, rfl⟩
  have hmb : m ≤ 300 := by omega
  have hm1 : 1 ≤ m := by omega
  have hd1 : (fam.length : Int).tdiv 8 = ((m - 1 : Nat) : Int) := by
    rw [show (fam.length : Int).tdiv 8 = ((fam.length / 8 : Nat) : Int) from rfl]
    congr 1
    omega
  have hd2 : IntKind.i64.wrap ((m - 1 : Nat) : Int) = ((m - 1 : Nat) : Int) := IntWalk.i64_in _ (by omega)
  have hd3 : IntKind.i64.wrap (((m - 1 : Nat) : Int) + 1) = (m : Int) := by rw [IntWalk.i64_in _ (by omega)]; omega
  go_enter Try.func26, Try.ntmps26
  go_wp2_with (fail)
  refine HE.out.mono ?_
  rintro qq1 w1 ⟨vE, E, p0, ps, rfl, his0, hpsl, hips, hed, hEl, hoE, hb1⟩
  obtain ⟨AE, cE, hvE⟩ := own_shape hoE
  subst hvE
  have hs1 := hb1.size
  obtain ⟨w2, hrun, hoB, hg2⟩ := run_make_full (P := Try.prog) w1 w.heap.size 46 5 ti0 (.int .u8 0) 1 Try.underlying46 hi0 hz0 hz1 .i64 .i64 m (by rw [hz2]; omega) (by simp only [maxLen]; omega) hs1
  obtain ⟨gB, hgB⟩ : ∃ gB, w1.heap.size = gB := ⟨_, rfl⟩
  rw [hgB] at hrun hoB
  have hoB2 : OwnsB w2 w.heap.size (.slice (some ⟨gB, 0, none⟩) m m) (marksAt m []) := by
    unfold OwnsB
    rw [show marksAt m [] = List.replicate m 0 from rfl, List.length_replicate, List.map_replicate]
    rw [show (Value.int IntKind.u8 0).cells = #[.int .u8 0] from rfl, Nat.mul_one, toList_madeCells_one] at hoB
    exact hoB
  have hgBlt := (World.ownsRow.lt hoB gB rfl).2
  have hoE2 : OwnsE w2 w.heap.size (.slice AE E.length cE) E := World.ownsRow.kept hoE hg2 (by cases (Value.slice AE E.length cE).ownBlock <;> simp)
  have HA : ∀ b off, AE = some ⟨b, off, none⟩ → b < gB := fun b off e => by
    subst e
    have := (World.ownsRow.lt hoE b rfl).2
    omega
  have hb2 : Below w.heap.size w w2 := hb1.grown hg2 hs1 (fun k hk => by cases hk)
  have HST := Lib.hid (show SRel (.slice AE E.length cE) E m gB w2.heap.size w (.slice none 0 0) (.int .i64 0) (w2.alloc (.map #[] 0)) from ⟨0, .map [], Nat.zero_le _, rfl, World.ownsRow.alloc hoE2 _, World.ownsRow.alloc hoB2 _, World.ownsMap_made _ _ _ _, tells_nil, Nat.zero_le _, ownG_nil _ _, hb2.alloc (by omega) _, by simp⟩)
  have HED := Lib.hid hed
  have HIS := Lib.hid (fun L => blocks_of (L := L) his0 hpsl hips)
  have hpm : ps.length / 8 + 1 = m := by omega
  have hIn := hed.in_
  rw [hpm] at hIn
  have HIN := Lib.hid hIn
  clear hIn hed his0 hips hoE hoE2 hoB hoB2 hb1 hb2 HE hg2
  obtain ⟨gM, hgM⟩ : ∃ gM, w2.heap.size = gM := ⟨_, rfl⟩
  have hgBM : gB < gM := by omega
  rw [hgM] at HST
  go_wp2_with (fail)
  go_loopw [9, 25] (fun v i wr => SRel (.slice AE E.length cE) E m gB gM w v i wr) (fun _ i _ => E.length - (intOf i).toNat)
  case atStart => exact HST.out
  case round =>
    obtain ⟨k, D, hk, rfl, hoE, hoB, hmp, htl, hst, hoG, hb, hsz⟩ := hrel
    have HOE := Lib.hid hoE
    have HOB := Lib.hid hoB
    have HMP := Lib.hid hmp
    have HTL := Lib.hid htl
    have HOG := Lib.hid hoG
    have HOGR := Lib.hid hoG
    have HB := Lib.hid hb
    by_cases hlt : k < E.length
    · have hrE : RS wr wr.heap.size AE E.length E := RS.of_own hoE
      have hmk := marksAt_bits m (E.take k) (HIN.out.take k)
      obtain ⟨b1, off, at_, s_, hA, hbB, hlk, c1, c2⟩ := hrE.at_ hlt
      have hb1B := HA b1 off hA
      have hins := HIN.out _ (List.getElem_mem hlt)
      obtain ⟨hlt', hEk⟩ := hlk
      rw [hEk] at hins
      obtain ⟨t, ht⟩ : ∃ t : Nat, s_ = (t : Int) := ⟨s_.toNat, by have := hins.1; simp only at this; omega⟩
      subst ht
      have hnext := marksAt_take (m := m) hlt
      rw [hEk] at hnext
      simp only [Int.toNat_natCast] at hins hnext
      obtain ⟨q, hq⟩ : ∃ q, t / 8 = q := ⟨_, rfl⟩
      obtain ⟨r, hr⟩ : ∃ r, t % 8 = r := ⟨_, rfl⟩
      have hr8 : r < 8 := by omega
      have hqm : q < m := by omega
      obtain ⟨bs, hbs⟩ : ∃ bs, marksAt m (E.take k) = bs := ⟨_, rfl⟩
      rw [hbs] at hmk hnext HOB
      obtain ⟨hbl, hbsm, _⟩ := hmk
      obtain ⟨x, hx⟩ : ∃ x, bs.getD q 0 = x := ⟨_, rfl⟩
      obtain ⟨sh, hsh⟩ : ∃ sh, 1 <<< r = sh := ⟨_, rfl⟩
      obtain ⟨y, hy⟩ : ∃ y, x ^^^ sh = y := ⟨_, rfl⟩
      unfold toggle at hnext
      rw [hq, hr, hx, hsh, hy] at hnext
      have hx256 : x < 256 := by
        rw [← hx, List.getD_eq_getElem?_getD, List.getElem?_eq_getElem (by omega)]
        exact hbsm _ (List.getElem_mem _)
      have hq1 : (t : Int).tdiv 8 = (q : Int) := by rw [← hq]; rfl
      have hq2 : IntKind.i64.wrap (q : Int) = (q : Int) := IntWalk.i64_in _ (by omega)
      have hr1 : (t : Int).tmod 8 = (r : Int) := by rw [← hr]; rfl
      have hr2 : IntKind.i64.wrap (r : Int) = (r : Int) := IntWalk.i64_in _ (by omega)
      have hs1' : IntKind.u8.wrap (2 ^ r) = (sh : Int) := by
        have : r = 0 ∨ r = 1 ∨ r = 2 ∨ r = 3 ∨ r = 4 ∨ r = 5 ∨ r = 6 ∨ r = 7 := by omega
        rcases this with h | h | h | h | h | h | h | h <;> subst h <;> subst hsh <;> decide
      have hs2' : IntKind.u8.wrap (1 * 2 ^ r) = (sh : Int) := by rw [Int.one_mul]; exact hs1'
      have hxy : bits .xor .u8 (x : Int) (sh : Int) = (y : Int) := bits_xor8 hx256 (by rw [← hsh, Nat.one_shiftLeft]; exact Nat.pow_lt_pow_right (a := 2) (n := 8) (by decide) hr8) hy
      have hcB : wr.cell? ⟨gB, q, none⟩ = some (.int .u8 (x : Int)) := by
        have := ownB_cellM hbl HOB.out (j := q) hqm
        rw [hx] at this
        exact this
      have hfB : wr.frozen? ⟨gB, q, none⟩ = false := ownB_frozenM hbl HOB.out q
      have hgBs : gB < wr.heap.size := (World.ownsRow.lt HOB.out gB rfl).2
      have j1 : (0 : Int) ≤ (r : Int) := Int.natCast_nonneg _
      have j2 : (r : Int) ≤ 8 := by omega
      have i1 : (0 : Int) ≤ (q : Int) := Int.natCast_nonneg _
      have i2 : (q : Int) < (m : Int) := by omega
      obtain ⟨w5, hw5⟩ : ∃ w5, wr.alloc (.cells #[.int .i64 at_, .int .i64 (t : Int)] 78) = w5 := ⟨_, rfl⟩
      have hs5 : w5.heap.size = wr.heap.size + 1 := by rw [← hw5]; simp
      have h5 : Below wr.heap.size wr w5 := by rw [← hw5]; exact (Below.refl _ _).alloc (Nat.le_refl _) _
      have y0 : w5.cell? ⟨wr.heap.size, 0, none⟩ = some (.int .i64 at_) := by rw [← hw5]; simp
      have y1 : w5.cell? ⟨wr.heap.size, 1, none⟩ = some (.int .i64 (t : Int)) := by rw [← hw5]; simp
      have hcB5 : w5.cell? ⟨gB, q, none⟩ = some (.int .u8 (x : Int)) := (h5.cell hgBs).trans hcB
      have hfB5 : w5.frozen? ⟨gB, q, none⟩ = false := (h5.frozen (p := ⟨gB, q, none⟩) hgBs).trans hfB
      have HW5 := Lib.hid h5
      have HEK := Lib.hid hEk
      have HNX := Lib.hid hnext
      have HBL := Lib.hid hbl
      have HBS := Lib.hid hbs
      rw [hA]
      clear hoE hoB hmp htl hoG hb hrE hEk hnext h5 hins hbl hbs hsh hx hy hq hr hbsm hcB hfB
      go_wp2_with (fail)
      go_still_tail 12, (by kernel_rfl)
      change wpList _ _ _ _ _ w5.drew
      go_wp2_with (fail)
      obtain ⟨w6, hw6⟩ : ∃ w6, (w5.setCell ⟨gB, q, none⟩ (.int .u8 (y : Int))).drew = w6 := ⟨_, rfl⟩
      rw [hw6]
      have KEEP := keepsM (AE := AE) (cE := cE) (E := E) HW5.out hw5 hw6.symm HA HOE.out HOB.out HBL.out HMP.out HOG.out HB.out hgBM hsz hqm
      obtain ⟨hoE6, hoB6, hmp6, hoG6, hb6, hsz6, hy06⟩ := KEEP
      rw [← HNX.out] at hoB6
      have hmk := marksAt_bits m (E.take (k + 1)) (HIN.out.take (k + 1))
      obtain ⟨bt, hbt⟩ : ∃ bt, marksAt m (E.take (k + 1)) = bt := ⟨_, rfl⟩
      rw [hbt] at hoB6 hmk
      obtain ⟨hbl, hbsm, _⟩ := hmk
      have hc06 := ownB_cellM hbl hoB6 (j := 0) (by omega)
      obtain ⟨x0, hx0'⟩ : ∃ x0, bt.getD 0 0 = x0 := ⟨_, rfl⟩
      rw [hx0'] at hc06
      have hx0b : x0 < 256 := by
        rw [← hx0', List.getD_eq_getElem?_getD, List.getElem?_eq_getElem (by omega)]
        exact hbsm _ (List.getElem_mem _)
      have hand := bits_and8 hx0b
      have hbit : bitOf bt 0 = decide (x0 % 2 = 1) := by
        unfold bitOf
        rw [show 0 / 8 = 0 from rfl, hx0', show 0 % 8 = 0 from rfl, Nat.testBit_zero]
      have hgB6 : gB < w6.heap.size := by omega
      have i3 : (0 : Int) < (m : Int) := by omega
      have s1 : IntKind.i64.wrap ((k : Int) + 1) = (k : Int) + 1 := IntWalk.i64_in _ (by omega)
      have HST6 := Lib.hid (And.intro hoE6 (And.intro hoB6 (And.intro hmp6 (And.intro hoG6 (And.intro hb6 hbl)))))
      have HBT := Lib.hid hbt
      have HBIT := Lib.hid hbit
      have HBSM := Lib.hid hbsm
      have hrE6 : RS w6 w6.heap.size AE E.length E := RS.of_own hoE6
      clear hoE6 hoB6 hmp6 hoG6 hb6 hbt hbit hbl hbsm c1 c2 y0 y1 hcB5 hfB5 HW5 HOE HOB HMP HOG HB hxy hs1' hs2' hq1 hq2 hr1 hr2 hx0'
      by_cases hz : x0 % 2 = 1
      · have hlt2 : k + 1 < E.length := by
          rcases Nat.lt_or_ge (k + 1) E.length with h | h
          · exact h
          · have h1 := HED.out.last
            rw [hpm, ← show E.take (k + 1) = E from List.take_of_length_le h, HBT.out, HBIT.out] at h1
            simp [hz] at h1
        obtain ⟨b3, off3, at2, t2, hA3, hb3B, hlk3, d1, d2⟩ := hrE6.at_ hlt2
        rw [hA] at hA3
        injection hA3 with hA3
        injection hA3 with e1 e2 _
        subst e1 e2
        obtain ⟨_, hEk2⟩ := hlk3
        have hok2 : -1073741825 ≤ at2 ∧ at2 ≤ 1073741825 := by have := HED.out.bounds _ (List.getElem_mem hlt2); rw [hEk2] at this; exact this
        have HEK2 := Lib.hid hEk2
        clear hEk2 hrE6
        rw [hz] at hand
        have hd1 : decide ((1 : Int) = 0) = false := by decide
        by_cases heq : at2 = at_
        · subst heq
          have hcell := cellAt_none1 (m := m) (E := E) (i := k) hlt2 (by rw [HEK.out, HEK2.out])
          have HG := Lib.hid (cells_next_none hcell)
          go_quiet (fail)
          go_wp2_with (fail)
          go_roundw
          case rel => exact ⟨k + 1, D, by omega, by go_num, by rw [← hA]; exact HST6.out.1, by rw [HBT.out]; exact HST6.out.2.1, HST6.out.2.2.1.mono (by omega), by rw [HG.out]; exact HTL.out, by rw [HG.out]; exact hst, by rw [HG.out]; exact HST6.out.2.2.2.1, below_drewN HST6.out.2.2.2.2.1 _, by simp; omega⟩
          case measure => simp [intOf]; omega
        · have hcell : cellAt m E k = some (bt, (at_, at2 - 1)) := by
            have := cellAt_is (m := m) hlt2 (by rw [HBT.out, HBIT.out]; simp [hz]) (by rw [HEK.out, HEK2.out]; simp only; omega)
            rw [HBT.out, HEK.out, HEK2.out] at this
            exact this
          have hd2' : decide (at2 = at_) = false := decide_eq_false heq
          have HG := Lib.hid (cells_next_some hcell)
          clear hcell
          go_quiet (fail)
          obtain ⟨w7, hw7⟩ : ∃ w7, w6.drewN nq = w7 := ⟨_, rfl⟩
          rw [hw7]
          have hs7 : w7.heap.size = wr.heap.size + 1 := by rw [← hw7]; simpa using hsz6
          have hoE7 : OwnsE w7 w.heap.size (.slice AE E.length cE) E := by rw [← hw7]; exact HST6.out.1
          have hoB7 : OwnsB w7 w.heap.size (.slice (some ⟨gB, 0, none⟩) m m) bt := by rw [← hw7]; exact HST6.out.2.1
          have hmp7 : w7.ownsMap Try.prog 9 (plainElem Try.prog 3) gM k D := by rw [← hw7]; exact HST6.out.2.2.1
          have hoG7 : OwnsG w7 (gM + 1) u9 ((group (cellsTo m E k)).map (·.2)) := by rw [← hw7]; exact HST6.out.2.2.2.1
          have hb7 : Below w.heap.size w w7 := by rw [← hw7]; exact below_drewN HST6.out.2.2.2.2.1 _
          have hy7 : w7.cell? ⟨wr.heap.size, 0, none⟩ = some (.int .i64 at_) := by rw [← hw7]; exact hy06
          have hbl7 := HST6.out.2.2.2.2.2
          obtain ⟨ks, hks⟩ : ∃ ks : ByteArray, (⟨(bt.map UInt8.ofNat).toArray⟩ : ByteArray) = ks := ⟨_, rfl⟩
          have hconv := ownB_convM hbl7 hoB7 HBSM.out
          rw [hks] at hconv
          have hkey : keyOf Try.prog 9 (.string ks) = some (keyL bt) := by
            rw [← hks]
            have hsz : (⟨(bt.map UInt8.ofNat).toArray⟩ : ByteArray).size ≤ maxLen := by
              show (bt.map UInt8.ofNat).toArray.size ≤ maxLen
              simp only [List.size_toArray, List.length_map, maxLen]
              omega
            exact WideMaps.keyOf_string_mk Try.underlying9 hsz
          have HH := HTL.out.has bt HBSM.out
          have HAT := Lib.hid (fun j => HTL.out.at_ bt j HBSM.out)
          obtain ⟨st, hstE⟩ : ∃ st, group (cellsTo m E k) = st := ⟨_, rfl⟩
          have hoGr := HOGR.out
          rw [hstE] at hoGr
          have HLEN := Lib.hid (fun e he => Nat.le_trans (group_few (cellsTo m E k) e he) (cells_few m E k))
          rw [hstE] at HH HAT HG HTL hst hoG7 HLEN
          clear HST6 HST
          go_upto_if 66 with (first
            | (at_lookup; refine wpList_lookup_own_ok_int _ rfl _ _ 76 rfl 9 3 .i64 lawS Try.underlying76 Try.underlying3 (zeroI _) gM k D rfl hmp7 _ _ rfl hkey ?_; intro c hat hwc)
            | fail)
          have HU9 := Lib.hid hoGr
          clear hoGr
          have HCUT0 := Lib.hid (And.intro hoE7 (And.intro hoB7 (And.intro hmp7 (And.intro hoG7 (And.intro hb7 hy7)))))
          clear HH
          obtain ⟨hb', HH⟩ : ∃ hb' : Bool, (placeOf st bt).isSome = hb' := ⟨_, rfl⟩
          rw [HH]
          go_cut [9, 12] (fun vx kx wx => CutRel st bt (at_, at2 - 1) (.slice AE E.length cE) E m gB gM wr.heap.size k w at_ vx kx wx)
          case first =>
            cases hp : placeOf st bt with
            | some j =>
              rw [hp] at HH
              have hj := HAT.out j hp
              rw [hat] at hj
              injection hj with hj
              injection hj with _ hj
              subst hj
              subst HH
              obtain ⟨hjl, _⟩ := placeOf_some hp
              have HP := Lib.hid hp
              clear hp hoE7 hoB7 hmp7 hoG7 hb7 hy7 hat
              go_wp2_with (fail)
              go_meet
              case rel => exact ⟨st, j, D, hjl, rfl, addCell_known HP.out _, HTL.out, hst, HCUT0.out.1, HCUT0.out.2.1, HCUT0.out.2.2.1.mono (by omega), HCUT0.out.2.2.2.1, HCUT0.out.2.2.2.2.2, HCUT0.out.2.2.2.2.1, by omega, HLEN.out, by omega⟩
            | none =>
              have hwB : w.heap.size ≤ gB := (World.ownsRow.lt hoB7 gB rfl).1
              have hvE : ∀ b, (Value.slice (some ⟨b1, off, none⟩) E.length cE).ownBlock = some b → b < gM := fun b hb => by
                have e : b1 = b := by simpa [Value.ownBlock] using hb
                omega
              rw [hp] at HH
              subst HH
              have HP := Lib.hid hp
              clear hp
              obtain ⟨n9, hn9⟩ : ∃ n9, (st.map (·.2)).length = n9 := ⟨_, rfl⟩
              have hn9' : st.length = n9 := by rw [← hn9, List.length_map]
              obtain ⟨A9, c9, hv9⟩ : ∃ A c, u9 = .slice A n9 c := by
                obtain ⟨vs, _, h2, _⟩ := hoG7
                rw [← hn9]
                exact own_shape h2
              subst hv9
              have hU9 : ∀ b, (Value.slice A9 n9 c9).ownBlock = some b → gM + 1 ≤ b ∧ b < wr.heap.size := fun b hb => by
                obtain ⟨vs, _, h2, _⟩ := HU9.out
                exact World.ownsRow.lt h2 b hb
              have HN9 := Lib.hid hn9
              by_cases hfull : n9 = 1024
              · have hlong : 1024 < (blocksOf m E).length := by
                  obtain ⟨R, hR⟩ := cellsTo_more m E (show k + 1 ≤ E.length by omega)
                  have h1 := group_length_le (cellsTo m E (k + 1)) R
                  rw [← hR, HG.out, addCell_new HP.out] at h1
                  simp only [List.length_modify, List.length_append, List.length_singleton] at h1
                  unfold blocksOf
                  rw [List.length_map]
                  omega
                have hbl := HED.out.blocks
                rw [hpm] at hbl
                have HF := Lib.hid (And.intro (HIS.out _ hbl) hlong)
                subst hfull
                clear hlong hbl hoE7 hoB7 hmp7 hoG7 hb7 hy7 hat
                go_wp2_with (fail)
                go_ret2
                exact ⟨.slice none 0 0, _, HF.out.1, .inr ⟨rfl, HF.out.2⟩, HCUT0.out.2.2.2.2.1⟩
              · have hfull2 : decide ((n9 : Int) = 1024) = false := decide_eq_false (by omega)
                clear hoE7 hoB7 hoG7 hb7 hy7 hat
                go_upto_region 16 with (first
                  | (at_mapUpdate; refine wpList_mapUpdate_own _ rfl _ _ _ 76 rfl 9 3 lawS Try.underlying76 _ gM k D rfl hmp7 (by unfold maxLen; omega) _ _ _ rfl rfl hkey _ [] (plainElem_int Try.underlying3 (WalkArith.wf_i64 (by omega))) ?_; intro w8 hmp8 hg8)
                  | fail)
                have hgU : gM + 1 ≤ w7.heap.size := by omega
                have hbW := HCUT0.out.2.2.2.2.1.size
                have hoE8 : OwnsE w8 w.heap.size (.slice (some ⟨b1, off, none⟩) E.length cE) E := World.ownsRow.kept (by rw [← hA]; exact HCUT0.out.1) hg8 (.inr fun e => by have := hvE gM e; omega)
                have hoB8 : OwnsB w8 w.heap.size (.slice (some ⟨gB, 0, none⟩) m m) bt := World.ownsRow.kept HCUT0.out.2.1 hg8 (.inr fun e => by have e2 : gB = gM := (by simpa [Value.ownBlock] using e); omega)
                have hb8 : Below w.heap.size w w8 := HCUT0.out.2.2.2.2.1.grown hg8 hbW (fun k hk => by injection hk with hk; omega)
                have hy8 : w8.cell? ⟨wr.heap.size, 0, none⟩ = some (.int .i64 at_) := hg8.cell HCUT0.out.2.2.2.2.2 (fun e => by have e2 : wr.heap.size = gM := (by injection e); omega)
                have hoG8 := HCUT0.out.2.2.2.1.kept hg8 (fun k hk => by injection hk with hk; omega)
                have hs8 := hg8.size
                have hgA := World.grownBy_alloc w8 (.cells #[.slice none 0 0] 22) none
                obtain ⟨w9, hw9⟩ : ∃ w9, w8.alloc (.cells #[.slice none 0 0] 22) = w9 := ⟨_, rfl⟩
                rw [hw9] at hgA
                have hs9 : w9.heap.size = w8.heap.size + 1 := by rw [← hw9]; simp
                obtain ⟨hoE9, hoB9, hmp9, hb9⟩ := keepsR hgA (fun k hk => by cases hk) hvE hgBM rfl hoE8 hoB8 hmp8 hb8 (by omega)
                have hy9 : w9.cell? ⟨wr.heap.size, 0, none⟩ = some (.int .i64 at_) := hgA.cell hy8 (by simp)
                have hoG9 := hoG8.kept hgA (fun k hk => by cases hk)
                obtain ⟨vs, l1, l2, l3, l4, l5⟩ := hoG9
                have hn9w := HN9.out
                rw [hn9w] at l2
                have hcN : ∀ j u, [Value.slice none 0 0][j]? = some u → w9.cell? ((⟨w8.heap.size, 0, none⟩ : Addr).add j) = some u := by rw [← hw9]; exact cell_one_new _ _ _
                have HV := Lib.hid (And.intro l1 (And.intro l3 (And.intro l4 l5)))
                have HW := Lib.hid (And.intro hoE9 (And.intro hoB9 (And.intro hmp9 (And.intro hb9 hy9))))
                clear l1 l3 l4 l5 hoE9 hoB9 hmp9 hb9 hy9 hoE8 hoB8 hmp8 hb8 hy8 hoG8 hg8 hmp7
                go_wp2_with (at_builtin; go_must (refine wpList_append_own_at _ rfl _ _ 32 rfl (gM + 1) 22 ti1 _ 1 24 Try.underlying32 hi1 hy0 hy1 hy2 rfl (by decide) (.slice A9 n9 c9) n9 vs rfl l2 ⟨w8.heap.size, 0, none⟩ 1 1 [.slice none 0 0] rfl rfl hcN ?c2 ?c3 ?c4 ?c5 ?_))
                case c2 => first | rfl | (intro q hq; simp at hq; subst hq; rfl)
                case c3 => simp only [maxLen]; omega
                case c4 => omega
                case c5 => omega
                intro v10 w10 hown10 hg10 _ hat10
                have hgr : ∀ k, (Value.slice A9 n9 c9).ownBlock = some k → gM + 1 ≤ k := fun k hk => (hU9 k hk).1
                obtain ⟨hoE10, hoB10, hmp10, hb10⟩ := keepsR hg10 hgr hvE hgBM rfl HW.out.1 HW.out.2.1 HW.out.2.2.1 HW.out.2.2.2.1 (by omega)
                have hy10 : w10.cell? ⟨wr.heap.size, 0, none⟩ = some (.int .i64 at_) := hg10.cell HW.out.2.2.2.2 (fun e => Nat.lt_irrefl _ (hU9 wr.heap.size e.symm).2)
                have hs10 := hg10.size
                have hoG10 : OwnsG w10 (gM + 1) v10 ((st ++ [(bt, [])] : List Entry).map fun e => e.2) := by
                  rw [List.map_append]
                  exact OwnsG.more vs HV.out.1 HV.out.2.1 HV.out.2.2.1 HV.out.2.2.2 hg10 (by rw [HN9.out]; exact hown10) (by
                    rcases hat10 with e | e
                    · exact .inl e
                    · exact .inr ⟨_, e, by omega⟩)
                have HX := Lib.hid (show CutRel st bt (at_, at2 - 1) (.slice (some ⟨b1, off, none⟩) E.length cE) E m gB gM wr.heap.size k w at_ v10 (.int .i64 n9) w10 from
                  ⟨st ++ [(bt, [])], st.length, _, by simp, by rw [hn9'], addCell_new HP.out _, HTL.out.put HBSM.out HP.out [], by simp; omega, hoE10, hoB10, by rw [hn9']; exact hmp10, hoG10, hy10, hb10, by omega, fun e he => by
                    rcases List.mem_append.1 he with he | he
                    · exact HLEN.out e he
                    · obtain rfl := List.mem_singleton.1 he
                      exact Nat.zero_le _, by omega⟩)
                clear hoE10 hoB10 hmp10 hb10 hy10 hoG10 hown10 hg10 hat10
                go_wp2_with (fail)
                go_meet
                case rel => rw [hA]; exact HX.out
          case rest =>
            obtain ⟨st', j, D', hj, rfl, hadd, htl', hst', hoE, hoB, hmp, hoG, hye, hb, hebs, hlen, hszc⟩ := hcut
            clear HCUT0 HU9 hoE7 hoB7 hmp7 hoG7 hb7 hy7 HH HAT HLEN hconv hat
            obtain ⟨LL, hLL⟩ : ∃ LL, st'.map (fun e : Entry => e.2) = LL := ⟨_, rfl⟩
            have hLl : LL.length = st'.length := by rw [← hLL]; exact List.length_map ..
            have hlj : ∀ h : j < LL.length, LL[j].length ≤ k := fun h => by subst hLL; rw [List.getElem_map]; exact hlen _ (List.getElem_mem hj)
            rw [hLL] at hoG
            obtain ⟨vs, l1, l2, l3, l4, l5⟩ := hoG
            have hjL : j < LL.length := by omega
            have hjv : j < vs.length := by omega
            obtain ⟨g, cap, hu9, hgb, hgs⟩ := World.ownsRow.form l2 (by omega)
            subst hu9
            have hcg := World.ownsRow.cellAt l2 j (by omega)
            rw [List.getElem?_eq_getElem hjv] at hcg
            have hfg := World.ownsRow.frozenAt l2 j
            have hoj := l3 j hjL hjv
            obtain ⟨Aj, cj, hvj⟩ := own_shape hoj
            have hlj := hlj hjL
            obtain ⟨nj, hnj⟩ : ∃ nj, (LL[j]).length = nj := ⟨_, rfl⟩
            have hoj2 : wc.ownsRow (gM + 1) 61 2 (.slice Aj nj cj) nj (flat LL[j]) := by
              have := hoj
              rw [hvj] at this
              unfold OwnsL at this
              rw [hnj] at this
              exact this
            rw [hvj, hnj] at hcg
            rw [hnj] at hlj
            have hrE7 : RS wc wc.heap.size AE E.length E := RS.of_own hoE
            obtain ⟨b4, off4, at4, t4, hA4, hb4B, hlk4, f1, f2⟩ := hrE7.at_ hlt2
            rw [hA] at hA4
            injection hA4 with hA4
            injection hA4 with e1 e2 _
            subst e1 e2
            obtain ⟨_, hEk4⟩ := hlk4
            rw [HEK2.out] at hEk4
            injection hEk4 with e1 e2
            subst e1 e2
            have s2 : IntKind.i64.wrap (at2 - 1) = at2 - 1 := IntWalk.i64_in _ (by omega)
            have k3 : (0 : Int) ≤ (k : Int) + 1 := by omega
            have k4 : (k : Int) + 1 < (E.length : Int) := by omega
            have k1 : (0 : Int) ≤ (j : Int) := Int.natCast_nonneg _
            have k2 : (j : Int) < (LL.length : Int) := by omega
            have HC := Lib.hid (And.intro hoE (And.intro hoB (And.intro hmp hb)))
            have HV := Lib.hid (And.intro l1 (And.intro l2 (And.intro l3 (And.intro l4 l5))))
            have HOJ := Lib.hid hoj2
            have HADD := Lib.hid hadd
            have HVJ := Lib.hid hvj
            have HNJ := Lib.hid hnj
            have HTT := Lib.hid htl'
            clear hoE hoB hmp hb l1 l2 l3 l4 l5 hoj hoj2 hadd hlen hrE7 htl' f2 hvj hnj hy06 hc06
            have hneg : (Value.slice Aj nj cj).ownBlock ≠ some g := fun e => HV.out.2.2.2.2 j hjv g (by rw [HVJ.out, HNJ.out]; exact e) rfl
            have hcgA : (wc.alloc (.cells #[.int .i64 at_, .int .i64 (at2 - 1)] 61)).cell? ⟨g, j, none⟩ = some (.slice Aj nj cj) := (World.grownBy_alloc wc _ none).cell hcg (by simp)
            have hfgA : (wc.alloc (.cells #[.int .i64 at_, .int .i64 (at2 - 1)] 61)).frozen? ⟨g, j, none⟩ = false := (World.frozen?_of_block ((World.grownBy_alloc wc _ none).block g hgs (by simp))).trans hfg
            have hwB2 : w.heap.size ≤ gM := by have := (World.ownsRow.lt HC.out.2.1 gB rfl).1; omega
            have hvE2 : ∀ b, (Value.slice AE E.length cE).ownBlock = some b → b < gM := fun b hb => by
              rw [hA] at hb
              have e : b1 = b := by simpa [Value.ownBlock] using hb
              omega
            have HFIN := Lib.hid (fun gg capg w4 h1 h2 h3 => finM (a := at_) (b := at2 - 1) (gg := gg) (capg := capg) (w4 := w4) hvE2 hgBM hwB2 HC.out HV.out hjL hjv HVJ.out HNJ.out hgb hszc h1 h2 h3)
            have HTN := Lib.hid (show Tells D' (group (cellsTo m E (k + 1))) by rw [HG.out, HADD.out]; exact HTT.out.keys (modify_keys _ _ _).symm)
            go_wp2_with (fail)
            go_region_law ((refine step_append_lies _ (by rfl) _ _ _ (by rfl) (gM + 1) 61 ti2 _ 2 16 Try.underlying22 hi2 hx0 hx1 hx2 rfl (by omega) (.slice Aj nj cj) nj (flat LL[j]) (by rfl) ((World.ownsRow.alloc HOJ.out _).drew) ⟨wc.heap.size, 0, none⟩ 1 1 [.int .i64 at_, .int .i64 (at2 - 1)] (by rfl) (by rfl) (World.news_of_block (cs := #[.int .i64 at_, .int .i64 (at2 - 1)]) (t := 61) (fr := (0, 0)) (heap_alloc_new wc _)) (by simp [Value.oneCell']) (by omega) (by simp only [maxLen]; omega) (by omega) (by simp; omega) (wc.heap.size + 1) (by simp) ?_; intro gg capg w4 hown1 hgrow hat hltg; have hcg4 : w4.cell? ⟨g, j, none⟩ = some (.slice Aj nj cj) := hgrow.cell hcgA (fun e => hneg e.symm); have hfg4 : w4.frozen? ⟨g, j, none⟩ = false := (World.frozen?_of_block (hgrow.block g (by simp; omega) (fun e => hneg e.symm))).trans hfgA))
            all_goals have HS := Lib.hid (HFIN.out _ _ _ hown1 hgrow hat)
            all_goals clear hown1 hgrow hat hltg hcg4 hfg4 hcgA hfgA hcg hfg f1 hye
            all_goals go_wp2_with (fail)
            all_goals go_roundw
            all_goals first
              | exact ⟨k + 1, D', by omega, by go_num, by first | exact HS.out.1 | (rw [← hA]; exact HS.out.1), by rw [HBT.out]; exact HS.out.2.1, HS.out.2.2.1, HTN.out, by rw [HG.out, HADD.out, List.length_modify]; exact hst', by rw [HG.out, HADD.out, modify_lists, hLL, ← hLl]; exact HS.out.2.2.2.2.1, HS.out.2.2.2.1, HS.out.2.2.2.2.2⟩
              | (simp [intOf]; omega)
      · have hz0 : x0 % 2 = 0 := by omega
        rw [hz0] at hand
        have hcell := cellAt_none0 (m := m) (E := E) (i := k) (by rw [HBT.out, HBIT.out]; simp [hz])
        have hd0 : decide ((0 : Int) = 0) = true := by decide
        go_quiet (fail)
        have HG := Lib.hid (cells_next_none hcell)
        go_wp2_with (fail)
        go_roundw
        case rel => exact ⟨k + 1, D, by omega, by go_num, by rw [← hA]; exact HST6.out.1, by rw [HBT.out]; exact HST6.out.2.1, HST6.out.2.2.1.mono (by omega), by rw [HG.out]; exact HTL.out, by rw [HG.out]; exact hst, by rw [HG.out]; exact HST6.out.2.2.2.1, below_drewN HST6.out.2.2.2.2.1 _, by simp; omega⟩
        case measure => simp [intOf]; omega
    · have hkl : k = E.length := by omega
      subst hkl
      have hbl := HED.out.blocks
      rw [hpm] at hbl
      have HF := Lib.hid (And.intro (HIS.out _ hbl) (And.intro (show (blocksOf m E).length ≤ 1024 by unfold blocksOf; rw [List.length_map]; exact hst) (show OwnsG wr w.heap.size u9 (blocksOf m E) from hoG.mono (by have := hb.size; omega))))
      clear hoE hoB hmp htl hoG hb hbl
      go_wp2_with (fail)
      exact bodyPost_ret (v := .tuple #[u9, .int .i64 0]) (by simp [results, Try.results26, go_sem]) rfl ⟨u9, _, HF.out.1, .inl ⟨rfl, HF.out.2.1, HF.out.2.2⟩, HB.out⟩
end Go.Proofs.Ytgmkchkaceciiaa.Mi
