/- Texts of this proof, joined: PkTiny, PkTable. -/
import Derived.Test.YtboaifdkoemnbaaJ7
import Derived.Test.YtboaifdkoemnbaaJ8
import Derived.Test.YtboaifdkoemnbaaJ12
import Derived.Test.YtboaifdkoemnbaaJ13
import Derived.Test.YtboaifdkoemnbaaJ15
import Derived.StillTailTactics
import Derived.Deep.RegionHeld3
import Derived.Deep.RegionLaw
import Derived.Deep.DeepCutAuto
import Derived.Tactics2
/- The law's tiny table. -/
namespace Go.Proofs.Ytboaifdkoemnbaa.Pk
set_option maxRecDepth 100000
open Go Go.RowKit Go.Proofs.Ytboaifdkoemnbaa.Sp Go.Proofs.Ytboaifdkoemnbaa.Pa Go.Proofs.Ytboaifdkoemnbaa.Te Go.Proofs.Ytboaifdkoemnbaa.Mi Go.Proofs.Ytboaifdkoemnbaa.De

/-- A table of one node that ends with an x. -/
def tinyT : TabL := ⟨List.replicate 256 0, [(0, 0, [-1])], [], [[⟨0, 0, 21, 0, 120, []⟩]]⟩
def tinyV (b d : Nat) : TV := ⟨tinyT, some ⟨b, 0, none⟩, 1, none, 0, some ⟨d, 0, none⟩, 1⟩
theorem tiny_set (b d : Nat) : (Try.zeroCells27.setIfInBounds 256 (.slice (some ⟨b, 0, none⟩) 1 1)).setIfInBounds 258 (.slice (some ⟨d, 0, none⟩) 1 1) = (tinyV b d).cells.toArray := by kernel_rfl
theorem tiny_cls (b d : Nat) : (tinyV b d).T.cls.length = 256 := List.length_replicate
theorem tiny_mem {w : World} {H : Nat} (h2 : w.heap[H + 1]? = some (.cells #[.int .i64 (-1)] 3 (0, 0))) (h3 : w.heap[H + 1 + 1]? = some (.cells #[.int .i64 0, .slice (some ⟨H + 1, 0, none⟩) 1 1, .int .i64 0] 45 (0, 0)))
    (h4 : w.heap[H + 1 + 1 + 1]? = some (.cells #[.int .i64 0, .int .i64 0, .int .i64 21, .int .i64 0, .int .i64 120, .slice none 0 0] 71 (0, 0))) (h5 : w.heap[H + 1 + 1 + 1 + 1]? = some (.cells #[.slice (some ⟨H + 1 + 1 + 1, 0, none⟩) 1 1] 47 (0, 0))) : TM w (tinyV (H + 1 + 1) (H + 1 + 1 + 1 + 1)) := by
  have l2 := (Array.getElem?_eq_some_iff.1 h2).1
  have l3 := (Array.getElem?_eq_some_iff.1 h3).1
  have l4 := (Array.getElem?_eq_some_iff.1 h4).1
  have l5 := (Array.getElem?_eq_some_iff.1 h5).1
  refine ⟨tiny_cls _ _, fun c hc => ?_, ⟨rfl, fun _ => ⟨_, _, rfl, l3, fun j hj => ?_⟩⟩, ⟨rfl, fun h => absurd (show 0 < 0 from h) (by decide)⟩, ⟨rfl, fun _ => ⟨_, _, rfl, l5, fun j hj => ?_⟩⟩, Nat.le_refl _, Nat.le_refl _, Nat.le_refl _, show 1 ≤ maxLen by decide, show 0 ≤ maxLen by decide, show 1 ≤ maxLen by decide⟩
  · rw [List.eq_of_mem_replicate (show c ∈ List.replicate 256 0 from hc)]
    decide
  · have hj : j < 1 := hj
    obtain rfl : j = 0 := by omega
    refine ⟨by rw [cell_of_row w _ _ _ _ _ h3]; rfl, by rw [cell_of_row w _ _ _ _ _ h3]; rfl, some ⟨H + 1, 0, none⟩, 1, by rw [cell_of_row w _ _ _ _ _ h3]; rfl, ⟨rfl, fun _ => ⟨_, _, rfl, l2, fun i hi => ?_⟩, fun z hz => ?_⟩, Nat.le_refl _, show 1 ≤ maxLen by decide⟩
    · have hi : i < 1 := hi
      obtain rfl : i = 0 := by omega
      rw [cell_of_row w _ _ _ _ _ h2]
      rfl
    · have hz : z ∈ [(-1 : Int)] := hz
      rw [List.mem_singleton.1 hz]
      unfold IntR
      omega
  · have hj : j < 1 := hj
    obtain rfl : j = 0 := by omega
    refine ⟨some ⟨H + 1 + 1 + 1, 0, none⟩, 1, by rw [cell_of_row w _ _ _ _ _ h5]; rfl, ⟨rfl, fun _ => ⟨_, _, rfl, l4, fun i hi => ?_⟩⟩, Nat.le_refl _, show 1 ≤ maxLen by decide⟩
    have hi : i < 1 := hi
    obtain rfl : i = 0 := by omega
    exact ⟨by rw [cell_of_row w _ _ _ _ _ h4]; rfl, by rw [cell_of_row w _ _ _ _ _ h4]; rfl, by rw [cell_of_row w _ _ _ _ _ h4]; rfl, by rw [cell_of_row w _ _ _ _ _ h4]; rfl, by rw [cell_of_row w _ _ _ _ _ h4]; rfl, none, 0, by rw [cell_of_row w _ _ _ _ _ h4]; rfl, ⟨rfl, fun h => absurd (show 0 < 0 from h) (by decide)⟩, Nat.le_refl _, show 0 ≤ maxLen by decide⟩
def TinyR (w : World) (e : Ending) (w' : World) : Prop := Below w.heap.size w w' ∧ ∃ t : TV, e = .returned t.val ∧ t.T = tinyT ∧ TM w' t
set_option maxHeartbeats 8000000 in
theorem tiny_any (w : World) : Calls Try.prog 16 #[] w (TinyR w) := by
  obtain ⟨H, hH⟩ : ∃ H, w.heap.size = H := ⟨_, rfl⟩
  obtain ⟨w1, hw1⟩ : ∃ w1, w.alloc (.cells Try.zeroCells27 27) = w1 := ⟨_, rfl⟩
  have hz1 : w1.heap.size = H + 1 := by rw [← hw1, ← hH]; simp
  obtain ⟨w2, hw2⟩ : ∃ w2, w1.alloc (.cells #[.int .i64 (-1)] 3) = w2 := ⟨_, rfl⟩
  have hz2 : w2.heap.size = H + 1 + 1 := by rw [← hw2, ← hz1]; simp
  obtain ⟨w3, hw3⟩ : ∃ w3, w2.alloc (.cells #[.int .i64 0, .slice (some ⟨H + 1, 0, none⟩) 1 1, .int .i64 0] 45) = w3 := ⟨_, rfl⟩
  have hz3 : w3.heap.size = H + 1 + 1 + 1 := by rw [← hw3, ← hz2]; simp
  obtain ⟨w4, hw4⟩ : ∃ w4, w3.alloc (.cells #[.int .i64 0, .int .i64 0, .int .i64 21, .int .i64 0, .int .i64 120, .slice none 0 0] 71) = w4 := ⟨_, rfl⟩
  have hz4 : w4.heap.size = H + 1 + 1 + 1 + 1 := by rw [← hw4, ← hz3]; simp
  obtain ⟨w5, hw5⟩ : ∃ w5, w4.alloc (.cells #[.slice (some ⟨H + 1 + 1 + 1, 0, none⟩) 1 1] 47) = w5 := ⟨_, rfl⟩
  have hz5 : w5.heap.size = H + 1 + 1 + 1 + 1 + 1 := by rw [← hw5, ← hz4]; simp
  have b1 : Below w.heap.size w w1 := by rw [← hw1]; exact (Below.refl _ _).alloc (Nat.le_refl _) _
  have b2 : Below w1.heap.size w1 w2 := by rw [← hw2]; exact (Below.refl _ _).alloc (Nat.le_refl _) _
  have b3 : Below w2.heap.size w2 w3 := by rw [← hw3]; exact (Below.refl _ _).alloc (Nat.le_refl _) _
  have b4 : Below w3.heap.size w3 w4 := by rw [← hw4]; exact (Below.refl _ _).alloc (Nat.le_refl _) _
  have b5 : Below w4.heap.size w4 w5 := by rw [← hw5]; exact (Below.refl _ _).alloc (Nat.le_refl _) _
  have g1 : w1.heap[H]? = some (.cells Try.zeroCells27 27 (0, 0)) := by rw [← hw1, ← hH]; exact heap_alloc_new w _
  have g2 : w2.heap[H + 1]? = some (.cells #[.int .i64 (-1)] 3 (0, 0)) := by rw [← hw2, ← hz1]; exact heap_alloc_new w1 _
  have g3 : w3.heap[H + 1 + 1]? = some (.cells #[.int .i64 0, .slice (some ⟨H + 1, 0, none⟩) 1 1, .int .i64 0] 45 (0, 0)) := by rw [← hw3, ← hz2]; exact heap_alloc_new w2 _
  have g4 : w4.heap[H + 1 + 1 + 1]? = some (.cells #[.int .i64 0, .int .i64 0, .int .i64 21, .int .i64 0, .int .i64 120, .slice none 0 0] 71 (0, 0)) := by rw [← hw4, ← hz3]; exact heap_alloc_new w3 _
  have g5 : w5.heap[H + 1 + 1 + 1 + 1]? = some (.cells #[.slice (some ⟨H + 1 + 1 + 1, 0, none⟩) 1 1] 47 (0, 0)) := by rw [← hw5, ← hz4]; exact heap_alloc_new w4 _
  have k4 := (b5.block _ (by omega)).trans g4
  have k3 := (b5.block _ (by omega)).trans ((b4.block _ (by omega)).trans g3)
  have k2 := (b5.block _ (by omega)).trans ((b4.block _ (by omega)).trans ((b3.block _ (by omega)).trans g2))
  have k1 := (b5.block _ (by omega)).trans ((b4.block _ (by omega)).trans ((b3.block _ (by omega)).trans ((b2.block _ (by omega)).trans g1)))
  obtain ⟨wf, hwf⟩ : ∃ wf, w5.setRow H (tinyV (H + 1 + 1) (H + 1 + 1 + 1 + 1)).cells.toArray = wf := ⟨_, rfl⟩
  have hof : ∀ b, b ≠ H → wf.heap[b]? = w5.heap[b]? := fun b hb => by rw [← hwf]; exact setRow_other w5 H b _ hb
  have HH := Lib.hid (show wf.heap[H]? = some (.cells (tinyV (H + 1 + 1) (H + 1 + 1 + 1 + 1)).cells.toArray 27 (0, 0)) from by rw [← hwf]; exact setRow_heap w5 H _ _ _ _ k1)
  have HM := Lib.hid (tiny_mem ((hof _ (by omega)).trans k2) ((hof _ (by omega)).trans k3) ((hof _ (by omega)).trans k4) ((hof _ (by omega)).trans g5))
  have hb15 : Below w.heap.size w w5 := b1.trans ((b2.trans ((b3.trans ((b4.trans (b5.mono (by omega))).mono (by omega))).mono (by omega))).mono (by omega))
  have HBL := Lib.hid (show Below w.heap.size w wf from ⟨by rw [← hwf]; exact hb15.os, by rw [← hwf]; exact hb15.tape, by rw [← hwf]; exact hb15.output, by rw [← hwf]; have := hb15.size; simpa using this, fun b hb => (hof b (by omega)).trans (hb15.block b hb)⟩)
  have HK1 := Lib.hid k1
  have HWF := Lib.hid hwf
  clear b1 b2 b3 b4 b5 g1 g2 g3 g4 g5 k1 k2 k3 k4 hof hb15 hwf
  go_enter Try.func16, Try.ntmps16
  go_wp2_with (refine wpList_store_row rfl 27 _ _ rfl H (tinyV (H + 1 + 1) (H + 1 + 1 + 1 + 1)).cells.toArray rfl (congrArg Value.agg (tiny_set _ _)) _ _ HK1.out (tabSize' (tiny_cls _ _)) (by rw [tab_zero, List.size_toArray, tbC_length (by simp), List.size_toArray, TV.length (tiny_cls _ _)]) oneCells ?_; rw [HWF.out])
  exact bodyPost_ret (v := (tinyV (H + 1 + 1) (H + 1 + 1 + 1 + 1)).val) (results_cell_row rfl _ _ H _ _ _ (.struct (Try.prog.fieldsOf 27)) rfl HH.out (by kernel_rfl) rfl (tabSize' (tiny_cls _ _))) rfl ⟨HBL.out, _, rfl, rfl, HM.out⟩
end Go.Proofs.Ytboaifdkoemnbaa.Pk
/- The walk of (*pack.writer).table. -/
namespace Go.Proofs.Ytboaifdkoemnbaa.Pk
set_option maxRecDepth 100000
open Go Go.RowKit Go.Proofs.Ytboaifdkoemnbaa.Sp Go.Proofs.Ytboaifdkoemnbaa.Pa Go.Proofs.Ytboaifdkoemnbaa.Te Go.Proofs.Ytboaifdkoemnbaa.Mi Go.Proofs.Ytboaifdkoemnbaa.De Go.Proofs.Ytboaifdkoemnbaa.Wo

theorem flat_next {α : Type} (f : α → List Int) {l : List α} {k : Nat} (h : k < l.length) : ((l.take k).flatMap f).length + (f l[k]).length ≤ (l.flatMap f).length := by
  have h1 := List.take_append_drop (k + 1) l
  have h2 : l.flatMap f = (l.take (k + 1)).flatMap f ++ (l.drop (k + 1)).flatMap f := by rw [← List.flatMap_append, h1]
  rw [h2, List.length_append, List.take_succ_eq_append_getElem h, List.flatMap_append, List.length_append]
  simp
theorem flat_succ {α : Type} (f : α → List Int) {l : List α} {k : Nat} {a : α} (h : k < l.length) (ha : l[k] = a) : (l.take (k + 1)).flatMap f = (l.take k).flatMap f ++ f a := by
  rw [List.take_succ_eq_append_getElem h, List.flatMap_append, ha]
  simp
theorem clsV_by (l : List Nat) : clsV l = byV l := by
  unfold clsV byV byI
  rw [List.map_map]
  rfl
def FlRel {α : Type} (f : α → List Int) (l : List α) (xs0 : List Int) (x bs : Nat) (v : Value) (wide : Bool) (L : List Nat) (w : World) (iv : Value) (wr : World) : Prop := ∃ k : Nat, k ≤ l.length ∧ iv = .int .i64 k ∧ WRel x bs v wide L (xs0 ++ (l.take k).flatMap f) w wr
theorem KeepW.box {x : Nat} {v : Value} {w w' : World} (h : KeepW x v w w') {b : Nat} (hb : b < w.heap.size) (hx : b ≠ x) (ho : ∀ g, v.ownBlock = some g → g ≠ b) : w'.heap[b]? = w.heap[b]? := h.block b hb hx (fun e => ho b e rfl)
def WTab (x bs : Nat) (v : Value) (wide : Bool) (L : List Nat) (T : TabL) (w : World) (e : Ending) (w' : World) : Prop :=
  e = .returned (.tuple #[]) ∧ ∃ v', WrS x bs v' (wide || (wideB T.headI || wideB T.restI)) (L ++ (numsB T.headI ++ (T.cls ++ numsB T.restI))) w' ∧ KeepW x v w w' ∧ OwnN v v' w
set_option maxHeartbeats 16000000 in
theorem wtable_any (x bs : Nat) (v : Value) (wide : Bool) (L : List Nat) (t : TV) (w0 w : World) (h : WrS x bs v wide L w) (hT : TM w0 t) (hb : Below w0.heap.size w0 w) (hx : w0.heap.size ≤ x) (hbs : w0.heap.size ≤ bs) (hn : 1 ≤ t.T.nodes.length) (hL : L.length + 4 * (t.T.restI.length + 4) + 256 ≤ 1099511627776) :
    Calls Try.prog 18 #[.pointer (some ⟨x, 0, none⟩), t.val] w (WTab x bs v wide L t.T w) := by
  have hla := hT.la
  have hlb := hT.lb
  have hlc := hT.lc
  unfold maxLen at hla hlb hlc
  have hcl := hT.cls
  have hlw := h.lt
  obtain ⟨i0, hi0, hz0, hz1, hz2⟩ := info_parts infoByte
  obtain ⟨w1, hw1⟩ : ∃ w1, w.alloc (.cells t.cells.toArray 27) = w1 := ⟨_, rfl⟩
  have hb1 : Below w.heap.size w w1 := by rw [← hw1]; exact (Below.refl _ _).alloc (Nat.le_refl _) _
  have hs1 : w1.heap.size = w.heap.size + 1 := by rw [← hw1]; simp
  have hbx : TBox w1 w.heap.size t := by rw [← hw1]; exact TBox.boxed w t
  have h1 := h.keep hb1
  have hno : ∀ g, v.ownBlock = some g → g < w.heap.size := fun g e => (h.row.lt g e).2
  have HT0 := Lib.hid hT
  have HLW := Lib.hid (fun W (k : KeepW x v w1 W) => show Below w0.heap.size w0 W from (hb.trans (hb1.mono hb.size)).trans (k.low h1 hx hbs))
  have HTW := Lib.hid (fun W (k : KeepW x v w1 W) => show TW W w.heap.size t from ⟨hbx.keep (k.box (by omega) (by omega) (fun g e => by have := hno g e; omega)), hT.belowM (HLW.out W k)⟩)
  have HW1 := Lib.hid h1
  have HWW := Lib.hid h
  have HB1 := Lib.hid hb1
  obtain ⟨hl0, hw0, _⟩ := head_zero hn
  obtain ⟨b, off, hA, hbB, e0, e1, A', c', e2, _, hcc, hm⟩ := hT.nodes.at_ hl0
  rw [hw0] at e2 hm
  obtain ⟨wid, hwid⟩ : ∃ wid, t.T.wid = wid := ⟨_, rfl⟩
  rw [hwid] at e2 hm
  have hlow1 := HLW.out w1 (KeepW.refl _ _ _)
  have e2 := (hlow1.cell (p := ⟨b, off + 0 * 3 + 1, none⟩) hbB).trans e2
  simp only [Nat.zero_mul, Nat.add_zero] at e2
  have hT1 := HTW.out w1 (KeepW.refl _ _ _)
  have cA := hT1.cA
  have cB := hT1.cB
  have cC := hT1.cC
  rw [hA] at cA
  have HXA := Lib.hid hA
  have HWID := Lib.hid hwid
  have hr2 : t.T.restI.length = (t.T.nodes.flatMap nodeI).length + ((t.T.acts.flatMap actI).length + (t.T.ends.flatMap termsI).length) := by unfold TabL.restI; rw [List.length_append, List.length_append]
  have HRL := Lib.hid hr2
  have HL := Lib.hid hL
  have hbl : b < w1.heap.size := by have := hlow1.size; omega
  unfold maxLen at hm
  have HCE := Lib.hid (fun W (k : KeepW x v w1 W) => show W.cell? ⟨b, off + 1, none⟩ = some (.slice A' wid c') from by
    have q := (hb1.mono (B' := b + 1) (by have := hb.size; omega))
    exact (World.cell?_of_block ((HLW.out W k).block b hbB |>.trans ((HLW.out w1 (KeepW.refl _ _ _)).block b hbB).symm)).trans e2)
  have HSS := Lib.hid (fun W (k : KeepW x v w1 W) => show W.cell? ⟨w.heap.size, 256, none⟩ = some (.slice t.A t.T.nodes.length t.ca) ∧ W.cell? ⟨w.heap.size, 257, none⟩ = some (.slice t.B t.T.acts.length t.cb) ∧ W.cell? ⟨w.heap.size, 258, none⟩ = some (.slice t.C t.T.ends.length t.cc) ∧ W.cell? ⟨b, off + 1, none⟩ = some (.slice A' wid c') from ⟨(HTW.out W k).cA, (HTW.out W k).cB, (HTW.out W k).cC, HCE.out W k⟩)
  have HIH := Lib.hid (show t.T.headI = [(wid : Int), (t.T.nodes.length : Int), (t.T.acts.length : Int), (t.T.ends.length : Int)] from by unfold TabL.headI; rw [hwid])
  clear h hT hb1 hbx h1 hno hb hw0 e0 e1 hcc hA hlow1 hT1 hr2 hL hwid
  unfold TV.val
  go_enter Try.func18, Try.ntmps18
  go_wp2_with (fail)
  obtain ⟨we, hwe⟩ : ∃ we, w1.drew = we := ⟨_, rfl⟩
  have hbe : Below w1.heap.size w1 we := by rw [← hwe]; exact (Below.refl _ _).drew
  have hKe : KeepW x v w1 we := KeepW.below hbe
  have hWe : WrS x bs v wide L we := HW1.out.keep hbe
  refine wp_region_held_drew (S := fun W => W.cell? ⟨w.heap.size, 256, none⟩ = some (.slice t.A t.T.nodes.length t.ca) ∧ W.cell? ⟨w.heap.size, 257, none⟩ = some (.slice t.B t.T.acts.length t.cb) ∧ W.cell? ⟨w.heap.size, 258, none⟩ = some (.slice t.C t.T.ends.length t.cc) ∧ W.cell? ⟨b, off + 1, none⟩ = some (.slice A' wid c')) (by kernel_rfl) (by rw [hwe]; exact HSS.out _ hKe) (fun hHeld => ?_)
  rw [hwe] at hHeld ⊢
  refine wpAnyH_take (i := 0) (oi := { dst := some 10, op := Go.Op.move (Go.Operand.tmp 0), type := 72, pos := "writer.go:22", after := #[], guard := none }) (v := ?_) rfl (by kernel_rfl) (by kernel_rfl) (by kernel_rfl) (fun _ _ _ h => h) (Or.inl ⟨by rfl, ?_⟩) (by assumption) ?_
  rotate_left
  · intro w' hSw
    (try dsimp only at hSw)
    obtain ⟨z1, z2, z3, z4⟩ := hSw
    rw [HXA.out] at z1
    go_simp
    all_goals with_reducible rfl
  try simp only [Act.put, List.setIfInBounds_toArray, List.set_cons_zero, List.set_cons_succ]
  refine wpAnyH_take (i := 1) (oi := { dst := some 11, op := Go.Op.fieldAddr 27 (Go.Operand.tmp 3) 1, type := 0, pos := "writer.go:22", after := #[], guard := none }) (v := ?_) rfl (by kernel_rfl) (by kernel_rfl) (by kernel_rfl) (fun _ _ _ h => h) (Or.inl ⟨by rfl, ?_⟩) (by assumption) ?_
  rotate_left
  · intro w' hSw
    (try dsimp only at hSw)
    obtain ⟨z1, z2, z3, z4⟩ := hSw
    rw [HXA.out] at z1
    go_simp
    all_goals with_reducible rfl
  try simp only [Act.put, List.setIfInBounds_toArray, List.set_cons_zero, List.set_cons_succ]
  refine wpAnyH_take (i := 2) (oi := { dst := some 12, op := Go.Op.load 23 (Go.Operand.tmp 11), type := 23, pos := "writer.go:22", after := #[{ on := 1, ground := Go.Ground.data }], guard := none }) (v := ?_) rfl (by kernel_rfl) (by kernel_rfl) (by kernel_rfl) (fun _ _ _ h => h) (Or.inl ⟨by rfl, ?_⟩) (by assumption) ?_
  rotate_left
  · intro w' hSw
    (try dsimp only at hSw)
    obtain ⟨z1, z2, z3, z4⟩ := hSw
    rw [HXA.out] at z1
    go_simp
    all_goals with_reducible rfl
  try simp only [Act.put, List.setIfInBounds_toArray, List.set_cons_zero, List.set_cons_succ]
  refine wpAnyH_take (i := 3) (oi := { dst := some 13, op := Go.Op.indexAddr 23 (Go.Operand.tmp 12) (Go.Operand.const (Go.Value.int Go.IntKind.i64 0)), type := 0, pos := "writer.go:22", after := #[{ on := 2, ground := Go.Ground.data }], guard := none }) (v := ?_) rfl (by kernel_rfl) (by kernel_rfl) (by kernel_rfl) (fun _ _ _ h => h) (Or.inl ⟨by rfl, ?_⟩) (by assumption) ?_
  rotate_left
  · intro w' hSw
    (try dsimp only at hSw)
    obtain ⟨z1, z2, z3, z4⟩ := hSw
    rw [HXA.out] at z1
    go_simp
    all_goals with_reducible rfl
  try simp only [Act.put, List.setIfInBounds_toArray, List.set_cons_zero, List.set_cons_succ]
  refine wpAnyH_take (i := 4) (oi := { dst := some 14, op := Go.Op.fieldAddr 45 (Go.Operand.tmp 13) 1, type := 0, pos := "writer.go:22", after := #[{ on := 3, ground := Go.Ground.data }], guard := none }) (v := ?_) rfl (by kernel_rfl) (by kernel_rfl) (by kernel_rfl) (fun _ _ _ h => h) (Or.inl ⟨by rfl, ?_⟩) (by assumption) ?_
  rotate_left
  · intro w' hSw
    (try dsimp only at hSw)
    obtain ⟨z1, z2, z3, z4⟩ := hSw
    rw [HXA.out] at z1
    go_simp
    all_goals with_reducible rfl
  try simp only [Act.put, List.setIfInBounds_toArray, List.set_cons_zero, List.set_cons_succ]
  refine wpAnyH_take (i := 5) (oi := { dst := some 15, op := Go.Op.load 43 (Go.Operand.tmp 14), type := 43, pos := "writer.go:22", after := #[{ on := 4, ground := Go.Ground.data }], guard := none }) (v := ?_) rfl (by kernel_rfl) (by kernel_rfl) (by kernel_rfl) (fun _ _ _ h => h) (Or.inl ⟨by rfl, ?_⟩) (by assumption) ?_
  rotate_left
  · intro w' hSw
    (try dsimp only at hSw)
    obtain ⟨z1, z2, z3, z4⟩ := hSw
    rw [HXA.out] at z1
    go_simp
    all_goals with_reducible rfl
  try simp only [Act.put, List.setIfInBounds_toArray, List.set_cons_zero, List.set_cons_succ]
  refine wpAnyH_take (i := 6) (oi := { dst := some 16, op := Go.Op.call { callee := Go.Callee.builtin Go.Builtin.len, args := #[Go.Operand.tmp 15], argTypes := #[43] }, type := 3, pos := "writer.go:22", after := #[{ on := 5, ground := Go.Ground.data }], guard := none }) (v := ?_) rfl (by kernel_rfl) (by kernel_rfl) (by kernel_rfl) (fun _ _ _ h => h) (Or.inl ⟨by rfl, ?_⟩) (by assumption) ?_
  rotate_left
  · intro w' hSw
    (try dsimp only at hSw)
    obtain ⟨z1, z2, z3, z4⟩ := hSw
    rw [HXA.out] at z1
    go_simp
    all_goals with_reducible rfl
  try simp only [Act.put, List.setIfInBounds_toArray, List.set_cons_zero, List.set_cons_succ]
  refine wpAnyH_take (i := 7) (oi := { dst := some 17, op := Go.Op.fieldAddr 27 (Go.Operand.tmp 3) 1, type := 0, pos := "writer.go:22", after := #[], guard := none }) (v := ?_) rfl (by kernel_rfl) (by kernel_rfl) (by kernel_rfl) (fun _ _ _ h => h) (Or.inl ⟨by rfl, ?_⟩) (by assumption) ?_
  rotate_left
  · intro w' hSw
    (try dsimp only at hSw)
    obtain ⟨z1, z2, z3, z4⟩ := hSw
    rw [HXA.out] at z1
    go_simp
    all_goals with_reducible rfl
  try simp only [Act.put, List.setIfInBounds_toArray, List.set_cons_zero, List.set_cons_succ]
  refine wpAnyH_take (i := 8) (oi := { dst := some 18, op := Go.Op.load 23 (Go.Operand.tmp 17), type := 23, pos := "writer.go:22", after := #[{ on := 7, ground := Go.Ground.data }], guard := none }) (v := ?_) rfl (by kernel_rfl) (by kernel_rfl) (by kernel_rfl) (fun _ _ _ h => h) (Or.inl ⟨by rfl, ?_⟩) (by assumption) ?_
  rotate_left
  · intro w' hSw
    (try dsimp only at hSw)
    obtain ⟨z1, z2, z3, z4⟩ := hSw
    rw [HXA.out] at z1
    go_simp
    all_goals with_reducible rfl
  try simp only [Act.put, List.setIfInBounds_toArray, List.set_cons_zero, List.set_cons_succ]
  refine wpAnyH_take (i := 9) (oi := { dst := some 19, op := Go.Op.call { callee := Go.Callee.builtin Go.Builtin.len, args := #[Go.Operand.tmp 18], argTypes := #[23] }, type := 3, pos := "writer.go:22", after := #[{ on := 8, ground := Go.Ground.data }], guard := none }) (v := ?_) rfl (by kernel_rfl) (by kernel_rfl) (by kernel_rfl) (fun _ _ _ h => h) (Or.inl ⟨by rfl, ?_⟩) (by assumption) ?_
  rotate_left
  · intro w' hSw
    (try dsimp only at hSw)
    obtain ⟨z1, z2, z3, z4⟩ := hSw
    rw [HXA.out] at z1
    go_simp
    all_goals with_reducible rfl
  try simp only [Act.put, List.setIfInBounds_toArray, List.set_cons_zero, List.set_cons_succ]
  refine wpAnyH_take (i := 10) (oi := { dst := some 20, op := Go.Op.fieldAddr 27 (Go.Operand.tmp 3) 2, type := 0, pos := "writer.go:22", after := #[], guard := none }) (v := ?_) rfl (by kernel_rfl) (by kernel_rfl) (by kernel_rfl) (fun _ _ _ h => h) (Or.inl ⟨by rfl, ?_⟩) (by assumption) ?_
  rotate_left
  · intro w' hSw
    (try dsimp only at hSw)
    obtain ⟨z1, z2, z3, z4⟩ := hSw
    rw [HXA.out] at z1
    go_simp
    all_goals with_reducible rfl
  try simp only [Act.put, List.setIfInBounds_toArray, List.set_cons_zero, List.set_cons_succ]
  refine wpAnyH_take (i := 11) (oi := { dst := some 21, op := Go.Op.load 24 (Go.Operand.tmp 20), type := 24, pos := "writer.go:22", after := #[{ on := 10, ground := Go.Ground.data }], guard := none }) (v := ?_) rfl (by kernel_rfl) (by kernel_rfl) (by kernel_rfl) (fun _ _ _ h => h) (Or.inl ⟨by rfl, ?_⟩) (by assumption) ?_
  rotate_left
  · intro w' hSw
    (try dsimp only at hSw)
    obtain ⟨z1, z2, z3, z4⟩ := hSw
    rw [HXA.out] at z1
    go_simp
    all_goals with_reducible rfl
  try simp only [Act.put, List.setIfInBounds_toArray, List.set_cons_zero, List.set_cons_succ]
  refine wpAnyH_take (i := 12) (oi := { dst := some 22, op := Go.Op.call { callee := Go.Callee.builtin Go.Builtin.len, args := #[Go.Operand.tmp 21], argTypes := #[24] }, type := 3, pos := "writer.go:22", after := #[{ on := 11, ground := Go.Ground.data }], guard := none }) (v := ?_) rfl (by kernel_rfl) (by kernel_rfl) (by kernel_rfl) (fun _ _ _ h => h) (Or.inl ⟨by rfl, ?_⟩) (by assumption) ?_
  rotate_left
  · intro w' hSw
    (try dsimp only at hSw)
    obtain ⟨z1, z2, z3, z4⟩ := hSw
    rw [HXA.out] at z1
    go_simp
    all_goals with_reducible rfl
  try simp only [Act.put, List.setIfInBounds_toArray, List.set_cons_zero, List.set_cons_succ]
  refine wpAnyH_take (i := 13) (oi := { dst := some 23, op := Go.Op.fieldAddr 27 (Go.Operand.tmp 3) 3, type := 0, pos := "writer.go:22", after := #[], guard := none }) (v := ?_) rfl (by kernel_rfl) (by kernel_rfl) (by kernel_rfl) (fun _ _ _ h => h) (Or.inl ⟨by rfl, ?_⟩) (by assumption) ?_
  rotate_left
  · intro w' hSw
    (try dsimp only at hSw)
    obtain ⟨z1, z2, z3, z4⟩ := hSw
    rw [HXA.out] at z1
    go_simp
    all_goals with_reducible rfl
  try simp only [Act.put, List.setIfInBounds_toArray, List.set_cons_zero, List.set_cons_succ]
  refine wpAnyH_take (i := 14) (oi := { dst := some 24, op := Go.Op.load 25 (Go.Operand.tmp 23), type := 25, pos := "writer.go:22", after := #[{ on := 13, ground := Go.Ground.data }], guard := none }) (v := ?_) rfl (by kernel_rfl) (by kernel_rfl) (by kernel_rfl) (fun _ _ _ h => h) (Or.inl ⟨by rfl, ?_⟩) (by assumption) ?_
  rotate_left
  · intro w' hSw
    (try dsimp only at hSw)
    obtain ⟨z1, z2, z3, z4⟩ := hSw
    rw [HXA.out] at z1
    go_simp
    all_goals with_reducible rfl
  try simp only [Act.put, List.setIfInBounds_toArray, List.set_cons_zero, List.set_cons_succ]
  refine wpAnyH_take (i := 15) (oi := { dst := some 25, op := Go.Op.call { callee := Go.Callee.builtin Go.Builtin.len, args := #[Go.Operand.tmp 24], argTypes := #[25] }, type := 3, pos := "writer.go:22", after := #[{ on := 14, ground := Go.Ground.data }], guard := none }) (v := ?_) rfl (by kernel_rfl) (by kernel_rfl) (by kernel_rfl) (fun _ _ _ h => h) (Or.inl ⟨by rfl, ?_⟩) (by assumption) ?_
  rotate_left
  · intro w' hSw
    (try dsimp only at hSw)
    obtain ⟨z1, z2, z3, z4⟩ := hSw
    rw [HXA.out] at z1
    go_simp
    all_goals with_reducible rfl
  try simp only [Act.put, List.setIfInBounds_toArray, List.set_cons_zero, List.set_cons_succ]
  refine wpAnyH_ready (rs := [16]) (by kernel_rfl) (by simp) ?_
  refine (AllReadyH.cons (o := { dst := some 26, op := Go.Op.buildSlice 43 4 #[(0, Go.Operand.tmp 16), (1, Go.Operand.tmp 19), (2, Go.Operand.tmp 22), (3, Go.Operand.tmp 25)], type := 43, pos := "writer.go:22", after := #[{ on := 6, ground := Go.Ground.data }, { on := 9, ground := Go.Ground.data }, { on := 12, ground := Go.Ground.data }, { on := 15, ground := Go.Ground.data }], guard := none }) rfl (fun K hK => ?_) AllReadyH.nil)
  obtain ⟨ws, hws⟩ : ∃ ws, we.alloc (.cells #[.int .i64 (wid : Int), .int .i64 (t.T.nodes.length : Int), .int .i64 (t.T.acts.length : Int), .int .i64 (t.T.ends.length : Int)] 3) = ws := ⟨_, rfl⟩
  have hKs : KeepW x v w1 ws := hKe.trans (KeepW.below (x := x) (v := v) (by rw [← hws]; exact (Below.refl _ _).alloc (Nat.le_refl _) _)) (OwnN.refl _ _)
  have HC0 := Lib.hid (num_new [(wid : Int), (t.T.nodes.length : Int), (t.T.acts.length : Int), (t.T.ends.length : Int)] hWe hws (by have := HL.out; simp; omega))
  go_simp
  try rw [hws]
  refine hK.out _ _ ?_ (fun hHeld => ?_)
  · exact HSS.out _ hKs
  clear hK K
  try simp only [Act.put, List.setIfInBounds_toArray, List.set_cons_zero, List.set_cons_succ]
  refine wpAnyH_ready (rs := [17]) (by kernel_rfl) (by simp) ?_
  refine (AllReadyH.cons (o := { dst := some 27, op := Go.Op.call { callee := Go.Callee.value (Go.Operand.func 19), args := #[Go.Operand.tmp 10, Go.Operand.tmp 26], argTypes := #[72, 43] }, type := 0, pos := "writer.go:22", after := #[{ on := 0, ground := Go.Ground.data }, { on := 16, ground := Go.Ground.data }], guard := none }) rfl (fun K hK => ?_) AllReadyH.nil)
  go_simp
  go_wp2_with (go_at_call 19; (refine HC0.out.mono ?_); rintro e5 w2 ⟨rfl, hr2⟩)
  have hK2 : KeepW x v w1 w2 := (WRel.pre (w := w1) hbe hr2).choose_spec.2.1
  refine hK.out _ _ ?_ (fun hHeld => ?_)
  · exact HSS.out _ hK2
  clear hK K
  try simp only [Act.put, List.setIfInBounds_toArray, List.set_cons_zero, List.set_cons_succ]
  obtain ⟨wl, rfl⟩ : ∃ wl : World, wl = w2 := ⟨_, rfl⟩
  refine wpAnyH_done (by kernel_rfl) ?_ _
  obtain ⟨w2, rfl⟩ : ∃ w2 : World, w2 = wl := ⟨_, rfl⟩
  have hr2 := WRel.pre (w := w1) hbe hr2
  obtain ⟨v2, s2, k2, o2⟩ := hr2
  obtain ⟨L2, hL2⟩ : ∃ L2, L ++ numsB [(wid : Int), (t.T.nodes.length : Int), (t.T.acts.length : Int), (t.T.ends.length : Int)] = L2 := ⟨_, rfl⟩
  obtain ⟨d2, hd2⟩ : ∃ d2, (wide || wideB [(wid : Int), (t.T.nodes.length : Int), (t.T.acts.length : Int), (t.T.ends.length : Int)]) = d2 := ⟨_, rfl⟩
  rw [hL2, hd2] at s2
  have hL2l : L2.length = L.length + 16 := by rw [← hL2, List.length_append, numsB_length]; rfl
  have HL2 := Lib.hid hL2
  have HD2 := Lib.hid hd2
  have HL2L := Lib.hid hL2l
  have HS2 := Lib.hid s2
  have HK2 := Lib.hid k2
  have HO2 := Lib.hid o2
  have HT2 := Lib.hid (HTW.out w2 k2)
  obtain ⟨Av, cv, hv2⟩ := s2.row.shape
  subst hv2
  have hl2b : L2.length + 256 ≤ 1099511627776 := by have := HL.out; omega
  clear hL2 hd2 s2 k2 o2 hL2l cA cB cC e2 hws hKs hK2 HC0 hHeld hbe hKe hWe
  go_upto_region 2 with (fail)
  obtain ⟨wf, hwf⟩ : ∃ wf, w2.drew = wf := ⟨_, rfl⟩
  have hbf : Below w2.heap.size w2 wf := by rw [← hwf]; exact (Below.refl _ _).drew
  have hSf : WrS x bs (.slice Av L2.length cv) d2 L2 wf := HS2.out.keep hbf
  have HSF := Lib.hid hSf
  have HTF := Lib.hid (HT2.out.below hbf)
  have hsf := hSf.base
  refine wp_region_held_drew (S := fun _ => True) (by kernel_rfl) trivial (fun hHeld => ?_)
  rw [hwf]
  clear hSf
  refine wpAnyH_take (i := 0) (oi := { dst := some 28, op := Go.Op.move (Go.Operand.tmp 0), type := 72, pos := "writer.go:23", after := #[], guard := none }) (v := ?_) rfl (by kernel_rfl) (by kernel_rfl) (by kernel_rfl) (fun _ _ _ h => h) (Or.inl ⟨by rfl, ?_⟩) (by assumption) ?_
  rotate_left
  · intro w' hSw
    (try dsimp only at hSw)
    go_simp
    all_goals with_reducible rfl
  try simp only [Act.put, List.setIfInBounds_toArray, List.set_cons_zero, List.set_cons_succ]
  refine wpAnyH_take (i := 1) (oi := { dst := some 29, op := Go.Op.move (Go.Operand.tmp 0), type := 72, pos := "writer.go:23", after := #[], guard := none }) (v := ?_) rfl (by kernel_rfl) (by kernel_rfl) (by kernel_rfl) (fun _ _ _ h => h) (Or.inl ⟨by rfl, ?_⟩) (by assumption) ?_
  rotate_left
  · intro w' hSw
    (try dsimp only at hSw)
    go_simp
    all_goals with_reducible rfl
  try simp only [Act.put, List.setIfInBounds_toArray, List.set_cons_zero, List.set_cons_succ]
  refine wpAnyH_take (i := 2) (oi := { dst := some 30, op := Go.Op.nilCheck (Go.Operand.tmp 29), type := 0, pos := "writer.go:23", after := #[{ on := 1, ground := Go.Ground.data }], guard := none }) (v := ?_) rfl (by kernel_rfl) (by kernel_rfl) (by kernel_rfl) (fun _ _ _ h => h) (Or.inl ⟨by rfl, ?_⟩) (by assumption) ?_
  rotate_left
  · intro w' hSw
    (try dsimp only at hSw)
    go_simp
    all_goals with_reducible rfl
  try simp only [Act.put, List.setIfInBounds_toArray, List.set_cons_zero, List.set_cons_succ]
  refine wpAnyH_take (i := 3) (oi := { dst := some 31, op := Go.Op.fieldAddr 54 (Go.Operand.tmp 30) 0, type := 0, pos := "writer.go:23", after := #[{ on := 2, ground := Go.Ground.data }], guard := none }) (v := ?_) rfl (by kernel_rfl) (by kernel_rfl) (by kernel_rfl) (fun _ _ _ h => h) (Or.inl ⟨by rfl, ?_⟩) (by assumption) ?_
  rotate_left
  · intro w' hSw
    (try dsimp only at hSw)
    go_simp
    all_goals with_reducible rfl
  try simp only [Act.put, List.setIfInBounds_toArray, List.set_cons_zero, List.set_cons_succ]
  refine wpAnyH_take (i := 5) (oi := { dst := some 33, op := Go.Op.fieldAddr 27 (Go.Operand.tmp 3) 0, type := 0, pos := "writer.go:23", after := #[], guard := none }) (v := ?_) rfl (by kernel_rfl) (by kernel_rfl) (by kernel_rfl) (fun _ _ _ h => h) (Or.inl ⟨by rfl, ?_⟩) (by assumption) ?_
  rotate_left
  · intro w' hSw
    (try dsimp only at hSw)
    go_simp
    all_goals with_reducible rfl
  try simp only [Act.put, List.setIfInBounds_toArray, List.set_cons_zero, List.set_cons_succ]
  refine wpAnyH_take (i := 6) (oi := { dst := some 34, op := Go.Op.slice 22 (Go.Operand.tmp 33) none none none, type := 30, pos := "writer.go:23", after := #[{ on := 5, ground := Go.Ground.data }], guard := none }) (v := ?_) rfl (by kernel_rfl) (by kernel_rfl) (by kernel_rfl) (fun _ _ _ h => h) (Or.inl ⟨by rfl, ?_⟩) (by assumption) ?_
  rotate_left
  · intro w' hSw
    (try dsimp only at hSw)
    go_simp
    all_goals with_reducible rfl
  try simp only [Act.put, List.setIfInBounds_toArray, List.set_cons_zero, List.set_cons_succ]
  refine wpAnyH_ready (rs := [4]) (by kernel_rfl) (by simp) ?_
  refine (AllReadyH.cons (o := { dst := some 32, op := Go.Op.load 30 (Go.Operand.tmp 31), type := 30, pos := "writer.go:23", after := #[{ on := 3, ground := Go.Ground.data }], guard := none }) rfl (fun K hK => ?_) AllReadyH.nil)
  have p5 := HSF.out.c0
  go_simp
  clear p5
  refine hK.out _ _ ?_ (fun hHeld => ?_)
  · trivial
  clear hK K
  try simp only [Act.put, List.setIfInBounds_toArray, List.set_cons_zero, List.set_cons_succ]
  refine wpAnyH_ready (rs := [7]) (by kernel_rfl) (by simp) ?_
  refine (AllReadyH.cons (o := { dst := some 35, op := Go.Op.call { callee := Go.Callee.builtin Go.Builtin.append, args := #[Go.Operand.tmp 32, Go.Operand.tmp 34], argTypes := #[30, 30] }, type := 30, pos := "writer.go:23", after := #[{ on := 4, ground := Go.Ground.data }, { on := 6, ground := Go.Ground.data }], guard := none }) rfl (fun K hK => ?_) AllReadyH.nil)
  refine wp_append_W _ _ rfl rfl HSF.out.row ⟨w.heap.size, 0, none⟩ 256 256 (byV t.T.cls) rfl (by rw [byV_length, hcl]) (fun j u hj => by rw [Addr.add_mid]; exact clsRange HTF.out j u (by rw [clsV_by]; exact hj)) (fun u hu => by obtain ⟨z, _, rfl⟩ := List.mem_map.1 hu; rfl) (by decide) (by omega) hsf ?_
  intro v7 w7 hown7 hg7 hat7
  obtain ⟨A7, c7, hv7⟩ := own_shape hown7
  subst hv7
  have hbq : w7.heap[x]? = wf.heap[x]? := hg7.block x HSF.out.lt (fun e => HSF.out.apart e.symm)
  have p7 : w7.cell? ⟨x, 0, none⟩ = some (.slice Av L2.length cv) := (World.cell?_of_block hbq).trans HSF.out.c0
  have f7 : w7.frozen? ⟨x, 0, none⟩ = false := (World.frozen?_of_block hbq).trans (HSF.out.fr 0)
  refine hK.out _ _ ?_ (fun hHeld => ?_)
  · trivial
  clear hK K
  try simp only [Act.put, List.setIfInBounds_toArray, List.set_cons_zero, List.set_cons_succ]
  refine wpAnyH_take (i := 8) (oi := { dst := some 36, op := Go.Op.nilCheck (Go.Operand.tmp 28), type := 0, pos := "writer.go:23", after := #[{ on := 0, ground := Go.Ground.data }, { on := 0, ground := Go.Ground.phase }, { on := 1, ground := Go.Ground.phase }, { on := 2, ground := Go.Ground.phase }, { on := 3, ground := Go.Ground.phase }, { on := 4, ground := Go.Ground.phase }, { on := 5, ground := Go.Ground.phase }, { on := 6, ground := Go.Ground.phase }, { on := 7, ground := Go.Ground.phase }], guard := none }) (v := ?_) rfl (by kernel_rfl) (by kernel_rfl) (by kernel_rfl) (fun _ _ _ h => h) (Or.inl ⟨by rfl, ?_⟩) (by assumption) ?_
  rotate_left
  · intro w' hSw
    (try dsimp only at hSw)
    go_simp
    all_goals with_reducible rfl
  try simp only [Act.put, List.setIfInBounds_toArray, List.set_cons_zero, List.set_cons_succ]
  refine wpAnyH_take (i := 9) (oi := { dst := some 37, op := Go.Op.fieldAddr 54 (Go.Operand.tmp 36) 0, type := 0, pos := "writer.go:23", after := #[{ on := 8, ground := Go.Ground.data }, { on := 0, ground := Go.Ground.phase }, { on := 1, ground := Go.Ground.phase }, { on := 2, ground := Go.Ground.phase }, { on := 3, ground := Go.Ground.phase }, { on := 4, ground := Go.Ground.phase }, { on := 5, ground := Go.Ground.phase }, { on := 6, ground := Go.Ground.phase }, { on := 7, ground := Go.Ground.phase }], guard := none }) (v := ?_) rfl (by kernel_rfl) (by kernel_rfl) (by kernel_rfl) (fun _ _ _ h => h) (Or.inl ⟨by rfl, ?_⟩) (by assumption) ?_
  rotate_left
  · intro w' hSw
    (try dsimp only at hSw)
    go_simp
    all_goals with_reducible rfl
  try simp only [Act.put, List.setIfInBounds_toArray, List.set_cons_zero, List.set_cons_succ]
  refine wpAnyH_ready (rs := [10]) (by kernel_rfl) (by simp) ?_
  refine (AllReadyH.cons (o := { dst := none, op := Go.Op.store 30 (Go.Operand.tmp 37) (Go.Operand.tmp 35), type := 0, pos := "writer.go:23", after := #[{ on := 9, ground := Go.Ground.data }, { on := 7, ground := Go.Ground.data }, { on := 7, ground := Go.Ground.chain }, { on := 0, ground := Go.Ground.phase }, { on := 1, ground := Go.Ground.phase }, { on := 2, ground := Go.Ground.phase }, { on := 3, ground := Go.Ground.phase }, { on := 4, ground := Go.Ground.phase }, { on := 5, ground := Go.Ground.phase }, { on := 6, ground := Go.Ground.phase }, { on := 7, ground := Go.Ground.phase }], guard := none }) rfl (fun K hK => ?_) AllReadyH.nil)
  have hp8 := HSF.out.push (l := t.T.cls) (v1 := .slice A7 (L2.length + 256) c7) (by rw [hcl]; exact hown7) hg7 hat7
  clear hown7 hg7 hat7 hbq
  go_simp
  obtain ⟨v8, hv8⟩ : ∃ v8, Value.slice A7 (L2.length + 256) c7 = v8 := ⟨_, rfl⟩
  rw [hv8] at hp8 ⊢
  obtain ⟨w8, hw8⟩ : ∃ w8, w7.setCell ⟨x, 0, none⟩ v8 = w8 := ⟨_, rfl⟩
  rw [hw8] at hp8 ⊢
  refine hK.out _ _ ?_ (fun hHeld => ?_)
  · trivial
  clear hK K
  try simp only [Act.put, List.setIfInBounds_toArray, List.set_cons_zero, List.set_cons_succ]
  obtain ⟨wl, rfl⟩ : ∃ wl : World, wl = w8 := ⟨_, rfl⟩
  refine wpAnyH_done (by kernel_rfl) ?_ _
  obtain ⟨w8, rfl⟩ : ∃ w8 : World, w8 = wl := ⟨_, rfl⟩
  have HS8 := Lib.hid (show WrS x bs v8 d2 (L2 ++ t.T.cls) w8 from hp8.1)
  have HK8 := Lib.hid (show KeepW x v w1 w8 from HK2.out.trans ((KeepW.below (x := x) (v := .slice Av L2.length cv) hbf).trans hp8.2.1 (OwnN.refl _ _)) HO2.out)
  have HO8 := Lib.hid (show OwnN v v8 w1 from HO2.out.trans (fun g e => by
    rcases hp8.2.2 g e with q | q
    · exact .inl q
    · exact .inr (Nat.le_trans hbf.size q)) HK2.out.size)
  obtain ⟨L8, hL8⟩ : ∃ L8, L2 ++ t.T.cls = L8 := ⟨_, rfl⟩
  have hL8l : L8.length + 4 * t.T.restI.length ≤ 1099511627776 := by
    have h1 := HL.out
    have h2 := HL2L.out
    rw [← hL8, List.length_append, hcl]
    omega
  rw [hL8] at HS8
  have HL8 := Lib.hid hL8
  have HL8L := Lib.hid hL8l
  have cA := (HTW.out w8 HK8.out).cA
  rw [HXA.out] at cA
  clear hp8 hL8 hL8l hbf hl2b
  go_wp2_with (fail)
  have HSTn := Lib.hid (WRel.refl HS8.out)
  have HX0n := Lib.hid (show ([] : List Int).length = 0 from rfl)
  have HX0a := Lib.hid (show (t.T.nodes.flatMap nodeI).length = (t.T.nodes.flatMap nodeI).length from rfl)
  have HX0e := Lib.hid (show (t.T.nodes.flatMap nodeI ++ t.T.acts.flatMap actI).length = (t.T.nodes.flatMap nodeI).length + (t.T.acts.flatMap actI).length from List.length_append)
  go_loopw [41] (fun iv wr => FlRel nodeI t.T.nodes ([] : List Int) x bs v8 d2 L8 w8 iv wr) (fun i _ => t.T.nodes.length - (intOf i).toNat)
  case atStart => exact ⟨0, Nat.zero_le _, rfl, by simpa using HSTn.out⟩
  case round =>
    obtain ⟨k, hk, rfl, hrel⟩ := hrel
    obtain ⟨wo, rfl⟩ : ∃ wo : World, wo = wr := ⟨_, rfl⟩
    by_cases hlt : k < t.T.nodes.length
    · obtain ⟨v1, s1, k1, o1⟩ := hrel
      have hkw : KeepW x v w1 wo := HK8.out.trans k1 HO8.out
      have hlow := HLW.out wo hkw
      obtain ⟨b5, off5, hA5, hbB5, p0, p1, A5, c5, p2, hri, hcc5, hm5⟩ := HT0.out.nodes.at_ hlt
      rw [HXA.out] at hA5
      injection hA5 with hA5
      injection hA5 with hA5 hO5 _
      subst hA5 hO5
      have hfk := flat_next nodeI hlt
      obtain ⟨nd, hnd⟩ : ∃ nd, t.T.nodes[k] = nd := ⟨_, rfl⟩
      have HTK := Lib.hid (flat_succ nodeI hlt hnd)
      rw [hnd] at p0 p1 p2 hri hcc5 hm5 hfk
      have hbo : b < wo.heap.size := by have := hlow.size; omega
      have p0 := (hlow.cell hbB5).trans p0
      have p1 := (hlow.cell hbB5).trans p1
      have p2 := (hlow.cell hbB5).trans p2
      have hx1 := s1.lt
      have hno : ∀ g, v1.ownBlock = some g → g < wo.heap.size := fun g e => (s1.row.lt g e).2
      obtain ⟨XS, hXS⟩ : ∃ XS, ([] : List Int) ++ (t.T.nodes.take k).flatMap nodeI = XS := ⟨_, rfl⟩
      have hXL : XS.length = (([] : List Int)).length + ((t.T.nodes.take k).flatMap nodeI).length := by rw [← hXS, List.length_append]
      rw [hXS] at s1
      have hml : (L8 ++ numsB XS).length = L8.length + 4 * XS.length := by rw [List.length_append, numsB_length]
      have HTHEN := Lib.hid (fun w2 (hh : WRel x bs v1 (d2 || wideB XS) (L8 ++ numsB XS) (nodeI nd) wo w2) => show FlRel nodeI t.T.nodes ([] : List Int) x bs v8 d2 L8 w8 (.int .i64 ((k : Int) + 1)) w2 from ⟨k + 1, by omega, by go_num, by
        rw [HTK.out, ← List.append_assoc, hXS]
        exact WRel.then k1 o1 hh⟩)
      obtain ⟨M, hM⟩ : ∃ M, L8 ++ numsB XS = M := ⟨_, rfl⟩
      obtain ⟨wd, hwd⟩ : ∃ wd, (d2 || wideB XS) = wd := ⟨_, rfl⟩
      rw [hM, hwd] at s1 HTHEN
      rw [hM] at hml
      obtain ⟨held, end_, nx⟩ := nd
      simp only at p0 p1 p2 hri hcc5 hm5
      have hel : (nodeI (held, end_, nx)).length = 2 + nx.length := by simp [nodeI]; omega
      rw [hel] at hfk
      obtain ⟨w5, hw5⟩ : ∃ w5, wo.alloc (.cells #[.int .i64 held, .slice A5 nx.length c5, .int .i64 end_] 45) = w5 := ⟨_, rfl⟩
      have hs5 : w5.heap.size = wo.heap.size + 1 := by rw [← hw5]; simp
      have hb5 : Below wo.heap.size wo w5 := by rw [← hw5]; exact (Below.refl _ _).alloc (Nat.le_refl _) _
      have q0 : w5.cell? ⟨wo.heap.size, 0, none⟩ = some (.int .i64 held) := by rw [← hw5]; simp
      have q1 : w5.cell? ⟨wo.heap.size, 2, none⟩ = some (.int .i64 end_) := by rw [← hw5]; simp
      have q2 : w5.cell? ⟨wo.heap.size, 1, none⟩ = some (.slice A5 nx.length c5) := by rw [← hw5]; simp
      have HQ2 := Lib.hid q2
      obtain ⟨ws5, hws5⟩ : ∃ ws5, w5.alloc (.cells #[.int .i64 held, .int .i64 end_] 3) = ws5 := ⟨_, rfl⟩
      have hL2 : M.length + 4 * 2 ≤ 1099511627776 := by have hrl := HRL.out; have hl8 := HL8L.out; have hx0 := HX0n.out; omega
      have hL3 : (M ++ numsB [held, end_]).length + 4 * (nx.length) ≤ 1099511627776 := by have hrl := HRL.out; have hl8 := HL8L.out; have hx0 := HX0n.out; rw [List.length_append, numsB_length]; simp only [List.length_cons, List.length_nil]; omega
      have hc5 := num_new [held, end_] (s1.keep hb5) hws5 hL2
      rw [hs5] at hc5
      have HC5 := Lib.hid hc5
      have HRI := Lib.hid hri
      have HB5 := Lib.hid hb5
      have HKW := Lib.hid hkw
      have HVO := Lib.hid (show OwnN v v1 w1 from HO8.out.trans o1 HK8.out.size)
      have HS1 := Lib.hid s1
      have HNO := Lib.hid hno
      have HL3 := Lib.hid hL3
      unfold maxLen at hm5
      skip
      clear hnd hri hkw hlow hfk hXL hXS hml hM hwd hb5 s1 k1 o1 hc5 hL2 hL3 hno hel cA
      go_wp2_with (fail)
      refine HC5.out.mono ?_
      rintro e w6 ⟨rfl, hr6⟩
      obtain ⟨v6, s6, k6, o6⟩ := hr6
      have hq6 : w6.heap[wo.heap.size]? = w5.heap[wo.heap.size]? := k6.block _ (by omega) (by omega) (fun e => by have := HNO.out _ e; omega)
      have q26 : w6.cell? ⟨wo.heap.size, 1, none⟩ = some (.slice A5 nx.length c5) := (World.cell?_of_block hq6).trans HQ2.out
      have hk06 : KeepW x v1 wo w6 := (KeepW.below (x := x) (v := v1) HB5.out).trans k6 (OwnN.refl _ _)
      have ho06 : OwnN v1 v6 wo := fun g e => by
        rcases o6 g e with q | q
        · exact .inl q
        · exact .inr (Nat.le_trans HB5.out.size q)
      have hlow6 := HLW.out w6 (HKW.out.trans hk06 HVO.out)
      have HTH := Lib.hid (fun w2 (hh : WRel x bs v6 (wd || wideB [held, end_]) (M ++ numsB [held, end_]) nx w6 w2) => HTHEN.out w2 (show WRel x bs v1 wd M ([held, end_] ++ nx) wo w2 from WRel.then hk06 ho06 hh))
      have HC7 := Lib.hid (num_old c5 nx s6 HRI.out.c hlow6 hx hbs HL3.out)
      clear s6 k6 o6 hq6 hk06 ho06 hlow6 hws5 q0 q1 q2 p0 p1 p2
      go_wp2_with (fail)
      refine HC7.out.mono ?_
      rintro e w7 ⟨rfl, hr7⟩
      have HR7 := Lib.hid (HTH.out w7 hr7)
      clear hr7
      go_wp2_with (fail)
      go_roundw
      case rel => exact HR7.out
      case measure => simp [intOf]; omega
    · have hrel : WRel x bs v8 d2 L8 (t.T.nodes.flatMap nodeI) w8 wo := by
        rw [List.take_of_length_le (by omega)] at hrel
        exact hrel
      have HSTa := Lib.hid hrel
      obtain ⟨v1, s1, k1, o1⟩ := hrel
      have hkw : KeepW x v w1 wo := HK8.out.trans k1 HO8.out
      have cB := (HTW.out wo hkw).cB
      obtain ⟨wAn, hwA⟩ : ∃ wA : World, wA = wo := ⟨_, rfl⟩
      subst hwA
      clear s1 k1 o1 hkw cA
      go_wp2_with (fail)
      go_loopw [60] (fun iv wr => FlRel actI t.T.acts (t.T.nodes.flatMap nodeI) x bs v8 d2 L8 w8 iv wr) (fun i _ => t.T.acts.length - (intOf i).toNat)
      case atStart => exact ⟨0, Nat.zero_le _, rfl, by simpa using HSTa.out⟩
      case round =>
        obtain ⟨k, hk, rfl, hrel⟩ := hrel
        obtain ⟨wo, rfl⟩ : ∃ wo : World, wo = wr := ⟨_, rfl⟩
        by_cases hlt : k < t.T.acts.length
        · obtain ⟨v1, s1, k1, o1⟩ := hrel
          have hkw : KeepW x v w1 wo := HK8.out.trans k1 HO8.out
          have hlow := HLW.out wo hkw
          obtain ⟨b5, off5, hA5, hbB5, p0, p1, A5, c5, p2, hri, hcc5, hm5⟩ := HT0.out.acts.at_ hlt
          have hfk := flat_next actI hlt
          obtain ⟨nd, hnd⟩ : ∃ nd, t.T.acts[k] = nd := ⟨_, rfl⟩
          have HTK := Lib.hid (flat_succ actI hlt hnd)
          rw [hnd] at p0 p1 p2 hri hcc5 hm5 hfk
          have hbo : b5 < wo.heap.size := by have := hlow.size; omega
          have p0 := (hlow.cell hbB5).trans p0
          have p1 := (hlow.cell hbB5).trans p1
          have p2 := (hlow.cell hbB5).trans p2
          have hx1 := s1.lt
          have hno : ∀ g, v1.ownBlock = some g → g < wo.heap.size := fun g e => (s1.row.lt g e).2
          obtain ⟨XS, hXS⟩ : ∃ XS, (t.T.nodes.flatMap nodeI) ++ (t.T.acts.take k).flatMap actI = XS := ⟨_, rfl⟩
          have hXL : XS.length = ((t.T.nodes.flatMap nodeI)).length + ((t.T.acts.take k).flatMap actI).length := by rw [← hXS, List.length_append]
          rw [hXS] at s1
          have hml : (L8 ++ numsB XS).length = L8.length + 4 * XS.length := by rw [List.length_append, numsB_length]
          have HTHEN := Lib.hid (fun w2 (hh : WRel x bs v1 (d2 || wideB XS) (L8 ++ numsB XS) (actI nd) wo w2) => show FlRel actI t.T.acts (t.T.nodes.flatMap nodeI) x bs v8 d2 L8 w8 (.int .i64 ((k : Int) + 1)) w2 from ⟨k + 1, by omega, by go_num, by
            rw [HTK.out, ← List.append_assoc, hXS]
            exact WRel.then k1 o1 hh⟩)
          obtain ⟨M, hM⟩ : ∃ M, L8 ++ numsB XS = M := ⟨_, rfl⟩
          obtain ⟨wd, hwd⟩ : ∃ wd, (d2 || wideB XS) = wd := ⟨_, rfl⟩
          rw [hM, hwd] at s1 HTHEN
          rw [hM] at hml
          obtain ⟨eat, to_, nx⟩ := nd
          simp only at p0 p1 p2 hri hcc5 hm5
          have hel : (actI (eat, to_, nx)).length = 2 + (termsI nx).length := by simp [actI]; omega
          rw [hel] at hfk
          obtain ⟨w5, hw5⟩ : ∃ w5, wo.alloc (.cells #[.int .i64 eat, .int .i64 to_, .slice A5 nx.length c5] 49) = w5 := ⟨_, rfl⟩
          have hs5 : w5.heap.size = wo.heap.size + 1 := by rw [← hw5]; simp
          have hb5 : Below wo.heap.size wo w5 := by rw [← hw5]; exact (Below.refl _ _).alloc (Nat.le_refl _) _
          have q0 : w5.cell? ⟨wo.heap.size, 0, none⟩ = some (.int .i64 eat) := by rw [← hw5]; simp
          have q1 : w5.cell? ⟨wo.heap.size, 1, none⟩ = some (.int .i64 to_) := by rw [← hw5]; simp
          have q2 : w5.cell? ⟨wo.heap.size, 2, none⟩ = some (.slice A5 nx.length c5) := by rw [← hw5]; simp
          have HQ2 := Lib.hid q2
          obtain ⟨ws5, hws5⟩ : ∃ ws5, w5.alloc (.cells #[.int .i64 eat, .int .i64 to_] 3) = ws5 := ⟨_, rfl⟩
          have hL2 : M.length + 4 * 2 ≤ 1099511627776 := by have hrl := HRL.out; have hl8 := HL8L.out; have hx0 := HX0a.out; omega
          have hL3 : (M ++ numsB [eat, to_]).length + 4 * ((termsI nx).length) ≤ 1099511627776 := by have hrl := HRL.out; have hl8 := HL8L.out; have hx0 := HX0a.out; rw [List.length_append, numsB_length]; simp only [List.length_cons, List.length_nil]; omega
          have hc5 := num_new [eat, to_] (s1.keep hb5) hws5 hL2
          rw [hs5] at hc5
          have HC5 := Lib.hid hc5
          have HRI := Lib.hid hri
          have HB5 := Lib.hid hb5
          have HKW := Lib.hid hkw
          have HVO := Lib.hid (show OwnN v v1 w1 from HO8.out.trans o1 HK8.out.size)
          have HS1 := Lib.hid s1
          have HNO := Lib.hid hno
          have HL3 := Lib.hid hL3
          unfold maxLen at hm5
          rw [hA5]
          clear hA5 hnd hri hkw hlow hfk hXL hXS hml hM hwd hb5 s1 k1 o1 hc5 hL2 hL3 hno hel cB
          go_wp2_with (fail)
          refine HC5.out.mono ?_
          rintro e w6 ⟨rfl, hr6⟩
          obtain ⟨v6, s6, k6, o6⟩ := hr6
          have hq6 : w6.heap[wo.heap.size]? = w5.heap[wo.heap.size]? := k6.block _ (by omega) (by omega) (fun e => by have := HNO.out _ e; omega)
          have q26 : w6.cell? ⟨wo.heap.size, 2, none⟩ = some (.slice A5 nx.length c5) := (World.cell?_of_block hq6).trans HQ2.out
          have hk06 : KeepW x v1 wo w6 := (KeepW.below (x := x) (v := v1) HB5.out).trans k6 (OwnN.refl _ _)
          have ho06 : OwnN v1 v6 wo := fun g e => by
            rcases o6 g e with q | q
            · exact .inl q
            · exact .inr (Nat.le_trans HB5.out.size q)
          have hlow6 := HLW.out w6 (HKW.out.trans hk06 HVO.out)
          have HTH := Lib.hid (fun w2 (hh : WRel x bs v6 (wd || wideB [eat, to_]) (M ++ numsB [eat, to_]) (termsI nx) w6 w2) => HTHEN.out w2 (show WRel x bs v1 wd M ([eat, to_] ++ (termsI nx)) wo w2 from WRel.then hk06 ho06 hh))
          have HC7 := Lib.hid (wterms_any x bs v6 _ _ A5 c5 nx w0 w6 s6 HRI.out hlow6 hx hbs HL3.out)
          clear s6 k6 o6 hq6 hk06 ho06 hlow6 hws5 q0 q1 q2 p0 p1 p2
          go_wp2_with (fail)
          refine HC7.out.mono ?_
          rintro e w7 ⟨rfl, hr7⟩
          have HR7 := Lib.hid (HTH.out w7 hr7)
          clear hr7
          go_wp2_with (fail)
          go_roundw
          case rel => exact HR7.out
          case measure => simp [intOf]; omega
        · have hrel : WRel x bs v8 d2 L8 (t.T.nodes.flatMap nodeI ++ t.T.acts.flatMap actI) w8 wo := by
            rw [List.take_of_length_le (by omega)] at hrel
            exact hrel
          have HSTe := Lib.hid hrel
          obtain ⟨v1, s1, k1, o1⟩ := hrel
          have hkw : KeepW x v w1 wo := HK8.out.trans k1 HO8.out
          have cC := (HTW.out wo hkw).cC
          obtain ⟨wAa, hwA⟩ : ∃ wA : World, wA = wo := ⟨_, rfl⟩
          subst hwA
          clear s1 k1 o1 hkw cB
          go_wp2_with (fail)
          go_loopw [79] (fun iv wr => FlRel termsI t.T.ends (t.T.nodes.flatMap nodeI ++ t.T.acts.flatMap actI) x bs v8 d2 L8 w8 iv wr) (fun i _ => t.T.ends.length - (intOf i).toNat)
          case atStart => exact ⟨0, Nat.zero_le _, rfl, by simpa using HSTe.out⟩
          case round =>
            obtain ⟨k, hk, rfl, hrel⟩ := hrel
            obtain ⟨wo, rfl⟩ : ∃ wo : World, wo = wr := ⟨_, rfl⟩
            by_cases hlt : k < t.T.ends.length
            · obtain ⟨v1, s1, k1, o1⟩ := hrel
              have hkw : KeepW x v w1 wo := HK8.out.trans k1 HO8.out
              have hlow := HLW.out wo hkw
              obtain ⟨b5, off5, hA5, hbB5, A5, c5, p2, hri, hcc5, hm5⟩ := HT0.out.ends.at_ hlt
              have hfk := flat_next termsI hlt
              obtain ⟨nd, hnd⟩ : ∃ nd, t.T.ends[k] = nd := ⟨_, rfl⟩
              have HTK := Lib.hid (flat_succ termsI hlt hnd)
              rw [hnd] at p2 hri hcc5 hm5 hfk
              have hbo : b5 < wo.heap.size := by have := hlow.size; omega
              have p2 := (hlow.cell hbB5).trans p2
              have hx1 := s1.lt
              have hno : ∀ g, v1.ownBlock = some g → g < wo.heap.size := fun g e => (s1.row.lt g e).2
              obtain ⟨XS, hXS⟩ : ∃ XS, (t.T.nodes.flatMap nodeI ++ t.T.acts.flatMap actI) ++ (t.T.ends.take k).flatMap termsI = XS := ⟨_, rfl⟩
              have hXL : XS.length = ((t.T.nodes.flatMap nodeI ++ t.T.acts.flatMap actI)).length + ((t.T.ends.take k).flatMap termsI).length := by rw [← hXS, List.length_append]
              rw [hXS] at s1
              have hml : (L8 ++ numsB XS).length = L8.length + 4 * XS.length := by rw [List.length_append, numsB_length]
              have HTHEN := Lib.hid (fun w2 (hh : WRel x bs v1 (d2 || wideB XS) (L8 ++ numsB XS) (termsI nd) wo w2) => show FlRel termsI t.T.ends (t.T.nodes.flatMap nodeI ++ t.T.acts.flatMap actI) x bs v8 d2 L8 w8 (.int .i64 ((k : Int) + 1)) w2 from ⟨k + 1, by omega, by go_num, by
                rw [HTK.out, ← List.append_assoc, hXS]
                exact WRel.then k1 o1 hh⟩)
              obtain ⟨M, hM⟩ : ∃ M, L8 ++ numsB XS = M := ⟨_, rfl⟩
              obtain ⟨wd, hwd⟩ : ∃ wd, (d2 || wideB XS) = wd := ⟨_, rfl⟩
              rw [hM, hwd] at s1 HTHEN
              rw [hM] at hml
              have hL3 : M.length + 4 * (termsI nd).length ≤ 1099511627776 := by have hrl := HRL.out; have hl8 := HL8L.out; have hx0 := HX0e.out; omega
              have HC7 := Lib.hid (wterms_any x bs v1 wd M A5 c5 nd w0 wo s1 hri hlow hx hbs hL3)
              unfold maxLen at hm5
              rw [hA5]
              clear hA5 hnd hri hkw hlow hfk hXL hXS hml hM hwd s1 k1 o1 hL3 hno cC
              go_wp2_with (fail)
              refine HC7.out.mono ?_
              rintro e w7 ⟨rfl, hr7⟩
              have HR7 := Lib.hid (HTHEN.out w7 hr7)
              clear hr7
              go_wp2_with (fail)
              go_roundw
              case rel => exact HR7.out
              case measure => simp [intOf]; omega
            · have hrel : WRel x bs v8 d2 L8 t.T.restI w8 wo := by
                rw [List.take_of_length_le (by omega), List.append_assoc] at hrel
                exact hrel
              have HF := Lib.hid (show WTab x bs v wide L t.T w (.returned (.tuple #[])) wo from by
                obtain ⟨v1, s1, k1, o1⟩ := hrel
                refine ⟨rfl, v1, ?_, (KeepW.below (x := x) (v := v) HB1.out).trans (HK8.out.trans k1 HO8.out) (OwnN.refl _ _), fun g e => ?_⟩
                · rw [HIH.out, ← Bool.or_assoc, HD2.out, ← List.append_assoc, HL2.out, ← List.append_assoc, HL8.out]
                  exact s1
                · rcases (HO8.out.trans o1 HK8.out.size) g e with q | q
                  · exact .inl q
                  · exact .inr (by omega))
              clear hrel cC
              go_wp2_with (fail)
              go_end0
              exact HF.out
end Go.Proofs.Ytboaifdkoemnbaa.Pk
