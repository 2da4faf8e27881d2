/- The walks of (*pack.reader).bytes, number and count. -/
import Derived.Test.YtboaifdkoemnbaaJ7
import Derived.Test.YtboaifdkoemnbaaJ8
import Derived.Test.YtboaifdkoemnbaaJ9
namespace Go.Proofs.Ytboaifdkoemnbaa.Pk
set_option maxRecDepth 100000
open Go Go.RowKit Go.Proofs.Ytboaifdkoemnbaa.Sp Go.Proofs.Ytboaifdkoemnbaa.Pa Go.Proofs.Ytboaifdkoemnbaa.Te Go.Proofs.Ytboaifdkoemnbaa.Mi Go.Proofs.Ytboaifdkoemnbaa.De Go.Proofs.Ytboaifdkoemnbaa.Wo

/-- A reader: its box lies in block x, what is left to be read below B0. -/
structure RdS (x B0 : Nat) (s : Rd) (w : World) : Prop where
  box : ∃ A c, w.heap[x]? = some (.cells #[.slice A s.left.length c, .bool s.wrong] 62 (0, 0)) ∧ RY w B0 A s.left.length (byI s.left) ∧ s.left.length ≤ c
  low : B0 ≤ x
  byte : ∀ y ∈ s.left, y < 256
/-- Only the reader's box is written to. -/
structure KeepR (x : Nat) (w w' : World) : Prop where
  os : w'.os = w.os
  tape : w'.tape = w.tape
  output : w'.output = w.output
  size : w.heap.size ≤ w'.heap.size
  block : ∀ b, b < w.heap.size → b ≠ x → w'.heap[b]? = w.heap[b]?
section
variable {x B0 : Nat} {s : Rd} {w w1 w2 : World}
theorem KeepR.refl (x : Nat) (w : World) : KeepR x w w := ⟨rfl, rfl, rfl, Nat.le_refl _, fun _ _ _ => rfl⟩
theorem KeepR.trans (h : KeepR x w w1) (k : KeepR x w1 w2) : KeepR x w w2 := ⟨k.os.trans h.os, k.tape.trans h.tape, k.output.trans h.output, Nat.le_trans h.size k.size, fun b hb hx => (k.block b (Nat.lt_of_lt_of_le hb h.size) hx).trans (h.block b hb hx)⟩
theorem KeepR.below (hb : Below w.heap.size w w1) : KeepR x w w1 := ⟨hb.os, hb.tape, hb.output, hb.size, fun b h _ => hb.block b h⟩
theorem KeepR.low (h : KeepR x w w1) (hx : x < w.heap.size) : Below x w w1 := ⟨h.os, h.tape, h.output, h.size, fun b hb => h.block b (by omega) (by omega)⟩
theorem KeepR.set (w : World) (x j : Nat) (v : Value) : KeepR x w (w.setCell ⟨x, j, none⟩ v) := ⟨rfl, rfl, rfl, by simp, fun b _ hb => Below.heap_setCell w _ _ b hb⟩
theorem RdS.lt (h : RdS x B0 s w) : x < w.heap.size := by
  obtain ⟨A, c, hb, _⟩ := h.box
  exact (Array.getElem?_eq_some_iff.1 hb).1
theorem RdS.keep (h : RdS x B0 s w) (hb : Below w.heap.size w w1) : RdS x B0 s w1 := by
  obtain ⟨A, c, h1, h2, h3⟩ := h.box
  exact ⟨⟨A, c, (hb.block x h.lt).trans h1, h2.keep fun p hp => hb.cell (by have := h.low; have := h.lt; omega), h3⟩, h.low, h.byte⟩
end
/-- n bytes were cut off the left of a list that is read. -/
theorem ry_drop {w : World} {B : Nat} {A : Option Addr} {n : Nat} {l : List Int} (h : RY w B A n l) {k cap : Nat} (hk : k ≤ n) (hc : n ≤ cap) : RY w B (if cap = k then A else A.map (·.add k)) (n - k) (l.drop k) := by
  refine ⟨by rw [List.length_drop, h.1], fun hn => ?_⟩
  obtain ⟨b, off, rfl, hb, hcell⟩ := h.2 (by omega)
  rw [if_neg (by omega)]
  refine ⟨b, off + k, by simp only [Option.map_some, Go.WideShapes.add_plain], hb, fun j hj => ?_⟩
  have hl : k + j < l.length := by rw [List.length_drop] at hj; omega
  rw [List.getElem_drop, show off + k + j = off + (k + j) from by omega]
  exact hcell (k + j) hl
theorem ry_take {w : World} {B : Nat} {A : Option Addr} {n : Nat} {l : List Int} (h : RY w B A n l) {k : Nat} (hk : k ≤ n) : RY w B A k (l.take k) := by
  refine ⟨by rw [List.length_take, h.1]; omega, fun hn => ?_⟩
  obtain ⟨b, off, rfl, hb, hcell⟩ := h.2 (by omega)
  refine ⟨b, off, rfl, hb, fun j hj => ?_⟩
  have hl : j < l.length := by rw [List.length_take] at hj; omega
  rw [List.getElem_take]
  exact hcell j hl
theorem byI_drop (l : List Nat) (k : Nat) : (byI l).drop k = byI (l.drop k) := by unfold byI; rw [List.map_drop]
theorem byI_take (l : List Nat) (k : Nat) : (byI l).take k = byI (l.take k) := by unfold byI; rw [List.map_take]
def BytesR (x B0 n : Nat) (s : Rd) (w : World) (e : Ending) (w' : World) : Prop := ∃ A c, e = .returned (.slice A (rdBytes n s).1.length c) ∧ RY w' B0 A (rdBytes n s).1.length (byI (rdBytes n s).1) ∧ RdS x B0 (rdBytes n s).2 w' ∧ KeepR x w w'
set_option maxHeartbeats 4000000 in
theorem rbytes_any (x B0 n : Nat) (s : Rd) (w : World) (h : RdS x B0 s w) (hn : n ≤ 1099511627776) :
    Calls Try.prog 38 #[.pointer (some ⟨x, 0, none⟩), .int .i64 (n : Int)] w (BytesR x B0 n s w) := by
  obtain ⟨A, c, hb, hr, hc⟩ := h.box
  have c0 : w.cell? ⟨x, 0, none⟩ = some (.slice A s.left.length c) := by rw [cell_of_row w x 0 _ _ _ hb]; rfl
  have c1 : w.cell? ⟨x, 1, none⟩ = some (.bool s.wrong) := by rw [cell_of_row w x 1 _ _ _ hb]; rfl
  have f0 : w.frozen? ⟨x, 0, none⟩ = false := by simp [World.frozen?, hb]
  have f1 : w.frozen? ⟨x, 1, none⟩ = false := by simp [World.frozen?, hb]
  have hlow := h.low
  have hset : ∀ (v u : Value) (j : Nat), (w.setCell ⟨x, j, none⟩ u).heap[x]? = some (.cells (#[.slice A s.left.length c, .bool s.wrong].setIfInBounds j u) 62 (0, 0)) := fun v u j => setCell_block w x j u _ _ hb
  have hcell : ∀ (u : Value) (j : Nat) (p : Addr), p.block < B0 → (w.setCell ⟨x, j, none⟩ u).cell? p = w.cell? p := fun u j p hp => World.cell?_of_block (Below.heap_setCell w _ _ _ (by simp only; omega))
  by_cases hlt : n ≤ s.left.length
  · have e1 : rdBytes n s = (s.left.take n, ⟨s.left.drop n, s.wrong⟩) := by unfold rdBytes; rw [if_pos hlt]
    have HL := Lib.hid (List.length_take_of_le hlt)
    have HR1 := Lib.hid (ry_take hr hlt)
    have HR2 := Lib.hid (ry_drop hr hlt hc)
    have HBY := Lib.hid h.byte
    have HE := Lib.hid e1
    by_cases hcn : c = n
    · subst hcn
      have hs0 : s.left.length - c = 0 := by omega
      have HFIN := Lib.hid (show BytesR x B0 c s w (.returned (.slice A c c)) (w.setCell ⟨x, 0, none⟩ (.slice A (s.left.length - c) 0)) from by
        unfold BytesR
        rw [HE.out]
        simp only [HL.out]
        refine ⟨A, c, rfl, by rw [← byI_take]; exact HR1.out.keep (hcell _ 0), ⟨⟨A, 0, ?_, ?_, ?_⟩, hlow, fun y hy => HBY.out y (List.mem_of_mem_drop hy)⟩, KeepR.set w x 0 _⟩
        · rw [hset (.slice A (s.left.length - c) 0)]
          simp only [List.length_drop]
          rfl
        · have := HR2.out
          rw [if_pos rfl, byI_drop] at this
          simp only [List.length_drop]
          exact this.keep (hcell _ 0)
        · simp only [List.length_drop]; omega)
      clear hr hset hcell e1 hb h
      go_enter Try.func38, Try.ntmps38
      rw [hs0] at HFIN
      go_wp2_with (fail)
      go_ret
      exact HFIN.out
    · have HFIN := Lib.hid (show BytesR x B0 n s w (.returned (.slice A n c)) (w.setCell ⟨x, 0, none⟩ (.slice (A.map (·.add n)) (s.left.length - n) (c - n))) from by
        unfold BytesR
        rw [HE.out]
        simp only [HL.out]
        refine ⟨A, c, rfl, by rw [← byI_take]; exact HR1.out.keep (hcell _ 0), ⟨⟨A.map (·.add n), c - n, ?_, ?_, ?_⟩, hlow, fun y hy => HBY.out y (List.mem_of_mem_drop hy)⟩, KeepR.set w x 0 _⟩
        · rw [hset (.slice A (s.left.length - n) 0)]
          simp only [List.length_drop]
          rfl
        · have := HR2.out
          rw [if_neg hcn, byI_drop] at this
          simp only [List.length_drop]
          exact this.keep (hcell _ 0)
        · simp only [List.length_drop]; omega)
      clear hr hset hcell e1 hb h
      go_enter Try.func38, Try.ntmps38
      go_wp2_with (fail)
      go_ret
      exact HFIN.out
  · have e1 : rdBytes n s = ([], ⟨s.left, true⟩) := by unfold rdBytes; rw [if_neg hlt]
    have HE := Lib.hid e1
    have HFIN := Lib.hid (show BytesR x B0 n s w (.returned (.slice none 0 0)) (w.setCell ⟨x, 1, none⟩ (.bool true)) from by
      unfold BytesR
      rw [HE.out]
      refine ⟨none, 0, rfl, ⟨rfl, fun q => absurd q (by simp)⟩, ⟨⟨A, c, ?_, hr.keep (hcell _ 1), hc⟩, hlow, h.byte⟩, KeepR.set w x 1 _⟩
      rw [hset (.bool true)]
      rfl)
    clear hr hset hcell e1 hb h
    go_enter Try.func38, Try.ntmps38
    go_wp2_with (fail)
    go_ret
    exact HFIN.out
/-- The number of the first k of some bytes. -/
def accL (l : List Nat) : Nat := l.foldl (fun a b => a * 256 + b) 0
theorem accL_snoc (l : List Nat) (b : Nat) : accL (l ++ [b]) = accL l * 256 + b := by unfold accL; rw [List.foldl_append]; rfl
theorem acc_lt : ∀ (l : List Nat) (a : Nat), (∀ b ∈ l, b < 256) → l.foldl (fun a b => a * 256 + b) a < (a + 1) * 256 ^ l.length
  | [], a, _ => by simp
  | b :: l, a, h => by
    rw [List.foldl_cons]
    refine Nat.lt_of_lt_of_le (acc_lt l (a * 256 + b) fun c hc => h c (List.mem_cons_of_mem _ hc)) ?_
    rw [List.length_cons, Nat.pow_succ, Nat.mul_comm (256 ^ l.length) 256, ← Nat.mul_assoc]
    exact Nat.mul_le_mul_right _ (by have := h b List.mem_cons_self; omega)
theorem accL_lt (l : List Nat) (h : ∀ b ∈ l, b < 256) : accL l < 256 ^ l.length := by
  have := acc_lt l 0 h
  rwa [Nat.zero_add, Nat.one_mul] at this
theorem or_byte (a b : Nat) (ha : a < 16777216) (hb : b < 256) : Go.bits .or .u32 ((a : Int) * 256) (b : Int) = ((a * 256 + b : Nat) : Int) := by
  have hk : ∀ n : Int, 0 ≤ n → n < 2 ^ 32 → IntKind.u32.wrap n = n := fun n h0 h1 => by rw [IntKind.wrap_u32]; omega
  rw [bits_join .u32 32 (by decide) hk 8 ((a : Int) * 256) (b : Int) (by omega) (by omega) (by omega) (by omega) (by omega) (by omega)]
  omega
def NumR (x B0 : Nat) (s : Rd) (w : World) (e : Ending) (w' : World) : Prop := e = .returned (.int .i64 (rdNum s).1) ∧ RdS x B0 (rdNum s).2 w' ∧ KeepR x w w'
theorem rdNum_bytes (s : Rd) : (rdNum s).1 = sgn (accL (rdBytes 4 s).1) ∧ (rdNum s).2 = (rdBytes 4 s).2 ∧ ((rdBytes 4 s).1.length = 0 ∨ (rdBytes 4 s).1.length = 4) := by
  unfold rdNum rdBytes
  rcases hl : s.left with _ | ⟨a, _ | ⟨b, _ | ⟨c, _ | ⟨d, l⟩⟩⟩⟩
  · exact ⟨rfl, rfl, .inl rfl⟩
  · exact ⟨rfl, rfl, .inl rfl⟩
  · exact ⟨rfl, rfl, .inl rfl⟩
  · exact ⟨rfl, rfl, .inl rfl⟩
  · rw [if_pos (by simp)]
    refine ⟨?_, rfl, .inr rfl⟩
    show sgn (val4 a b c d) = sgn (accL [a, b, c, d])
    unfold val4 accL
    simp
def NrRel (l : List Nat) (bv iv : Value) : Prop := ∃ k : Nat, k ≤ l.length ∧ iv = .int .i64 k ∧ bv = .int .u32 ((accL (l.take k) : Nat) : Int)
set_option maxHeartbeats 4000000 in
theorem rnumber_any (x B0 : Nat) (s : Rd) (w : World) (h : RdS x B0 s w) :
    Calls Try.prog 26 #[.pointer (some ⟨x, 0, none⟩)] w (NumR x B0 s w) := by
  have HC := Lib.hid (rbytes_any x B0 4 s w h (by omega))
  have HN := Lib.hid (rdNum_bytes s)
  have HBY := Lib.hid h.byte
  clear h
  go_enter Try.func26, Try.ntmps26
  go_wp2_with (fail)
  refine HC.out.mono ?_
  rintro e w1 ⟨A, c, rfl, hr, hs1, hk1⟩
  obtain ⟨l, hls⟩ : ∃ l, (rdBytes 4 s).1 = l := ⟨_, rfl⟩
  have hbl : ∀ b ∈ l, b < 256 := by
    rw [← hls]
    unfold rdBytes
    split
    · exact fun b hb => HBY.out b (List.mem_of_mem_take hb)
    · exact fun b hb => (List.not_mem_nil hb).elim
  have h4 : l.length ≤ 4 := by rcases HN.out.2.2 with q | q <;> (rw [hls] at q; omega)
  have HFIN := Lib.hid (show NumR x B0 s w (.returned (.int .i64 (sgn (accL l)))) w1 from ⟨by rw [HN.out.1, hls], by rw [HN.out.2.1]; exact hs1, hk1⟩)
  have hal : accL l < 4294967296 := Nat.lt_of_lt_of_le (accL_lt l hbl) (Nat.pow_le_pow_right (by decide) h4)
  have HSG := Lib.hid (signed_any (accL l) hal w1)
  have HAK := Lib.hid (fun k (hk : k < l.length) => show accL (l.take k) < 16777216 from Nat.lt_of_lt_of_le (accL_lt _ (fun b hb => hbl b (List.mem_of_mem_take hb))) (by rw [List.length_take]; exact Nat.pow_le_pow_right (by decide) (show min k l.length ≤ 3 by omega)))
  have HBL := Lib.hid hbl
  rw [hls] at hr ⊢
  have HR := Lib.hid hr
  clear hls hr hs1 hk1 hbl hal
  go_wp2_with (fail)
  go_loop [3, 9] (fun bv iv => NrRel l bv iv) (fun _ i => l.length - (intOf i).toNat)
  case atStart => exact ⟨0, Nat.zero_le _, rfl, rfl⟩
  case round =>
    obtain ⟨k, hk, rfl, rfl⟩ := hrel
    by_cases hlt : k < l.length
    · obtain ⟨b, off, y0, rfl, hbB, hx, hc⟩ := HR.out.at_ (k := k) hlt
      obtain ⟨y, hy⟩ : ∃ y, l[k] = y := ⟨_, rfl⟩
      have hyb : y < 256 := by rw [← hy]; exact HBL.out _ (List.getElem_mem hlt)
      obtain rfl := byI_at hx hlt hy
      have ha := HAK.out k hlt
      have hnx : accL (l.take (k + 1)) = accL (l.take k) * 256 + y := by rw [List.take_succ_eq_append_getElem hlt, accL_snoc, hy]
      obtain ⟨a, haq⟩ : ∃ a, accL (l.take k) = a := ⟨_, rfl⟩
      rw [haq] at ha hnx ⊢
      have HNX := Lib.hid (show Go.bits .or .u32 ((a : Int) * 256) (y : Int) = ((accL (l.take (k + 1)) : Nat) : Int) by rw [hnx]; exact or_byte a y ha hyb)
      clear hx hy hnx haq
      go_wp2_with (fail)
      go_round
      case rel => exact ⟨k + 1, by omega, by go_num, by rw [← HNX.out]⟩
      case measure => simp [intOf]; omega
    · have HT := Lib.hid (show l.take k = l from List.take_of_length_le (by omega))
      rw [HT.out]
      clear HT
      go_wp2_with (fail)
      refine HSG.out.mono ?_
      rintro e w2 ⟨rfl, rfl⟩
      go_wp2_with (fail)
      go_ret
      exact HFIN.out
theorem RdS.wrong_ {x_ B0_ : Nat} {s_ : Rd} {w_ : World} (h : RdS x_ B0_ s_ w_) : RdS x_ B0_ ⟨s_.left, true⟩ (w_.setCell ⟨x_, 1, none⟩ (.bool true)) := by
  obtain ⟨A, c, hb, hr, hc⟩ := h.box
  refine ⟨⟨A, c, ?_, hr.keep fun p hp => World.cell?_of_block (Below.heap_setCell w_ _ _ _ (by have := h.low; simp only; omega)), hc⟩, h.low, h.byte⟩
  rw [setCell_block w_ x_ 1 _ _ _ hb]
  rfl
def CountR (x B0 most : Nat) (s : Rd) (w : World) (e : Ending) (w' : World) : Prop := e = .returned (.int .i64 ((rdCount most s).1 : Nat)) ∧ RdS x B0 (rdCount most s).2 w' ∧ KeepR x w w'
set_option maxHeartbeats 4000000 in
theorem rcount_any (x B0 most : Nat) (s : Rd) (w : World) (h : RdS x B0 s w) :
    Calls Try.prog 39 #[.pointer (some ⟨x, 0, none⟩), .int .i64 (most : Int)] w (CountR x B0 most s w) := by
  have HC := Lib.hid (rnumber_any x B0 s w h)
  obtain ⟨n, hn⟩ : ∃ n, (rdNum s).1 = n := ⟨_, rfl⟩
  have HN := Lib.hid hn
  clear h
  by_cases h0 : n < 0
  · have HE := Lib.hid (show rdCount most s = (0, ⟨(rdNum s).2.left, true⟩) by unfold rdCount; rw [hn, if_pos (.inl h0)])
    clear hn
    go_enter Try.func39, Try.ntmps39
    go_wp2_with (fail)
    refine HC.out.mono ?_
    rintro e w1 ⟨rfl, hs1, hk1⟩
    rw [HN.out]
    obtain ⟨A, c, hb, _⟩ := hs1.box
    have c1 : w1.cell? ⟨x, 1, none⟩ = some (.bool (rdNum s).2.wrong) := by rw [cell_of_row w1 x 1 _ _ _ hb]; rfl
    have f1 : w1.frozen? ⟨x, 1, none⟩ = false := by simp [World.frozen?, hb]
    have HFIN := Lib.hid (show CountR x B0 most s w (.returned (.int .i64 0)) (w1.setCell ⟨x, 1, none⟩ (.bool true)) from ⟨by rw [HE.out]; rfl, by rw [HE.out]; exact hs1.wrong_, hk1.trans (KeepR.set w1 x 1 _)⟩)
    clear hb hs1 hk1
    go_wp2_with (fail)
    go_ret
    exact HFIN.out
  by_cases h1 : n ≤ most
  · have HE := Lib.hid (show rdCount most s = (n.toNat, (rdNum s).2) by unfold rdCount; rw [hn, if_neg (by omega)])
    clear hn
    go_enter Try.func39, Try.ntmps39
    go_wp2_with (fail)
    refine HC.out.mono ?_
    rintro e w1 ⟨rfl, hs1, hk1⟩
    rw [HN.out]
    have HFIN := Lib.hid (show CountR x B0 most s w (.returned (.int .i64 n)) w1 from ⟨by rw [HE.out]; simp only; congr 2; omega, by rw [HE.out]; exact hs1, hk1⟩)
    clear hs1 hk1
    go_wp2_with (fail)
    go_ret
    exact HFIN.out
  · have HE := Lib.hid (show rdCount most s = (0, ⟨(rdNum s).2.left, true⟩) by unfold rdCount; rw [hn, if_pos (.inr (by omega))])
    clear hn
    go_enter Try.func39, Try.ntmps39
    go_wp2_with (fail)
    refine HC.out.mono ?_
    rintro e w1 ⟨rfl, hs1, hk1⟩
    rw [HN.out]
    obtain ⟨A, c, hb, _⟩ := hs1.box
    have c1 : w1.cell? ⟨x, 1, none⟩ = some (.bool (rdNum s).2.wrong) := by rw [cell_of_row w1 x 1 _ _ _ hb]; rfl
    have f1 : w1.frozen? ⟨x, 1, none⟩ = false := by simp [World.frozen?, hb]
    have HFIN := Lib.hid (show CountR x B0 most s w (.returned (.int .i64 0)) (w1.setCell ⟨x, 1, none⟩ (.bool true)) from ⟨by rw [HE.out]; rfl, by rw [HE.out]; exact hs1.wrong_, hk1.trans (KeepR.set w1 x 1 _)⟩)
    clear hb hs1 hk1
    go_wp2_with (fail)
    go_ret
    exact HFIN.out
end Go.Proofs.Ytboaifdkoemnbaa.Pk
