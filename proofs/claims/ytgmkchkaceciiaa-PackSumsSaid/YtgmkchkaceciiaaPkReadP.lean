/- The walk of (*pack.reader).parts. -/
import Derived.Test.YtgmkchkaceciiaaPkReadN
import Derived.Test.YtgmkchkaceciiaaPkFar
namespace Go.Proofs.Ytgmkchkaceciiaa.Pk
set_option maxRecDepth 100000
open Go Go.RowKit Go.Proofs.Ytgmkchkaceciiaa.Sp Go.Proofs.Ytgmkchkaceciiaa.Pa Go.Proofs.Ytgmkchkaceciiaa.Te Go.Proofs.Ytgmkchkaceciiaa.Mi Go.Proofs.Ytgmkchkaceciiaa.De Go.Proofs.Ytgmkchkaceciiaa.Wo

theorem rdMany_snoc {α : Type} (f : Rd → α × Rd) : ∀ (k : Nat) (s : Rd), rdMany f (k + 1) s = ((rdMany f k s).1 ++ [(f (rdMany f k s).2).1], (f (rdMany f k s).2).2)
  | 0, s => rfl
  | k + 1, s => by
    show ((f s).1 :: (rdMany f (k + 1) (f s).2).1, (rdMany f (k + 1) (f s).2).2) = _
    rw [rdMany_snoc f k (f s).2]
    rfl
theorem KeepR.grown {x : Nat} {w ws w7 : World} {row : Option Nat} (h : KeepR x w ws) (hg : ws.grownBy w7 row) (hr : ∀ g, row = some g → w.heap.size ≤ g) : KeepR x w w7 :=
  ⟨hg.os.trans h.os, hg.tape.trans h.tape, hg.output.trans h.output, Nat.le_trans h.size hg.size, fun b hb hx => (hg.block b (Nat.lt_of_lt_of_le hb h.size) (fun e => by have := hr b e.symm; omega)).trans (h.block b hb hx)⟩
theorem RdS.grown {x B0 : Nat} {s : Rd} {w w' : World} {row : Option Nat} (h : RdS x B0 s w) (hg : w.grownBy w' row) (hr : ∀ g, row = some g → x < g) : RdS x B0 s w' := by
  obtain ⟨A, c, h1, h2, h3⟩ := h.box
  have hlt := h.lt
  have hlow := h.low
  have hk : ∀ b, b ≤ x → w'.heap[b]? = w.heap[b]? := fun b hb => hg.block b (by omega) (fun e => by have := hr b e.symm; omega)
  exact ⟨⟨A, c, (hk x (Nat.le_refl _)).trans h1, h2.keep fun p hp => World.cell?_of_block (hk p.block (by omega)), h3⟩, h.low, h.byte⟩
theorem KeepR.q {x : Nat} {w w' : World} (h : KeepR x w w') {p : Nat → Prop} (hp : ∀ b, p b → b ≠ x) : KeepQ p w w' := ⟨h.size, fun b hb hlt => h.block b hlt (hp b hb)⟩
/-- What is read lies in new memory. -/
def ReadR {α : Type} (e : Enc α) (x B0 : Nat) (r : List α × Rd) (w : World) (en : Ending) (w' : World) : Prop := ∃ A c, en = .returned (.slice A r.1.length c) ∧ FarE e (fun b => w.heap.size ≤ b) w' A r.1 ∧ r.1.length ≤ c ∧ RdS x B0 r.2 w' ∧ KeepR x w w'
/-- The loop of a reader of lists: k elements were read. -/
def RlRel {α : Type} (e : Enc α) (f : Rd → α × Rd) (n x B0 : Nat) (s : Rd) (w : World) (v iv : Value) (wr : World) : Prop := ∃ k : Nat, k ≤ n ∧ iv = .int .i64 k ∧ RowE e w.heap.size wr v (rdMany f k s).1 ∧ RdS x B0 (rdMany f k s).2 wr ∧ KeepR x w wr
theorem rd_left_le (s : Rd) : (rdNum s).2.left.length ≤ s.left.length := by
  unfold rdNum
  rcases s with ⟨l, wr⟩
  match l with
  | [] => exact Nat.le_refl _
  | [_] => exact Nat.le_refl _
  | [_, _] => exact Nat.le_refl _
  | [_, _, _] => exact Nat.le_refl _
  | _ :: _ :: _ :: _ :: l => simp only [rdN, List.length_cons]; omega
theorem rdCount_left (m : Nat) (s : Rd) : (rdCount m s).2.left.length ≤ s.left.length := by
  unfold rdCount
  split
  · exact rd_left_le s
  · exact rd_left_le s
set_option maxHeartbeats 8000000 in
theorem rparts_any (x B0 : Nat) (s : Rd) (w : World) (h : RdS x B0 s w) (hl : s.left.length ≤ 1099511627776) :
    Calls Try.prog 106 #[.pointer (some ⟨x, 0, none⟩)] w (ReadR ePart x B0 (rdParts s) w) := by
  obtain ⟨A, c, hb, hr, hc⟩ := h.box
  have c0 : w.cell? ⟨x, 0, none⟩ = some (.slice A s.left.length c) := by rw [cell_of_row w x 0 _ _ _ hb]; rfl
  have hxl := h.lt
  have e16 : ((s.left.length / 16 : Nat) : Int) = (s.left.length : Int) / 16 := by omega
  have hcc := rcount_any x B0 (s.left.length / 16) s w h
  rw [e16] at hcc
  have HC := Lib.hid hcc
  have hle := rdCount_le (s.left.length / 16) s
  obtain ⟨n, hn⟩ : ∃ n, (rdCount (s.left.length / 16) s).1 = n := ⟨_, rfl⟩
  obtain ⟨s1, hs1⟩ : ∃ s1, (rdCount (s.left.length / 16) s).2 = s1 := ⟨_, rfl⟩
  have HR := Lib.hid (show rdParts s = rdMany rdPart n s1 from by unfold rdParts rdList; simp only [hn, hs1])
  have HN := Lib.hid hn
  have HS1 := Lib.hid hs1
  rw [hn] at hle
  have hnb : n ≤ 1099511627775 := by omega
  clear h hb hr hn hs1 hcc e16 hle
  go_enter Try.func106, Try.ntmps106
  go_wp2_with (fail)
  refine HC.out.mono ?_
  rintro e w1 ⟨rfl, hr1, hk1⟩
  rw [HS1.out] at hr1
  rw [HN.out]
  have HR1 := Lib.hid hr1
  have HK1 := Lib.hid hk1
  clear hr1 hk1
  go_wp2_with (fail)
  go_loopw [3, 12] (fun v iv wr => RlRel ePart rdPart n x B0 s1 w v iv wr) (fun _ i _ => n - (intOf i).toNat)
  case atStart => exact ⟨0, Nat.zero_le _, rfl, RowE.nil_ _ _, HR1.out, HK1.out⟩
  case round =>
    obtain ⟨k, hk, rfl, hrow, hs, hkr⟩ := hrel
    obtain ⟨Av, cv, hv⟩ := hrow.shape
    subst hv
    by_cases hlt : k < n
    · obtain ⟨sk, hsk⟩ : ∃ sk, (rdMany rdPart k s1).2 = sk := ⟨_, rfl⟩
      have HNX := Lib.hid (rdMany_snoc rdPart k s1)
      have hlen := rdMany_length rdPart k s1
      obtain ⟨lk, hlk⟩ : ∃ lk, (rdMany rdPart k s1).1 = lk := ⟨_, rfl⟩
      rw [hsk] at hs
      rw [hlk] at hrow hlen
      have HSK := Lib.hid hsk
      have HLK := Lib.hid hlk
      have HROW := Lib.hid hrow
      have HKR := Lib.hid hkr
      have hzw := hkr.size
      have C1 := Lib.hid (rnumber_any x B0 sk wr hs)
      have HLEN := Lib.hid hlen
      rw [hlk]
      clear hlen hsk hlk hrow hkr hs
      go_wp2_with (fail)
      refine C1.out.mono ?_
      rintro e w2 ⟨rfl, hs2, hk2⟩
      have C2 := Lib.hid (rnumber_any x B0 _ w2 hs2)
      have HQ2 := Lib.hid hk2
      clear hs2 hk2
      go_wp2_with (fail)
      refine C2.out.mono ?_
      rintro e w3 ⟨rfl, hs3, hk3⟩
      have C3 := Lib.hid (rnumber_any x B0 _ w3 hs3)
      have HQ3 := Lib.hid (HQ2.out.trans hk3)
      clear hs3 hk3
      go_wp2_with (fail)
      refine C3.out.mono ?_
      rintro e w4 ⟨rfl, hs4, hk4⟩
      have C4 := Lib.hid (rnumber_any x B0 _ w4 hs4)
      have HQ4 := Lib.hid (HQ3.out.trans hk4)
      clear hs4 hk4
      go_wp2_with (fail)
      refine C4.out.mono ?_
      rintro e w5 ⟨rfl, hs5, hk5⟩
      have HQ5 := Lib.hid (HQ4.out.trans hk5)
      obtain ⟨pt, hpt⟩ : ∃ pt, (rdPart sk).1 = pt := ⟨_, rfl⟩
      have hp0 : (rdNum sk).1 = pt.1 := by rw [← hpt]; rfl
      have hp1 : (rdNum (rdNum sk).2).1 = pt.2.1 := by rw [← hpt]; rfl
      have hp2 : (rdNum (rdNum (rdNum sk).2).2).1 = pt.2.2.1 := by rw [← hpt]; rfl
      have hp3 : (rdNum (rdNum (rdNum (rdNum sk).2).2).2).1 = pt.2.2.2 := by rw [← hpt]; rfl
      have HS5 := Lib.hid (show RdS x B0 (rdPart sk).2 w5 from hs5)
      rw [hp0, hp1, hp2, hp3]
      have HPT := Lib.hid hpt
      obtain ⟨ws, hws⟩ : ∃ ws, w5.alloc (.cells #[.int .i64 pt.1, .int .i64 pt.2.1, .int .i64 pt.2.2.1, .int .i64 pt.2.2.2] 120) = ws := ⟨_, rfl⟩
      have hbs : Below w5.heap.size w5 ws := by rw [← hws]; exact (Below.refl _ _).alloc (Nat.le_refl _) _
      have HNS := Lib.hid (show ws.heap[w5.heap.size]? = some (.cells #[.int .i64 pt.1, .int .i64 pt.2.1, .int .i64 pt.2.2.1, .int .i64 pt.2.2.2] 120 (0, 0)) from by rw [← hws]; exact heap_alloc_new w5 _)
      have HKS := Lib.hid (HQ5.out.trans (KeepR.below hbs))
      have HRS := Lib.hid (HROW.out.keep (HKS.out.q (p := fun b => w.heap.size ≤ b) (fun b hb => by omega)))
      have HSS := Lib.hid (HS5.out.keep hbs)
      have hzs : w.heap.size ≤ ws.heap.size := Nat.le_trans hzw HKS.out.size
      clear hs5 hk5 hp0 hp1 hp2 hp3 hpt hbs
      go_wp2_with (at_builtin; refine wpList_append_E (e := ePart) rfl _ _ rfl rfl HRS.out ⟨w5.heap.size, 0, none⟩ 1 (y := pt) (cs := [.int .i64 pt.1, .int .i64 pt.2.1, .int .i64 pt.2.2.1, .int .i64 pt.2.2.2]) rfl rfl (World.news_of_block HNS.out) (by have := HLEN.out; omega) hzs ?_; intro v7 w7 hrow7 hg7 hon7; have HREL := Lib.hid (show RlRel ePart rdPart n x B0 s1 w v7 (.int .i64 ((k : Int) + 1)) w7 from ⟨k + 1, by omega, by go_num, by rw [HNX.out, HSK.out, HLK.out, HPT.out]; exact hrow7, by rw [HNX.out, HSK.out]; exact HSS.out.grown hg7 (fun g e => by have := (HRS.out.lt g e).1; omega), (HKR.out.trans HKS.out).grown hg7 (fun g e => (HRS.out.lt g e).1)⟩); obtain ⟨A7, c7, hv7⟩ := hrow7.shape; subst hv7; clear hrow7 hg7 hon7)
      go_roundw
      case rel => exact (by have h9 := HREL.out; rw [List.length_append, List.length_singleton] at h9; exact h9)
      case measure => simp [intOf]; omega
    · have HF := Lib.hid (show ReadR ePart x B0 (rdParts s) w (.returned (.slice Av (rdMany rdPart k s1).1.length cv)) wr from by
        obtain rfl : k = n := by omega
        rw [HR.out]
        obtain ⟨A', c', e, hf, hcc⟩ := hrow.far
        injection e with e1 _ e3
        subst e1 e3
        exact ⟨Av, cv, rfl, hf, hcc, hs, hkr⟩)
      clear hrow hs hkr
      go_wp2_with (fail)
      go_ret
      exact HF.out
end Go.Proofs.Ytgmkchkaceciiaa.Pk
