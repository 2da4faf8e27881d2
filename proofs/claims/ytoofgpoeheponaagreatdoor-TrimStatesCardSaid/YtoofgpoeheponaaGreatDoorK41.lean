import Derived.Test.YtoofgpoeheponaaGreatDoorK19
set_option maxRecDepth 100000
namespace Go.Proofs.YtoofgpoeheponaaGreatDoor.Tr
open Go Go.RowKit Sp Pa Te Mi De
def setM (m : Nat → Bool) (q : Nat) : Nat → Bool := fun x => x == q || m x
def unM (N : Nat) (m : Nat → Bool) : Nat := ((List.range N).filter fun q => !m q).length
theorem unM_le (N : Nat) (m : Nat → Bool) : unM N m ≤ N := by
 unfold unM
 have := List.length_filter_le (fun q => !m q) (List.range N)
 simpa using this
theorem unM_set {N q : Nat} {m : Nat → Bool} (hq : q < N) (h : m q = false) : unM N (setM m q) < unM N m := by
 have e1 : ((List.range N).filter fun x => !setM m q x) = ((List.range N).filter fun x => !m x).filter fun x => !(x == q) := by
  rw [List.filter_filter]
  refine List.filter_congr fun x _ => ?_
  unfold setM
  cases x == q <;> cases m x <;> rfl
 unfold unM
 rw [e1]
 refine Nat.lt_of_le_of_ne (List.length_filter_le _ _) fun e2 => ?_
 have := List.length_filter_eq_length_iff.1 e2 q (List.mem_filter.2 ⟨List.mem_range.2 hq, by simp [h]⟩)
 simp at this
theorem Marks.set_ {w : World} {S N q : Nat} {m : Nat → Bool} (h : Marks w S N m) : Marks (w.setCell ⟨S, q, none⟩ (.bool true)) S N (setM m q) := by
 have h1 := (World.ownsRow.stored h q (.bool true)).1
 unfold Marks
 rw [show boolV ((List.range N).map (setM m q)) = (boolV ((List.range N).map m)).set q (.bool true) from List.ext_getElem (by simp [boolV]) fun j h1 h2 => by
  simp only [boolV, List.getElem_map, List.getElem_range, List.getElem_set]
  unfold setM
  by_cases e : q = j
  ·subst e
   simp
  ·rw [if_neg e]
   have : (j == q) = false := by simpa using fun k => e k.symm
   rw [this]
   rfl]
 exact h1
theorem Marks.congr {w : World} {S N : Nat} {m f : Nat → Bool} (h : Marks w S N m) (he : ∀ q, q < N → m q = f q) : Marks w S N f := by
 unfold Marks at h ⊢
 rw [show ((List.range N).map f) = (List.range N).map m from List.map_congr_left fun q hq => (he q (List.mem_range.1 hq)).symm]
 exact h
theorem Marks.frozen {w : World} {S N : Nat} {m : Nat → Bool} (h : Marks w S N m) (q : Nat) : w.frozen? ⟨S, q, none⟩ = false := by
 have h' : w.ownsRow S 4 1 (.slice (some ⟨S, 0, none⟩) N N) N (boolV ((List.range N).map m)) := h
 rcases h'.2 with ⟨h0, _⟩ | ⟨g, cap, cur, h0, _, hb, _⟩
 ·cases h0
 ·simp only [Value.slice.injEq, Option.some.injEq, Addr.mk.injEq] at h0
  obtain ⟨⟨rfl, _⟩, _⟩ := h0
  simp [World.frozen?, hb]
theorem marks_done {E : List (Nat × Nat)} {F : List Nat} {N : Nat} {m : Nat → Bool} (h1 : ∀ q, q < N → m q = true → Reach E F q) (h2 : ∀ q ∈ F, m q = true) (h3 : ∀ e ∈ E, m e.1 = true → m e.2 = true) : ∀ q, q < N → m q = reachB E F q := fun q hq => by
 cases hm : m q with
 | true => exact (reachB_iff.2 (h1 q hq hm)).symm
 | false =>
  symm
  rw [Bool.eq_false_iff]
  intro h
  have key : ∀ q, Reach E F q → m q = true := fun q hr => by
   induction hr with
   | first hm => exact h2 _ hm
   | step he _ ih => exact h3 _ he ih
  rw [key q (reachB_iff.1 h)] at hm
  cases hm
def PassRel (S N : Nat) (E : List (Nat × Nat)) (F : List Nat) (w2 : World) (gk : Nat) (v : Value) (wr : World) : Prop :=
 ∃ (m : Nat → Bool) (more : Bool), v = .bool more ∧ Marks wr S N m ∧ (∀ q, q < N → m q = true → Reach E F q) ∧ (∀ q ∈ F, m q = true) ∧ (more = false → ∀ e ∈ E, m e.1 = true → m e.2 = true) ∧ Below S w2 wr ∧ 2 * unM N m + (if more = true then 1 else 0) ≤ gk
def EdgeRel (S N : Nat) (E : List (Nat × Nat)) (F : List Nat) (w2 : World) (m : Nat → Bool) (v iv : Value) (wr : World) : Prop :=
 ∃ (k : Nat) (m' : Nat → Bool) (more : Bool), v = .bool more ∧ iv = .int .i64 k ∧ k ≤ E.length ∧ Marks wr S N m' ∧ (∀ q, q < N → m' q = true → Reach E F q) ∧ (∀ q ∈ F, m' q = true) ∧ Below S w2 wr ∧ (more = false → m' = m ∧ ∀ e ∈ E.take k, m e.1 = true → m e.2 = true) ∧ (more = true → unM N m' < unM N m)
section
variable {S N : Nat} {E : List (Nat × Nat)} {F : List Nat} {w2 wr : World} {m m' : Nat → Bool} {more : Bool} {k : Nat}
theorem edge_skip (hk : k < E.length) (hM : Marks wr S N m') (h1 : ∀ q, q < N → m' q = true → Reach E F q) (h2 : ∀ q ∈ F, m' q = true) (hb : Below S w2 wr) (h3 : more = false → m' = m ∧ ∀ e ∈ E.take k, m e.1 = true → m e.2 = true) (h4 : more = true → unM N m' < unM N m) (hs : m' E[k].1 = true → m' E[k].2 = true) :
  EdgeRel S N E F w2 m (.bool more) (.int .i64 ((k + 1 : Nat) : Int)) wr :=
 ⟨k + 1, m', more, rfl, rfl, hk, hM, h1, h2, hb, fun hf => by
  obtain ⟨e, h5⟩ := h3 hf
  refine ⟨e, fun x hx => ?_⟩
  rw [List.take_succ_eq_append_getElem hk, List.mem_append, List.mem_singleton] at hx
  rcases hx with hx | rfl
  ·exact h5 x hx
  ·rw [← e]; exact hs, h4⟩
theorem unM_next {P : Prop} {q : Nat} (hq : q < N) (hs : m' q = false) (h3 : more = false → m' = m ∧ P) (h4 : more = true → unM N m' < unM N m) : unM N (setM m' q) < unM N m := by
 have h5 := unM_set hq hs
 cases hmo : more with
 | false => rw [(h3 hmo).1] at h5 ⊢; exact h5
 | true => exact Nat.lt_trans h5 (h4 hmo)
theorem edge_set (hk : k < E.length) (hM : Marks wr S N m') (h1 : ∀ q, q < N → m' q = true → Reach E F q) (h2 : ∀ q ∈ F, m' q = true) (hb : Below S w2 wr) (h3 : more = false → m' = m ∧ ∀ e ∈ E.take k, m e.1 = true → m e.2 = true) (h4 : more = true → unM N m' < unM N m) (hp : E[k].1 < N) (hq : E[k].2 < N) (hs1 : m' E[k].1 = true) (hs2 : m' E[k].2 = false) :
  EdgeRel S N E F w2 m (.bool true) (.int .i64 ((k + 1 : Nat) : Int)) (wr.setCell ⟨S, E[k].2, none⟩ (.bool true)) :=
 ⟨k + 1, setM m' E[k].2, true, rfl, rfl, hk, hM.set_, fun x hx hm => by
  unfold setM at hm
  rw [Bool.or_eq_true, beq_iff_eq] at hm
  rcases hm with rfl | hm
  ·exact .step (List.getElem_mem hk) (h1 _ hp hs1)
  ·exact h1 x hx hm, fun x hx => by unfold setM; rw [h2 x hx, Bool.or_true], hb.setCell (Nat.le_refl _) _, (fun h => by cases h), fun _ => unM_next hq hs2 h3 h4⟩
theorem pass_next {gk : Nat} {v : Value} (hrel : EdgeRel S N E F w2 m v (.int .i64 (E.length : Int)) wr) (hg : 2 * unM N m + 1 ≤ gk) : PassRel S N E F w2 (gk - 1) v wr := by
 obtain ⟨k, m', more, rfl, hk, _, hM, h1, h2, hb, h3, h4⟩ := hrel
 simp only [Value.int.injEq, true_and] at hk
 have hkE : k = E.length := by omega
 subst hkE
 rw [List.take_length] at h3
 refine ⟨m', more, rfl, hM, h1, h2, fun hf => by rw [(h3 hf).1]; exact (h3 hf).2, hb, ?_⟩
 cases more with
 | false => rw [(h3 rfl).1]; simp; omega
 | true => have := h4 rfl; simp; omega
end
open Go.Lib (hid)
def FinRel (S N : Nat) (rs : List RuL) (fs : List FiL) (w2 : World) (iv : Value) (wr : World) : Prop :=
 ∃ (k : Nat) (m : Nat → Bool), k ≤ fs.length ∧ iv = .int .i64 k ∧ Marks wr S N m ∧ (∀ q, q < N → m q = true → Reach (rs.map edgB) (fs.map fun f => f.frm.toNat) q) ∧ (∀ q ∈ (fs.take k).map (fun f => f.frm.toNat), m q = true) ∧ Below S w2 wr
set_option maxHeartbeats 8000000 in
theorem rcomes_any (N : Nat) (i o : Int) (sn : Nat) (A : Option Addr) (cr : Nat) (Bf : Option Addr) (cf : Nat) (rs : List RuL) (fs : List FiL) (w : World) (h : RRu w A rs.length rs) (hff : RFi w Bf fs.length fs) (hl : rs.length ≤ 4096) (_ : fs.length ≤ 4096) (hN : 1 ≤ N ∧ N ≤ 1024) (hsn : sn < N) (hst : ∀ j (hj : j < rs.length), stB N rs[j].frm = true ∧ stB N rs[j].to_ = true) (hsf : ∀ j (hj : j < fs.length), stB N fs[j].frm = true) :
  Calls Tryz.prog 18 #[dsc i o (N : Int) (sn : Int) A rs.length cr Bf fs.length cf] w (ToldOut (comesF rs sn) N w) := by
 obtain ⟨w1, hw1⟩ : ∃ w1, w.alloc (.cells #[.int .i64 i, .int .i64 o, .int .i64 (N : Int), .int .i64 (sn : Int), .slice A rs.length cr, .slice Bf fs.length cf] 26) = w1 := ⟨_, rfl⟩
 have hs1 : w1.heap.size = w.heap.size + 1 := by rw [← hw1]; simp
 have hb1 : Below w.heap.size w w1 := by rw [← hw1]; exact (Below.refl _ _).alloc (Nat.le_refl _) _
 have hd1 : DB w1 w.heap.size i o N sn A rs.length cr Bf fs.length cf := by rw [← hw1]; exact DB.boxed
 have HS1 := hid (show w.heap.size < w1.heap.size by omega)
 have HBW := hid (fun W (hb : Below w1.heap.size w1 W) => show Below w.heap.size w W from hb1.trans (hb.mono (Nat.le_of_lt HS1.out)))
 have HDB := hid (fun W (hb : Below w1.heap.size w1 W) => show DB W w.heap.size i o N sn A rs.length cr Bf fs.length cf from hd1.below HS1.out hb)
 have HR := hid (fun W (hb : Below w1.heap.size w1 W) => show RRu W A rs.length rs from h.belowM (HBW.out W hb))
 have HFI := hid (fun W (hb : Below w1.heap.size w1 W) => show RFi W Bf fs.length fs from hff.belowM (HBW.out W hb))
 have HST := hid hst
 have HSF := hid hsf
 obtain ⟨hN1, hN2⟩ := hN
 obtain ⟨S, hS⟩ : ∃ S, w1.heap.size = S := ⟨_, rfl⟩
 have hmk := run_make_row' (P := Tryz.prog) 38 4 (.bool false) 1 Tryz.underlying38 infoBool rfl .i64 .i64 N (by omega) (by omega) w1
 obtain ⟨w2, hw2⟩ : ∃ w2, w1.alloc (.cells (madeCells #[.bool false] N) 4) = w2 := ⟨_, rfl⟩
 rw [hw2, hS] at hmk
 have hb2 : Below w1.heap.size w1 w2 := by rw [← hw2]; exact (Below.refl _ _).alloc (Nat.le_refl _) _
 have hM0 : Marks w2 S N (fun _ => false) := by
  have := World.ownsRow_lit (base := S) (e := 4) (size := 1) w1 (madeCells #[.bool false] N) N (by omega) (by simp only [maxLen]; omega) (by simp [madeCells])
  rw [toList_madeCells_one, hw2, hS] at this
  unfold Marks boolV
  rw [show ((List.range N).map fun _ => false) = List.replicate N false from List.ext_getElem (by simp) fun j h1 h2 => by simp, List.map_replicate]
  exact this
 have HM0 := hid hM0
 have HB2 := hid hb2
 have HSW := hid hS
 rw [hS] at HB2 HDB HR HFI HBW HS1
 have hsS : w.heap.size < S := HS1.out
 obtain ⟨p0, p1, p2, p3, p4, p5⟩ := hd1
 clear h hff hst hsf hb1 hb2 hM0
 have HBS := hid (fun W (hb : Below S w2 W) => show Below S w1 W from HB2.out.trans hb)
 have i1 : (0 : Int) ≤ (sn : Int) := Int.natCast_nonneg _
 have i2 : (sn : Int) < (N : Int) := by omega
 have hf2 := HM0.out.frozen sn
 have hc2 := HM0.out.cell hsn
 obtain ⟨w3, hw3⟩ : ∃ w3, w2.setCell ⟨S, sn, none⟩ (.bool true) = w3 := ⟨_, rfl⟩
 have HM3 := hid (show Marks w3 S N (setM (fun _ => false) sn) by rw [← hw3]; exact HM0.out.set_)
 have HB3 := hid (show Below S w2 w3 by rw [← hw3]; exact (Below.refl S w2).setCell (p := ⟨S, sn, none⟩) (Nat.le_refl S) _)
 obtain ⟨y0, y1, y2, y3, y4, y5⟩ := HDB.out w2 HB2.out
 go_enter Tryz.func18, Tryz.ntmps18
 go_wp2_with (fail)
 clear hmk hf2 hc2 y0 y1 y2 y3 y4 y5 p0 p1 p2 p3 p4 p5
 go_loopg [4] (2 * N + 1) (fun gk v wr => PassRel S N (rs.map edg) [sn] w2 gk v wr)
 case atStart => exact ⟨setM (fun _ => false) sn, true, rfl, HM3.out, fun q _ hm => by
  have : q = sn := by simpa [setM] using hm
  rw [this]
  exact .first (by simp), fun q hq => by
  rw [List.mem_singleton.1 hq]
  simp [setM], (fun h => by cases h), HB3.out, by
  have := unM_le N (setM (fun _ => false) sn)
  simp
  omega⟩
 case round =>
  obtain ⟨m, more, rfl, hM, h1, h2, h3, hbl, hg⟩ := hrel
  cases more with
  | false =>
   have HMR := hid (hM.congr (marks_done h1 h2 (h3 rfl)))
   have HBR := hid (HBW.out wr (HBS.out wr hbl))
   clear hM h1 h2 h3 hbl hg
   go_wp2_with (fail)
   go_ret
   exact ⟨S, Nat.le_of_lt hsS, rfl, HMR.out, HBR.out⟩
  | true =>
   have HG := hid (show 2 * unM N m + 1 ≤ gk by simpa using hg)
   have HST0 := hid (show EdgeRel S N (rs.map edg) [sn] w2 m (.bool false) (.int .i64 (0 : Nat)) wr from ⟨0, m, false, rfl, rfl, Nat.zero_le _, hM, h1, h2, hbl, fun _ => ⟨rfl, fun e he => by simp at he⟩, (fun h => by cases h)⟩)
   clear hM h1 h2 h3 hbl hg
   go_wp2_with (fail)
   go_loopw [4, 5] (fun v iv wr => EdgeRel S N (rs.map edg) [sn] w2 m v iv wr) (fun _ iv _ => rs.length - (intOf iv).toNat)
   case atStart => exact HST0.out
   case round =>
    obtain ⟨k, m', more, rfl, rfl, hk, hM, h1, h2, hbl, h3, h4⟩ := hrel
    rw [List.length_map] at hk
    by_cases hlt : k < rs.length
    ·have hxx := hlt
     have hru := HR.out wr (HBS.out wr hbl)
     obtain ⟨b, off, A', c', A2, c2, hA, hbB, d0, d1, _⟩ := hru.at_ hlt
     obtain ⟨r, hrk⟩ : ∃ r, rs[k] = r := ⟨_, rfl⟩
     have hst := HST.out k hlt
     rw [hrk] at d0 d1 hst
     have hst1 := of_decide_eq_true hst.1
     have hst2 := of_decide_eq_true hst.2
     obtain ⟨p, hp⟩ : ∃ p : Nat, r.frm = (p : Int) := ⟨r.frm.toNat, by omega⟩
     obtain ⟨q, hq⟩ : ∃ q : Nat, r.to_ = (q : Int) := ⟨r.to_.toNat, by omega⟩
     have hpN : p < N := by omega
     have hqN : q < N := by omega
     have hke : k < (rs.map edg).length := by rw [List.length_map]; exact hlt
     have hek : (rs.map edg)[k]'hke = (p, q) := by
      rw [List.getElem_map, hrk]
      unfold edg
      rw [hp, hq]
      simp
     rw [hp] at d0
     rw [hq] at d1
     obtain ⟨z0, z1, z2, z3, z4, z5⟩ := HDB.out wr (HBS.out wr hbl)
     have n1 : (0 : Int) ≤ (p : Int) := Int.natCast_nonneg _
     have n2 : (p : Int) < (N : Int) := by omega
     have n3 : (0 : Int) ≤ (q : Int) := Int.natCast_nonneg _
     have n4 : (q : Int) < (N : Int) := by omega
     have m1 := hM.cell (q := p) hpN
     have m2 := hM.cell (q := q) hqN
     have mf := hM.frozen q
     have HSK := hid (fun (hs : m' p = true → m' q = true) => edge_skip (more := more) hke hM h1 h2 hbl h3 h4 (by rw [hek]; exact hs))
     have HSE := hid (fun (ha : m' p = true) (hb : m' q = false) => edge_set (more := more) hke hM h1 h2 hbl h3 h4 (by rw [hek]; exact hpN) (by rw [hek]; exact hqN) (by rw [hek]; exact ha) (by rw [hek]; exact hb))
     rw [hek] at HSE
     have hkb : k < 4096 := by omega
     subst hA
     clear hru hM h1 h2 h3 h4 hbl hek hrk hst
     cases ha : m' p with
     | false =>
      rw [ha] at m1
      have HGO := hid (HSK.out (by rw [ha]; intro h; cases h))
      clear HSK HSE
      go_wp2_with (fail)
      go_roundw
      case rel => exact HGO.out
      case measure => simp [intOf]; omega
     | true =>
     rw [ha] at m1
     cases hb : m' q with
     | true =>
      rw [hb] at m2
      have HGO := hid (HSK.out fun _ => hb)
      clear HSK HSE
      go_wp2_with (fail)
      go_roundw
      case rel => exact HGO.out
      case measure => simp [intOf]; omega
     | false =>
     rw [hb] at m2
     have HGO := hid (HSE.out ha hb)
     obtain ⟨wn, hwn⟩ : ∃ wn, wr.setCell ⟨S, q, none⟩ (.bool true) = wn := ⟨_, rfl⟩
     rw [hwn] at HGO
     clear HSK HSE
     go_wp2_with (fail)
     go_roundw
     case rel => exact HGO.out
     case measure => simp [intOf]; omega
    ·obtain rfl : k = rs.length := by omega
     obtain ⟨z0, z1, z2, z3, z4, z5⟩ := HDB.out wr (HBS.out wr hbl)
     have HNX := hid (pass_next (v := .bool more) (show EdgeRel S N (rs.map edg) [sn] w2 m (.bool more) (.int .i64 ((rs.map edg).length : Int)) wr from ⟨(rs.map edg).length, m', more, rfl, rfl, Nat.le_refl _, hM, h1, h2, hbl, by rw [List.length_map]; exact h3, h4⟩) HG.out)
     clear hM h1 h2 hbl h3 h4
     go_wp2_with (fail)
     go_roundg (gk - 1)
     case measure => have := HG.out; omega
     case rel => exact HNX.out
set_option maxHeartbeats 8000000 in
theorem rgoes_any (N : Nat) (i o : Int) (sn : Nat) (A : Option Addr) (cr : Nat) (Bf : Option Addr) (cf : Nat) (rs : List RuL) (fs : List FiL) (w : World) (h : RRu w A rs.length rs) (hff : RFi w Bf fs.length fs) (hl : rs.length ≤ 4096) (hlf : fs.length ≤ 4096) (hN : 1 ≤ N ∧ N ≤ 1024) (hsn : sn < N) (hst : ∀ j (hj : j < rs.length), stB N rs[j].frm = true ∧ stB N rs[j].to_ = true) (hsf : ∀ j (hj : j < fs.length), stB N fs[j].frm = true) :
  Calls Tryz.prog 19 #[dsc i o (N : Int) (sn : Int) A rs.length cr Bf fs.length cf] w (ToldOut (goesF rs fs) N w) := by
 obtain ⟨w1, hw1⟩ : ∃ w1, w.alloc (.cells #[.int .i64 i, .int .i64 o, .int .i64 (N : Int), .int .i64 (sn : Int), .slice A rs.length cr, .slice Bf fs.length cf] 26) = w1 := ⟨_, rfl⟩
 have hs1 : w1.heap.size = w.heap.size + 1 := by rw [← hw1]; simp
 have hb1 : Below w.heap.size w w1 := by rw [← hw1]; exact (Below.refl _ _).alloc (Nat.le_refl _) _
 have hd1 : DB w1 w.heap.size i o N sn A rs.length cr Bf fs.length cf := by rw [← hw1]; exact DB.boxed
 have HS1 := hid (show w.heap.size < w1.heap.size by omega)
 have HBW := hid (fun W (hb : Below w1.heap.size w1 W) => show Below w.heap.size w W from hb1.trans (hb.mono (Nat.le_of_lt HS1.out)))
 have HDB := hid (fun W (hb : Below w1.heap.size w1 W) => show DB W w.heap.size i o N sn A rs.length cr Bf fs.length cf from hd1.below HS1.out hb)
 have HR := hid (fun W (hb : Below w1.heap.size w1 W) => show RRu W A rs.length rs from h.belowM (HBW.out W hb))
 have HFI := hid (fun W (hb : Below w1.heap.size w1 W) => show RFi W Bf fs.length fs from hff.belowM (HBW.out W hb))
 have HST := hid hst
 have HSF := hid hsf
 obtain ⟨hN1, hN2⟩ := hN
 obtain ⟨S, hS⟩ : ∃ S, w1.heap.size = S := ⟨_, rfl⟩
 have hmk := run_make_row' (P := Tryz.prog) 38 4 (.bool false) 1 Tryz.underlying38 infoBool rfl .i64 .i64 N (by omega) (by omega) w1
 obtain ⟨w2, hw2⟩ : ∃ w2, w1.alloc (.cells (madeCells #[.bool false] N) 4) = w2 := ⟨_, rfl⟩
 rw [hw2, hS] at hmk
 have hb2 : Below w1.heap.size w1 w2 := by rw [← hw2]; exact (Below.refl _ _).alloc (Nat.le_refl _) _
 have hM0 : Marks w2 S N (fun _ => false) := by
  have := World.ownsRow_lit (base := S) (e := 4) (size := 1) w1 (madeCells #[.bool false] N) N (by omega) (by simp only [maxLen]; omega) (by simp [madeCells])
  rw [toList_madeCells_one, hw2, hS] at this
  unfold Marks boolV
  rw [show ((List.range N).map fun _ => false) = List.replicate N false from List.ext_getElem (by simp) fun j h1 h2 => by simp, List.map_replicate]
  exact this
 have HM0 := hid hM0
 have HB2 := hid hb2
 have HSW := hid hS
 rw [hS] at HB2 HDB HR HFI HBW HS1
 have hsS : w.heap.size < S := HS1.out
 obtain ⟨p0, p1, p2, p3, p4, p5⟩ := hd1
 clear h hff hst hsf hb1 hb2 hM0
 have HBS := hid (fun W (hb : Below S w2 W) => show Below S w1 W from HB2.out.trans hb)
 have i1 : (0 : Int) ≤ (sn : Int) := Int.natCast_nonneg _
 have i2 : (sn : Int) < (N : Int) := by omega
 obtain ⟨y0, y1, y2, y3, y4, y5⟩ := HDB.out w2 HB2.out
 have HSTF := hid (show FinRel S N rs fs w2 (.int .i64 (0 : Nat)) w2 from ⟨0, _, Nat.zero_le _, rfl, HM0.out, fun q _ h => (by cases h), fun q hq => (by simp at hq), Below.refl _ _⟩)
 go_enter Tryz.func19, Tryz.ntmps19
 go_wp2_with (fail)
 clear hmk y0 y1 y2 y3 y4 y5 p0 p1 p2 p3 p4 p5
 go_loopw [4] (fun iv wr => FinRel S N rs fs w2 iv wr) (fun iv _ => fs.length - (intOf iv).toNat)
 case atStart => exact HSTF.out
 case round =>
  obtain ⟨k, m, hk, rfl, hM, h1, h2, hbl⟩ := hrel
  by_cases hlt : k < fs.length
  ·obtain ⟨b, off, A', c', A2, c2, hA, hbB, d0, _⟩ := (HFI.out wr (HBS.out wr hbl)).at_ hlt
   obtain ⟨r, hrk⟩ : ∃ r, fs[k] = r := ⟨_, rfl⟩
   have hst := of_decide_eq_true (HSF.out k hlt)
   rw [hrk] at d0 hst
   obtain ⟨p, hp⟩ : ∃ p : Nat, r.frm = (p : Int) := ⟨r.frm.toNat, by omega⟩
   have hpN : p < N := by omega
   rw [hp] at d0
   obtain ⟨z0, z1, z2, z3, z4, z5⟩ := HDB.out wr (HBS.out wr hbl)
   have n1 : (0 : Int) ≤ (p : Int) := Int.natCast_nonneg _
   have n2 : (p : Int) < (N : Int) := by omega
   have m1 := hM.cell hpN
   have mf := hM.frozen p
   have hfp : fs[k].frm.toNat = p := by rw [hrk, hp]; simp
   obtain ⟨wn, hwn⟩ : ∃ wn, wr.setCell ⟨S, p, none⟩ (.bool true) = wn := ⟨_, rfl⟩
   have HNX := hid (show FinRel S N rs fs w2 (.int .i64 ((k + 1 : Nat) : Int)) wn from ⟨k + 1, setM m p, hlt, rfl, by rw [← hwn]; exact hM.set_, fun x hx hm => by
    unfold setM at hm
    rw [Bool.or_eq_true, beq_iff_eq] at hm
    rcases hm with rfl | hm
    ·exact .first (List.mem_map.2 ⟨fs[k], List.getElem_mem hlt, hfp⟩)
    ·exact h1 x hx hm, fun x hx => by
    rw [List.take_succ_eq_append_getElem hlt, List.map_append, List.mem_append] at hx
    unfold setM
    rcases hx with hx | hx
    ·rw [h2 x hx, Bool.or_true]
    ·have : x = p := by simpa [hfp] using hx
     rw [this]
     simp, by rw [← hwn]; exact hbl.setCell (Nat.le_refl _) _⟩)
   have hkb : k < 4096 := by omega
   subst hA
   clear hM h1 h2 hbl hrk hst hfp
   go_wp2_with (fail)
   go_roundw
   case rel => exact HNX.out
   case measure => simp [intOf]; omega
  ·obtain rfl : k = fs.length := by omega
   rw [List.take_length] at h2
   obtain ⟨wA, hwA⟩ : ∃ wA : World, wA = wr := ⟨_, rfl⟩
   subst hwA
   obtain ⟨z0, z1, z2, z3, z4, z5⟩ := HDB.out wA (HBS.out wA hbl)
   have HSP := hid (show PassRel S N (rs.map edgB) (fs.map fun f => f.frm.toNat) w2 (2 * N + 1) (.bool true) wA from ⟨m, true, rfl, hM, h1, h2, (fun h => by cases h), hbl, by
    have := unM_le N m
    simp
    omega⟩)
   clear hM h1 h2 hbl
   go_wp2_with (fail)
   clear z0 z1 z2 z3 z4 z5
   go_loopg [5] (2 * N + 1) (fun gk v wr => PassRel S N (rs.map edgB) (fs.map fun f => f.frm.toNat) w2 gk v wr)
   case atStart => exact HSP.out
   case round =>
    obtain ⟨m, more, rfl, hM, h1, h2, h3, hbl, hg⟩ := hrel
    cases more with
    | false =>
     have HMR := hid (hM.congr (marks_done h1 h2 (h3 rfl)))
     have HBR := hid (HBW.out wr (HBS.out wr hbl))
     clear hM h1 h2 h3 hbl hg
     go_wp2_with (fail)
     go_ret
     exact ⟨S, Nat.le_of_lt hsS, rfl, HMR.out, HBR.out⟩
    | true =>
     have HG := hid (show 2 * unM N m + 1 ≤ gk by simpa using hg)
     have HST0 := hid (show EdgeRel S N (rs.map edgB) (fs.map fun f => f.frm.toNat) w2 m (.bool false) (.int .i64 (0 : Nat)) wr from ⟨0, m, false, rfl, rfl, Nat.zero_le _, hM, h1, h2, hbl, fun _ => ⟨rfl, fun e he => by simp at he⟩, (fun h => by cases h)⟩)
     clear hM h1 h2 h3 hbl hg
     go_wp2_with (fail)
     go_loopw [5, 6] (fun v iv wr => EdgeRel S N (rs.map edgB) (fs.map fun f => f.frm.toNat) w2 m v iv wr) (fun _ iv _ => rs.length - (intOf iv).toNat)
     case atStart => exact HST0.out
     case round =>
      obtain ⟨k, m', more, rfl, rfl, hk, hM, h1, h2, hbl, h3, h4⟩ := hrel
      rw [List.length_map] at hk
      by_cases hlt : k < rs.length
      ·have hxx := hlt
       have hru := HR.out wr (HBS.out wr hbl)
       obtain ⟨b, off, A', c', A2, c2, hA, hbB, d0, d1, _⟩ := hru.at_ hlt
       obtain ⟨r, hrk⟩ : ∃ r, rs[k] = r := ⟨_, rfl⟩
       have hst := HST.out k hlt
       rw [hrk] at d0 d1 hst
       have hst1 := of_decide_eq_true hst.1
       have hst2 := of_decide_eq_true hst.2
       obtain ⟨p, hp⟩ : ∃ p : Nat, r.frm = (p : Int) := ⟨r.frm.toNat, by omega⟩
       obtain ⟨q, hq⟩ : ∃ q : Nat, r.to_ = (q : Int) := ⟨r.to_.toNat, by omega⟩
       have hpN : p < N := by omega
       have hqN : q < N := by omega
       have hke : k < (rs.map edgB).length := by rw [List.length_map]; exact hlt
       have hek : (rs.map edgB)[k]'hke = (q, p) := by
        rw [List.getElem_map, hrk]
        unfold edgB edg
        rw [hp, hq]
        simp
       rw [hp] at d0
       rw [hq] at d1
       obtain ⟨z0, z1, z2, z3, z4, z5⟩ := HDB.out wr (HBS.out wr hbl)
       have n1 : (0 : Int) ≤ (p : Int) := Int.natCast_nonneg _
       have n2 : (p : Int) < (N : Int) := by omega
       have n3 : (0 : Int) ≤ (q : Int) := Int.natCast_nonneg _
       have n4 : (q : Int) < (N : Int) := by omega
       have m1 := hM.cell (q := q) hqN
       have m2 := hM.cell (q := p) hpN
       have mf := hM.frozen p
       have HSK := hid (fun (hs : m' q = true → m' p = true) => edge_skip (more := more) hke hM h1 h2 hbl h3 h4 (by rw [hek]; exact hs))
       have HSE := hid (fun (ha : m' q = true) (hb : m' p = false) => edge_set (more := more) hke hM h1 h2 hbl h3 h4 (by rw [hek]; exact hqN) (by rw [hek]; exact hpN) (by rw [hek]; exact ha) (by rw [hek]; exact hb))
       rw [hek] at HSE
       have hkb : k < 4096 := by omega
       subst hA
       clear hru hM h1 h2 h3 h4 hbl hek hrk hst
       cases ha : m' q with
       | false =>
        rw [ha] at m1
        have HGO := hid (HSK.out (by rw [ha]; intro h; cases h))
        clear HSK HSE
        go_wp2_with (fail)
        go_roundw
        case rel => exact HGO.out
        case measure => simp [intOf]; omega
       | true =>
       rw [ha] at m1
       cases hb : m' p with
       | true =>
        rw [hb] at m2
        have HGO := hid (HSK.out fun _ => hb)
        clear HSK HSE
        go_wp2_with (fail)
        go_roundw
        case rel => exact HGO.out
        case measure => simp [intOf]; omega
       | false =>
       rw [hb] at m2
       have HGO := hid (HSE.out ha hb)
       obtain ⟨wn, hwn⟩ : ∃ wn, wr.setCell ⟨S, p, none⟩ (.bool true) = wn := ⟨_, rfl⟩
       rw [hwn] at HGO
       clear HSK HSE
       go_wp2_with (fail)
       go_roundw
       case rel => exact HGO.out
       case measure => simp [intOf]; omega
      ·obtain rfl : k = rs.length := by omega
       obtain ⟨z0, z1, z2, z3, z4, z5⟩ := HDB.out wr (HBS.out wr hbl)
       have HNX := hid (pass_next (v := .bool more) (show EdgeRel S N (rs.map edgB) (fs.map fun f => f.frm.toNat) w2 m (.bool more) (.int .i64 ((rs.map edgB).length : Int)) wr from ⟨(rs.map edgB).length, m', more, rfl, rfl, Nat.le_refl _, hM, h1, h2, hbl, by rw [List.length_map]; exact h3, h4⟩) HG.out)
       clear hM h1 h2 hbl h3 h4
       go_wp2_with (fail)
       go_roundg (gk - 1)
       case measure => have := HG.out; omega
       case rel => exact HNX.out
def SlRel (f : Nat → Bool) (N : Nat) (w : World) (kv sv : Value) (wr : World) : Prop :=
 ∃ s : Nat, s ≤ N ∧ sv = .int .i64 s ∧ kv = .int .i64 (((List.range s).filter f).length : Nat) ∧ w = wr
theorem filter_at {f : Nat → Bool} {N s : Nat} (hs : s < N) (h : f s = true) : ∃ hk : ((List.range s).filter f).length < ((List.range N).filter f).length, ((List.range N).filter f)[((List.range s).filter f).length] = s := by
 have e1 : (List.range N).filter f = (List.range s).filter f ++ s :: ((List.range' (s + 1) (N - s - 1)).filter f) := by
  have : List.range N = List.range s ++ s :: List.range' (s + 1) (N - s - 1) := by
   rw [List.range_eq_range', List.range_eq_range', ← List.range'_succ]
   rw [show N - s - 1 + 1 = N - s by omega]
   have := List.range'_append_1 (s := 0) (m := s) (n := N - s)
   rw [Nat.zero_add] at this
   rw [this]
   congr 1
   omega
  rw [this, List.filter_append, List.filter_cons, if_pos h]
 refine ⟨by rw [e1]; simp, ?_⟩
 simp only [e1, List.getElem_append_right (Nat.le_refl _), Nat.sub_self, List.getElem_cons_zero]
set_option maxHeartbeats 4000000 in
theorem same_any (f : Nat → Bool) (N S : Nat) (Al : Option Addr) (cl : Nat) (w : World) (hm : Marks w S N f) (hl : w.ownsRow 0 3 1 (.slice Al ((List.range N).filter f).length cl) ((List.range N).filter f).length (natV ((List.range N).filter f))) (hN : N ≤ 1024) :
  Calls Tryz.prog 17 #[.slice Al ((List.range N).filter f).length cl, .slice (some ⟨S, 0, none⟩) N N] w (RetB true w) := by
 have HM := Lib.hid hm
 have HL := Lib.hid hl
 have HLE := Lib.hid (show ∀ s, ((List.range s).filter f).length ≤ s from fun s => by
  have := List.length_filter_le f (List.range s)
  simpa using this)
 clear hm hl
 go_enter Tryz.func17, Tryz.ntmps17
 go_wp2_with (fail)
 go_loopw [5, 6] (fun kv sv wr => SlRel f N w kv sv wr) (fun _ sv _ => N - (intOf sv).toNat)
 case atStart => exact ⟨0, Nat.zero_le _, rfl, rfl, rfl⟩
 case round =>
  obtain ⟨s, hs, rfl, rfl, rfl⟩ := hrel
  obtain ⟨k, hk⟩ : ∃ k, ((List.range s).filter f).length = k := ⟨_, rfl⟩
  have hks := HLE.out s
  rw [hk] at hks ⊢
  obtain ⟨n, hn⟩ : ∃ n, ((List.range N).filter f).length = n := ⟨_, rfl⟩
  have hnN := HLE.out N
  have HL2 := HL.out
  rw [hn] at hnN HL2 ⊢
  by_cases hlt : s < N
  ·have hc := HM.out.cell hlt
   cases hfs : f s with
   | false =>
    rw [hfs] at hc
    have HNX := Lib.hid (show ((List.range (s + 1)).filter f).length = k by rw [rangeF_skip hfs, hk])
    clear hk hn HL2
    go_wp2_with (fail)
    go_roundw
    case rel => exact ⟨s + 1, by omega, by go_num, by rw [HNX.out], rfl⟩
    case measure => simp [intOf]; omega
   | true =>
    rw [hfs] at hc
    have HNX := Lib.hid (show ((List.range (s + 1)).filter f).length = k + 1 by rw [rangeF_more hfs, List.length_append, hk]; rfl)
    obtain ⟨hkn, hat⟩ := filter_at hlt hfs
    have hkn' : k < n := by omega
    obtain ⟨g, c3, hA, _, hgl⟩ := World.ownsRow.form HL2 (by omega)
    simp only [Value.slice.injEq] at hA
    obtain ⟨hA, -, -⟩ := hA
    subst hA
    have hc2 : w.cell? ⟨g, k, none⟩ = some (.int .i64 (s : Int)) := by
     rw [World.ownsRow.cellAt HL2 k (by omega)]
     have : (natV ((List.range N).filter f))[((List.range s).filter f).length]? = some (.int .i64 (s : Int)) := by
      unfold natV
      rw [List.getElem?_map, List.getElem?_eq_getElem hkn, hat]
      rfl
     rw [hk] at this
     exact this
    have e1 : (k == n) = false := by simpa using (by omega : k ≠ n)
    have e2 : decide ((n : Int) ≤ (k : Int)) = false := decide_eq_false (by omega)
    clear hk hn HL2 hat hkn
    go_wp2_with (fail)
    go_roundw
    case rel => exact ⟨s + 1, by omega, by go_num, by rw [HNX.out]; go_num, rfl⟩
    case measure => simp [intOf]; omega
  ·obtain rfl : s = N := by omega
   have hkn : k = n := by rw [← hk, ← hn]
   subst hkn
   clear hk hn HL2
   go_wp2_with (fail)
   go_ret
   exact ⟨rfl, Below.refl _ _⟩
end Go.Proofs.YtoofgpoeheponaaGreatDoor.Tr
