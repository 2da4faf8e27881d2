/- The walks of minterm.Least and minterm.Row. -/
import Derived.Test.YtplpafoflibnlaaMiAsk
import Derived.Test.YtplpafoflibnlaaSpRest
import Derived.Laws.OwnMore
import Derived.Deep.OwnRows
namespace Go.Proofs.Ytplpafoflibnlaa.Mi
set_option maxRecDepth 100000
open Go Go.RowKit Go.Deep Go.Proofs.Ytplpafoflibnlaa.Sp

theorem exists_lay (l : List Span) : ∀ k, k ≤ l.length → ∃ out, LayInv l k out := by
  intro k
  induction k with
  | zero => exact fun _ => ⟨[], LayInv.start l⟩
  | succ k ih =>
    intro hk
    obtain ⟨out, h⟩ := ih (by omega)
    exact ⟨_, h.next (by omega)⟩
theorem exists_join (d : List Span) (hs : SortedLo d) (hd : ∀ p ∈ d, Ok p) : ∀ k, k ≤ d.length → ∃ out, JoinInv d k out := by
  intro k
  induction k with
  | zero => exact fun _ => ⟨[], JoinInv.start d⟩
  | succ k ih =>
    intro hk
    obtain ⟨out, h⟩ := ih (by omega)
    rcases List.eq_nil_or_concat out with rfl | ⟨o, r, rfl⟩
    · exact ⟨_, h.more hs hd (by omega) (fun r hr => by simp at hr)⟩
    · rw [List.concat_eq_append] at h
      by_cases hle : d[k].1 ≤ r.2 + 1
      · exact ⟨_, h.merge hd (by omega) hle⟩
      · exact ⟨_, h.more hs hd (by omega) (fun q hq => by simp at hq; subst hq; omega)⟩
theorem exists_plain (l : List Span) : ∃ p, Is p (mem l) := by
  obtain ⟨out, h⟩ := exists_lay l l.length (Nat.le_refl _)
  have hperm := List.mergeSort_perm out (fun a b => decide (a.1 ≤ b.1))
  have hsort : SortedLo (out.mergeSort fun a b => decide (a.1 ≤ b.1)) := by
    have := List.pairwise_mergeSort (le := fun (a b : Span) => decide (a.1 ≤ b.1)) (fun a b c h1 h2 => by simp at *; omega) (fun a b => by simp; omega) out
    exact this.imp fun h => by simpa using h
  obtain ⟨q, hq⟩ := exists_join _ hsort (fun p hp => h.ok p (hperm.mem_iff.1 hp)) _ (Nat.le_refl _)
  refine ⟨q, (hq.done (Nat.le_refl _)).congr fun x => ?_⟩
  rw [mem_perm hperm x, h.set, List.take_length]
/-- The one plain list of a list's set. -/
noncomputable def plainOf (l : List Span) : List Span := Classical.choose (exists_plain l)
theorem plainOf_is (l : List Span) : Is (plainOf l) (mem l) := Classical.choose_spec (exists_plain l)
noncomputable def leastOf (l : List Span) : Int := if (fstP (plainOf l)).2 = true then (fstP (plainOf l)).1 else -1
theorem leastOf_wf (l : List Span) : -1073741824 ≤ leastOf l ∧ leastOf l ≤ 1073741824 := by
  unfold leastOf
  have h := (plainOf_is l).1
  cases hp : plainOf l with
  | nil => simp [fstP]
  | cons q p =>
    rw [hp] at h
    have := h.cons.1
    unfold Ok at this
    simp only [fstP, if_true]
    omega
theorem nth_first (p : List Span) (hp : Plain p) : nthB p 0 = fstP p := by
  cases p with
  | nil => rfl
  | cons q p =>
    have := hp.cons.1
    unfold Ok at this
    simp [nthB, nth, fstP, show 0 < q.2 - q.1 + 1 from by omega]

theorem infoInt : (Try.prog.info? 3).map (fun i => (i.zero, i.size, i.bytes)) = some (some (.int .i64 0), 1, 8) := by kernel_rfl
theorem infoU8 : (Try.prog.info? 5).map (fun i => (i.zero, i.size, i.bytes)) = some (some (.int .u8 0), 1, 1) := by kernel_rfl
/-- An own row of numbers. -/
def OwnsN (q : IntKind) (e : TypeId) (w : World) (base : Nat) (v : Value) (xs : List Int) : Prop := w.ownsRow base e 1 v xs.length (xs.map (Value.int q))
theorem ownN_cell {q : IntKind} {e : TypeId} {w : World} {base g cap n : Nat} {xs : List Int} (hl : xs.length = n) (h : OwnsN q e w base (.slice (some ⟨g, 0, none⟩) n cap) xs) {j : Nat} (hj : j < n) : w.cell? ⟨g, j, none⟩ = some (.int q (xs.getD j 0)) := by
  subst hl
  rw [World.ownsRow.cellAt h j (by omega), List.getElem?_map, List.getElem?_eq_getElem hj, List.getD_eq_getElem?_getD, List.getElem?_eq_getElem hj]
  rfl
theorem ownN_frozen {q : IntKind} {e : TypeId} {w : World} {base g cap n : Nat} {xs : List Int} (hl : xs.length = n) (h : OwnsN q e w base (.slice (some ⟨g, 0, none⟩) n cap) xs) (j : Nat) : w.frozen? ⟨g, j, none⟩ = false := by
  subst hl
  exact World.ownsRow.frozenAt h j
theorem ownN_stored {q : IntKind} {e : TypeId} {w : World} {base g cap n : Nat} {xs : List Int} (hl : xs.length = n) (h : OwnsN q e w base (.slice (some ⟨g, 0, none⟩) n cap) xs) (j : Nat) (b : Int) : OwnsN q e (w.setCell ⟨g, j, none⟩ (.int q b)) base (.slice (some ⟨g, 0, none⟩) n cap) (xs.set j b) := by
  subst hl
  have := (World.ownsRow.stored h j (.int q b)).1
  unfold OwnsN
  rw [List.map_set, List.length_set]
  exact this
theorem ownN_below {q : IntKind} {e : TypeId} {w w' : World} {base : Nat} {v : Value} {xs : List Int} (h : OwnsN q e w base v xs) (hb : Below w.heap.size w w') : OwnsN q e w' base v xs := by
  have hlt := World.ownsRow.lt h
  obtain ⟨h1, h2⟩ := h
  refine ⟨h1, ?_⟩
  rcases h2 with h2 | ⟨g, cap, cur, hv, hg, hr, hrest⟩
  · exact .inl h2
  · subst hv
    exact .inr ⟨g, cap, cur, rfl, hg, (hb.block g (hlt g rfl).2).trans hr, hrest⟩
theorem set_next {xs : List Int} {f : Nat → Int} {n k : Nat} (hl : xs.length = n) (h : ∀ j, j < k → xs.getD j 0 = f j) (hk : k < n) : (xs.set k (f k)).length = n ∧ ∀ j, j < k + 1 → (xs.set k (f k)).getD j 0 = f j := by
  refine ⟨by simpa using hl, fun j hj => ?_⟩
  by_cases e : j = k
  · subst e
    rw [List.getD_eq_getElem?_getD, List.getElem?_set_self (by omega)]
    rfl
  · rw [List.getD_eq_getElem?_getD, List.getElem?_set_ne (by omega), ← List.getD_eq_getElem?_getD]
    exact h j (by omega)
noncomputable def leastAt (fam : List (List Span)) (j : Nat) : Int := leastOf (fam.getD j [])
/-- What Least gives: an own row of the least numbers. -/
def LeastOut (fam : List (List Span)) (w : World) (e : Ending) (w' : World) : Prop := ∃ (g cap : Nat) (xs : List Int), e = .returned (.slice (some ⟨g, 0, none⟩) fam.length cap) ∧ xs.length = fam.length ∧ (∀ j, j < fam.length → xs.getD j 0 = leastAt fam j) ∧ OwnsN .i64 3 w' w.heap.size (.slice (some ⟨g, 0, none⟩) fam.length cap) xs ∧ Below w.heap.size w w'
def LeastRel (fam : List (List Span)) (cap : Nat) (w : World) (i : Value) (wr : World) : Prop :=
  ∃ (k : Nat) (xs : List Int), k ≤ fam.length ∧ i = .int .i64 k ∧ xs.length = fam.length ∧ (∀ j, j < k → xs.getD j 0 = leastAt fam j) ∧ OwnsN .i64 3 wr w.heap.size (.slice (some ⟨w.heap.size, 0, none⟩) fam.length cap) xs ∧ Below w.heap.size w wr ∧ w.heap.size < wr.heap.size
set_option maxHeartbeats 4000000 in
theorem least_any (A : Option Addr) (c : Nat) (fam : List (List Span)) (w : World) (h : RGs w A fam.length fam) (hl : fam.length ≤ 1000000) (hs : ∀ l ∈ fam, l.length ≤ 1000000000) :
    Calls Try.prog 28 #[.slice A fam.length c] w (LeastOut fam w) := by
  have hmk := run_make_row' (P := Try.prog) 48 3 (.int .i64 0) 8 Try.underlying48 infoInt rfl .i64 .i64 fam.length (by omega) (by omega) w
  have hown : OwnsN .i64 3 (w.alloc (.cells (madeCells #[.int .i64 0] fam.length) 3)) w.heap.size (.slice (some ⟨w.heap.size, 0, none⟩) fam.length fam.length) (List.replicate fam.length 0) := by
    unfold OwnsN
    have := World.ownsRow_lit (base := w.heap.size) (e := 3) (size := 1) w (madeCells #[.int .i64 0] fam.length) fam.length (Nat.le_refl _) (by simp only [maxLen]; omega) (by simp [madeCells])
    rw [toList_madeCells_one] at this
    rw [List.length_replicate, List.map_replicate]
    exact this
  have HST := Lib.hid (show LeastRel fam fam.length w (.int .i64 0) (w.alloc (.cells (madeCells #[.int .i64 0] fam.length) 3)) from ⟨0, _, Nat.zero_le _, rfl, List.length_replicate, fun j h => absurd h (by omega), hown, (Below.refl _ _).alloc (Nat.le_refl _) _, by simp⟩)
  have H := Lib.hid h
  have HS := Lib.hid hs
  clear h hs hown
  go_enter Try.func28, Try.ntmps28
  go_wp2_with (fail)
  go_loopw [13] (fun i wr => LeastRel fam fam.length w i wr) (fun i _ => fam.length - (intOf i).toNat)
  case atStart => exact HST.out
  case round =>
    obtain ⟨k, xs, hk, rfl, hxl, hxs, ho, hb, hsz⟩ := hrel
    by_cases hlt : k < fam.length
    · obtain ⟨b, off, Aj, cj, hA, hbB, hcj, hrj, hlc, _⟩ := (H.out.belowM hb).at_ hlt
      have HF := Lib.hid (first_any Aj fam[k].length cj fam[k] (plainOf fam[k]) wr hrj (by have := HS.out _ (List.getElem_mem hlt); omega) hlc (plainOf_is _))
      have HO := Lib.hid ho
      have HB := Lib.hid hb
      have HX := Lib.hid hxs
      have HLA := Lib.hid (show leastAt fam k = if (fstP (plainOf fam[k])).2 = true then (fstP (plainOf fam[k])).1 else -1 by unfold leastAt; rw [List.getD_eq_getElem?_getD, List.getElem?_eq_getElem hlt]; rfl)
      rw [hA]
      clear hA hrj hb ho hxs
      obtain ⟨nk, hnk⟩ : ∃ nk, fam[k].length = nk := ⟨_, rfl⟩
      rw [hnk] at hcj HF
      clear hnk hlc
      obtain ⟨⟨lo, ok⟩, hfp⟩ : ∃ q, fstP (plainOf fam[k]) = q := ⟨_, rfl⟩
      rw [hfp] at HF HLA
      clear hfp
      simp only at HLA
      go_wp2_with (fail)
      refine HF.out.mono ?_
      rintro e w2 ⟨rfl, hb2⟩
      have ho2 := ownN_below HO.out hb2
      have hs2 := hb2.size
      have hc2 := ownN_cell hxl ho2 hlt
      have hf2 := ownN_frozen hxl ho2 k
      have HO2 := Lib.hid ho2
      have HB2 := Lib.hid (below_nextM HB.out hb2)
      have hws : w.heap.size < w2.heap.size := by omega
      clear ho2 hb2 HO HB
      cases ok with
      | false =>
        simp only [Bool.false_eq_true, if_false] at HLA
        have HN := Lib.hid (set_next (f := leastAt fam) hxl HX.out hlt)
        rw [HLA.out] at HN
        have HO3 := Lib.hid (ownN_stored hxl HO2.out k (-1))
        clear HLA
        go_wp2_with (fail)
        go_roundw
        case rel => exact ⟨k + 1, _, by omega, by go_num, HN.out.1, HN.out.2, HO3.out, HB2.out.setCell (Nat.le_refl _) _, by simpa using hws⟩
        case measure => simp [intOf]; omega
      | true =>
        simp only [if_true] at HLA
        have HN := Lib.hid (set_next (f := leastAt fam) hxl HX.out hlt)
        rw [HLA.out] at HN
        have HO3 := Lib.hid (ownN_stored hxl HO2.out k lo)
        clear HLA
        go_wp2_with (fail)
        go_roundw
        case rel => exact ⟨k + 1, _, by omega, by go_num, HN.out.1, HN.out.2, HO3.out, HB2.out.setCell (Nat.le_refl _) _, by simpa using hws⟩
        case measure => simp [intOf]; omega
    · have hkl : k = fam.length := by omega
      subst hkl
      have HO := Lib.hid ho
      have HB := Lib.hid hb
      have HX := Lib.hid hxs
      clear ho hb hxs
      go_wp2_with (fail)
      go_ret
      exact ⟨_, _, xs, rfl, hxl, HX.out, HO.out, HB.out⟩

noncomputable def rowAt (fam : List (List Span)) (j : Nat) : Int := classOf fam (j : Int)
/-- What Row gives: the classes of all bytes, or ErrArg. -/
def RowOut (fam : List (List Span)) (w : World) (e : Ending) (w' : World) : Prop :=
  ((∃ (g cap : Nat) (xs : List Int), e = .returned (.tuple #[.slice (some ⟨g, 0, none⟩) 256 cap, .int .i64 0]) ∧ xs.length = 256 ∧ (∀ j, j < 256 → xs.getD j 0 = rowAt fam j) ∧ (∀ j, j < 256 → 0 ≤ rowAt fam j) ∧ OwnsN .u8 5 w' w.heap.size (.slice (some ⟨g, 0, none⟩) 256 cap) xs) ∨
   (e = .returned (.tuple #[.slice none 0 0, .int .i64 1]) ∧ ∃ j, j < 256 ∧ rowAt fam j < 0)) ∧ Below w.heap.size w w'
def RowRel (fam : List (List Span)) (w : World) (i : Value) (wr : World) : Prop :=
  ∃ (k : Nat) (xs : List Int), k ≤ 256 ∧ i = .int .i64 k ∧ xs.length = 256 ∧ (∀ j, j < k → xs.getD j 0 = rowAt fam j) ∧ (∀ j, j < k → 0 ≤ rowAt fam j) ∧ OwnsN .u8 5 wr w.heap.size (.slice (some ⟨w.heap.size, 0, none⟩) 256 256) xs ∧ Below w.heap.size w wr ∧ w.heap.size < wr.heap.size
theorem u8_in : ∀ c : Int, 0 ≤ c → c < 256 → IntKind.u8.wrap c = c := by
  intro c h1 h2
  obtain ⟨n, rfl⟩ := Int.eq_ofNat_of_zero_le h1
  have : ∀ z : Nat, z < 256 → IntKind.u8.wrap (z : Int) = (z : Int) := by decide
  exact this n (by omega)
set_option maxHeartbeats 4000000 in
theorem row_any (A : Option Addr) (c : Nat) (fam : List (List Span)) (w : World) (h : RGs w A fam.length fam) (hl : fam.length ≤ 256) (hs : ∀ l ∈ fam, l.length ≤ 1000000000) :
    Calls Try.prog 32 #[.slice A fam.length c] w (RowOut fam w) := by
  have hmk : (Instr.makeSlice 53 (.int .i64 256) (.int .i64 256)).run Try.prog w = .ok (.slice (some ⟨w.heap.size, 0, none⟩) 256 256) (w.alloc (.cells (madeCells #[.int .u8 0] 256) 5)) := run_make_row' (P := Try.prog) 53 5 (.int .u8 0) 1 Try.underlying53 infoU8 rfl .i64 .i64 256 (by omega) (by omega) w
  have hown : OwnsN .u8 5 (w.alloc (.cells (madeCells #[.int .u8 0] 256) 5)) w.heap.size (.slice (some ⟨w.heap.size, 0, none⟩) 256 256) (List.replicate 256 0) := by
    unfold OwnsN
    have := World.ownsRow_lit (base := w.heap.size) (e := 5) (size := 1) w (madeCells #[.int .u8 0] 256) 256 (Nat.le_refl _) (by simp only [maxLen]; omega) (by simp [madeCells])
    rw [toList_madeCells_one] at this
    rw [List.length_replicate, List.map_replicate]
    exact this
  obtain ⟨w1, hw1⟩ : ∃ w1, w.alloc (.cells (madeCells #[.int .u8 0] 256) 5) = w1 := ⟨_, rfl⟩
  have hb1 : Below w.heap.size w w1 := by rw [← hw1]; exact (Below.refl _ _).alloc (Nat.le_refl _) _
  have hs1 : w1.heap.size = w.heap.size + 1 := by rw [← hw1]; simp
  rw [hw1] at hmk hown
  have HST := Lib.hid (show RowRel fam w (.int .i64 0) w1 from ⟨0, _, Nat.zero_le _, rfl, List.length_replicate, fun j h => absurd h (by omega), fun j h => absurd h (by omega), hown, hb1, by omega⟩)
  have H := Lib.hid h
  have HS := Lib.hid hs
  have hl' : decide ((256 : Int) < (fam.length : Int)) = false := decide_eq_false (by omega)
  clear h hs hown hb1 hw1
  go_enter Try.func32, Try.ntmps32
  go_wp2_with (fail)
  go_loopw [13] (fun i wr => RowRel fam w i wr) (fun i _ => 256 - (intOf i).toNat)
  case atStart => exact HST.out
  case round =>
    obtain ⟨k, xs, hk, rfl, hxl, hxs, hpos, ho, hb, hsz⟩ := hrel
    by_cases hlt : k < 256
    · have HC := Lib.hid (class_any A c fam (k : Int) wr (H.out.belowM hb) (by omega) HS.out)
      have HO := Lib.hid ho
      have HB := Lib.hid hb
      have HX := Lib.hid hxs
      have HP := Lib.hid hpos
      have hrg := class_range fam (k : Int)
      have HRA := Lib.hid (show rowAt fam k = classOf fam (k : Int) from rfl)
      clear hb ho hxs hpos
      obtain ⟨z, hz⟩ : ∃ z, classOf fam (k : Int) = z := ⟨_, rfl⟩
      rw [hz] at HC HRA hrg
      clear hz
      go_wp2_with (fail)
      refine HC.out.mono ?_
      rintro e w2 ⟨rfl, hb2⟩
      have ho2 := ownN_below HO.out hb2
      have hs2 := hb2.size
      have hc2 := ownN_cell hxl ho2 hlt
      have hf2 := ownN_frozen hxl ho2 k
      have HO2 := Lib.hid ho2
      have HB2 := Lib.hid (below_nextM HB.out hb2)
      have hws : w.heap.size < w2.heap.size := by omega
      clear ho2 hb2 HO HB
      by_cases hneg : z < 0
      · have hneg' : decide (z < 0) = true := decide_eq_true hneg
        go_wp2_with (fail)
        go_ret2
        exact ⟨.inr ⟨rfl, k, hlt, by rw [HRA.out]; exact hneg⟩, HB2.out⟩
      · have hneg' : decide (z < 0) = false := decide_eq_false hneg
        have hwr : IntKind.u8.wrap z = z := u8_in z (by omega) (by omega)
        have HN := Lib.hid (set_next (f := rowAt fam) hxl HX.out hlt)
        rw [HRA.out] at HN
        have HO3 := Lib.hid (ownN_stored hxl HO2.out k z)
        have HP2 := Lib.hid (show ∀ j, j < k + 1 → 0 ≤ rowAt fam j from fun j hj => by
          by_cases e : j = k
          · subst e; rw [HRA.out]; omega
          · exact HP.out j (by omega))
        clear HRA
        go_wp2_with (fail)
        go_roundw
        case rel => exact ⟨k + 1, _, by omega, by go_num, HN.out.1, HN.out.2, HP2.out, HO3.out, HB2.out.setCell (Nat.le_refl _) _, by simpa using hws⟩
        case measure => simp [intOf]; omega
    · have hkl : k = 256 := by omega
      subst hkl
      have HO := Lib.hid ho
      have HB := Lib.hid hb
      have HX := Lib.hid (And.intro hxs hpos)
      clear ho hb hxs hpos
      go_wp2_with (fail)
      go_ret2
      exact ⟨.inl ⟨_, _, xs, rfl, hxl, HX.out.1, HX.out.2, HO.out⟩, HB.out⟩
end Go.Proofs.Ytplpafoflibnlaa.Mi
