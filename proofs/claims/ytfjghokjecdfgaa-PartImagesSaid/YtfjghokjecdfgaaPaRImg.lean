/- The walk of the document's Image: number by number, by a row of marks. -/
import Derived.Test.YtfjghokjecdfgaaPaRPre
namespace Go.Proofs.Ytfjghokjecdfgaa.Pa
set_option maxRecDepth 100000
open Go Go.RowKit Go.Proofs.Ytfjghokjecdfgaa.Sp

theorem infoBool : (Try.prog.info? 4).map (fun i => (i.zero, i.size, i.bytes)) = some (some (.bool false), 1, 1) := by kernel_rfl
/-- The marks of what comes of the numbers below X. -/
structure MI (S : Int → Prop) (D T X : Int) (bs : List Bool) : Prop where
  len : (bs.length : Int) = T + 1
  set : ∀ j : Nat, (hj : j < bs.length) → (bs[j] = true ↔ ∃ y, S y ∧ y < X ∧ y / D % T = j)
theorem MI.move {S : Int → Prop} {D T X X' : Int} {bs : List Bool} (h : MI S D T X bs) (h1 : ∀ y, X ≤ y → y < X' → ¬ S y) (h2 : ∀ y, X' ≤ y → y < X → ¬ S y) : MI S D T X' bs :=
  ⟨h.len, fun j hj => by
    rw [h.set j hj]
    constructor
    · rintro ⟨y, a, b, c⟩
      exact ⟨y, a, (Int.lt_or_le y X').elim id fun q => absurd a (h2 y q b), c⟩
    · rintro ⟨y, a, b, c⟩
      exact ⟨y, a, (Int.lt_or_le y X).elim id fun q => absurd a (h1 y q b), c⟩⟩
theorem MI.mark {S : Int → Prop} {D T x : Int} {bs : List Bool} (h : MI S D T x bs) (hS : S x) {j : Nat} (hj : x / D % T = j) : MI S D T (x + 1) (bs.set j true) :=
  ⟨by rw [List.length_set]; exact h.len, fun i hi => by
    rw [List.length_set] at hi
    rw [List.getElem_set]
    by_cases e : j = i
    · subst e
      rw [if_pos rfl]
      exact ⟨fun _ => ⟨x, hS, by omega, hj⟩, fun _ => rfl⟩
    · rw [if_neg e, h.set i hi]
      constructor
      · rintro ⟨y, a, b, c⟩; exact ⟨y, a, by omega, c⟩
      · rintro ⟨y, a, b, c⟩
        refine ⟨y, a, ?_, c⟩
        rcases Int.lt_or_le y x with q | q
        · exact q
        · exfalso
          obtain rfl : y = x := by omega
          rw [hj] at c
          exact e (by omega)⟩
def boolV (bs : List Bool) : List Value := bs.map Value.bool
def OwnsB (w : World) (base g : Nat) (bs : List Bool) : Prop := w.ownsRow base 4 1 (.slice (some ⟨g, 0, none⟩) bs.length bs.length) bs.length (boolV bs)
theorem ownsB_cell {w : World} {base g : Nat} {bs : List Bool} (h : OwnsB w base g bs) {j : Nat} (hj : j < bs.length) : w.cell? ⟨g, j, none⟩ = some (.bool bs[j]) := by
  rw [World.ownsRow.cellAt h j (by omega)]
  simp [boolV, hj]
theorem ownsB_set {w : World} {base g : Nat} {bs : List Bool} (h : OwnsB w base g bs) (j : Nat) (b : Bool) : OwnsB (w.setCell ⟨g, j, none⟩ (.bool b)) base g (bs.set j b) := by
  have := (World.ownsRow.stored h j (.bool b)).1
  unfold OwnsB boolV
  rw [List.length_set, List.map_set]
  exact this
def MOut (S : Int → Prop) (D T : Int) (l : List Span) (base g : Nat) (w2 : World) (i : Value) (wr : World) : Prop :=
  ∃ (k : Nat) (bs : List Bool) (X : Int), k ≤ l.length ∧ i = .int .i64 k ∧ OwnsB wr g g bs ∧ MI S D T X bs ∧ (∀ y, mem (l.take k) y → y < X) ∧ (∀ q ∈ l.drop k, X ≤ q.1) ∧ Below base w2 wr ∧ (∀ p : Addr, p.block ≠ g → wr.cell? p = w2.cell? p) ∧ wr.heap.size = w2.heap.size
def MIn (S : Int → Prop) (D T lo hi : Int) (base g : Nat) (w2 : World) (i : Value) (wr : World) : Prop :=
  ∃ (x : Int) (bs : List Bool), i = .int .i64 x ∧ OwnsB wr g g bs ∧ MI S D T x bs ∧ max lo 0 ≤ x ∧ (x ≤ hi + 1 ∨ x ≤ 0 ∨ x = lo) ∧ x ≤ 1073741825 ∧ Below base w2 wr ∧ (∀ p : Addr, p.block ≠ g → wr.cell? p = w2.cell? p) ∧ wr.heap.size = w2.heap.size
theorem ms_repl (S : Int → Prop) (D T X : Int) (N : Nat) (hT : T = N) (h : ∀ y, S y → X ≤ y) : MI S D T X (List.replicate (N + 1) false) :=
  ⟨by rw [List.length_replicate]; omega, fun j hj => by
    rw [List.getElem_replicate]
    exact ⟨fun e => (by cases e), fun ⟨y, a, b, _⟩ => (by have := h y a; omega)⟩⟩
theorem other_set {w w' : World} {g j : Nat} {v : Value} (h : ∀ p : Addr, p.block ≠ g → w'.cell? p = w.cell? p) : ∀ p : Addr, p.block ≠ g → (w'.setCell ⟨g, j, none⟩ v).cell? p = w.cell? p := fun p hp => by
  rw [← h p hp]
  exact World.cell?_of_block (Below.heap_setCell w' ⟨g, j, none⟩ v p.block hp)
theorem RS.other {w w' : World} {B n g : Nat} {base c : Nat} {A : Option Addr} {l : List Span} (ho : OwnsL w base (.slice A l.length c) l) (hg : g < base) (h : ∀ p : Addr, p.block ≠ g → w'.cell? p = w.cell? p) (hn : n = l.length) (hB : w.heap.size ≤ B) : RS w' B A n l := by
  subst hn
  obtain ⟨A', c', e, _, hr⟩ := own_RS ho
  injection e with e1 e2 e3
  subst e1
  refine ⟨rfl, fun hp => ?_⟩
  obtain ⟨b, off, e4, hb, hc⟩ := hr.2 hp
  obtain ⟨g', e5, h5, _⟩ := own_of_form ho hp
  rw [e5] at e4
  injection e4 with e4
  injection e4 with q1 q2 _
  exact ⟨b, off, by rw [e5, ← q1, ← q2], by omega, fun j hj => ⟨(h _ (by simp only; omega)).trans (hc j hj).1, (h _ (by simp only; omega)).trans (hc j hj).2⟩⟩

/-- The rows of the marks below F. -/
structure PO (U : Int) (bs : List Bool) (F : Int) (o : List Span) : Prop where
  plain : Plain o
  set : ∀ y, mem o y ↔ ∃ (j : Nat) (h : j < bs.length), bs[j] = true ∧ (j : Int) < F ∧ y = j * U
  below : ∀ q ∈ o, q.2 + 2 ≤ F * U
theorem PO.skip {U : Int} {bs : List Bool} {v : Nat} {o : List Span} (h : PO U bs v o) (hv : v < bs.length) (hb : bs[v] = false) (hU : 1 ≤ U) : PO U bs ((v : Int) + 1) o :=
  ⟨h.plain, fun y => by
    rw [h.set]
    constructor
    · rintro ⟨j, hj, a, b, c⟩; exact ⟨j, hj, a, by omega, c⟩
    · rintro ⟨j, hj, a, b, c⟩
      refine ⟨j, hj, a, ?_, c⟩
      rcases Nat.lt_or_ge j v with q | q
      · omega
      · exfalso
        obtain rfl : j = v := by omega
        exact Bool.noConfusion (hb.symm.trans a), fun q hq => by
    have := h.below q hq
    rw [Int.add_mul]
    omega⟩
theorem PO.one {U : Int} {bs : List Bool} {v : Nat} {o : List Span} (h : PO U bs v o) (hv : v < bs.length) (hb : bs[v] = true) (hU : 2 ≤ U) (hr : 0 ≤ (v : Int) * U ∧ (v : Int) * U ≤ 66060288) : PO U bs ((v : Int) + 1) (o ++ [((v : Int) * U, (v : Int) * U)]) :=
  ⟨h.plain.snoc ⟨Int.le_refl _, by simp only; omega, by simp only; omega⟩ (fun q hq => by have := h.below q hq; simp only; omega), fun y => by
    rw [mem_append, h.set, mem_one]
    simp only
    constructor
    · rintro (⟨j, hj, a, b, c⟩ | ⟨a, b, c⟩)
      · exact ⟨j, hj, a, by omega, c⟩
      · exact ⟨v, hv, hb, by omega, by omega⟩
    · rintro ⟨j, hj, a, b, c⟩
      rcases Nat.lt_or_ge j v with q | q
      · exact .inl ⟨j, hj, a, by omega, c⟩
      · obtain rfl : j = v := by omega
        exact .inr ⟨by unfold Rng; omega, by omega, by omega⟩, fun q hq => by
    rw [Int.add_mul]
    rcases List.mem_append.1 hq with k | k
    · have := h.below q k; omega
    · obtain rfl := List.mem_singleton.1 k
      simp only; omega⟩
theorem PO.run {bs : List Bool} {v : Nat} {f : Int} {o : List Span} (h : PO 1 bs f o) (hv : v < bs.length) (hb : bs[v] = false) (h0 : 0 ≤ f) (hf : f < v) (hl : v ≤ 2097152) (hrun : ∀ j : Nat, (hj : j < bs.length) → f ≤ j → j < v → bs[j] = true) : PO 1 bs ((v : Int) + 1) (o ++ [(f, (v : Int) - 1)]) :=
  ⟨h.plain.snoc ⟨by simp only; omega, by simp only; omega, by simp only; omega⟩ (fun q hq => by have := h.below q hq; simp only; omega), fun y => by
    rw [mem_append, h.set, mem_one]
    simp only
    constructor
    · rintro (⟨j, hj, a, b, c⟩ | ⟨a, b, c⟩)
      · exact ⟨j, hj, a, by omega, c⟩
      · exact ⟨y.toNat, by omega, hrun _ (by omega) (by omega) (by omega), by omega, by omega⟩
    · rintro ⟨j, hj, a, b, c⟩
      rcases Int.lt_or_le j f with q | q
      · exact .inl ⟨j, hj, a, by omega, c⟩
      · have hj2 : j ≠ v := fun e => by subst e; rw [hb] at a; cases a
        exact .inr ⟨by unfold Rng; omega, by omega, by omega⟩, fun q hq => by
    rcases List.mem_append.1 hq with k | k
    · have := h.below q k; omega
    · obtain rfl := List.mem_singleton.1 k
      simp only; omega⟩
def Run (U : Int) (bs : List Bool) (v : Nat) (f F : Int) : Prop := (f = -1 ∧ F = v) ∨ (0 ≤ f ∧ F = f ∧ f < v ∧ U = 1 ∧ ∀ j : Nat, (hj : j < bs.length) → f ≤ j → j < v → bs[j] = true)
def LRel (U : Int) (N : Nat) (bs : List Bool) (base : Nat) (w2 : World) (ov fv i : Value) (wr : World) : Prop :=
  ∃ (v : Nat) (o : List Span) (A : Option Addr) (c : Nat) (f F : Int), v ≤ N + 1 ∧ i = .int .i64 v ∧ fv = .int .i64 f ∧ ov = .slice A o.length c ∧ OwnsL wr base (.slice A o.length c) o ∧ PO U bs F o ∧ Run U bs v f F ∧ Below base w2 wr

theorem rimage_none (a d t u : Int) (A : Option Addr) (n c : Nat) (s : List Span) (w : World) (h0 : ¬ Bits d t u) :
    Calls Try.prog 41 #[prt a d t u, .slice A n c] w (SetOut (ImgS d t u s) w) := by
  have HB := Lib.hid (rbits_any a d t u)
  rw [decide_eq_false h0] at HB
  have HN := Lib.hid (show ∀ x, ¬ ImgS d t u s x from fun x ⟨y, hy, _⟩ => h0 hy.1)
  clear h0
  go_enter Try.func41, Try.ntmps41
  go_wp2_with (fail)
  refine (HB.out _).mono ?_
  rintro e w1 ⟨rfl, hb1⟩
  go_wp2_with (fail)
  go_ret
  exact setOut_nil HN.out (((Below.refl _ _).alloc (Nat.le_refl _) _).trans (hb1.mono (by simp)))

set_option maxHeartbeats 8000000 in
theorem rimage_any (a d t u : Int) (A : Option Addr) (n c : Nat) (s : List Span) (w : World) (h : RS w w.heap.size A n s) (hn : n ≤ 68719476736) :
    Calls Try.prog 41 #[prt a d t u, .slice A n c] w (SetOut (ImgS d t u s) w) := by
  by_cases h0 : Bits d t u
  case neg => exact rimage_none a d t u A n c s w h0
  have HB := Lib.hid (rbits_any a d t u)
  rw [decide_eq_true h0] at HB
  have HBI := Lib.hid h0
  obtain ⟨b1, b2, b3, b4, b5, b6, b7⟩ := h0
  obtain ⟨i0, hi0, hz0, hz1, hz2⟩ := info_parts infoSpan
  obtain ⟨i1, hi1, hy0, hy1, hy2⟩ := info_parts infoBool
  have p1 := pw_pos d
  have p2 := pw_pos t
  have p3 := pw_pos u
  have p4 := pw_le b4 pw21
  obtain ⟨N, hN⟩ : ∃ N : Nat, pw t = (N : Int) := Int.eq_ofNat_of_zero_le (by omega)
  have e1 : (pw d == 0) = false := by simp; omega
  have e2 : ((N : Int) == 0) = false := by simp; omega
  have T1 := Lib.hid (fun W => two_any d b1 (by omega) W)
  have T2 := Lib.hid (fun W => two_any t (by omega) (by omega) W)
  have T3 := Lib.hid (fun W => two_any u b5 (by omega) W)
  rw [hN] at T2 p2 p4
  have HN := Lib.hid hN
  obtain ⟨U, hU⟩ : ∃ U, pw u = U := ⟨_, rfl⟩
  rw [hU] at T3 p3
  have HU := Lib.hid hU
  have HVB := Lib.hid (fun x => valI_bound HBI.out x)
  have H := Lib.hid h
  clear b7 h hN hU
  go_enter Try.func41, Try.ntmps41
  go_wp2_with (fail)
  refine (HB.out _).mono ?_
  rintro e w1 ⟨rfl, hb1⟩
  have q := boxed4 hb1
  have HB1 := Lib.hid (((Below.refl _ w).alloc (Nat.le_refl _) _).trans (hb1.mono (by simp)))
  clear hb1
  go_wp2_with (fail)
  go_quiet ((go_at_call 62; exact quiet_two (two_any _ (by omega) (by omega) _)))
  have HB2 := Lib.hid (below_drewN HB1.out nq)
  rw [HN.out, HU.out]
  obtain ⟨w2, hw2⟩ : ∃ w2, w1.drewN nq = w2 := ⟨_, rfl⟩
  rw [hw2] at HB2 ⊢
  clear hw2 q HB1
  obtain ⟨w3, hmk, hown, hgrow⟩ := run_make_full (P := Try.prog) w2 w2.heap.size 66 4 i1 (.bool false) 1 Try.underlying66 hi1 hy0 hy1 .i64 .i64 (N + 1) (by rw [hy2]; omega) (by unfold maxLen; omega) (Nat.le_refl _)
  have hmk' : (Instr.makeSlice 66 (.int .i64 ((N : Int) + 1)) (.int .i64 ((N : Int) + 1))).run Try.prog w2 = .ok (.slice (some ⟨w2.heap.size, 0, none⟩) (N + 1) (N + 1)) w3 := hmk
  obtain ⟨g, hg⟩ : ∃ g, w2.heap.size = g := ⟨_, rfl⟩
  rw [hg] at hmk' hown
  have hb23 : Below w2.heap.size w2 w3 := (Below.refl _ w2).grown hgrow (Nat.le_refl _) (fun k e => by cases e)
  have HB3 := Lib.hid (HB2.out.trans (hb23.mono HB2.out.size))
  have hwg : w.heap.size ≤ g := by have := HB2.out.size; omega
  have hown0 : OwnsB w3 g g (List.replicate (N + 1) false) := by
    unfold OwnsB boolV
    rw [List.length_replicate, List.map_replicate]
    have e := toList_madeCells_one (.bool false) (N + 1)
    rw [Nat.mul_one, show (Value.bool false).cells = #[.bool false] from rfl, e] at hown
    exact hown
  have HO0 := Lib.hid hown0
  have hg3 : g < w3.heap.size := (hown.lt g rfl).2
  clear hmk hgrow hown hown0 hb23
  go_wp2_with (fail)
  refine (rnorm_any A n c s w3 (H.out.belowM HB3.out) (by omega)).mono ?_
  rintro e w4 ⟨v3, l, rfl, his3, ho3, hb3⟩
  obtain ⟨A3, c3, hv3, hc3, hr3⟩ := own_RS ho3
  subst hv3
  have HB4 := Lib.hid (HB3.out.trans (hb3.mono HB3.out.size))
  have HI3 := Lib.hid his3
  have HO4 := Lib.hid (show OwnsB w4 g g (List.replicate (N + 1) false) from World.ownsRow.kept HO0.out (below_grown hb3) (.inr (by simp [Value.ownBlock])))
  have HL4 := Lib.hid (fun (wr : World) (h : ∀ p : Addr, p.block ≠ g → wr.cell? p = w4.cell? p) => RS.other (B := w4.heap.size) ho3 hg3 h rfl (Nat.le_refl _))
  have hs3 := his3.1.short
  have hg4 : g < w4.heap.size := by have := hb3.size; omega
  have HSR := Lib.hid (show ∀ x, DomS d t u s x → 0 ≤ x ∧ x ≤ 2097151 ∧ mem l x from fun x hx => ⟨hx.2.2.1, hx.2.2.2, (HI3.out.2 x).2 hx.2.1⟩)
  have HSL := Lib.hid (show ∀ x, 0 ≤ x → x < 2097152 → mem l x → DomS d t u s x from fun x x0 x1 hx => ⟨HBI.out, (HI3.out.2 x).1 hx, x0, by omega⟩)
  have HPL := Lib.hid HI3.out.1
  obtain ⟨S, hSe⟩ : ∃ S, DomS d t u s = S := ⟨_, rfl⟩
  rw [hSe] at HSR HSL
  have HSE := Lib.hid hSe
  clear his3 ho3 hb3 hr3 HI3 HB2 HB3 hSe HO0 hmk' hg hg3
  go_wp2_with (fail)
  go_loopw [10, 11] (fun i _ wr => MOut S (pw d) N l w.heap.size g w4 i wr) (fun i _ _ => l.length - (intOf i).toNat)
  case atStart => exact ⟨0, _, -1073741824, Nat.zero_le _, rfl, HO4.out, ms_repl _ _ _ _ _ rfl (fun y k => by have := HSR.out y k; omega), fun y k => absurd k (mem_nil y), fun q hq => by have := HPL.out.2 q hq; unfold Ok at this; omega, Below.refl _ _, fun _ _ => rfl, rfl⟩
  case round =>
    obtain ⟨k, bs, X, hk, rfl, ho, hMI, hX1, hX2, hb, hoth, hz⟩ := hrel
    have HO := Lib.hid ho
    have HMI := Lib.hid hMI
    have HX1 := Lib.hid hX1
    have HX2 := Lib.hid hX2
    have HBo := Lib.hid hb
    have HOT := Lib.hid hoth
    by_cases hlt : k < l.length
    · obtain ⟨b, off, lo, hi, hA, hbB, hlk, hc1, hc2⟩ := (HL4.out wr hoth).at_ hlt
      have hok := ok_at HPL.out hlk
      have HLK := Lib.hid hlk
      have hin : ∀ y, lo ≤ y → y ≤ hi → mem l y := fun y y1 y2 => by
        obtain ⟨hl, e⟩ := HLK.out
        exact ⟨by unfold Rng; omega, l[k], List.getElem_mem hl, by rw [e]; exact ⟨y1, y2⟩⟩
      have HIN := Lib.hid hin
      have hstart : MI S (pw d) N (max lo 0) bs := HMI.out.move (fun y y1 y2 hS => by
        obtain ⟨z0, z1, z2⟩ := HSR.out y hS
        rcases (mem_split k).1 z2 with z | z
        · have := HX1.out y z; omega
        · obtain ⟨hl, e⟩ := HLK.out
          have : lo - 1 < y := drop_mem_above (B := lo - 1) (fun q hq => by
            rcases drop_cases hl hq with rfl | hq
            · rw [e]; simp only; omega
            · have := (HPL.out.at_ hl).2 q hq
              rw [e] at this
              simp only at this
              omega) z
          omega) (fun y y1 y2 hS => by
        obtain ⟨hl, e⟩ := HLK.out
        have := HX2.out l[k] (drop_head hl)
        rw [e] at this
        simp only at this
        omega)
      have HST := Lib.hid hstart
      subst hA
      clear hlk hin hstart ho hMI hX1 hX2 hb hoth
      go_wp2_with (fail)
      go_loopw [11] (fun i wr2 => MIn S (pw d) N lo hi w.heap.size g w4 i wr2) (fun i _ => (1073741826 - intOf i).toNat)
      case atStart => exact ⟨max lo 0, bs, rfl, HO.out, HST.out, Int.le_refl _, by omega, by omega, HBo.out, HOT.out, hz⟩
      case round =>
        obtain ⟨x, bb, rfl, ho, hMI, hx1, hx2, hx3, hb, hoth, hz2⟩ := hrel
        have HO2 := Lib.hid ho
        have HMI2 := Lib.hid hMI
        have HB5 := Lib.hid hb
        have HOT2 := Lib.hid hoth
        have hlen2 := hMI.len
        have hcl : wr.cell? ⟨b, off + k * 2 + 1, none⟩ = some (.int .i64 hi) := by
          obtain ⟨b', off', lo', hi', hA', hbB', hlk', hc1', hc2'⟩ := (HL4.out wr hoth).at_ hlt
          injection hA' with hA'
          injection hA' with q1 q2 _
          subst q1 q2
          obtain ⟨hl, e⟩ := HLK.out
          obtain ⟨hl', e'⟩ := hlk'
          rw [e] at e'
          injection e' with q1 q2
          subst q1 q2
          exact hc2'
        clear ho hMI hb hoth
        have nx : ∀ X', X' = hi + 1 → ¬ (x ≤ hi ∧ x < 2097152) → MI S (pw d) N X' bb ∧ (∀ y, mem (l.take (k + 1)) y → y < X') ∧ (∀ q ∈ l.drop (k + 1), X' ≤ q.1) := fun X' hX' hout => by
          subst hX'
          obtain ⟨hl, e⟩ := HLK.out
          have hd := (HPL.out.at_ hl).2
          rw [e] at hd
          simp only at hd
          refine ⟨HMI2.out.move (fun y y1 y2 hS => ?_) (fun y y1 y2 hS => ?_), fun y hy => ?_, fun q hq => by have := hd q hq; omega⟩
          · have := HSR.out y hS; omega
          · have := HSR.out y hS; omega
          · rcases (mem_take_next HLK.out).1 hy with h1 | h1
            · have := HX1.out y h1
              have := HX2.out l[k] (drop_head hl)
              rw [e] at this
              simp only at this
              omega
            · omega
        have NX := Lib.hid nx
        clear nx
        by_cases hc : x ≤ hi ∧ x < 2097152
        · obtain ⟨hh1, hh2⟩ := hc
          have hx0 : 0 ≤ x := by omega
          have HSX := Lib.hid (HSL.out x hx0 hh2 (HIN.out x (by omega) hh1))
          have lo1 := lo_bound (d := d) hx0
          obtain ⟨j, hj⟩ : ∃ j : Nat, x / pw d % (N : Int) = (j : Int) := Int.eq_ofNat_of_zero_le (Int.emod_nonneg _ (by omega))
          have hjl : j < N := by have := Int.emod_lt_of_pos (x / pw d) (show (0 : Int) < N by omega); omega
          have hfz := World.ownsRow.frozenAt HO2.out j
          have hjb : j < bb.length := by omega
          have hcj := ownsB_cell HO2.out hjb
          have HJ := Lib.hid hj
          go_wp2_with (fail)
          go_roundw
          case rel => exact ⟨x + 1, bb.set j true, rfl, ownsB_set HO2.out j true, HMI2.out.mark HSX.out HJ.out, by omega, by omega, by omega, HB5.out.setCell hwg _, other_set HOT2.out, by rw [World.size_setCell]; exact hz2⟩
          case measure => simp [intOf]; omega
        · obtain ⟨n1, n2, n3⟩ := NX.out _ rfl hc
          have N1 := Lib.hid n1
          have N2 := Lib.hid n2
          have N3 := Lib.hid n3
          clear n1 n2 n3
          by_cases hh1 : x ≤ hi
          · have hh2 : 2097152 ≤ x := by omega
            clear hc
            go_wp2_with (fail)
            go_roundw
            case rel => exact ⟨k + 1, bb, hi + 1, by omega, by go_num, HO2.out, N1.out, N2.out, N3.out, HB5.out, HOT2.out, hz2⟩
            case measure => simp [intOf]; omega
          · clear hc
            go_wp2_with (fail)
            go_roundw
            case rel => exact ⟨k + 1, bb, hi + 1, by omega, by go_num, HO2.out, N1.out, N2.out, N3.out, HB5.out, HOT2.out, hz2⟩
            case measure => simp [intOf]; omega
    · have hkl : k = l.length := by omega
      subst hkl
      have hMK : ∀ j : Nat, (hj : j < bs.length) → (bs[j] = true ↔ ∃ y, S y ∧ y / pw d % N = j) := fun j hj => by
        rw [HMI.out.set j hj]
        exact ⟨fun ⟨y, a, b, c⟩ => ⟨y, a, c⟩, fun ⟨y, a, c⟩ => ⟨y, a, HX1.out y (by rw [List.take_length]; exact (HSR.out y a).2.2), c⟩⟩
      have hlen : bs.length = N + 1 := by have := HMI.out.len; omega
      have hlast : ∀ h : N < bs.length, bs[N] = false := fun h => by
        rcases hq : bs[N] with _ | _
        · rfl
        · obtain ⟨y, _, e⟩ := (hMK N h).1 hq
          have := Int.emod_lt_of_pos (y / pw d) (show (0 : Int) < N by omega)
          omega
      have hmul : ∀ j : Nat, (hj : j < bs.length) → bs[j] = true → 0 ≤ (j : Int) * U ∧ (j : Int) * U ≤ 66060288 := fun j hj h => by
        obtain ⟨y, _, e⟩ := (hMK j hj).1 h
        have := HVB.out y
        unfold valI at this
        rw [HN.out, HU.out, e] at this
        exact this
      have HMK := Lib.hid hMK
      have HLAST := Lib.hid hlast
      have HMUL := Lib.hid hmul
      have hgw : g < wr.heap.size := by omega
      have hbz : w.heap.size ≤ wr.heap.size := by omega
      have HBF := Lib.hid (HB4.out.trans HBo.out)
      obtain ⟨w5, hw5⟩ : ∃ w5, w5 = wr := ⟨_, rfl⟩
      subst hw5
      clear hz ho hMI hX1 hX2 hb hoth HX1 HX2 HMI HBo HOT hMK hlast hmul HL4 HO4 HPL
      go_wp2_with (fail)
      go_loopw [12, 13, 14] (fun o f i wr2 => LRel U N bs w5.heap.size w5 o f i wr2) (fun _ _ i _ => N + 1 - (intOf i).toNat)
      case atStart => exact ⟨0, [], none, 0, -1, 0, by omega, rfl, rfl, rfl, World.ownsRow_nil _ _ _ _, ⟨Plain.nil, fun y => ⟨fun k => absurd k (mem_nil y), fun ⟨j, _, _, k, _⟩ => by omega⟩, fun q hq => by cases hq⟩, .inl ⟨rfl, rfl⟩, Below.refl _ _⟩
      case round =>
        obtain ⟨v, o, Ao, co, f, F, hv, rfl, rfl, rfl, ho, hPO, hrun, hb⟩ := hrel
        have HO5 := Lib.hid ho
        have HPO := Lib.hid hPO
        have HRUN := Lib.hid hrun
        have HB5 := Lib.hid hb
        have hz5 := hb.size
        have HOB := Lib.hid (show OwnsB wr g g bs from World.ownsRow.kept HO.out (below_grown hb) (.inr (by simp [Value.ownBlock])))
        have hso := hPO.plain.short
        by_cases hvN : v ≤ N
        · have hvb : v < bs.length := by omega
          have hcv := ownsB_cell HOB.out hvb
          have HCV := Lib.hid (show ∀ w', Below w5.heap.size wr w' → w'.cell? ⟨g, v, none⟩ = some (.bool bs[v]) from fun w' h => by rw [h.cell (by exact hgw)]; exact ownsB_cell HOB.out hvb)
          have hm := HMUL.out v hvb
          rcases hbv : bs[v] with _ | _
          · rw [hbv] at hcv
            have HBV := Lib.hid hbv
            rcases hrun with ⟨rfl, rfl⟩ | ⟨f0, rfl, fv, rfl, fr⟩
            · clear ho hPO hb hbv hm
              go_wp2_with (fail)
              go_roundw
              case rel => exact ⟨v + 1, o, Ao, co, -1, ((v + 1 : Nat) : Int), by omega, by go_num, rfl, rfl, HO5.out, HPO.out.skip hvb HBV.out p3, .inl ⟨rfl, rfl⟩, HB5.out⟩
              case measure => simp [intOf]; omega
            · have HFR := Lib.hid fr
              clear ho hPO hb hbv hm fr
              go_wp2_with (at_builtin; go_must (refine wpList_append_own _ rfl _ _ 22 rfl w5.heap.size 40 i0 _ 2 16 Try.underlying22 hi0 hz0 hz1 hz2 rfl (by decide) _ o.length (flat o) rfl (by exact World.ownsRow.alloc HO5.out _) ⟨wr.heap.size, 0, none⟩ 1 1 [.int .i64 F, .int .i64 (v - 1)] rfl rfl (cell_two _ _ _ _) ?c2 ?c3 ?c4 ?c5 ?_))
              case c2 => intro u hu; simp at hu; rcases hu with rfl | rfl <;> rfl
              case c3 => simp only [maxLen]; omega
              case c4 => omega
              case c5 => simp only [World.size_alloc]; exact Nat.le_succ_of_le hz5
              intro v1 w6 hown1 hg1 _
              have hown2 : OwnsL w6 w5.heap.size v1 (o ++ [(F, (v : Int) - 1)]) := by
                unfold OwnsL; rw [flat_append, List.length_append]; exact hown1
              have HG1 := Lib.hid ((HB5.out.alloc hz5 _).grown hg1 (by simp; omega) (own_ge HO5.out))
              obtain ⟨A5, c5, hv5, _, _⟩ := own_RS hown2
              subst hv5
              have HO6 := Lib.hid hown2; clear hown2 hown1 hg1
              go_wp2_with (fail)
              go_roundw
              case rel => exact ⟨v + 1, _, A5, c5, -1, ((v + 1 : Nat) : Int), by omega, by go_num, rfl, rfl, HO6.out, HPO.out.run hvb HBV.out f0 fv (by omega) HFR.out, .inl ⟨rfl, rfl⟩, HG1.out⟩
              case measure => simp [intOf]; omega
          · rw [hbv] at hcv
            have hm := hm hbv
            have HBV := Lib.hid hbv
            rcases hrun with ⟨rfl, rfl⟩ | ⟨f0, rfl, fv, rfl, fr⟩
            · by_cases hU1 : U = 1
              · subst hU1
                clear ho hPO hb hbv hm
                go_wp2_with (fail)
                go_roundw
                case rel => exact ⟨v + 1, o, Ao, co, v, v, by omega, by go_num, rfl, rfl, HO5.out, HPO.out, .inr ⟨by omega, rfl, by omega, rfl, fun j hj j1 j2 => by
                  obtain rfl : j = v := by omega
                  exact HBV.out⟩, HB5.out⟩
                case measure => simp [intOf]; omega
              · have hU2 : 2 ≤ U := by omega
                clear ho hPO hb hbv
                have HM := Lib.hid hm
                go_wp2_with (at_builtin; go_must (refine wpList_append_own _ rfl _ _ 22 rfl w5.heap.size 40 i0 _ 2 16 Try.underlying22 hi0 hz0 hz1 hz2 rfl (by decide) _ o.length (flat o) rfl (by exact World.ownsRow.alloc HO5.out _) ⟨wr.heap.size, 0, none⟩ 1 1 [.int .i64 (v * U), .int .i64 (v * U)] rfl rfl (cell_two _ _ _ _) ?c2 ?c3 ?c4 ?c5 ?_))
                case c2 => intro u hu; simp at hu; subst hu; rfl
                case c3 => simp only [maxLen]; omega
                case c4 => omega
                case c5 => simp only [World.size_alloc]; exact Nat.le_succ_of_le hz5
                intro v1 w6 hown1 hg1 _
                have hown2 : OwnsL w6 w5.heap.size v1 (o ++ [((v : Int) * U, (v : Int) * U)]) := by
                  unfold OwnsL; rw [flat_append, List.length_append]; exact hown1
                have HG1 := Lib.hid ((HB5.out.alloc hz5 _).grown hg1 (by simp; omega) (own_ge HO5.out))
                obtain ⟨A5, c5, hv5, _, _⟩ := own_RS hown2
                subst hv5
                have HO6 := Lib.hid hown2; clear hown2 hown1 hg1
                go_wp2_with (fail)
                go_roundw
                case rel => exact ⟨v + 1, _, A5, c5, -1, ((v + 1 : Nat) : Int), by omega, by go_num, rfl, rfl, HO6.out, HPO.out.one hvb HBV.out hU2 HM.out, .inl ⟨rfl, rfl⟩, HG1.out⟩
                case measure => simp [intOf]; omega
            · have HFR := Lib.hid fr
              clear ho hPO hb hbv hm fr
              go_wp2_with (fail)
              go_roundw
              case rel => exact ⟨v + 1, o, Ao, co, F, F, by omega, by go_num, rfl, rfl, HO5.out, HPO.out, .inr ⟨f0, rfl, by omega, rfl, fun j hj j1 j2 => by
                rcases Nat.lt_or_ge j v with q | q
                · exact HFR.out j hj j1 q
                · obtain rfl : j = v := by omega
                  exact HBV.out⟩, HB5.out⟩
              case measure => simp [intOf]; omega
        · have hvN' : v = N + 1 := by omega
          subst hvN'
          have hF : F = ((N + 1 : Nat) : Int) := by
            rcases hrun with ⟨_, e⟩ | ⟨f0, rfl, fv, _, fr⟩
            · exact e
            · have := fr N (by omega) (by omega) (by omega)
              rw [HLAST.out (by omega)] at this
              cases this
          have hfin : Is o (ImgS d t u s) := ⟨hPO.plain, fun y => by
            rw [hPO.set]
            constructor
            · rintro ⟨j, hj, a, b, rfl⟩
              obtain ⟨x, hx, e⟩ := (HMK.out j hj).1 a
              exact ⟨x, by rw [HSE.out]; exact hx, by unfold valI; rw [HN.out, HU.out, e]⟩
            · rintro ⟨x, hx, e⟩
              rw [HSE.out] at hx
              unfold valI at e
              rw [HN.out, HU.out] at e
              have h1 := Int.emod_lt_of_pos (x / pw d) (show (0 : Int) < N by omega)
              have h2 := Int.emod_nonneg (x / pw d) (show (N : Int) ≠ 0 by omega)
              obtain ⟨j, hj⟩ := Int.eq_ofNat_of_zero_le h2
              exact ⟨j, by omega, (HMK.out j (by omega)).2 ⟨x, hx, hj⟩, by omega, by rw [← e, hj]⟩⟩
          have HF := Lib.hid hfin
          clear ho hPO hrun hb hfin
          go_wp2_with (fail)
          go_ret
          exact ⟨_, o, rfl, HF.out, own_mono HO5.out hbz, HBF.out.trans (HB5.out.mono hbz)⟩
end Go.Proofs.Ytfjghokjecdfgaa.Pa
