/- Texts of this proof, joined: PaTake, TeConst, TePut, TeClone, TeRVal, TeAwake, TpGreat. -/
import Derived.Test.YtiddgfcoankpjaaGreatDoorK3
import Derived.Test.YtiddgfcoankpjaaGreatDoorK4
import Derived.Lib.SliceRun
import Derived.OwnWalk
import Derived.Deep.RegionHeld3
/- The walk of part.take: the bits that a part takes of the numbers of a span. -/
namespace Go.Proofs.YtiddgfcoankpjaaGreatDoor.Pa
set_option maxRecDepth 100000
open Go Go.RowKit Go.Proofs.YtiddgfcoankpjaaGreatDoor.Sp

/-- What take lays: of the numbers from lo to hi, the bits that are taken. -/
def takeP (d t lo hi : Int) : List Span :=
  if pw t - 1 ≤ hi / pw d - lo / pw d then [(0, pw t - 1)]
  else if lo / pw d % pw t ≤ hi / pw d % pw t then [(lo / pw d % pw t, hi / pw d % pw t)] else [(lo / pw d % pw t, pw t - 1), (0, hi / pw d % pw t)]
theorem takeP_len (d t lo hi : Int) : (takeP d t lo hi).length ≤ 2 := by unfold takeP; split; simp; split <;> simp
theorem takeP_mem {d t lo hi : Int} (h : lo ≤ hi) (ht2 : t ≤ 21) (y : Int) : mem (takeP d t lo hi) y ↔ ∃ x, lo ≤ x ∧ x ≤ hi ∧ x / pw d % pw t = y := by
  have hD := pw_pos d
  have hT := pw_pos t
  have hT2 := pw_le ht2 pw21
  have hle : lo / pw d ≤ hi / pw d := Int.ediv_le_ediv (by omega) h
  have key : (∃ x, lo ≤ x ∧ x ≤ hi ∧ x / pw d % pw t = y) ↔ ∃ z, lo / pw d ≤ z ∧ z ≤ hi / pw d ∧ z % pw t = y := by
    constructor
    · rintro ⟨x, a, b, c⟩
      have := (img_div hD h (x / pw d)).1 ⟨x, a, b, rfl⟩
      exact ⟨x / pw d, this.1, this.2, c⟩
    · rintro ⟨z, a, b, c⟩
      obtain ⟨x, p, q, r⟩ := (img_div hD h z).2 ⟨a, b⟩
      exact ⟨x, p, q, by rw [r]; exact c⟩
  rw [key]
  have m1 := mod_lt (lo / pw d) t
  have m2 := mod_lt (hi / pw d) t
  unfold takeP
  by_cases hw : pw t - 1 ≤ hi / pw d - lo / pw d
  · rw [if_pos hw, img_all hT hw, mem_one]
    unfold Rng; simp only; omega
  · rw [if_neg hw, img_mod hT hle (by omega)]
    by_cases hc : lo / pw d % pw t ≤ hi / pw d % pw t
    · rw [if_pos hc, if_pos hc, mem_one]
      unfold Rng; simp only; omega
    · rw [if_neg hc, if_neg hc]
      show mem ([(lo / pw d % pw t, pw t - 1)] ++ [(0, hi / pw d % pw t)]) y ↔ _
      rw [mem_append, mem_one, mem_one]
      unfold Rng; simp only; omega

attribute [local go_sem] pw_fold
theorem below_grown {w w' : World} (h : Below w.heap.size w w') : w.grownBy w' none := ⟨h.os, h.tape, h.output, h.size, fun k hk _ => h.block k hk⟩
theorem own_below {w w' : World} {base : Nat} {v : Value} {xs : List Span} (h : OwnsL w base v xs) (hb : Below w.heap.size w w') : OwnsL w' base v xs := World.ownsRow.kept h (below_grown hb) (by cases v.ownBlock <;> simp)
theorem cell_four (w : World) (x y z v : Value) (t : TypeId) : ∀ j u, [x, y, z, v][j]? = some u → (w.alloc (.cells #[x, y, z, v] t)).cell? ((⟨w.heap.size, 0, none⟩ : Addr).add j) = some u := by
  intro j u hj
  match j, hj with
  | 0, hj => simp at hj; subst hj; simp [Addr.add]
  | 1, hj => simp at hj; subst hj; simp [Addr.add]
  | 2, hj => simp at hj; subst hj; simp [Addr.add]
  | 3, hj => simp at hj; subst hj; simp [Addr.add]
  | j + 4, hj => simp at hj

set_option maxRecDepth 100000 in
set_option maxHeartbeats 2000000 in
theorem take_any (base : Nat) (v : Value) (xs : List Span) (a d t u lo hi : Int) (w : World) (hown : OwnsL w base v xs) (hbase : base ≤ w.heap.size) (hlen : xs.length ≤ 1099511627776) (hb : Bits d t u) (h0 : 0 ≤ lo) (h1 : lo ≤ hi) (h2 : hi ≤ 2097151) :
    Calls Tryz.prog 124 #[v, prt a d t u, .agg #[.int .i64 lo, .int .i64 hi]] w (PutOut w base (xs ++ takeP d t lo hi)) := by
  obtain ⟨i0, hi0, hz0, hz1, hz2⟩ := info_parts infoSpan
  obtain ⟨b1, b2, b3, b4, b5, b6, b7⟩ := hb
  have l1 := lo_bound (d := d) h0
  have l2 := lo_bound (d := d) (x := hi) (by omega)
  have hT := pw_pos t
  have hT2 := pw_le b4 pw21
  have m1 := mod_lt (lo / pw d) t
  have m2 := mod_lt (hi / pw d) t
  have hle : lo / pw d ≤ hi / pw d := Int.ediv_le_ediv (by have := pw_pos d; omega) h1
  have BL1 := bits_low (lo / pw d) t l1.1 (by omega) (by omega)
  have BL2 := bits_low (hi / pw d) t l2.1 (by omega) (by omega)
  have HT := Lib.hid (show takeP d t lo hi = if pw t - 1 ≤ hi / pw d - lo / pw d then [(0, pw t - 1)] else if lo / pw d % pw t ≤ hi / pw d % pw t then [(lo / pw d % pw t, hi / pw d % pw t)] else [(lo / pw d % pw t, pw t - 1), (0, hi / pw d % pw t)] from rfl)
  have HM := Lib.hid (most_any a d t u b3 b4)
  have HS1 := Lib.hid (pw_fold d)
  have HO := Lib.hid hown
  have c1 : d ≤ 64 := by omega
  clear b7 hown
  generalize hL : lo / pw d = L at *
  generalize hH : hi / pw d = H at *
  generalize hP : pw t = T at *
  generalize hL2 : L % T = L2 at *
  generalize hH2 : H % T = H2 at *
  have HL := Lib.hid hL
  have HH := Lib.hid hH
  have B1 := Lib.hid BL1
  have B2 := Lib.hid BL2
  clear hL hH hP hL2 hH2 BL1 BL2
  go_enter Tryz.func124, Tryz.ntmps124
  go_wp2_with (fail)
  go_region_held3 (fun w' => w'.cell? ⟨w.heap.size, 0, none⟩ = some (.int .i64 a) ∧ w'.cell? ⟨w.heap.size, 1, none⟩ = some (.int .i64 d) ∧ w'.cell? ⟨w.heap.size, 2, none⟩ = some (.int .i64 t) ∧ w'.cell? ⟨w.heap.size, 3, none⟩ = some (.int .i64 u) ∧ w'.cell? ⟨w.heap.size + 1, 0, none⟩ = some (.int .i64 lo) ∧ w'.cell? ⟨w.heap.size + 1, 1, none⟩ = some (.int .i64 hi))
    (first | go_keep | (go_split_ands; refine ⟨?_, ?_, ?_, ?_, ?_, ?_⟩; all_goals (rw [hb2.cell (by simp <;> omega)]; simp)))
    (first | (go_at_call 105; refine (HM.out _).mono ?_; rintro e w2 ⟨rfl, hb2⟩))
  simp only [HL.out, HH.out]
  have hbB : Below w.heap.size w w2 := (((Below.refl _ w).alloc (Nat.le_refl _) _).alloc (by simp) _).drew.trans (hb2.mono (by simp; omega))
  have HO2 := Lib.hid (own_below HO.out hbB)
  have hz2' : base ≤ w2.heap.size := by have := hbB.size; omega
  have HBB := Lib.hid (hbB.mono hbase)
  clear hb2 hbB
  by_cases q1 : T - 1 ≤ H - L
  · have HX := Lib.hid (HT.out.trans (if_pos q1))
    go_wp2_with (at_builtin; go_must (refine wpList_append_own_at _ rfl _ _ 55 rfl base 54 i0 _ 2 16 Tryz.underlying55 hi0 hz0 hz1 hz2 rfl (by decide) v xs.length (flat xs) rfl (HO2.out.alloc _) ⟨w2.heap.size, 0, none⟩ 1 1 [.int .i64 0, .int .i64 (T - 1)] rfl rfl (cell_two _ _ _ _) ?c2 ?c3 ?c4 ?c5 ?_))
    case c2 => first | exact ⟨rfl, rfl⟩ | simp [Value.oneCell']
    case c3 => simp only [maxLen]; omega
    case c4 => omega
    case c5 => first | omega | (simp; omega)
    intro v1 w3 hown1 hg1 _ _
    have HB3 := Lib.hid ((HBB.out.alloc hz2' _).grown hg1 (by simp; omega) (own_ge HO2.out))
    go_wp2_with (fail)
    go_ret
    refine ⟨v1, rfl, ?_, HB3.out⟩
    rw [HX.out]
    unfold OwnsL
    rw [flat_append, List.length_append]
    exact hown1
  · have hx := HT.out.trans (if_neg q1)
    by_cases q2 : L2 ≤ H2
    · have HX := Lib.hid (hx.trans (if_pos q2))
      clear hx
      have e1 := B1.out
      have e2 := B2.out
      go_wp2_with (at_builtin; go_must (refine wpList_append_own_at _ rfl _ _ 55 rfl base 54 i0 _ 2 16 Tryz.underlying55 hi0 hz0 hz1 hz2 rfl (by decide) v xs.length (flat xs) rfl (HO2.out.alloc _) ⟨w2.heap.size, 0, none⟩ 1 1 [.int .i64 L2, .int .i64 H2] rfl rfl (cell_two _ _ _ _) ?c2 ?c3 ?c4 ?c5 ?_))
      case c2 => first | exact ⟨rfl, rfl⟩ | simp [Value.oneCell']
      case c3 => simp only [maxLen]; omega
      case c4 => omega
      case c5 => first | omega | (simp; omega)
      intro v1 w3 hown1 hg1 _ _
      have HB3 := Lib.hid ((HBB.out.alloc hz2' _).grown hg1 (by simp; omega) (own_ge HO2.out))
      go_wp2_with (fail)
      go_ret
      refine ⟨v1, rfl, ?_, HB3.out⟩
      rw [HX.out]
      unfold OwnsL
      rw [flat_append, List.length_append]
      exact hown1
    · have HX := Lib.hid (hx.trans (if_neg q2))
      clear hx
      have e1 := B1.out
      have e2 := B2.out
      go_wp2_with (at_builtin; go_must (refine wpList_append_own_at _ rfl _ _ 55 rfl base 54 i0 _ 2 16 Tryz.underlying55 hi0 hz0 hz1 hz2 rfl (by decide) v xs.length (flat xs) rfl (HO2.out.alloc _) ⟨w2.heap.size, 0, none⟩ 2 2 [.int .i64 L2, .int .i64 (T - 1), .int .i64 0, .int .i64 H2] rfl rfl (cell_four _ _ _ _ _ _) ?c2 ?c3 ?c4 ?c5 ?_))
      case c2 => first | exact ⟨rfl, rfl⟩ | simp [Value.oneCell']
      case c3 => simp only [maxLen]; omega
      case c4 => omega
      case c5 => first | omega | (simp; omega)
      intro v1 w3 hown1 hg1 _ _
      have HB3 := Lib.hid ((HBB.out.alloc hz2' _).grown hg1 (by simp; omega) (own_ge HO2.out))
      go_wp2_with (fail)
      go_ret
      refine ⟨v1, rfl, ?_, HB3.out⟩
      rw [HX.out]
      unfold OwnsL
      rw [flat_append, List.length_append]
      exact hown1
end Go.Proofs.YtiddgfcoankpjaaGreatDoor.Pa
/- The walks of term.Const, term.Copy, the document's Same (of two terms that are the same), the law's great. -/
namespace Go.Proofs.YtiddgfcoankpjaaGreatDoor.Te
set_option maxRecDepth 100000
open Go Go.RowKit Go.Proofs.YtiddgfcoankpjaaGreatDoor.Sp Go.Proofs.YtiddgfcoankpjaaGreatDoor.Pa

/-- A term is returned, whose parts are l. -/
def RetT (b d t u s : Int) (l : List PT) (w : World) (e : Ending) (w' : World) : Prop :=
  ∃ A c, e = .returned (trm b d t u s A l.length c) ∧ RP w' w'.heap.size A l.length l ∧ l.length ≤ c ∧ Below w.heap.size w w'

def RetN0 (b d t u s : Int) (w : World) (e : Ending) (w' : World) : Prop := e = .returned (trm b d t u s none 0 0) ∧ Below w.heap.size w w'
theorem const_nil (x : Int) (h1 : -2147483648 ≤ x) (h2 : x ≤ 2147483647) (w : World) : Calls Tryz.prog 36 #[.int .i32 x] w (RetN0 0 0 21 0 x w) := by
  go_enter Tryz.func36, Tryz.ntmps36
  go_wp2_with (fail)
  exact bodyPost_ret (v := trm 0 0 21 0 x none 0 0) (by simp [results, Tryz.results36, go_sem]) rfl ⟨rfl, (Below.refl _ _).alloc (Nat.le_refl _) _⟩

theorem copy_any (a x : Int) (w : World) : Calls Tryz.prog 35 #[.int .i64 a, .int .i64 x] w (RetT 0 0 21 0 x [(a, 0, 21, 0)] w) := by
  have HW := Lib.hid (whole_any a)
  go_enter Tryz.func35, Tryz.ntmps35
  go_wp2_with (fail)
  refine (HW.out _).mono ?_
  rintro e w1 ⟨rfl, hb1⟩
  obtain ⟨r0, r1, r2, r3, r4, r5⟩ := boxed6 hb1
  have hlt : w.heap.size < w1.heap.size := by have := hb1.size; simp at this; omega
  have fz : ∀ i, i < 6 → w1.frozen? ⟨w.heap.size, i, none⟩ = false := fun i hi => by
    rw [hb1.frozen (p := ⟨w.heap.size, i, none⟩) (by simp)]
    simp
  have f0 := fz 0 (by omega)
  have f1 := fz 1 (by omega)
  have f2 := fz 2 (by omega)
  have f3 := fz 3 (by omega)
  have f4 := fz 4 (by omega)
  have f5 := fz 5 (by omega)
  have HB := Lib.hid (((Below.refl _ w).alloc (Nat.le_refl _) _).trans (hb1.mono (by simp)))
  clear fz hb1
  go_wp2_with (fail)
  refine bodyPost_ret (v := trm 0 0 21 0 x (some ⟨w1.heap.size, 0, none⟩) 1 1) (by simp [results, Tryz.results35, go_sem, r0, r1, r2, r3, r4, r5, hlt]) rfl ⟨some ⟨w1.heap.size, 0, none⟩, 1, rfl, ?_, Nat.le_refl _, ?_⟩
  · refine ⟨rfl, fun _ => ⟨w1.heap.size, 0, rfl, by simp, fun j hj => ?_⟩⟩
    obtain rfl : j = 0 := by simp at hj; omega
    refine ⟨?_, ?_, ?_, ?_⟩ <;> (rw [World.cell?_alloc_at (hn := by simp)]; simp)
  · exact ((((((HB.out.setCell (Nat.le_refl _) _).setCell (Nat.le_refl _) _).setCell (Nat.le_refl _) _).setCell (Nat.le_refl _) _).setCell (Nat.le_refl _) _).setCell (Nat.le_refl _) _).alloc (by simp; omega) _

attribute [local go_sem] part_guard part_eqN
end Go.Proofs.YtiddgfcoankpjaaGreatDoor.Te
/- The walks of term.add, and of term.Put at the law's example. -/
namespace Go.Proofs.YtiddgfcoankpjaaGreatDoor.Te
set_option maxRecDepth 100000
open Go Go.RowKit Go.Proofs.YtiddgfcoankpjaaGreatDoor.Sp Go.Proofs.YtiddgfcoankpjaaGreatDoor.Pa

def addT (a b : Int) : Int × Bool := if Sm a ∧ Sm b ∧ Sm (a + b) then (a + b, true) else (0, false)
theorem tadd_any (a b : Int) (w : World) : Calls Tryz.prog 71 #[.int .i64 a, .int .i64 b] w (RetW (.tuple #[.int .i64 (addT a b).1, .bool (addT a b).2]) w) := by
  have HA := Lib.hid (small_any a)
  have HB := Lib.hid (small_any b)
  by_cases h1 : Sm a
  case neg =>
    rw [decide_eq_false h1] at HA
    have HE := Lib.hid (show addT a b = (0, false) from if_neg (fun h => h1 h.1))
    go_enter Tryz.func71, Tryz.ntmps71
    go_wp2_with (fail)
    refine (HA.out _).mono ?_
    rintro e w1 ⟨rfl, rfl⟩
    go_wp2_with (fail)
    go_ret2
    exact ⟨ret_v HE.out, rfl⟩
  rw [decide_eq_true h1] at HA
  by_cases h2 : Sm b
  case neg =>
    rw [decide_eq_false h2] at HB
    have HE := Lib.hid (show addT a b = (0, false) from if_neg (fun h => h2 h.2.1))
    go_enter Tryz.func71, Tryz.ntmps71
    go_wp2_with (fail)
    refine (HA.out _).mono ?_
    rintro e w1 ⟨rfl, rfl⟩
    go_wp2_with (fail)
    refine (HB.out _).mono ?_
    rintro e w1 ⟨rfl, rfl⟩
    go_wp2_with (fail)
    go_ret2
    exact ⟨ret_v HE.out, rfl⟩
  rw [decide_eq_true h2] at HB
  have HC := Lib.hid (small_any (a + b))
  unfold Sm at h1 h2
  obtain ⟨a1, a2⟩ := h1
  obtain ⟨b1, b2⟩ := h2
  by_cases h3 : Sm (a + b)
  case neg =>
    rw [decide_eq_false h3] at HC
    have HE := Lib.hid (show addT a b = (0, false) from if_neg (fun h => h3 h.2.2))
    clear h3
    go_enter Tryz.func71, Tryz.ntmps71
    go_wp2_with (fail)
    refine (HA.out _).mono ?_
    rintro e w1 ⟨rfl, rfl⟩
    go_wp2_with (fail)
    refine (HB.out _).mono ?_
    rintro e w1 ⟨rfl, rfl⟩
    go_wp2_with (fail)
    refine (HC.out _).mono ?_
    rintro e w1 ⟨rfl, rfl⟩
    go_wp2_with (fail)
    go_ret2
    exact ⟨ret_v HE.out, rfl⟩
  rw [decide_eq_true h3] at HC
  have HE := Lib.hid (show addT a b = (a + b, true) from if_pos ⟨⟨a1, a2⟩, ⟨b1, b2⟩, h3⟩)
  clear h3
  go_enter Tryz.func71, Tryz.ntmps71
  go_wp2_with (fail)
  refine (HA.out _).mono ?_
  rintro e w1 ⟨rfl, rfl⟩
  go_wp2_with (fail)
  refine (HB.out _).mono ?_
  rintro e w1 ⟨rfl, rfl⟩
  go_wp2_with (fail)
  refine (HC.out _).mono ?_
  rintro e w1 ⟨rfl, rfl⟩
  go_wp2_with (fail)
  go_ret2
  exact ⟨ret_v HE.out, rfl⟩
theorem part_nil : ∀ (w : World) (a : Option Addr) (n c n' c' : Nat), (binOp .eql 22 (.slice a n c) (.slice none n' c')).run Tryz.prog w = .ok (.bool a.isNone) w := fun w a n c n' c' => Lib.run_eql_slice_nil w _ _ a n c n' c' Tryz.underlying22
theorem clone_nil (w : World) : Calls Tryz.prog 72 #[.slice none 0 0] w (RetW (.slice none 0 0) w) := by
  have q := part_nil
  go_enter Tryz.func72, Tryz.ntmps72
  go_wp2_with (fail)
  go_ret
  exact ⟨rfl, rfl⟩
def RetTB (b d t u s : Int) (ok : Bool) (w : World) (e : Ending) (w' : World) : Prop := e = .returned (.tuple #[trm b d t u s none 0 0, .bool ok]) ∧ Below w.heap.size w w'
attribute [local go_sem] part_guard part_eqN
set_option maxHeartbeats 4000000 in
theorem put_ex (A : Option Addr) (c : Nat) (w : World) (h : RP w w.heap.size A 1 [(0, 0, 21, 0)]) :
    Calls Tryz.prog 34 #[trm 0 0 21 0 1 A 1 c, trm 0 0 21 0 97 none 0 0] w (RetTB 0 0 21 0 98 true w) := by
  obtain ⟨bb, off, a', d', t', u', hA', hbB, ⟨_, hlk⟩, c1, c2, c3, c4⟩ := h.at_ (k := 0) (by omega)
  simp only [List.getElem_cons_zero, Prod.mk.injEq] at hlk
  obtain ⟨rfl, rfl, rfl, rfl⟩ := hlk
  subst hA'
  simp only [Nat.zero_mul, Nat.add_zero] at c1 c2 c3 c4
  obtain ⟨w0, hw0⟩ : ∃ w0, ((w.alloc (.cells (tcells 0 0 21 0 1 (some ⟨bb, off, none⟩) 1 c) 24)).alloc (.cells (tcells 0 0 21 0 97 none 0 0) 24)).alloc (.cells (tcells 0 0 0 0 0 none 0 0) 24) = w0 := ⟨_, rfl⟩
  have hs0 : w0.heap.size = w.heap.size + 1 + 1 + 1 := by rw [← hw0]; simp
  have hb0 : Below w.heap.size w w0 := by rw [← hw0]; exact (((Below.refl _ _).alloc (Nat.le_refl _) _).alloc (by simp) _).alloc (by simp only [World.size_alloc]; omega) _
  have XU := Lib.hid (fun W (hb : Below w0.heap.size w0 W) => show Boxed6 W w.heap.size 0 0 21 0 1 (some ⟨bb, off, none⟩) 1 c from by
    rw [← hw0] at hb
    exact boxed6 (((((Below.refl _ _).alloc (Nat.le_refl _) _).alloc (by simp) _).trans (hb.mono (by simp)))))
  have XT := Lib.hid (fun W (hb : Below w0.heap.size w0 W) => show Boxed6 W (w.heap.size + 1) 0 0 21 0 97 none 0 0 from by
    rw [← hw0] at hb
    have := boxed6 (w := w.alloc (.cells (tcells 0 0 21 0 1 (some ⟨bb, off, none⟩) 1 c) 24)) (((Below.refl _ _).alloc (Nat.le_refl _) _).trans (hb.mono (by simp)))
    simpa using this)
  have XR := Lib.hid (fun W (hb : Below w0.heap.size w0 W) => show Boxed6 W (w.heap.size + 1 + 1) 0 0 0 0 0 none 0 0 from by
    rw [← hw0] at hb
    have := boxed6 (w := (w.alloc (.cells (tcells 0 0 21 0 1 (some ⟨bb, off, none⟩) 1 c) 24)).alloc (.cells (tcells 0 0 21 0 97 none 0 0) 24)) hb
    simpa using this)
  have HC := Lib.hid (show ∀ W, Below w0.heap.size w0 W → W.cell? ⟨w.heap.size, 5, none⟩ = some (.slice (some ⟨bb, off, none⟩) 1 c) ∧ W.cell? ⟨bb, off, none⟩ = some (.int .i64 0) ∧ W.cell? ⟨bb, off + 1, none⟩ = some (.int .i64 0) ∧ W.cell? ⟨bb, off + 2, none⟩ = some (.int .i64 21) ∧ W.cell? ⟨bb, off + 3, none⟩ = some (.int .i64 0) from fun W hW => by
    have hw := hb0.trans (hW.mono hb0.size)
    exact ⟨(XU.out W hW).2.2.2.2.2, (hw.cell hbB).trans c1, (hw.cell hbB).trans c2, (hw.cell hbB).trans c3, (hw.cell hbB).trans c4⟩)
  have HFZ := Lib.hid (show ∀ W, Below w0.heap.size w0 W → ∀ i, i < 6 → W.frozen? ⟨w.heap.size + 1 + 1, i, none⟩ = false from fun W hW i hi => by
    rw [hW.frozen (by simp only; omega), ← hw0]
    have q : ∀ (w' : World) (cs : Array Value), (w'.alloc (.cells cs 24)).frozen? ⟨w'.heap.size, i, none⟩ = false := fun w' cs => by simp
    have q1 := q ((w.alloc (.cells (tcells 0 0 21 0 1 (some ⟨bb, off, none⟩) 1 c) 24)).alloc (.cells (tcells 0 0 21 0 97 none 0 0) 24)) (tcells 0 0 0 0 0 none 0 0)
    rw [World.size_alloc, World.size_alloc] at q1
    exact q1)
  have HB0 := Lib.hid hb0
  have HL := Lib.hid (fun W => tplain_any 0 0 21 0 97 none 0 0 W)
  have HA := Lib.hid (fun W => tadd_any 1 97 W)
  rw [show plainT 0 0 21 0 = true from rfl] at HL
  rw [show addT 1 97 = (98, true) from rfl] at HA
  have HN := Lib.hid clone_nil
  obtain ⟨p0, p1, p2, p3, p4⟩ := HC.out w0 (Below.refl _ _)
  clear c1 c2 c3 c4 hb0 h
  go_enter Tryz.func34, Tryz.ntmps34
  go_wp2_with (fail)
  go_region_held3 (fun w' => w'.cell? ⟨w.heap.size, 5, none⟩ = some (.slice (some ⟨bb, off, none⟩) 1 c) ∧ w'.cell? ⟨bb, off, none⟩ = some (.int .i64 0) ∧ w'.cell? ⟨bb, off + 1, none⟩ = some (.int .i64 0) ∧ w'.cell? ⟨bb, off + 2, none⟩ = some (.int .i64 21) ∧ w'.cell? ⟨bb, off + 3, none⟩ = some (.int .i64 0))
    (first | go_keep | exact HC.out _ (Below.refl _ _).drew | exact HC.out _ hB2)
    (first
      | (go_at_call 69; (with_reducible refine (whole_any _ _).mono ?_); rintro q2 w2 ⟨rfl, hb2⟩; have hB2 : Below w0.heap.size w0 w2 := (Below.refl _ w0).drew.trans (hb2.mono (by simp))))
  have HB2 := Lib.hid hB2
  clear hB2 hb2 p0 p1 p2 p3 p4
  have hz2 := HB2.out.size
  obtain ⟨w3, hw3⟩ : ∃ w3, w2.alloc (.cells (tcells 0 0 0 0 0 none 0 0) 24) = w3 := ⟨_, rfl⟩
  have h23 : Below w2.heap.size w2 w3 := by rw [← hw3]; exact (Below.refl _ _).alloc (Nat.le_refl _) _
  have h03 := HB2.out.trans (h23.mono hz2)
  obtain ⟨t0, t1, t2, t3, t4, t5⟩ := XT.out _ h03
  go_wp2_with (fail)
  refine (HL.out _).mono ?_
  rintro e w4 ⟨rfl, hb4⟩
  have XG : Boxed6 w4 w2.heap.size 0 0 0 0 0 none 0 0 := by rw [← hw3] at hb4; exact boxed6 hb4
  obtain ⟨g0, g1, g2, g3, g4, g5⟩ := XG
  have h34 := h03.trans (hb4.mono h03.size)
  obtain ⟨u0, u1, u2, u3, u4, u5⟩ := XU.out _ h34
  obtain ⟨s0, s1, s2, s3, s4, s5⟩ := XT.out _ h34
  obtain ⟨r0, r1, r2, r3, r4, r5⟩ := XR.out _ h34
  have fz : ∀ i, i < 6 → w4.frozen? ⟨w2.heap.size, i, none⟩ = false := fun i hi => by
    rw [← hw3] at hb4
    rw [hb4.frozen (p := ⟨w2.heap.size, i, none⟩) (by simp)]
    simp
  have f0 := fz 0 (by omega)
  have f1 := fz 1 (by omega)
  have f2 := fz 2 (by omega)
  have f3 := fz 3 (by omega)
  have f4 := fz 4 (by omega)
  have f5 := fz 5 (by omega)
  have k0 := HFZ.out _ h34 0 (by omega)
  have k1 := HFZ.out _ h34 1 (by omega)
  have k2 := HFZ.out _ h34 2 (by omega)
  have k3 := HFZ.out _ h34 3 (by omega)
  have k4 := HFZ.out _ h34 4 (by omega)
  have k5 := HFZ.out _ h34 5 (by omega)
  have hlt : w.heap.size + 1 + 1 < w2.heap.size := by omega
  have hlt2 : w2.heap.size < w4.heap.size := by have := hb4.size; rw [← hw3] at this; simp at this; omega
  have ne1 : ¬ (w.heap.size = w2.heap.size) := by omega
  have ne2 : ¬ (w.heap.size + 1 = w2.heap.size) := by omega
  have ne3 : ¬ (w.heap.size + 1 + 1 = w2.heap.size) := by omega
  have H34 := Lib.hid h34
  clear fz h34 h03 h23 hb4 t0 t1 t2 t3 t4 t5
  go_wp2_with (fail)
  obtain ⟨w5, hw5⟩ : ∃ w5, ((((((w4.setCell ⟨w2.heap.size, 0, none⟩ (.int .i64 0)).setCell ⟨w2.heap.size, 1, none⟩ (.int .i64 0)).setCell ⟨w2.heap.size, 2, none⟩ (.int .i64 21)).setCell ⟨w2.heap.size, 3, none⟩ (.int .i64 0)).setCell ⟨w2.heap.size, 4, none⟩ (.int .i64 1)).setCell ⟨w2.heap.size, 5, none⟩ (.slice (some ⟨bb, off, none⟩) 1 c)) = w5 := ⟨_, rfl⟩
  rw [hw5]
  have hB5 : Below w0.heap.size w4 w5 := by
    rw [← hw5]
    exact (((((((Below.refl _ _).setCell (by simp only; omega) _).setCell (by simp only; omega) _).setCell (by simp only; omega) _).setCell (by simp only; omega) _).setCell (by simp only; omega) _).setCell (by simp only; omega) _)
  have G5 : Boxed6 w5 w2.heap.size 0 0 21 0 1 (some ⟨bb, off, none⟩) 1 c := by
    rw [← hw5]
    refine ⟨?_, ?_, ?_, ?_, ?_, ?_⟩ <;> simp [go_sem, g0, g1, g2, g3, g4, g5]
  have F5 : ∀ i, i < 6 → w5.frozen? ⟨w2.heap.size, i, none⟩ = false := fun i hi => by
    rw [← hw5]
    have : w4.frozen? ⟨w2.heap.size, i, none⟩ = false := by
      rcases (show i = 0 ∨ i = 1 ∨ i = 2 ∨ i = 3 ∨ i = 4 ∨ i = 5 from by omega) with rfl | rfl | rfl | rfl | rfl | rfl <;> assumption
    simpa using this
  have h05 := H34.out.trans hB5
  clear g0 g1 g2 g3 g4 g5 u0 u1 u2 u3 u4 u5 s0 s1 s2 s3 s4 s5 r0 r1 r2 r3 r4 r5 f0 f1 f2 f3 f4 f5 k0 k1 k2 k3 k4 k5 hw5 hB5 hlt2
  obtain ⟨s0, s1, s2, s3, s4, s5⟩ := XT.out _ h05
  obtain ⟨g0, g1, g2, g3, g4, g5⟩ := G5
  have f4 := F5 4 (by omega)
  have f5 := F5 5 (by omega)
  have H05 := Lib.hid h05
  clear h05
  refine (HA.out _).mono ?_
  rintro e w9 ⟨rfl, rfl⟩
  go_wp2_with (fail)
  refine (HN.out _).mono ?_
  rintro e w9 ⟨rfl, rfl⟩
  obtain ⟨w6, hw6⟩ : ∃ w6, w5.setCell ⟨w2.heap.size, 4, none⟩ (.int .i64 98) = w6 := ⟨_, rfl⟩
  rw [hw6]
  have hB6 : Below w0.heap.size w5 w6 := by rw [← hw6]; exact (Below.refl _ _).setCell (by simp only; omega) _
  have G6 : Boxed6 w6 w2.heap.size 0 0 21 0 98 (some ⟨bb, off, none⟩) 1 c := by
    rw [← hw6]
    refine ⟨?_, ?_, ?_, ?_, ?_, ?_⟩ <;> simp [go_sem, g0, g1, g2, g3, g4, g5]
  have f6 : w6.frozen? ⟨w2.heap.size, 5, none⟩ = false := by rw [← hw6]; simpa using f5
  have h06 := H05.out.trans hB6
  clear g0 g1 g2 g3 g4 g5 f4 f5 F5 hw6 hB6 s0 s1 s2 s3 s4 s5
  obtain ⟨r0, r1, r2, r3, r4, r5⟩ := XR.out _ h06
  obtain ⟨g0, g1, g2, g3, g4, g5⟩ := G6
  have k0 := HFZ.out _ h06 0 (by omega)
  have k1 := HFZ.out _ h06 1 (by omega)
  have k2 := HFZ.out _ h06 2 (by omega)
  have k3 := HFZ.out _ h06 3 (by omega)
  have k4 := HFZ.out _ h06 4 (by omega)
  have k5 := HFZ.out _ h06 5 (by omega)
  have H06 := Lib.hid h06
  clear h06
  go_wp2_with (fail)
  have hb9 := HB0.out.trans (H06.out.mono HB0.out.size)
  refine bodyPost_ret (v := .tuple #[trm 0 0 21 0 98 none 0 0, .bool true]) (by simp [results, Tryz.results34, go_sem, r0, r1, r2, r3, r4, r5]) rfl ⟨rfl, ?_⟩
  exact (((((((hb9.setCell (by simp only; omega) _).setCell (by simp only; omega) _).setCell (by simp only; omega) _).setCell (by simp only; omega) _).setCell (by simp only; omega) _).setCell (by simp only; omega) _).setCell (by simp only; omega) _)
end Go.Proofs.YtiddgfcoankpjaaGreatDoor.Te
/- slices.Clone of parts; the box of a term that is stored into, with what may be written there. -/
namespace Go.Proofs.YtiddgfcoankpjaaGreatDoor.Te
set_option maxRecDepth 100000
open Go Go.RowKit Go.Proofs.YtiddgfcoankpjaaGreatDoor.Sp Go.Proofs.YtiddgfcoankpjaaGreatDoor.Pa

abbrev encP (p : PT) : List Value := [.int .i64 p.1, .int .i64 p.2.1, .int .i64 p.2.2.1, .int .i64 p.2.2.2]
def flatP (l : List PT) : List Value := l.flatMap encP
theorem flatP_cons (p : PT) (l : List PT) : flatP (p :: l) = .int .i64 p.1 :: .int .i64 p.2.1 :: .int .i64 p.2.2.1 :: .int .i64 p.2.2.2 :: flatP l := rfl
theorem flatP_append (l r : List PT) : flatP (l ++ r) = flatP l ++ flatP r := List.flatMap_append
theorem flatP_at : ∀ (l : List PT) (j : Nat) (h : j < l.length), (flatP l)[4 * j]? = some (.int .i64 l[j].1) ∧ (flatP l)[4 * j + 1]? = some (.int .i64 l[j].2.1) ∧ (flatP l)[4 * j + 2]? = some (.int .i64 l[j].2.2.1) ∧ (flatP l)[4 * j + 3]? = some (.int .i64 l[j].2.2.2) := by
  intro l
  induction l with
  | nil => intro j h; simp at h
  | cons p l ih =>
    intro j h
    cases j with
    | zero => exact ⟨rfl, rfl, rfl, rfl⟩
    | succ j =>
      have := ih j (by simpa using h)
      rw [flatP_cons]
      rw [show 4 * (j + 1) = 4 * j + 1 + 1 + 1 + 1 from by omega]
      simpa using this
def OwnsP (w : World) (base : Nat) (v : Value) (l : List PT) : Prop := w.ownsRow base 57 4 v l.length (flatP l)
theorem infoPart : (Tryz.prog.info? 57).map (fun i => (i.zero, i.size, i.bytes)) = some (some (.agg #[.int .i64 0, .int .i64 0, .int .i64 0, .int .i64 0]), 4, 32) := by kernel_rfl
theorem own_RP {w : World} {base : Nat} {v : Value} {l : List PT} (h : OwnsP w base v l) : ∃ A c, v = .slice A l.length c ∧ RP w w.heap.size A l.length l ∧ l.length ≤ c ∧ ∀ b off, A = some ⟨b, off, none⟩ → base ≤ b := by
  have h0 := h
  obtain ⟨h1, h2⟩ := h
  rcases h2 with ⟨hv, hn⟩ | ⟨g, cap, cur, hv, hb, hr⟩
  · obtain rfl : l = [] := List.eq_nil_of_length_eq_zero hn
    exact ⟨none, 0, hv, RP.nil_ _ _ _, Nat.le_refl _, fun _ _ e => by cases e⟩
  · subst hv
    refine ⟨some ⟨g, 0, none⟩, cap, rfl, ⟨rfl, fun hn => ?_⟩, hr.2.1, fun b off e => by injection e with e; injection e with e _ _; omega⟩
    refine ⟨g, 0, rfl, (World.ownsRow.lt h0 g rfl).2, fun j hj => ?_⟩
    obtain ⟨a0, a1, a2, a3⟩ := flatP_at l j hj
    have c0 := World.ownsRow.cells h0 (g := g) rfl (4 * j) _ a0
    have c1 := World.ownsRow.cells h0 (g := g) rfl (4 * j + 1) _ a1
    have c2 := World.ownsRow.cells h0 (g := g) rfl (4 * j + 2) _ a2
    have c3 := World.ownsRow.cells h0 (g := g) rfl (4 * j + 3) _ a3
    rw [Go.WideShapes.add_plain] at c0 c1 c2 c3
    simp only [Nat.zero_add] at *
    rw [show j * 4 = 4 * j from by omega]
    exact ⟨c0, c1, c2, c3⟩
/-- Written was to block g alone. -/
def FarB (W W' : World) (g : Nat) : Prop := (∀ p : Addr, p.block ≠ g → W'.cell? p = W.cell? p ∧ W'.frozen? p = W.frozen? p) ∧ W'.heap.size = W.heap.size
theorem FarB.refl (W : World) (g : Nat) : FarB W W g := ⟨fun _ _ => ⟨rfl, rfl⟩, rfl⟩
theorem FarB.set {W W' : World} {g i : Nat} (h : FarB W W' g) (v : Value) : FarB W (W'.setCell ⟨g, i, none⟩ v) g :=
  ⟨fun p hp => ⟨(World.cell?_setCell_far _ _ _ _ (Ne.symm hp)).trans (h.1 p hp).1, (by simp : _ = W'.frozen? p).trans (h.1 p hp).2⟩, (by simp : _ = W'.heap.size).trans h.2⟩
theorem RP.far {W W' : World} {B n g : Nat} {A : Option Addr} {l : List PT} (h : RP W B A n l) (hf : FarB W W' g) (hA : ∀ b off, A = some ⟨b, off, none⟩ → b ≠ g) : RP W' B A n l :=
  ⟨h.1, fun hn => by
    obtain ⟨b, off, e, hb, hc⟩ := h.2 hn
    have k : ∀ i, W'.cell? ⟨b, i, none⟩ = W.cell? ⟨b, i, none⟩ := fun i => (hf.1 ⟨b, i, none⟩ (hA b off e)).1
    exact ⟨b, off, e, hb, fun j hj => ⟨(k _).trans (hc j hj).1, (k _).trans (hc j hj).2.1, (k _).trans (hc j hj).2.2.1, (k _).trans (hc j hj).2.2.2⟩⟩⟩
/-- A box of a term, that may be written. -/
def BoxF (W : World) (g : Nat) (b d t u s : Int) (A : Option Addr) (n c : Nat) : Prop := Boxed6 W g b d t u s A n c ∧ ∀ i, i < 6 → W.frozen? ⟨g, i, none⟩ = false
section
variable {W W' w : World} {g B : Nat} {b d t u s : Int} {A : Option Addr} {n c : Nat} {ty : TypeId}
theorem BoxF.new (w : World) (b d t u s : Int) (A : Option Addr) (n c : Nat) (ty : TypeId) : BoxF (w.alloc (.cells (tcells b d t u s A n c) ty)) w.heap.size b d t u s A n c := ⟨boxed6 (Below.refl _ _), fun i hi => by simp⟩
theorem BoxF.keep (h : BoxF W g b d t u s A n c) (hb : Below B W W') (hg : g < B) : BoxF W' g b d t u s A n c := by
  obtain ⟨⟨h0, h1, h2, h3, h4, h5⟩, hf⟩ := h
  exact ⟨⟨(hb.cell hg).trans h0, (hb.cell hg).trans h1, (hb.cell hg).trans h2, (hb.cell hg).trans h3, (hb.cell hg).trans h4, (hb.cell hg).trans h5⟩, fun i hi => (hb.frozen (p := ⟨g, i, none⟩) hg).trans (hf i hi)⟩
/-- A store into one box leaves another one as it is. -/
theorem BoxF.far (h : BoxF W g b d t u s A n c) {g' : Nat} (hw : FarB W W' g') (hne : g ≠ g') : BoxF W' g b d t u s A n c := by
  obtain ⟨⟨h0, h1, h2, h3, h4, h5⟩, hf⟩ := h
  have k := fun i => hw.1 ⟨g, i, none⟩ hne
  exact ⟨⟨(k 0).1.trans h0, (k 1).1.trans h1, (k 2).1.trans h2, (k 3).1.trans h3, (k 4).1.trans h4, (k 5).1.trans h5⟩, fun i hi => (k i).2.trans (hf i hi)⟩
end
end Go.Proofs.YtiddgfcoankpjaaGreatDoor.Te
/- The walk of the document's Value of a term. -/
namespace Go.Proofs.YtiddgfcoankpjaaGreatDoor.Te
set_option maxRecDepth 100000
open Go Go.RowKit Go.Proofs.YtiddgfcoankpjaaGreatDoor.Sp Go.Proofs.YtiddgfcoankpjaaGreatDoor.Pa

def VRel3 (xs : List Int) (s : Int) (l : List PT) (B : Nat) (w2 : World) (sv iv : Value) (wr : World) : Prop := ∃ k : Nat, k ≤ l.length ∧ iv = .int .i64 k ∧ sv = .int .i64 (innerT xs s (l.take k)) ∧ AllR xs.length l k ∧ Below B w2 wr
set_option maxHeartbeats 8000000 in
theorem rtvalue_any (b d t u s : Int) (A B : Option Addr) (n c m e : Nat) (l : List PT) (xs : List Int) (w : World) (h : RP w w.heap.size A n l) (hn : n ≤ maxLen) (h' : RR w w.heap.size B m xs) (hm : m ≤ maxLen) :
    Calls Tryz.prog 40 #[trm b d t u s A n c, .slice B m e] w (RetV (valueT b d t u s l xs) w) := by
  unfold maxLen at hn hm
  have hlen := h.1
  have hlen' := h'.1
  subst hlen hlen'
  have hbw : Below w.heap.size w (w.alloc (.cells (tcells b d t u s A l.length c) 24)) := (Below.refl _ w).alloc (Nat.le_refl _) _
  obtain ⟨w0, hw0⟩ : ∃ w0, w.alloc (.cells (tcells b d t u s A l.length c) 24) = w0 := ⟨_, rfl⟩
  have X6 := Lib.hid (fun W (hb : Below w0.heap.size w0 W) => show Boxed6 W w.heap.size b d t u s A l.length c from by rw [← hw0] at hb; exact boxed6 hb)
  rw [hw0] at hbw
  have HW := Lib.hid hbw
  have H := Lib.hid (h.belowM hbw)
  have H' := Lib.hid (h'.belowM hbw)
  clear h h' hbw
  go_enter Tryz.func40, Tryz.ntmps40
  go_wp2_with (fail)
  go_loopw [6] (fun i wr => VRel1 xs w0.heap.size w0 i wr) (fun i _ => xs.length - (intOf i).toNat)
  case atStart => exact ⟨0, Nat.zero_le _, rfl, fun q hq => by simp at hq, Below.refl _ _⟩
  case round =>
    obtain ⟨k, hk, rfl, hA, hb⟩ := hrel
    have HA := Lib.hid hA
    have HB := Lib.hid hb
    have hz := hb.size
    by_cases hlt : k < xs.length
    · obtain ⟨bb, off, x, hA', hbB, hlk, c1, x1, x2⟩ := (H'.out.below hb).at_ hlt
      have HLK := Lib.hid hlk
      subst hA'
      clear hA hb hlk
      by_cases hx0 : x < 0
      · have HV := Lib.hid (show valueT b d t u s l xs = (0, false) from if_neg (fun h => by rw [symB_false HLK.out (fun q => by have := q.1; omega)] at h; exact absurd h.1 (by decide)))
        go_wp2_with (fail)
        go_ret2
        exact ⟨ret_v HV.out, HW.out.trans (HB.out.mono HW.out.size)⟩
      · by_cases hx1 : 1114111 < x
        · have HV := Lib.hid (show valueT b d t u s l xs = (0, false) from if_neg (fun h => by rw [symB_false HLK.out (fun q => by have := q.2; omega)] at h; exact absurd h.1 (by decide)))
          go_wp2_with (fail)
          go_ret2
          exact ⟨ret_v HV.out, HW.out.trans (HB.out.mono HW.out.size)⟩
        · go_wp2_with (fail)
          go_roundw
          case rel => exact ⟨k + 1, by omega, by go_num, allS_next HA.out HLK.out ⟨by omega, by omega⟩, HB.out⟩
          case measure => simp [intOf]; omega
    · have hkl : k = xs.length := by omega
      subst hkl
      have HS := Lib.hid (symB_true hA)
      obtain ⟨r0, r1, r2, r3, r4, r5⟩ := X6.out wr hb
      clear hA hb
      go_wp2_with (fail)
      obtain ⟨w3, hw3⟩ : ∃ w3, w3 = wr := ⟨_, rfl⟩
      subst hw3
      go_loopw [7, 8] (fun sv iv wr => VRel3 xs s l w3.heap.size w3 sv iv wr) (fun _ i _ => l.length - (intOf i).toNat)
      case atStart => exact ⟨0, Nat.zero_le _, rfl, rfl, fun q hq => by simp at hq, Below.refl _ _⟩
      case round =>
        obtain ⟨k, hk, rfl, rfl, hR, hb⟩ := hrel
        have HR := Lib.hid hR
        have hbx := HB.out.trans (hb.mono hz)
        obtain ⟨r0, r1, r2, r3, r4, r5⟩ := X6.out wr hbx
        have HB2 := Lib.hid hbx
        have hz4 := hbx.size
        obtain ⟨acc, hacc⟩ : ∃ acc, innerT xs s (l.take k) = acc := ⟨_, rfl⟩
        rw [hacc]
        by_cases hlt : k < l.length
        · obtain ⟨bb, off, a', d', t', u', hA', hbB, hlk, c1, c2, c3, c4⟩ := (H.out.below hbx).at_ hlt
          have HLK := Lib.hid hlk
          have HRT := Lib.hid (rright_any a' d' t' u' xs.length)
          have HBR := Lib.hid hb
          obtain ⟨w5, hw5⟩ : ∃ w5, wr.alloc (.cells #[.int .i64 a', .int .i64 d', .int .i64 t', .int .i64 u'] 57) = w5 := ⟨_, rfl⟩
          have h45 : Below wr.heap.size wr w5 := by rw [← hw5]; exact (Below.refl _ _).alloc (Nat.le_refl _) _
          have H45 := Lib.hid h45
          have Z5 := Lib.hid (show ∀ W, Below w5.heap.size w5 W → W.cell? ⟨wr.heap.size, 0, none⟩ = some (.int .i64 a') ∧ W.cell? ⟨wr.heap.size, 1, none⟩ = some (.int .i64 d') ∧ W.cell? ⟨wr.heap.size, 2, none⟩ = some (.int .i64 t') ∧ W.cell? ⟨wr.heap.size, 3, none⟩ = some (.int .i64 u') from fun W hW => by
            rw [← hw5] at hW
            exact boxed4 hW)
          obtain ⟨z0, z1, z2, z3⟩ := Z5.out w5 (Below.refl _ _)
          subst hA'
          rcases hrt : rightB a' d' t' u' xs.length with _ | _
          · rw [hrt] at HRT
            have HV := Lib.hid (show valueT b d t u s l xs = (0, false) from if_neg (fun h => by rw [partsB_false HLK.out hrt] at h; exact absurd h.2 (by decide)))
            clear hrt hlk hacc hb hbx hR h45
            go_wp2_with (fail)
            refine (HRT.out _).mono ?_
            rintro e w6 ⟨rfl, hb6⟩
            go_wp2_with (fail)
            go_ret2
            exact ⟨ret_v HV.out, HW.out.trans ((HB2.out.trans ((H45.out.trans (hb6.mono H45.out.size)).mono hz4)).mono HW.out.size)⟩
          · rw [hrt] at HRT
            have HRR := Lib.hid (allR_next HR.out HLK.out hrt)
            unfold rightB at hrt
            obtain ⟨ra, rb, rc⟩ := of_decide_eq_true hrt
            obtain ⟨j, hj⟩ := Int.eq_ofNat_of_zero_le ra
            subst hj
            have hjl : j < xs.length := by omega
            obtain ⟨b2, off2, x, hB', hbB2, hxk, y1, x1, x2⟩ := (H'.out.below hbx).at_ hjl
            subst hB'
            have hsy : Sy x := by
              obtain ⟨_, e1⟩ := hxk
              rw [← e1]
              have := HA.out
              rw [AllS, List.take_length] at this
              exact this _ (List.getElem_mem _)
            have HI := Lib.hid (show innerT xs s (l.take (k + 1)) = wrap64 (acc + valI d' t' u' x) from by rw [inner_next HLK.out, hacc, atI_get rfl hxk])
            have hx9 : x ≤ 9223372036854775807 := by omega
            have HX := Lib.hid (show ∀ W, Calls Tryz.prog 80 #[prt j d' t' u', .int .i64 (IntKind.i64.wrap x)] W (RetV (valP d' t' u' x) W) from fun W => by rw [IntWalk.i64_in x (by omega)]; exact rvalue_any j d' t' u' x W hx9)
            have hp : valP d' t' u' x = (valI d' t' u' x, true) := if_pos ⟨rc, hsy.1, by have := hsy.2; omega⟩
            rw [hp] at HX
            have hvb := valI_bound rc x
            generalize valI d' t' u' x = v at *
            have HC := Lib.hid (show ∀ W, Below wr.heap.size wr W → W.cell? ⟨b2, off2 + j, none⟩ = some (.int .i32 x) from fun W hW => (hW.cell (by simp only; omega)).trans y1)
            have Q5 := Lib.hid (show ∀ W, Below w5.heap.size w5 W → W.cell? ⟨wr.heap.size, 0, none⟩ = some (.int .i64 j) ∧ W.cell? ⟨wr.heap.size, 1, none⟩ = some (.int .i64 d') ∧ W.cell? ⟨wr.heap.size, 2, none⟩ = some (.int .i64 t') ∧ W.cell? ⟨wr.heap.size, 3, none⟩ = some (.int .i64 u') ∧ W.cell? ⟨b2, off2 + j, none⟩ = some (.int .i32 x) from fun W hW => by
              obtain ⟨z0, z1, z2, z3⟩ := Z5.out W hW
              exact ⟨z0, z1, z2, z3, HC.out W (h45.trans (hW.mono h45.size))⟩)
            clear hrt hp rc hxk hlk hacc hb hbx hsy h45 HC hR
            go_wp2_with (fail)
            refine (HRT.out _).mono ?_
            rintro e w6 ⟨rfl, hb6⟩
            obtain ⟨y0, y1, y2, y3, y4⟩ := Q5.out _ hb6
            have H6 := Lib.hid hb6
            clear hb6 z0 z1 z2 z3
            go_wp2_with (fail)
            go_region_held3 (fun w' => w'.cell? ⟨wr.heap.size, 0, none⟩ = some (.int .i64 j) ∧ w'.cell? ⟨wr.heap.size, 1, none⟩ = some (.int .i64 d') ∧ w'.cell? ⟨wr.heap.size, 2, none⟩ = some (.int .i64 t') ∧ w'.cell? ⟨wr.heap.size, 3, none⟩ = some (.int .i64 u') ∧ w'.cell? ⟨b2, off2 + j, none⟩ = some (.int .i32 x))
              (first | go_keep | exact Q5.out _ H6.out.drew | exact Q5.out _ hB4)
              (first
                | (go_at_call 80; (with_reducible refine (HX.out _).mono ?_); rintro q4 w4 ⟨rfl, hb4⟩; have hB4 : Below w5.heap.size w5 w4 := H6.out.drew.trans (hb4.mono H6.out.drew.size)))
            have HB4 := Lib.hid (HBR.out.trans ((H45.out.trans (hB4.mono H45.out.size)).mono HBR.out.size))
            clear hb4 hB4
            go_wp2_with (fail)
            go_roundw
            case rel => exact ⟨k + 1, by omega, by go_num, by rw [HI.out], HRR.out, HB4.out⟩
            case measure => simp [intOf]; omega
        · have hkl : k = l.length := by omega
          subst hkl
          have HV := Lib.hid (show valueT b d t u s l xs = wholeT b d t u acc from by
            rw [← hacc, List.take_length]
            exact if_pos ⟨HS.out, partsB_true hR⟩)
          clear hacc hb hbx hR
          have HO := Lib.hid (router_any b d t u s A l.length c)
          by_cases g1 : acc < 0
          · have HE := Lib.hid (show wholeT b d t u acc = (0, false) from if_neg (fun h => by have := h.1.1; omega))
            go_wp2_with (fail)
            go_ret2
            exact ⟨ret_v (by rw [HV.out, HE.out]), HW.out.trans (HB2.out.mono HW.out.size)⟩
          · by_cases g2 : 1114111 < acc
            · have HE := Lib.hid (show wholeT b d t u acc = (0, false) from if_neg (fun h => by have := h.1.2; omega))
              go_wp2_with (fail)
              go_ret2
              exact ⟨ret_v (by rw [HV.out, HE.out]), HW.out.trans (HB2.out.mono HW.out.size)⟩
            · have hx9 : acc ≤ 9223372036854775807 := by omega
              have HX := Lib.hid (fun W => rvalue_any 0 d t u acc W hx9)
              by_cases h2 : Bits d t u
              · have hp : valP d t u acc = (valI d t u acc, true) := if_pos ⟨h2, by omega, by omega⟩
                rw [hp] at HX
                have HE := Lib.hid (show wholeT b d t u acc = (wrap64 (b + valI d t u acc), true) from if_pos ⟨⟨by omega, by omega⟩, h2⟩)
                generalize valI d t u acc = v at *
                clear hp h2
                go_wp2_with (fail)
                refine (HO.out _).mono ?_
                rintro e w4 ⟨rfl, hb4⟩
                go_wp2_with (fail)
                refine (HX.out _).mono ?_
                rintro e w5 ⟨rfl, hb5⟩
                have hb9 := HB2.out.trans ((hb4.trans (hb5.mono hb4.size)).mono hz4)
                obtain ⟨q0, q1, q2, q3, q4, q5⟩ := X6.out w5 hb9
                have H9 := Lib.hid hb9
                clear hb9 hb4 hb5 r0 r1 r2 r3 r4 r5
                go_wp2_with (fail)
                go_ret2
                exact ⟨ret_v (by rw [HV.out, HE.out]), HW.out.trans (H9.out.mono HW.out.size)⟩
              · have hp : valP d t u acc = (0, false) := if_neg (fun h => h2 h.1)
                rw [hp] at HX
                have HE := Lib.hid (show wholeT b d t u acc = (0, false) from if_neg (fun h => h2 h.2))
                clear hp h2
                go_wp2_with (fail)
                refine (HO.out _).mono ?_
                rintro e w4 ⟨rfl, hb4⟩
                go_wp2_with (fail)
                refine (HX.out _).mono ?_
                rintro e w5 ⟨rfl, hb5⟩
                go_wp2_with (fail)
                go_ret2
                exact ⟨ret_v (by rw [HV.out, HE.out]), HW.out.trans ((HB2.out.trans ((hb4.trans (hb5.mono hb4.size)).mono hz4)).mono HW.out.size)⟩
end Go.Proofs.YtiddgfcoankpjaaGreatDoor.Te
/- The walk of the law's examples (awake). -/
namespace Go.Proofs.YtiddgfcoankpjaaGreatDoor.Te
set_option maxRecDepth 100000
open Go Go.RowKit Go.Proofs.YtiddgfcoankpjaaGreatDoor.Sp Go.Proofs.YtiddgfcoankpjaaGreatDoor.Pa

abbrev exP : List PT := [(1, 0, 6, 0), (0, 0, 5, 6)]
theorem ex_value : valueT 0 0 21 0 0 exP [195, 188] = (252, true) := by
  have h1 : symB [195, 188] = true := symB_true (fun x hx => by simp at hx; rcases hx with rfl | rfl <;> (unfold Sy; omega))
  have h2 : partsB ([195, 188] : List Int).length exP = true := by decide
  have v1 : valI 0 6 0 188 = 60 := by decide
  have v2 : valI 0 5 6 195 = 192 := by decide
  have v3 : valI 0 21 0 252 = 252 := by decide
  have hi : innerT [195, 188] 0 exP = 252 := by
    show wrap64 (wrap64 (0 + valI 0 6 0 188) + valI 0 5 6 195) = 252
    rw [v1, v2]
    kernel_rfl
  have hw : wholeT 0 0 21 0 252 = (252, true) := by
    unfold wholeT
    rw [if_pos ⟨by unfold Sy; omega, by decide⟩, v3]
    kernel_rfl
  unfold valueT
  rw [if_pos ⟨h1, h2⟩, hi, hw]
theorem ex_right : rightT 1 2 2 0 0 21 0 0 exP = true := by
  have h : riseB exP = true := riseB_true (k := 2) (fun i h1 h2 => by
    obtain rfl : i = 0 := by omega
    show (0 : Int) < 6
    decide) (by decide)
  have hn : numB 0 0 21 0 0 exP = true := by unfold numB; rw [h]; decide
  unfold rightT
  rw [hn]
  decide
theorem RP_two {w : World} {g B : Nat} (h1 : ∀ i (hi : i < 8), w.cell? ⟨g, i, none⟩ = some (#[Value.int .i64 1, .int .i64 0, .int .i64 6, .int .i64 0, .int .i64 0, .int .i64 0, .int .i64 5, .int .i64 6][i])) (hB : g < B) : RP w B (some ⟨g, 0, none⟩) 2 exP :=
  ⟨rfl, fun _ => ⟨g, 0, rfl, hB, fun j hj => by
    rcases (show j = 0 ∨ j = 1 from by simp at hj; omega) with rfl | rfl
    · exact ⟨h1 0 (by decide), h1 1 (by decide), h1 2 (by decide), h1 3 (by decide)⟩
    · exact ⟨h1 4 (by decide), h1 5 (by decide), h1 6 (by decide), h1 7 (by decide)⟩⟩⟩
set_option maxHeartbeats 4000000 in
theorem tawake_any (w : World) : Calls Tryz.prog 12 #[] w (RetB true w) := by
  go_enter Tryz.func12, Tryz.ntmps12
  go_wp2_with (fail)
  have HV := Lib.hid (fun W h h' => tvalue_any 0 0 21 0 0 (some ⟨w.heap.size, 0, none⟩) (some ⟨w.heap.size + 1 + 1, 0, none⟩) 2 2 2 2 exP [195, 188] W h (by unfold maxLen; omega) h' (by unfold maxLen; omega))
  rw [ex_value] at HV
  have hrp : RP (((w.alloc (.cells #[.int .i64 1, .int .i64 0, .int .i64 6, .int .i64 0, .int .i64 0, .int .i64 0, .int .i64 5, .int .i64 6] 57)).alloc (.cells (tcells 0 0 21 0 0 (some ⟨w.heap.size, 0, none⟩) 2 2) 24)).alloc (.cells #[.int .i32 195, .int .i32 188] 21)) (w.heap.size + 1 + 1 + 1) (some ⟨w.heap.size, 0, none⟩) 2 exP := RP_two (fun i hi => by
    rcases (show i = 0 ∨ i = 1 ∨ i = 2 ∨ i = 3 ∨ i = 4 ∨ i = 5 ∨ i = 6 ∨ i = 7 from by omega) with rfl | rfl | rfl | rfl | rfl | rfl | rfl | rfl <;> simp [go_sem]) (by omega)
  have hrr : RR (((w.alloc (.cells #[.int .i64 1, .int .i64 0, .int .i64 6, .int .i64 0, .int .i64 0, .int .i64 0, .int .i64 5, .int .i64 6] 57)).alloc (.cells (tcells 0 0 21 0 0 (some ⟨w.heap.size, 0, none⟩) 2 2) 24)).alloc (.cells #[.int .i32 195, .int .i32 188] 21)) (w.heap.size + 1 + 1 + 1) (some ⟨w.heap.size + 1 + 1, 0, none⟩) 2 [195, 188] := ⟨rfl, fun x hx => by simp at hx; omega, fun _ => ⟨w.heap.size + 1 + 1, 0, rfl, by omega, fun j hj => by
    rcases (show j = 0 ∨ j = 1 from by simp at hj; omega) with rfl | rfl <;> simp [go_sem]⟩⟩
  have hrt : Boxed6 (((w.alloc (.cells #[.int .i64 1, .int .i64 0, .int .i64 6, .int .i64 0, .int .i64 0, .int .i64 0, .int .i64 5, .int .i64 6] 57)).alloc (.cells (tcells 0 0 21 0 0 (some ⟨w.heap.size, 0, none⟩) 2 2) 24)).alloc (.cells #[.int .i32 195, .int .i32 188] 21)) (w.heap.size + 1) 0 0 21 0 0 (some ⟨w.heap.size, 0, none⟩) 2 2 := by
    refine ⟨?_, ?_, ?_, ?_, ?_, ?_⟩ <;> simp [go_sem]
  have hbw : Below w.heap.size w (((w.alloc (.cells #[.int .i64 1, .int .i64 0, .int .i64 6, .int .i64 0, .int .i64 0, .int .i64 0, .int .i64 5, .int .i64 6] 57)).alloc (.cells (tcells 0 0 21 0 0 (some ⟨w.heap.size, 0, none⟩) 2 2) 24)).alloc (.cells #[.int .i32 195, .int .i32 188] 21)) := (((Below.refl _ _).alloc (Nat.le_refl _) _).alloc (by simp) _).alloc (by simp only [World.size_alloc]; omega) _
  obtain ⟨w0, hw0⟩ : ∃ w0, (((w.alloc (.cells #[.int .i64 1, .int .i64 0, .int .i64 6, .int .i64 0, .int .i64 0, .int .i64 0, .int .i64 5, .int .i64 6] 57)).alloc (.cells (tcells 0 0 21 0 0 (some ⟨w.heap.size, 0, none⟩) 2 2) 24)).alloc (.cells #[.int .i32 195, .int .i32 188] 21)) = w0 := ⟨_, rfl⟩
  have hs0 : w0.heap.size = w.heap.size + 1 + 1 + 1 := by rw [← hw0]; simp
  rw [hw0] at hrp hrr hrt hbw ⊢
  rw [← hs0] at hrp hrr
  have HRP := Lib.hid hrp
  have HBW := Lib.hid hbw
  have HRT := Lib.hid (show ∀ W, Below w0.heap.size w0 W → Boxed6 W (w.heap.size + 1) 0 0 21 0 0 (some ⟨w.heap.size, 0, none⟩) 2 2 from fun W hW => by
    obtain ⟨a0, a1, a2, a3, a4, a5⟩ := hrt
    exact ⟨(hW.cell (by simp only; omega)).trans a0, (hW.cell (by simp only; omega)).trans a1, (hW.cell (by simp only; omega)).trans a2, (hW.cell (by simp only; omega)).trans a3, (hW.cell (by simp only; omega)).trans a4, (hW.cell (by simp only; omega)).trans a5⟩)
  refine (HV.out _ hrp hrr).mono ?_
  rintro e w1 ⟨rfl, hb1⟩
  have HB1 := Lib.hid hb1
  clear hw0 hrp hrr hrt hbw hb1
  go_wp2_with (fail)
  refine (copy_any 0 1 _).mono ?_
  rintro e w2 ⟨A2, c2, rfl, hr2, hc2, hb2⟩
  have HB2 := Lib.hid (HB1.out.trans (hb2.mono HB1.out.size))
  have HR2 := Lib.hid hr2
  clear hb2 hr2
  simp only [List.length_singleton]
  go_wp2_with (fail)
  refine (const_nil 97 (by omega) (by omega) _).mono ?_
  rintro e w3 ⟨rfl, hb3⟩
  have HR3 := Lib.hid (HR2.out.belowM hb3)
  have HB3 := Lib.hid (HB2.out.trans (hb3.mono HB2.out.size))
  clear hb3
  go_wp2_with (fail)
  refine (put_ex A2 c2 _ HR3.out).mono ?_
  rintro e w4 ⟨rfl, hb4⟩
  have hb44 := HB3.out.trans (hb4.mono HB3.out.size)
  obtain ⟨w5, hw5⟩ : ∃ w5, w4.alloc (.cells (tcells 0 0 21 0 98 none 0 0) 24) = w5 := ⟨_, rfl⟩
  have h45 : Below w4.heap.size w4 w5 := by rw [← hw5]; exact (Below.refl _ _).alloc (Nat.le_refl _) _
  have B5 : Boxed6 w5 w4.heap.size 0 0 21 0 98 none 0 0 := by rw [← hw5]; exact boxed6 (Below.refl _ _)
  obtain ⟨q0, q1, q2, q3, q4, q5⟩ := B5
  have hb5 := hb44.trans (h45.mono hb44.size)
  obtain ⟨r0, r1, r2, r3, r4, r5⟩ := HRT.out _ hb5
  have HB5 := Lib.hid hb5
  have HX := Lib.hid (fun W (hW : Below w0.heap.size w0 W) => tright_any 1 2 2 0 0 21 0 0 (some ⟨w.heap.size, 0, none⟩) 2 2 exP W (HRP.out.belowM hW) (by unfold maxLen; omega))
  rw [ex_right] at HX
  have hz4 : w0.heap.size ≤ w4.heap.size := hb44.size
  have ne1 : ¬ (w.heap.size + 1 = w4.heap.size) := by omega
  have ne2 : ¬ (w4.heap.size = w.heap.size + 1) := by omega
  have H6 := Lib.hid (hb5.setCell (p := ⟨w4.heap.size, 5, none⟩) hz4 (.slice none 0 0))
  have fz : ∀ i, i < 6 → w5.frozen? ⟨w4.heap.size, i, none⟩ = false := fun i hi => by rw [← hw5]; simp
  have f0 := fz 0 (by omega)
  have f1 := fz 1 (by omega)
  have f2 := fz 2 (by omega)
  have f3 := fz 3 (by omega)
  have f4 := fz 4 (by omega)
  have f5 := fz 5 (by omega)
  clear hb44 hb4 h45 hb5 fz
  go_wp2_with (fail)
  refine (HX.out _ H6.out).mono ?_
  rintro e w6 ⟨rfl, hb6⟩
  have HB6 := Lib.hid (H6.out.trans (hb6.mono H6.out.size))
  clear hb6
  go_wp2_with (fail)
  go_ret
  exact ⟨rfl, HBW.out.trans (HB6.out.mono HBW.out.size)⟩
end Go.Proofs.YtiddgfcoankpjaaGreatDoor.Te
/- The walk of the law's great, of a term and guards. -/
namespace Go.Proofs.YtiddgfcoankpjaaGreatDoor.Tp
set_option maxRecDepth 100000
open Go Go.RowKit Go.Proofs.YtiddgfcoankpjaaGreatDoor.Sp Go.Proofs.YtiddgfcoankpjaaGreatDoor.Pa Go.Proofs.YtiddgfcoankpjaaGreatDoor.Te Go.Proofs.YtiddgfcoankpjaaGreatDoor.Mi

def GRel (gs : List (List Span)) (w1 : World) (iv : Value) (wr : World) : Prop := ∃ k : Nat, k ≤ gs.length ∧ iv = .int .i64 k ∧ (∀ g ∈ gs.take k, g.length ≤ 50) ∧ Below w1.heap.size w1 wr
set_option maxHeartbeats 2000000 in
theorem great_any (b d t u s : Int) (A : Option Addr) (n c : Nat) (G : Option Addr) (gc : Nat) (gs : List (List Span)) (bb : Bool) (w : World) (hn : n ≤ maxLen) (h : RGs w G gs.length gs) (hl : gs.length ≤ maxLen) (hns : ∀ g ∈ gs, g.length ≤ maxLen) (hb : bb = true ↔ 20 < n ∨ 20 < gs.length ∨ ∃ g ∈ gs, 50 < g.length) :
    Calls Tryz.prog 10 #[trm b d t u s A n c, .slice G gs.length gc] w (RetB bb w) := by
  unfold maxLen at hn hns hl
  have HNS := Lib.hid hns
  have HBB := Lib.hid hb
  clear hb hns
  by_cases g1 : 20 < n
  · have HT := Lib.hid (HBB.out.2 (.inl g1))
    go_enter Tryz.func10, Tryz.ntmps10
    go_wp2_with (fail)
    go_ret
    exact ⟨ret_bool HT.out.symm, (Below.refl _ _).alloc (Nat.le_refl _) _⟩
  · have hd1 : decide ((20 : Int) < (n : Int)) = false := decide_eq_false (by omega)
    by_cases g2 : 20 < gs.length
    · have HT := Lib.hid (HBB.out.2 (.inr (.inl g2)))
      have hd2 : decide ((20 : Int) < (gs.length : Int)) = true := decide_eq_true (by omega)
      go_enter Tryz.func10, Tryz.ntmps10
      go_wp2_with (fail)
      go_ret
      exact ⟨ret_bool HT.out.symm, (Below.refl _ _).alloc (Nat.le_refl _) _⟩
    have hd2 : decide ((20 : Int) < (gs.length : Int)) = false := decide_eq_false (by omega)
    obtain ⟨w1, hw1⟩ : ∃ w1, w.alloc (.cells (tcells b d t u s A n c) 24) = w1 := ⟨_, rfl⟩
    have h01 : Below w.heap.size w w1 := by rw [← hw1]; exact (Below.refl _ _).alloc (Nat.le_refl _) _
    have q5 : w1.cell? ⟨w.heap.size, 5, none⟩ = some (.slice A n c) := by rw [← hw1]; exact (boxed6 (Below.refl _ _)).2.2.2.2.2
    have H01 := Lib.hid h01
    have HL := Lib.hid (h.belowM h01)
    clear h h01
    go_enter Tryz.func10, Tryz.ntmps10
    go_wp2_with (fail)
    go_loopw [5] (fun i wr => GRel gs w1 i wr) (fun i _ => gs.length - (intOf i).toNat)
    case atStart => exact ⟨0, Nat.zero_le _, rfl, fun m hm => by simp at hm, Below.refl _ _⟩
    case round =>
      obtain ⟨k, hk, rfl, hsm, hb⟩ := hrel
      have HSM := Lib.hid hsm
      clear hsm
      by_cases hlt : k < gs.length
      · obtain ⟨bq, off, Aj, cj, hA, hbB, hc, hr, hcj, hnj⟩ := (HL.out.belowM hb).at_ hlt
        obtain ⟨m, hm⟩ : ∃ m, gs[k].length = m := ⟨_, rfl⟩
        have hmm : gs[k] ∈ gs := List.getElem_mem hlt
        have hm1 := HNS.out _ hmm
        rw [hm] at hc hm1
        have HM := Lib.hid hm
        subst hA
        have HB := Lib.hid hb
        clear hr hcj hnj hb hm
        by_cases hgt : 50 < m
        · have HT := Lib.hid (HBB.out.2 (.inr (.inr ⟨gs[k], hmm, by rw [HM.out]; exact hgt⟩)))
          clear hmm
          go_wp2_with (fail)
          go_ret
          exact ⟨ret_bool HT.out.symm, H01.out.trans (HB.out.mono H01.out.size)⟩
        · have HNX := Lib.hid (show ∀ g ∈ gs.take (k + 1), g.length ≤ 50 from fun g hg => by
            rw [List.take_succ_eq_append_getElem hlt, List.mem_append, List.mem_singleton] at hg
            rcases hg with hg | rfl
            · exact HSM.out g hg
            · have := HM.out; omega)
          clear hmm
          go_wp2_with (fail)
          go_roundw
          case rel => exact ⟨k + 1, by omega, by go_num, HNX.out, HB.out⟩
          case measure => simp [intOf]; omega
      · have HT := Lib.hid (show bb = false from by
          cases e : bb
          · rfl
          · rcases HBB.out.1 e with q | q | ⟨m, hm, hgt⟩
            · omega
            · omega
            · have := HSM.out m (by rw [List.take_of_length_le (by omega)]; exact hm)
              omega)
        have HB := Lib.hid (H01.out.trans (hb.mono H01.out.size))
        clear hb
        go_wp2_with (fail)
        go_ret
        exact ⟨ret_bool HT.out.symm, HB.out⟩
end Go.Proofs.YtiddgfcoankpjaaGreatDoor.Tp
