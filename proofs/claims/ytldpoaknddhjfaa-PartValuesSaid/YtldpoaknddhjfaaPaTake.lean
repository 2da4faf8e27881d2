/- The walk of part.take: the bits that a part takes of the numbers of a span. -/
import Derived.Test.YtldpoaknddhjfaaPaVal
import Derived.Test.YtldpoaknddhjfaaSpPut
namespace Go.Proofs.Ytldpoaknddhjfaa.Pa
set_option maxRecDepth 100000
open Go Go.RowKit Go.Proofs.Ytldpoaknddhjfaa.Sp

/-- What take lays: of the numbers from lo to hi, the bits that are taken. -/
def takeP (d t lo hi : Int) : List Span :=
  if pw t - 1 ≤ hi / pw d - lo / pw d then [(0, pw t - 1)]
  else if lo / pw d % pw t ≤ hi / pw d % pw t then [(lo / pw d % pw t, hi / pw d % pw t)] else [(lo / pw d % pw t, pw t - 1), (0, hi / pw d % pw t)]
theorem takeP_len (d t lo hi : Int) : (takeP d t lo hi).length ≤ 2 := by unfold takeP; split; simp; split <;> simp
theorem takeP_mem {d t lo hi : Int} (h : lo ≤ hi) (ht2 : t ≤ 21) (y : Int) : mem (takeP d t lo hi) y ↔ ∃ x, lo ≤ x ∧ x ≤ hi ∧ x / pw d % pw t = y := by
  have hD := pw_pos d
  have hT := pw_pos t
  have hT2 := pw_le ht2 pw21
  have hle : lo / pw d ≤ hi / pw d := Int.ediv_le_ediv (by omega) h
  have key : (∃ x, lo ≤ x ∧ x ≤ hi ∧ x / pw d % pw t = y) ↔ ∃ z, lo / pw d ≤ z ∧ z ≤ hi / pw d ∧ z % pw t = y := by
    constructor
    · rintro ⟨x, a, b, c⟩
      have := (img_div hD h (x / pw d)).1 ⟨x, a, b, rfl⟩
      exact ⟨x / pw d, this.1, this.2, c⟩
    · rintro ⟨z, a, b, c⟩
      obtain ⟨x, p, q, r⟩ := (img_div hD h z).2 ⟨a, b⟩
      exact ⟨x, p, q, by rw [r]; exact c⟩
  rw [key]
  have m1 := mod_lt (lo / pw d) t
  have m2 := mod_lt (hi / pw d) t
  unfold takeP
  by_cases hw : pw t - 1 ≤ hi / pw d - lo / pw d
  · rw [if_pos hw, img_all hT hw, mem_one]
    unfold Rng; simp only; omega
  · rw [if_neg hw, img_mod hT hle (by omega)]
    by_cases hc : lo / pw d % pw t ≤ hi / pw d % pw t
    · rw [if_pos hc, if_pos hc, mem_one]
      unfold Rng; simp only; omega
    · rw [if_neg hc, if_neg hc]
      show mem ([(lo / pw d % pw t, pw t - 1)] ++ [(0, hi / pw d % pw t)]) y ↔ _
      rw [mem_append, mem_one, mem_one]
      unfold Rng; simp only; omega

attribute [local go_sem] pw_fold
theorem below_grown {w w' : World} (h : Below w.heap.size w w') : w.grownBy w' none := ⟨h.os, h.tape, h.output, h.size, fun k hk _ => h.block k hk⟩
theorem own_below {w w' : World} {base : Nat} {v : Value} {xs : List Span} (h : OwnsL w base v xs) (hb : Below w.heap.size w w') : OwnsL w' base v xs := World.ownsRow.kept h (below_grown hb) (by cases v.ownBlock <;> simp)
theorem cell_four (w : World) (x y z v : Value) (t : TypeId) : ∀ j u, [x, y, z, v][j]? = some u → (w.alloc (.cells #[x, y, z, v] t)).cell? ((⟨w.heap.size, 0, none⟩ : Addr).add j) = some u := by
  intro j u hj
  match j, hj with
  | 0, hj => simp at hj; subst hj; simp [Addr.add]
  | 1, hj => simp at hj; subst hj; simp [Addr.add]
  | 2, hj => simp at hj; subst hj; simp [Addr.add]
  | 3, hj => simp at hj; subst hj; simp [Addr.add]
  | j + 4, hj => simp at hj

set_option maxRecDepth 100000 in
set_option maxHeartbeats 2000000 in
theorem take_any (base : Nat) (v : Value) (xs : List Span) (a d t u lo hi : Int) (w : World) (hown : OwnsL w base v xs) (hbase : base ≤ w.heap.size) (hlen : xs.length ≤ 1099511627776) (hb : Bits d t u) (h0 : 0 ≤ lo) (h1 : lo ≤ hi) (h2 : hi ≤ 2097151) :
    Calls Try.prog 18 #[v, prt a d t u, .agg #[.int .i64 lo, .int .i64 hi]] w (PutOut w base (xs ++ takeP d t lo hi)) := by
  obtain ⟨i0, hi0, hz0, hz1, hz2⟩ := info_parts infoSpan
  obtain ⟨b1, b2, b3, b4, b5, b6, b7⟩ := hb
  have l1 := lo_bound (d := d) h0
  have l2 := lo_bound (d := d) (x := hi) (by omega)
  have hT := pw_pos t
  have hT2 := pw_le b4 pw21
  have m1 := mod_lt (lo / pw d) t
  have m2 := mod_lt (hi / pw d) t
  have hle : lo / pw d ≤ hi / pw d := Int.ediv_le_ediv (by have := pw_pos d; omega) h1
  have BL1 := bits_low (lo / pw d) t l1.1 (by omega) (by omega)
  have BL2 := bits_low (hi / pw d) t l2.1 (by omega) (by omega)
  have HT := Lib.hid (show takeP d t lo hi = if pw t - 1 ≤ hi / pw d - lo / pw d then [(0, pw t - 1)] else if lo / pw d % pw t ≤ hi / pw d % pw t then [(lo / pw d % pw t, hi / pw d % pw t)] else [(lo / pw d % pw t, pw t - 1), (0, hi / pw d % pw t)] from rfl)
  have HM := Lib.hid (most_any a d t u b3 b4)
  have HS1 := Lib.hid (pw_fold d)
  have HO := Lib.hid hown
  have c1 : d ≤ 64 := by omega
  clear b7 hown
  generalize hL : lo / pw d = L at *
  generalize hH : hi / pw d = H at *
  generalize hP : pw t = T at *
  generalize hL2 : L % T = L2 at *
  generalize hH2 : H % T = H2 at *
  have HL := Lib.hid hL
  have HH := Lib.hid hH
  have B1 := Lib.hid BL1
  have B2 := Lib.hid BL2
  clear hL hH hP hL2 hH2 BL1 BL2
  go_enter Try.func18, Try.ntmps18
  go_wp2_with (fail)
  go_region_held3 (fun w' => w'.cell? ⟨w.heap.size, 0, none⟩ = some (.int .i64 a) ∧ w'.cell? ⟨w.heap.size, 1, none⟩ = some (.int .i64 d) ∧ w'.cell? ⟨w.heap.size, 2, none⟩ = some (.int .i64 t) ∧ w'.cell? ⟨w.heap.size, 3, none⟩ = some (.int .i64 u) ∧ w'.cell? ⟨w.heap.size + 1, 0, none⟩ = some (.int .i64 lo) ∧ w'.cell? ⟨w.heap.size + 1, 1, none⟩ = some (.int .i64 hi))
    (first | go_keep | (go_split_ands; refine ⟨?_, ?_, ?_, ?_, ?_, ?_⟩; all_goals (rw [hb2.cell (by simp <;> omega)]; simp)))
    (first | (go_at_call 12; refine (HM.out _).mono ?_; rintro e w2 ⟨rfl, hb2⟩))
  simp only [HL.out, HH.out]
  have hbB : Below w.heap.size w w2 := (((Below.refl _ w).alloc (Nat.le_refl _) _).alloc (by simp) _).drew.trans (hb2.mono (by simp; omega))
  have HO2 := Lib.hid (own_below HO.out hbB)
  have hz2' : base ≤ w2.heap.size := by have := hbB.size; omega
  have HBB := Lib.hid (hbB.mono hbase)
  clear hb2 hbB
  by_cases q1 : T - 1 ≤ H - L
  · have HX := Lib.hid (HT.out.trans (if_pos q1))
    go_wp2_with (at_builtin; go_must (refine wpList_append_own_at _ rfl _ _ 35 rfl base 38 i0 _ 2 16 Try.underlying35 hi0 hz0 hz1 hz2 rfl (by decide) v xs.length (flat xs) rfl (HO2.out.alloc _) ⟨w2.heap.size, 0, none⟩ 1 1 [.int .i64 0, .int .i64 (T - 1)] rfl rfl (cell_two _ _ _ _) ?c2 ?c3 ?c4 ?c5 ?_))
    case c2 => first | exact ⟨rfl, rfl⟩ | simp [Value.oneCell']
    case c3 => simp only [maxLen]; omega
    case c4 => omega
    case c5 => first | omega | (simp; omega)
    intro v1 w3 hown1 hg1 _ _
    have HB3 := Lib.hid ((HBB.out.alloc hz2' _).grown hg1 (by simp; omega) (own_ge HO2.out))
    go_wp2_with (fail)
    go_ret
    refine ⟨v1, rfl, ?_, HB3.out⟩
    rw [HX.out]
    unfold OwnsL
    rw [flat_append, List.length_append]
    exact hown1
  · have hx := HT.out.trans (if_neg q1)
    by_cases q2 : L2 ≤ H2
    · have HX := Lib.hid (hx.trans (if_pos q2))
      clear hx
      have e1 := B1.out
      have e2 := B2.out
      go_wp2_with (at_builtin; go_must (refine wpList_append_own_at _ rfl _ _ 35 rfl base 38 i0 _ 2 16 Try.underlying35 hi0 hz0 hz1 hz2 rfl (by decide) v xs.length (flat xs) rfl (HO2.out.alloc _) ⟨w2.heap.size, 0, none⟩ 1 1 [.int .i64 L2, .int .i64 H2] rfl rfl (cell_two _ _ _ _) ?c2 ?c3 ?c4 ?c5 ?_))
      case c2 => first | exact ⟨rfl, rfl⟩ | simp [Value.oneCell']
      case c3 => simp only [maxLen]; omega
      case c4 => omega
      case c5 => first | omega | (simp; omega)
      intro v1 w3 hown1 hg1 _ _
      have HB3 := Lib.hid ((HBB.out.alloc hz2' _).grown hg1 (by simp; omega) (own_ge HO2.out))
      go_wp2_with (fail)
      go_ret
      refine ⟨v1, rfl, ?_, HB3.out⟩
      rw [HX.out]
      unfold OwnsL
      rw [flat_append, List.length_append]
      exact hown1
    · have HX := Lib.hid (hx.trans (if_neg q2))
      clear hx
      have e1 := B1.out
      have e2 := B2.out
      go_wp2_with (at_builtin; go_must (refine wpList_append_own_at _ rfl _ _ 35 rfl base 38 i0 _ 2 16 Try.underlying35 hi0 hz0 hz1 hz2 rfl (by decide) v xs.length (flat xs) rfl (HO2.out.alloc _) ⟨w2.heap.size, 0, none⟩ 2 2 [.int .i64 L2, .int .i64 (T - 1), .int .i64 0, .int .i64 H2] rfl rfl (cell_four _ _ _ _ _ _) ?c2 ?c3 ?c4 ?c5 ?_))
      case c2 => first | exact ⟨rfl, rfl⟩ | simp [Value.oneCell']
      case c3 => simp only [maxLen]; omega
      case c4 => omega
      case c5 => first | omega | (simp; omega)
      intro v1 w3 hown1 hg1 _ _
      have HB3 := Lib.hid ((HBB.out.alloc hz2' _).grown hg1 (by simp; omega) (own_ge HO2.out))
      go_wp2_with (fail)
      go_ret
      refine ⟨v1, rfl, ?_, HB3.out⟩
      rw [HX.out]
      unfold OwnsL
      rw [flat_append, List.length_append]
      exact hown1
end Go.Proofs.Ytldpoaknddhjfaa.Pa
