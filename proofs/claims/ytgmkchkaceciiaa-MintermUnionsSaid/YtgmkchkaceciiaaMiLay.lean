/- The walk of the closure that lays a set's edges behind the captured list. -/
import Derived.Test.YtgmkchkaceciiaaMiSort
import Derived.Test.YtgmkchkaceciiaaSpNorm
import Derived.Test.YtgmkchkaceciiaaMiMath
import Derived.OwnWalk
namespace Go.Proofs.Ytgmkchkaceciiaa.Mi
set_option maxRecDepth 100000
open Go Go.RowKit Go.Proofs.Ytgmkchkaceciiaa.Sp

theorem below_next {w W W' : World} (h1 : Below w.heap.size w W) (h2 : Below W.heap.size W W') : Below w.heap.size w W' := h1.trans (h2.mono h1.size)
theorem lay_next {set_ : Int} {p : List Span} {k : Nat} {lo hi : Int} (hk : ∃ hl : k < p.length, p[k] = (lo, hi)) : layE set_ (p.take (k + 1)) = layE set_ (p.take k) ++ [(lo, set_), (hi + 1, set_)] := by
  obtain ⟨hl, e⟩ := hk
  unfold layE
  rw [List.take_succ_eq_append_getElem hl, List.flatMap_append, e]
  rfl
theorem lay_len (set_ : Int) (p : List Span) : (layE set_ p).length = 2 * p.length := by
  unfold layE
  induction p with
  | nil => rfl
  | cons q p ih => rw [List.flatMap_cons, List.length_append, ih]; simp only [List.length_cons, List.length_nil]; omega
theorem cell_4 (w : World) (x y z q : Value) (t : TypeId) : ∀ j u, [x, y, z, q][j]? = some u → (w.alloc (.cells #[x, y, z, q] t)).cell? ((⟨w.heap.size, 0, none⟩ : Addr).add j) = some u := by
  intro j u hj
  match j, hj with
  | 0, hj => simp at hj; subst hj; simp [Addr.add]
  | 1, hj => simp at hj; subst hj; simp [Addr.add]
  | 2, hj => simp at hj; subst hj; simp [Addr.add]
  | 3, hj => simp at hj; subst hj; simp [Addr.add]
  | j + 4, hj => simp at hj
theorem ownE_two {w : World} {base : Nat} {v : Value} {l : List (Int × Int)} {a b c d : Int} (h : w.ownsRow base 78 2 v (l.length + 2) (flat l ++ [.int .i64 a, .int .i64 b, .int .i64 c, .int .i64 d])) : OwnsE w base v (l ++ [(a, b), (c, d)]) := by
  unfold OwnsE
  rw [flat_append, List.length_append]
  exact h
theorem ownE_ge {w : World} {base : Nat} {v : Value} {l : List (Int × Int)} (h : OwnsE w base v l) : ∀ k, v.ownBlock = some k → base ≤ k := fun k hk => (World.ownsRow.lt h k hk).1
def LayOut (base B : Nat) (set_ : Int) (l : List Span) (xs : List (Int × Int)) (w : World) (e : Ending) (w' : World) : Prop :=
  ∃ v' p, e = .returned (.tuple #[]) ∧ Is p (mem l) ∧ w'.cell? ⟨B, 0, none⟩ = some v' ∧ w'.frozen? ⟨B, 0, none⟩ = false ∧ OwnsE w' base v' (xs ++ layE set_ p) ∧ Below B w w'
/-- The plain list stands in a row apart: it is as it was at w2, whatever is laid into own rows that are not its own. -/
def LRel (base B : Nat) (set_ : Int) (A : Option Addr) (p : List Span) (xs : List (Int × Int)) (w : World) (i : Value) (wr : World) : Prop :=
  ∃ (k : Nat) (v : Value), k ≤ p.length ∧ i = .int .i64 k ∧ wr.cell? ⟨B, 0, none⟩ = some v ∧ wr.frozen? ⟨B, 0, none⟩ = false ∧ OwnsE wr base v (xs ++ layE set_ (p.take k)) ∧ Below B w wr ∧ base ≤ wr.heap.size ∧ RS wr wr.heap.size A p.length p ∧ (∀ b off, A = some ⟨b, off, none⟩ → B < b ∧ some b ≠ v.ownBlock)
theorem rs_grownE {w w' : World} {A : Option Addr} {n : Nat} {l : List Span} {r : Option Nat} (h : RS w w.heap.size A n l) (hg : w.grownBy w' r) (hne : ∀ b off, A = some ⟨b, off, none⟩ → some b ≠ r) : RS w' w'.heap.size A n l :=
  ⟨h.1, fun hn => by
    obtain ⟨b, off, e, hb, hc⟩ := h.2 hn
    have k : ∀ i, w'.cell? ⟨b, i, none⟩ = w.cell? ⟨b, i, none⟩ := fun i => World.cell?_of_block (hg.block b hb (hne b off e))
    exact ⟨b, off, e, by have := hg.size; omega, fun j hj => ⟨(k _).trans (hc j hj).1, (k _).trans (hc j hj).2⟩⟩⟩
theorem rs_setE {w : World} {A : Option Addr} {n B : Nat} {l : List Span} {u : Value} (h : RS w w.heap.size A n l) (hne : ∀ b off, A = some ⟨b, off, none⟩ → B < b) : RS (w.setCell ⟨B, 0, none⟩ u) (w.setCell ⟨B, 0, none⟩ u).heap.size A n l :=
  ⟨h.1, fun hn => by
    obtain ⟨b, off, e, hb, hc⟩ := h.2 hn
    have hlt := hne b off e
    have k : ∀ i, (w.setCell ⟨B, 0, none⟩ u).cell? ⟨b, i, none⟩ = w.cell? ⟨b, i, none⟩ := fun i => World.cell?_setCell_other _ _ _ _ (fun q => by injection q with q; omega)
    exact ⟨b, off, e, by simpa using hb, fun j hj => ⟨(k _).trans (hc j hj).1, (k _).trans (hc j hj).2⟩⟩⟩
theorem own_RSg {w : World} {base : Nat} {v : Value} {out : List Span} (h : OwnsL w base v out) : ∃ A c, v = .slice A out.length c ∧ RS w w.heap.size A out.length out ∧ ∀ b off, A = some ⟨b, off, none⟩ → base ≤ b := by
  obtain ⟨A, c, hv, _, hr⟩ := own_RS h
  refine ⟨A, c, hv, hr, fun b off e => ?_⟩
  subst hv e
  exact (World.ownsRow.lt h b rfl).1
set_option maxHeartbeats 4000000 in
theorem lay_any (A : Option Addr) (c : Nat) (l : List Span) (set_ : Int) (B base : Nat) (v : Value) (xs : List (Int × Int)) (w : World) (h : RS w w.heap.size A l.length l) (hn : l.length ≤ 1000000) (hB : B < base) (hbase : base ≤ w.heap.size) (hc : w.cell? ⟨B, 0, none⟩ = some v) (hf : w.frozen? ⟨B, 0, none⟩ = false) (hown : OwnsE w base v xs) (hlen : xs.length ≤ 1000000000000) :
    Calls Try.prog 80 #[.slice A l.length c, .int .i64 set_, .pointer (some ⟨B, 0, none⟩)] w (LayOut base B set_ l xs w) := by
  obtain ⟨i0, hi0, hz0, hz1, hz2⟩ := info_parts infoEdge
  have HN := Lib.hid (norm_any A l.length c l w h (by omega))
  go_enter Try.func80, Try.ntmps80
  go_wp2_with (fail)
  refine HN.out.mono ?_
  rintro qq2 w2 ⟨v2, p, rfl, hip, ho2, hb2⟩
  obtain ⟨A2, c2, rfl, hr2, hge2⟩ := own_RSg ho2
  have HIP := Lib.hid hip
  have hps := hip.1.short
  have hvlt : ∀ k, v.ownBlock = some k → k < w.heap.size := fun k hk => (World.ownsRow.lt hown k hk).2
  have HST := Lib.hid (show LRel base B set_ A2 p xs w (.int .i64 0) w2 from ⟨0, v, Nat.zero_le _, rfl, (hb2.cell (show B < w.heap.size by omega)).trans hc, (hb2.frozen (p := ⟨B, 0, none⟩) (show B < w.heap.size by omega)).trans hf, by rw [List.take_zero, show layE set_ [] = [] from rfl, List.append_nil]; exact ownE_below hown hb2, hb2.mono (by omega), by have := hb2.size; omega, hr2, fun b off e => ⟨by have := hge2 b off e; omega, fun q => by have := hvlt b q.symm; have := hge2 b off e; omega⟩⟩)
  clear hip ho2 hr2 hge2 hb2 hvlt hown hc hf h
  go_wp2_with (fail)
  go_loopw [10] (fun i wr => LRel base B set_ A2 p xs w i wr) (fun i _ => p.length - (intOf i).toNat)
  case atStart => exact HST.out
  case round =>
    obtain ⟨k, vv, hk, rfl, hcv, hfz, ho, hb, hbs, hr, hap⟩ := hrel
    have HO := Lib.hid ho
    have HB := Lib.hid hb
    have HAP := Lib.hid hap
    have HR := Lib.hid hr
    by_cases hlt : k < p.length
    · obtain ⟨b1, off, lo, hi, hA, hbB, hlk, c1, c2'⟩ := hr.at_ hlt
      have hok : lo ≤ hi ∧ -1073741824 ≤ lo ∧ hi ≤ 1073741824 := by
        obtain ⟨hl, e⟩ := hlk
        have := HIP.out.1.2 _ (List.getElem_mem hl)
        rw [e] at this
        exact this
      have HNX := Lib.hid (lay_next (set_ := set_) hlk)
      have hln : (xs ++ layE set_ (p.take k)).length ≤ 1000000000000 + 2147483650 := by
        rw [List.length_append, lay_len, List.length_take]
        omega
      obtain ⟨X, hX⟩ : ∃ X, xs ++ layE set_ (p.take k) = X := ⟨_, rfl⟩
      have HX := Lib.hid (show xs ++ layE set_ (p.take (k + 1)) = X ++ [(lo, set_), (hi + 1, set_)] by rw [HNX.out, ← List.append_assoc, hX])
      rw [hX] at HO hln
      have hw1 : IntKind.i64.wrap (hi + 1) = hi + 1 := IntWalk.i64_in _ (by omega)
      obtain ⟨w5, hw5⟩ : ∃ w5, wr.alloc (.cells #[.int .i64 lo, .int .i64 hi] 61) = w5 := ⟨_, rfl⟩
      have hs5 : w5.heap.size = wr.heap.size + 1 := by rw [← hw5]; simp
      have h5 : Below wr.heap.size wr w5 := by rw [← hw5]; exact (Below.refl _ _).alloc (Nat.le_refl _) _
      have y0 : w5.cell? ⟨wr.heap.size, 0, none⟩ = some (.int .i64 lo) := by rw [← hw5]; simp
      have y1 : w5.cell? ⟨wr.heap.size, 1, none⟩ = some (.int .i64 hi) := by rw [← hw5]; simp
      have yv : w5.cell? ⟨B, 0, none⟩ = some vv := (h5.cell (show B < wr.heap.size by omega)).trans hcv
      obtain ⟨w7, hw7⟩ : ∃ w7, w5.alloc (.cells #[.int .i64 lo, .int .i64 set_, .int .i64 (hi + 1), .int .i64 set_] 78) = w7 := ⟨_, rfl⟩
      have hc7 : ∀ j u, [Value.int .i64 lo, .int .i64 set_, .int .i64 (hi + 1), .int .i64 set_][j]? = some u → w7.cell? ((⟨w5.heap.size, 0, none⟩ : Addr).add j) = some u := by rw [← hw7]; exact cell_4 _ _ _ _ _ _
      rw [hs5] at hc7
      have hs7 : w7.heap.size = w5.heap.size + 1 := by rw [← hw7]; simp
      have H7 := Lib.hid (show Below wr.heap.size wr w7 by rw [← hw7]; exact h5.alloc h5.size _)
      have HC7 := Lib.hid hc7
      have hcv7 : w7.cell? ⟨B, 0, none⟩ = some vv := (H7.out.cell (show B < wr.heap.size by omega)).trans hcv
      have hfz7 : w7.frozen? ⟨B, 0, none⟩ = false := (H7.out.frozen (p := ⟨B, 0, none⟩) (show B < wr.heap.size by omega)).trans hfz
      have hAE := hA
      rw [hA]
      clear hA h5 ho hb hap hr hlk hX hc7
      go_wp2_with (at_builtin; go_must (refine wpList_append_own_at _ rfl _ _ 74 rfl base 78 i0 _ 2 16 Try.underlying74 hi0 hz0 hz1 hz2 rfl (by decide) vv X.length (flat X) rfl (ownE_below HO.out H7.out) ⟨wr.heap.size + 1, 0, none⟩ 2 2 [.int .i64 lo, .int .i64 set_, .int .i64 (hi + 1), .int .i64 set_] rfl rfl HC7.out ?c2 ?c3 ?c4 ?c5 ?_))
      case c2 => first | exact ⟨rfl, rfl, rfl, rfl⟩ | (intro q hq; simp at hq; rcases hq with rfl | rfl | rfl | rfl <;> rfl)
      case c3 => simp only [maxLen]; omega
      case c4 => omega
      case c5 => omega
      intro v8 w8 hown8 hg8 _ hat
      have hne : vv.ownBlock ≠ some B := fun e => by have := ownE_ge HO.out _ e; omega
      have e8 : w8.cell? ⟨B, 0, none⟩ = some vv := hg8.cell hcv7 (fun e => hne e.symm)
      have f8 : w8.frozen? ⟨B, 0, none⟩ = false := (World.frozen?_of_block (hg8.block B (by omega) (fun e => hne e.symm))).trans hfz7
      have hg8s := hg8.size
      have ho8 := ownE_two hown8
      have hb8 : Below B w w8 := (HB.out.trans (H7.out.mono (by omega))).grown hg8 (by omega) (fun k hk => by have := ownE_ge HO.out k hk; omega)
      have hr8 : RS w8 w8.heap.size A2 p.length p := rs_grownE (HR.out.belowM H7.out) hg8 (fun b off e => (HAP.out b off e).2)
      have hap8 : ∀ b off, A2 = some ⟨b, off, none⟩ → B < b ∧ some b ≠ v8.ownBlock := fun b off e => ⟨(HAP.out b off e).1, fun q => by
        rcases hat with e2 | e2
        · exact (HAP.out b off e).2 (q.trans e2)
        · rw [e2] at q
          injection q with q
          rw [hAE] at e
          injection e with e
          injection e with e _ _
          omega⟩
      obtain ⟨A8, c8, hv8⟩ := own_shape hown8
      subst hv8
      have ho9 : OwnsE (w8.setCell ⟨B, 0, none⟩ (.slice A8 (X.length + 2) c8)) base (.slice A8 (X.length + 2) c8) (X ++ [(lo, set_), (hi + 1, set_)]) := ownsRow_setCell_below ho8 (by exact hB) _
      have hr9 := rs_setE (u := .slice A8 (X.length + 2) c8) hr8 (fun b off e => (hap8 b off e).1)
      have hb9 : Below B w (w8.setCell ⟨B, 0, none⟩ (.slice A8 (X.length + 2) c8)) := hb8.setCell (Nat.le_refl _) _
      have hc9 : (w8.setCell ⟨B, 0, none⟩ (.slice A8 (X.length + 2) c8)).cell? ⟨B, 0, none⟩ = some (.slice A8 (X.length + 2) c8) := by simp [go_sem, e8]
      have hf9 : (w8.setCell ⟨B, 0, none⟩ (.slice A8 (X.length + 2) c8)).frozen? ⟨B, 0, none⟩ = false := by simpa using f8
      obtain ⟨w9, hw9⟩ : ∃ w9, w8.setCell ⟨B, 0, none⟩ (.slice A8 (X.length + 2) c8) = w9 := ⟨_, rfl⟩
      have hs9 : w9.heap.size = w8.heap.size := by rw [← hw9]; simp
      rw [hw9] at ho9 hr9 hb9 hc9 hf9
      rw [← HX.out] at ho9
      have HF := Lib.hid (And.intro hc9 (And.intro hf9 (And.intro ho9 (And.intro hb9 (And.intro hr9 hap8)))))
      clear hown8 hg8 hat ho8 hb8 hr8 hap8 ho9 hr9 hb9 hc9 hf9 c1 c2' y0 y1 yv hcv7 hfz7 hcv hfz
      go_wp2_with (fail)
      go_roundw
      case rel => exact ⟨k + 1, _, by omega, by go_num, HF.out.1, HF.out.2.1, HF.out.2.2.1, HF.out.2.2.2.1, by omega, by first | exact HF.out.2.2.2.2.1 | (rw [← hAE]; exact HF.out.2.2.2.2.1), by first | exact HF.out.2.2.2.2.2 | (rw [← hAE]; exact HF.out.2.2.2.2.2)⟩
      case measure => simp [intOf]; omega
    · have hkl : k = p.length := by omega
      subst hkl
      have HOf := Lib.hid (show OwnsE wr base vv (xs ++ layE set_ p) by rw [List.take_length] at ho; exact ho)
      clear ho hb hr hap
      go_wp2_with (fail)
      exact bodyPost_ret (v := .tuple #[]) (by simp [results, Try.results80, go_sem]) rfl ⟨vv, p, rfl, HIP.out, hcv, hfz, HOf.out, HB.out⟩
end Go.Proofs.Ytgmkchkaceciiaa.Mi
