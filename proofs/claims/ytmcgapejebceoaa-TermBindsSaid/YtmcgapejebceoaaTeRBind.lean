/- The walk of the document's Bind. -/
import Derived.Test.YtmcgapejebceoaaTeBind
namespace Go.Proofs.Ytmcgapejebceoaa.Te
set_option maxRecDepth 100000
open Go Go.RowKit Go.Proofs.Ytmcgapejebceoaa.Sp Go.Proofs.Ytmcgapejebceoaa.Pa

def BRelR (at_ : Int) (xs : List Int) (b d t u s : Int) (A : Option Addr) (n c : Nat) (l : List PT) (w : World) (v sv i : Value) (wr : World) : Prop :=
  ∃ k : Nat, k ≤ l.length ∧ i = .int .i64 k ∧ OwnsP wr (w.heap.size + 1 + 1) v (bindT at_ xs s (l.take k)).2 ∧ sv = .int .i64 (bindT at_ xs s (l.take k)).1 ∧ BoxF wr w.heap.size b d t u s A n c ∧ BoxF wr (w.heap.size + 1) 0 0 0 0 0 none 0 0 ∧ w.heap.size + 1 + 1 ≤ wr.heap.size ∧ Below w.heap.size w wr
set_option maxHeartbeats 8000000 in
theorem rbind_any (b d t u s : Int) (A C : Option Addr) (c f : Nat) (l : List PT) (xs : List Int) (at_ : Int) (w : World) (h : RP w w.heap.size A l.length l) (hl : l.length ≤ 20) (h' : RR w w.heap.size C xs.length xs) (_hm : xs.length ≤ maxLen) (hs : R64 s) :
    Calls Try.prog 22 #[trm b d t u s A l.length c, .slice C xs.length f, .int .i64 at_] w (RetT b d t u (bindT at_ xs s l).1 (bindT at_ xs s l).2 w) := by
  obtain ⟨i0, hi0, hz0, hz1, hz2⟩ := info_parts infoPart
  obtain ⟨w0, hw0⟩ : ∃ w0, (w.alloc (.cells (tcells b d t u s A l.length c) 24)).alloc (.cells (tcells 0 0 0 0 0 none 0 0) 24) = w0 := ⟨_, rfl⟩
  have hs0 : w0.heap.size = w.heap.size + 1 + 1 := by rw [← hw0]; simp
  have hb0 : Below w.heap.size w w0 := by rw [← hw0]; exact ((Below.refl _ _).alloc (Nat.le_refl _) _).alloc (by simp) _
  have hXT : BoxF w0 w.heap.size b d t u s A l.length c := by
    rw [← hw0]
    exact (BoxF.new w b d t u s A l.length c _).keep ((Below.refl _ _).alloc (Nat.le_refl _) _) (by simp)
  have hXR : BoxF w0 (w.heap.size + 1) 0 0 0 0 0 none 0 0 := by
    rw [← hw0]
    have q := BoxF.new (w.alloc (.cells (tcells b d t u s A l.length c) 24)) 0 0 0 0 0 none 0 0 24
    simpa using q
  have H := Lib.hid h
  have H' := Lib.hid h'
  have HXT := Lib.hid hXT
  have HXR := Lib.hid hXR
  have HB0 := Lib.hid hb0
  obtain ⟨⟨q0, q1, q2, q3, q4, q5⟩, qf⟩ := hXT
  clear h h' hXR hb0
  go_enter Try.func22, Try.ntmps22
  go_wp2_with (fail)
  go_loopw [7, 8, 9] (fun v sv i wr => BRelR at_ xs b d t u s A l.length c l w v sv i wr) (fun _ _ i _ => l.length - (intOf i).toNat)
  case atStart => exact ⟨0, Nat.zero_le _, rfl, own_P0 _ _, rfl, HXT.out, HXR.out, by omega, HB0.out⟩
  case round =>
    obtain ⟨k, hk, rfl, ho, rfl, hx, hr, hz, hb⟩ := hrel
    clear q0 q1 q2 q3 q4 q5 qf
    obtain ⟨cs, hcs⟩ : ∃ cs, bindT at_ xs s (l.take k) = cs := ⟨_, rfl⟩
    have hlenk : cs.2.length ≤ l.length := by
      rw [← hcs]
      have := bindT_len (at_ := at_) (xs := xs) (s := s) (l.take k)
      rw [List.length_take] at this
      omega
    have hrk : R64 cs.1 := by rw [← hcs]; exact bindT_R _ hs
    rw [hcs] at ho
    rw [hcs]
    obtain ⟨sk, lk⟩ := cs
    dsimp only at ho hlenk hrk ⊢
    have HO := Lib.hid ho
    have HX := Lib.hid hx
    have HR := Lib.hid hr
    have HB := Lib.hid hb
    by_cases hlt : k < l.length
    · obtain ⟨bb, off, a', d', t', u', hA', hbB, hlk, c1, c2, c3, c4⟩ := (H.out.below hb).at_ hlt
      subst hA'
      have HN := Lib.hid (bind_next (at_ := at_) (xs := xs) (s := s) hlk)
      rw [hcs] at HN
      obtain ⟨⟨q0, q1, q2, q3, q4, q5⟩, _⟩ := hx
      obtain ⟨w5, hw5⟩ : ∃ w5, wr.alloc (.cells #[.int .i64 a', .int .i64 d', .int .i64 t', .int .i64 u'] 33) = w5 := ⟨_, rfl⟩
      have h5 : Below wr.heap.size wr w5 := by rw [← hw5]; exact (Below.refl _ _).alloc (Nat.le_refl _) _
      have hs5 : w5.heap.size = wr.heap.size + 1 := by rw [← hw5]; simp
      have Z5 := Lib.hid (show ∀ W, Below w5.heap.size w5 W → W.cell? ⟨wr.heap.size, 0, none⟩ = some (.int .i64 a') ∧ W.cell? ⟨wr.heap.size, 1, none⟩ = some (.int .i64 d') ∧ W.cell? ⟨wr.heap.size, 2, none⟩ = some (.int .i64 t') ∧ W.cell? ⟨wr.heap.size, 3, none⟩ = some (.int .i64 u') from fun W hW => by
        rw [← hw5] at hW
        exact boxed4 hW)
      obtain ⟨z0, z1, z2, z3⟩ := Z5.out w5 (Below.refl _ _)
      have H5 := Lib.hid h5
      by_cases hat : a' = at_
      · have HN1 := Lib.hid (HN.out.trans (bindF_at hat))
        have hat' : (a' == at_) = true := by simp [hat]
        obtain ⟨w7, hw7⟩ : ∃ w7, w5.alloc (.cells #[.int .i64 0, .int .i64 d', .int .i64 t', .int .i64 u'] 33) = w7 := ⟨_, rfl⟩
        have hc7 : ∀ j u, [Value.int .i64 0, .int .i64 d', .int .i64 t', .int .i64 u'][j]? = some u → w7.cell? ((⟨w5.heap.size, 0, none⟩ : Addr).add j) = some u := by rw [← hw7]; exact cell_four _ _ _ _ _ _
        have hs7 : w7.heap.size = w5.heap.size + 1 := by rw [← hw7]; simp
        have h7 : Below wr.heap.size wr w7 := by rw [← hw7]; exact below_al h5 _
        have H7 := Lib.hid h7
        rw [hs5] at hc7
        have HC7 := Lib.hid hc7
        clear h5 hb ho hr hlk hcs h7 hc7 hat
        go_wp2_with (at_builtin; go_must (refine wpList_append_own _ rfl _ _ 22 rfl (w.heap.size + 1 + 1) 33 i0 _ 4 32 Try.underlying22 hi0 hz0 hz1 hz2 rfl (by decide) _ lk.length (flatP lk) rfl (own_below HO.out H7.out) ⟨wr.heap.size + 1, 0, none⟩ 1 1 [.int .i64 0, .int .i64 d', .int .i64 t', .int .i64 u'] rfl rfl HC7.out ?c2 ?c3 ?c4 ?c5 ?_))
        case c2 => first | exact ⟨rfl, rfl, rfl, rfl⟩ | exact flatP_one [(0, d', t', u')]
        case c3 => simp only [maxLen]; omega
        case c4 => omega
        case c5 => omega
        intro v8 w8 hown8 hg8 _
        have ho8 := own_more hown8
        have hx8 := (HX.out.keep H7.out (by omega)).grown hg8 (by omega) (fun e => by have := ownP_ge HO.out _ e.symm; omega)
        have hr8 := (HR.out.keep H7.out (by omega)).grown hg8 (by omega) (fun e => by have := ownP_ge HO.out _ e.symm; omega)
        have hb8 : Below w.heap.size w w8 := (HB.out.trans (H7.out.mono (by omega))).grown hg8 (by omega) (fun k hk => by have := ownP_ge HO.out _ hk; omega)
        have hz8 := hg8.size
        have HO8 := Lib.hid ho8
        have HX8 := Lib.hid hx8
        have HR8 := Lib.hid hr8
        have HB8 := Lib.hid hb8
        clear hown8 hg8 ho8 hx8 hr8 hb8 z0 z1 z2 z3 c1 c2 c3 c4 q0 q1 q2 q3 q4 q5
        go_wp2_with (fail)
        go_roundw
        case rel => exact ⟨k + 1, by omega, by go_num, by rw [HN1.out]; exact HO8.out, by rw [HN1.out], HX8.out, HR8.out, by omega, HB8.out⟩
        case measure => simp [intOf]; omega
      · have hat' : (a' == at_) = false := by simp [hat]
        have HLEFT := Lib.hid (fun (v : Int) (hv : seenV xs a' d' t' u' = (v, false)) => (bindF_left (acc := (sk, lk)) hat hv).1)
        have HGONE := Lib.hid (fun (v : Int) (hv : seenV xs a' d' t' u' = (v, true)) => bindF_gone (acc := (sk, lk)) hat hv)
        by_cases hin : 0 ≤ a' ∧ a' < xs.length
        · obtain ⟨j, hj⟩ := Int.eq_ofNat_of_zero_le hin.1
          subst hj
          have hjl : j < xs.length := by omega
          obtain ⟨b2, off2, x, hC, hbB2, hxk, y1, x1, x2⟩ := H'.out.at_ hjl
          subst hC
          have hx9 : x ≤ 9223372036854775807 := by omega
          have hsv : seenV xs j d' t' u' = valP d' t' u' x := by
            unfold seenV
            rw [if_pos hin, atI_get rfl hxk]
          have HXV := Lib.hid (show ∀ W, Calls Try.prog 44 #[prt j d' t' u', .int .i64 (IntKind.i64.wrap x)] W (RetV (valP d' t' u' x) W) from fun W => by rw [IntWalk.i64_in x (by omega)]; exact rvalue_any j d' t' u' x W hx9)
          obtain ⟨⟨v, ok⟩, hv⟩ : ∃ q, valP d' t' u' x = q := ⟨_, rfl⟩
          rw [hv] at HXV hsv
          have Q5 := Lib.hid (show ∀ W, Below w5.heap.size w5 W → W.cell? ⟨wr.heap.size, 0, none⟩ = some (.int .i64 j) ∧ W.cell? ⟨wr.heap.size, 1, none⟩ = some (.int .i64 d') ∧ W.cell? ⟨wr.heap.size, 2, none⟩ = some (.int .i64 t') ∧ W.cell? ⟨wr.heap.size, 3, none⟩ = some (.int .i64 u') ∧ W.cell? ⟨b2, off2 + j, none⟩ = some (.int .i32 x) from fun W hW => by
            have hc : W.cell? ⟨b2, off2 + j, none⟩ = some (.int .i32 x) := ((HB.out.trans ((h5.trans (hW.mono h5.size)).mono (by omega))).cell hbB2).trans y1
            obtain ⟨z0, z1, z2, z3⟩ := Z5.out W hW
            exact ⟨z0, z1, z2, z3, hc⟩)
          clear h5 hb ho hr hlk hcs hat hv hxk y1 z0 z1 z2 z3
          obtain ⟨z0, z1, z2, z3, z4⟩ := Q5.out w5 (Below.refl _ _)
          go_wp2_with (fail)
          go_region_held3 (fun w' => w'.cell? ⟨wr.heap.size, 0, none⟩ = some (.int .i64 j) ∧ w'.cell? ⟨wr.heap.size, 1, none⟩ = some (.int .i64 d') ∧ w'.cell? ⟨wr.heap.size, 2, none⟩ = some (.int .i64 t') ∧ w'.cell? ⟨wr.heap.size, 3, none⟩ = some (.int .i64 u') ∧ w'.cell? ⟨b2, off2 + j, none⟩ = some (.int .i32 x))
            (first | go_keep | exact Q5.out _ (Below.refl _ _).drew | exact Q5.out _ hB6)
            (first
              | (go_at_call 44; (with_reducible refine (HXV.out _).mono ?_); rintro q4 w6 ⟨rfl, hb6⟩; have hB6 : Below w5.heap.size w5 w6 := (Below.refl _ w5).drew.trans (hb6.mono (by simp))))
          have hs6 := hB6.size
          have HB6 := Lib.hid hB6
          have hb56 := below_next H5.out hB6
          have HB56 := Lib.hid hb56
          clear z0 z1 z2 z3 z4 c1 c2 c3 c4 hb6 q0 q1 q2 q3 q4 q5 hb56
          obtain ⟨z0, z1, z2, z3⟩ := Z5.out w6 hB6
          clear hB6
          cases ok
          · have HN1 := Lib.hid (HN.out.trans (HLEFT.out _ hsv))
            clear hsv
            obtain ⟨w7, hw7⟩ : ∃ w7, w6.alloc (.cells #[.int .i64 j, .int .i64 d', .int .i64 t', .int .i64 u'] 33) = w7 := ⟨_, rfl⟩
            have hc7 : ∀ i u, [Value.int .i64 j, .int .i64 d', .int .i64 t', .int .i64 u'][i]? = some u → w7.cell? ((⟨w6.heap.size, 0, none⟩ : Addr).add i) = some u := by rw [← hw7]; exact cell_four _ _ _ _ _ _
            have hs7 : w7.heap.size = w6.heap.size + 1 := by rw [← hw7]; simp
            have H7 := Lib.hid (show Below wr.heap.size wr w7 by rw [← hw7]; exact below_al HB56.out _)
            have HC7 := Lib.hid hc7
            clear hc7
            go_wp2_with (at_builtin; go_must (refine wpList_append_own _ rfl _ _ 22 rfl (w.heap.size + 1 + 1) 33 i0 _ 4 32 Try.underlying22 hi0 hz0 hz1 hz2 rfl (by decide) _ lk.length (flatP lk) rfl (own_below HO.out H7.out) ⟨w6.heap.size, 0, none⟩ 1 1 [.int .i64 j, .int .i64 d', .int .i64 t', .int .i64 u'] rfl rfl HC7.out ?c2 ?c3 ?c4 ?c5 ?_))
            case c2 => first | exact ⟨rfl, rfl, rfl, rfl⟩ | exact flatP_one [(j, d', t', u')]
            case c3 => simp only [maxLen]; omega
            case c4 => omega
            case c5 => omega
            intro v8 w8 hown8 hg8 _
            have ho8 := own_more hown8
            have hx8 := (HX.out.keep H7.out (by omega)).grown hg8 (by omega) (fun e => by have := ownP_ge HO.out _ e.symm; omega)
            have hr8 := (HR.out.keep H7.out (by omega)).grown hg8 (by omega) (fun e => by have := ownP_ge HO.out _ e.symm; omega)
            have hb8 : Below w.heap.size w w8 := (HB.out.trans (H7.out.mono (by omega))).grown hg8 (by omega) (fun k hk => by have := ownP_ge HO.out _ hk; omega)
            have hz8 := hg8.size
            have HO8 := Lib.hid ho8
            have HX8 := Lib.hid hx8
            have HR8 := Lib.hid hr8
            have HB8 := Lib.hid hb8
            clear hown8 hg8 ho8 hx8 hr8 hb8 z0 z1 z2 z3
            go_wp2_with (fail)
            go_roundw
            case rel => exact ⟨k + 1, by omega, by go_num, by rw [HN1.out]; exact HO8.out, by rw [HN1.out], HX8.out, HR8.out, by omega, HB8.out⟩
            case measure => simp [intOf]; omega
          · have HN1 := Lib.hid (HN.out.trans (HGONE.out _ hsv))
            clear hsv
            obtain ⟨sn, hsn⟩ : ∃ sn, wrap64 (sk + v) = sn := ⟨_, rfl⟩
            rw [hsn] at HN1
            have hw64 : IntKind.i64.wrap (sk + v) = sn := by rw [← hsn]; unfold wrap64; exact IntKind.wrap_i64 _
            have HX6 := Lib.hid (HX.out.keep HB56.out (by omega))
            have HR6 := Lib.hid (HR.out.keep HB56.out (by omega))
            have HO6 := Lib.hid (own_below HO.out HB56.out)
            have HBW := Lib.hid (HB.out.trans (HB56.out.mono (by omega)))
            go_wp2_with (fail)
            go_roundw
            case rel => exact ⟨k + 1, by omega, by go_num, by rw [HN1.out]; exact HO6.out, by rw [HN1.out], HX6.out, HR6.out, by omega, HBW.out⟩
            case measure => simp [intOf]; omega
        · have hsv : seenV xs a' d' t' u' = (0, false) := by
            unfold seenV
            rw [if_neg hin]
          have HN1 := Lib.hid (HN.out.trans (HLEFT.out _ hsv))
          clear hsv
          obtain ⟨w7, hw7⟩ : ∃ w7, w5.alloc (.cells #[.int .i64 a', .int .i64 d', .int .i64 t', .int .i64 u'] 33) = w7 := ⟨_, rfl⟩
          have hc7 : ∀ j u, [Value.int .i64 a', .int .i64 d', .int .i64 t', .int .i64 u'][j]? = some u → w7.cell? ((⟨w5.heap.size, 0, none⟩ : Addr).add j) = some u := by rw [← hw7]; exact cell_four _ _ _ _ _ _
          have hs7 : w7.heap.size = w5.heap.size + 1 := by rw [← hw7]; simp
          have h7 : Below wr.heap.size wr w7 := by rw [← hw7]; exact below_al h5 _
          have H7 := Lib.hid h7
          rw [hs5] at hc7
          have HC7 := Lib.hid hc7
          clear h5 hb ho hr hlk hcs h7 hc7 hat
          by_cases hneg : 0 ≤ a'
          · have hbig : ¬ a' < xs.length := fun q => hin ⟨hneg, q⟩
            have hd1 : decide ((0 : Int) ≤ a') = true := by simp [hneg]
            have hd2 : decide (a' < (xs.length : Int)) = false := by simp; omega
            clear hin
            go_wp2_with (at_builtin; go_must (refine wpList_append_own _ rfl _ _ 22 rfl (w.heap.size + 1 + 1) 33 i0 _ 4 32 Try.underlying22 hi0 hz0 hz1 hz2 rfl (by decide) _ lk.length (flatP lk) rfl (own_below HO.out H7.out) ⟨wr.heap.size + 1, 0, none⟩ 1 1 [.int .i64 a', .int .i64 d', .int .i64 t', .int .i64 u'] rfl rfl HC7.out ?c2 ?c3 ?c4 ?c5 ?_))
            case c2 => first | exact ⟨rfl, rfl, rfl, rfl⟩ | exact flatP_one [(a', d', t', u')]
            case c3 => simp only [maxLen]; omega
            case c4 => omega
            case c5 => omega
            intro v8 w8 hown8 hg8 _
            have ho8 := own_more hown8
            have hx8 := (HX.out.keep H7.out (by omega)).grown hg8 (by omega) (fun e => by have := ownP_ge HO.out _ e.symm; omega)
            have hr8 := (HR.out.keep H7.out (by omega)).grown hg8 (by omega) (fun e => by have := ownP_ge HO.out _ e.symm; omega)
            have hb8 : Below w.heap.size w w8 := (HB.out.trans (H7.out.mono (by omega))).grown hg8 (by omega) (fun k hk => by have := ownP_ge HO.out _ hk; omega)
            have hz8 := hg8.size
            have HO8 := Lib.hid ho8
            have HX8 := Lib.hid hx8
            have HR8 := Lib.hid hr8
            have HB8 := Lib.hid hb8
            clear hown8 hg8 ho8 hx8 hr8 hb8 z0 z1 z2 z3 c1 c2 c3 c4 q0 q1 q2 q3 q4 q5
            go_wp2_with (fail)
            go_roundw
            case rel => exact ⟨k + 1, by omega, by go_num, by rw [HN1.out]; exact HO8.out, by rw [HN1.out], HX8.out, HR8.out, by omega, HB8.out⟩
            case measure => simp [intOf]; omega
          · have hd1 : decide ((0 : Int) ≤ a') = false := by simp; omega
            clear hin
            go_wp2_with (at_builtin; go_must (refine wpList_append_own _ rfl _ _ 22 rfl (w.heap.size + 1 + 1) 33 i0 _ 4 32 Try.underlying22 hi0 hz0 hz1 hz2 rfl (by decide) _ lk.length (flatP lk) rfl (own_below HO.out H7.out) ⟨wr.heap.size + 1, 0, none⟩ 1 1 [.int .i64 a', .int .i64 d', .int .i64 t', .int .i64 u'] rfl rfl HC7.out ?c2 ?c3 ?c4 ?c5 ?_))
            case c2 => first | exact ⟨rfl, rfl, rfl, rfl⟩ | exact flatP_one [(a', d', t', u')]
            case c3 => simp only [maxLen]; omega
            case c4 => omega
            case c5 => omega
            intro v8 w8 hown8 hg8 _
            have ho8 := own_more hown8
            have hx8 := (HX.out.keep H7.out (by omega)).grown hg8 (by omega) (fun e => by have := ownP_ge HO.out _ e.symm; omega)
            have hr8 := (HR.out.keep H7.out (by omega)).grown hg8 (by omega) (fun e => by have := ownP_ge HO.out _ e.symm; omega)
            have hb8 : Below w.heap.size w w8 := (HB.out.trans (H7.out.mono (by omega))).grown hg8 (by omega) (fun k hk => by have := ownP_ge HO.out _ hk; omega)
            have hz8 := hg8.size
            have HO8 := Lib.hid ho8
            have HX8 := Lib.hid hx8
            have HR8 := Lib.hid hr8
            have HB8 := Lib.hid hb8
            clear hown8 hg8 ho8 hx8 hr8 hb8 z0 z1 z2 z3 c1 c2 c3 c4 q0 q1 q2 q3 q4 q5
            go_wp2_with (fail)
            go_roundw
            case rel => exact ⟨k + 1, by omega, by go_num, by rw [HN1.out]; exact HO8.out, by rw [HN1.out], HX8.out, HR8.out, by omega, HB8.out⟩
            case measure => simp [intOf]; omega
    · have hkl : k = l.length := by omega
      subst hkl
      have HE := Lib.hid (show bindT at_ xs s l = (sk, lk) by rw [← hcs, List.take_length])
      obtain ⟨A9, c9, rfl, hrp, hc9, hge⟩ := own_RP ho
      obtain ⟨w2, hw2, hF2, hL2, hN2⟩ := hr.store6 b d t u sk A9 lk.length c9
      obtain ⟨⟨q0, q1, q2, q3, q4, q5⟩, _⟩ := hx
      obtain ⟨⟨r0, r1, r2, r3, r4, r5⟩, rf⟩ := hr
      have rf0 := rf 0 (by omega)
      have rf1 := rf 1 (by omega)
      have rf2 := rf 2 (by omega)
      have rf3 := rf 3 (by omega)
      have rf4 := rf 4 (by omega)
      have rf5 := rf 5 (by omega)
      obtain ⟨⟨p0, p1, p2, p3, p4, p5⟩, _⟩ := hF2
      have HRP := Lib.hid (show RP w2 w2.heap.size A9 lk.length lk from (hrp.far hN2 (fun b off hA => by have := hge b off hA; omega)).more (by have := hN2.2; omega))
      have HB2 := Lib.hid (HB.out.trans (hL2 _ (by omega)))
      clear hb ho hcs hrp hge hL2 hN2 rf
      go_wp2_with (fail)
      refine bodyPost_ret (v := trm b d t u sk A9 lk.length c9) (by simp [results, Try.results22, go_sem, p0, p1, p2, p3, p4, p5]) rfl ?_
      rw [HE.out]
      exact ⟨A9, c9, rfl, HRP.out, hc9, HB2.out⟩
end Go.Proofs.Ytmcgapejebceoaa.Te
