/- The walk of term.Bind. -/
import Derived.Test.YtmcgapejebceoaaTeSeen
import Derived.Test.YtmcgapejebceoaaTeMath
namespace Go.Proofs.Ytmcgapejebceoaa.Te
set_option maxRecDepth 100000
open Go Go.RowKit Go.Proofs.Ytmcgapejebceoaa.Sp Go.Proofs.Ytmcgapejebceoaa.Pa

theorem bindF_at {at_ : Int} {xs : List Int} {acc : Int × List PT} {a d t u : Int} (h : a = at_) : bindF at_ xs acc (a, d, t, u) = (acc.1, acc.2 ++ [(0, d, t, u)]) := by unfold bindF; rw [if_pos h]
theorem bindF_gone {at_ : Int} {xs : List Int} {acc : Int × List PT} {a d t u v : Int} (h : ¬ a = at_) (hv : seenV xs a d t u = (v, true)) : bindF at_ xs acc (a, d, t, u) = (wrap64 (acc.1 + v), acc.2) := by
  unfold seenV at hv
  split at hv
  · rename_i hc
    have h2 : valI d t u (atI xs a) = v := by
      unfold valP at hv
      split at hv
      · injection hv
      · injection hv with _ hv
        cases hv
    have h3 : (valP d t u (atI xs a)).2 = true := by rw [hv]
    unfold bindF
    rw [if_neg h, if_pos ⟨hc.1, hc.2, h3⟩, ← h2]
  · injection hv with _ hv
    cases hv
theorem bindF_left {at_ : Int} {xs : List Int} {acc : Int × List PT} {a d t u v : Int} (h : ¬ a = at_) (hv : seenV xs a d t u = (v, false)) : bindF at_ xs acc (a, d, t, u) = (acc.1, acc.2 ++ [(a, d, t, u)]) ∧ v = 0 := by
  unfold seenV at hv
  split at hv
  · have h3 : ¬ (valP d t u (atI xs a)).2 = true := by rw [hv]; simp
    have h4 : v = 0 := by
      unfold valP at hv
      split at hv
      · injection hv with _ hv
        cases hv
      · injection hv with hv _
        exact hv.symm
    unfold bindF
    rw [if_neg h, if_neg (fun q => h3 q.2.2)]
    exact ⟨rfl, h4⟩
  · rename_i hc
    injection hv with hv _
    unfold bindF
    rw [if_neg h, if_neg (fun q => hc ⟨q.1, q.2.1⟩)]
    exact ⟨rfl, hv.symm⟩
def BRel (at_ : Int) (xs : List Int) (b d t u s : Int) (A : Option Addr) (n c : Nat) (l : List PT) (w : World) (v i : Value) (wr : World) : Prop :=
  ∃ k : Nat, k ≤ l.length ∧ i = .int .i64 k ∧ OwnsP wr (w.heap.size + 1 + 1) v (bindT at_ xs s (l.take k)).2 ∧ BoxF wr w.heap.size b d t u (bindT at_ xs s (l.take k)).1 A n c ∧ BoxF wr (w.heap.size + 1) 0 0 0 0 0 none 0 0 ∧ w.heap.size + 1 + 1 ≤ wr.heap.size ∧ Below w.heap.size w wr
set_option maxHeartbeats 8000000 in
theorem tbind_any (b d t u s : Int) (A C : Option Addr) (c f : Nat) (l : List PT) (xs : List Int) (at_ : Int) (w : World) (h : RP w w.heap.size A l.length l) (hl : l.length ≤ 20) (h' : RR w w.heap.size C xs.length xs) (hm : xs.length ≤ maxLen) (hs : R64 s) :
    Calls Try.prog 21 #[trm b d t u s A l.length c, .slice C xs.length f, .int .i64 at_] w (RetT b d t u (bindT at_ xs s l).1 (bindT at_ xs s l).2 w) := by
  obtain ⟨i0, hi0, hz0, hz1, hz2⟩ := info_parts infoPart
  have HS := Lib.hid (fun a d t u W hW => seen_any a d t u C xs.length f xs W hW hm)
  unfold maxLen at hm
  obtain ⟨w0, hw0⟩ : ∃ w0, (w.alloc (.cells (tcells b d t u s A l.length c) 24)).alloc (.cells (tcells 0 0 0 0 0 none 0 0) 24) = w0 := ⟨_, rfl⟩
  have hs0 : w0.heap.size = w.heap.size + 1 + 1 := by rw [← hw0]; simp
  have hb0 : Below w.heap.size w w0 := by rw [← hw0]; exact ((Below.refl _ _).alloc (Nat.le_refl _) _).alloc (by simp) _
  have hXT : BoxF w0 w.heap.size b d t u s A l.length c := by
    rw [← hw0]
    exact (BoxF.new w b d t u s A l.length c _).keep ((Below.refl _ _).alloc (Nat.le_refl _) _) (by simp)
  have hXR : BoxF w0 (w.heap.size + 1) 0 0 0 0 0 none 0 0 := by
    rw [← hw0]
    have q := BoxF.new (w.alloc (.cells (tcells b d t u s A l.length c) 24)) 0 0 0 0 0 none 0 0 24
    simpa using q
  have H := Lib.hid h
  have H' := Lib.hid h'
  have HXT := Lib.hid hXT
  have HXR := Lib.hid hXR
  have HB0 := Lib.hid hb0
  obtain ⟨⟨q0, q1, q2, q3, q4, q5⟩, qf⟩ := hXT
  clear h h' hXR hb0
  go_enter Try.func21, Try.ntmps21
  go_wp2_with (fail)
  go_loopw [7, 15] (fun v i wr => BRel at_ xs b d t u s A l.length c l w v i wr) (fun _ i _ => l.length - (intOf i).toNat)
  case atStart => exact ⟨0, Nat.zero_le _, rfl, own_P0 _ _, HXT.out, HXR.out, by omega, HB0.out⟩
  case round =>
    obtain ⟨k, hk, rfl, ho, hx, hr, hz, hb⟩ := hrel
    clear q0 q1 q2 q3 q4 q5 qf
    obtain ⟨cs, hcs⟩ : ∃ cs, bindT at_ xs s (l.take k) = cs := ⟨_, rfl⟩
    have hlenk : cs.2.length ≤ l.length := by
      rw [← hcs]
      have := bindT_len (at_ := at_) (xs := xs) (s := s) (l.take k)
      rw [List.length_take] at this
      omega
    have hrk : R64 cs.1 := by rw [← hcs]; exact bindT_R _ hs
    rw [hcs] at ho hx
    obtain ⟨sk, lk⟩ := cs
    dsimp only at ho hx hlenk hrk
    have HO := Lib.hid ho
    have HX := Lib.hid hx
    have HR := Lib.hid hr
    have HB := Lib.hid hb
    by_cases hlt : k < l.length
    · obtain ⟨bb, off, a', d', t', u', hA', hbB, hlk, c1, c2, c3, c4⟩ := (H.out.below hb).at_ hlt
      subst hA'
      have HN := Lib.hid (bind_next (at_ := at_) (xs := xs) (s := s) hlk)
      rw [hcs] at HN
      obtain ⟨w5, hw5⟩ : ∃ w5, wr.alloc (.cells #[.int .i64 a', .int .i64 d', .int .i64 t', .int .i64 u'] 33) = w5 := ⟨_, rfl⟩
      have h5 : Below wr.heap.size wr w5 := by rw [← hw5]; exact (Below.refl _ _).alloc (Nat.le_refl _) _
      have hs5 : w5.heap.size = wr.heap.size + 1 := by rw [← hw5]; simp
      have f5 : w5.frozen? ⟨wr.heap.size, 0, none⟩ = false := by rw [← hw5]; simp
      have Z5 := Lib.hid (show ∀ W, Below w5.heap.size w5 W → W.cell? ⟨wr.heap.size, 0, none⟩ = some (.int .i64 a') ∧ W.cell? ⟨wr.heap.size, 1, none⟩ = some (.int .i64 d') ∧ W.cell? ⟨wr.heap.size, 2, none⟩ = some (.int .i64 t') ∧ W.cell? ⟨wr.heap.size, 3, none⟩ = some (.int .i64 u') from fun W hW => by
        rw [← hw5] at hW
        exact boxed4 hW)
      obtain ⟨z0, z1, z2, z3⟩ := Z5.out w5 (Below.refl _ _)
      have H5 := Lib.hid h5
      by_cases hat : a' = at_
      · have HN1 := Lib.hid (HN.out.trans (bindF_at hat))
        have hat' : (a' == at_) = true := by simp [hat]
        obtain ⟨w6, hw6⟩ : ∃ w6, w5.setCell ⟨wr.heap.size, 0, none⟩ (.int .i64 0) = w6 := ⟨_, rfl⟩
        have y0 : w6.cell? ⟨wr.heap.size, 0, none⟩ = some (.int .i64 0) := by rw [← hw6]; simp [go_sem, z0]
        have y1 : w6.cell? ⟨wr.heap.size, 1, none⟩ = some (.int .i64 d') := by rw [← hw6]; simp [go_sem, z1]
        have y2 : w6.cell? ⟨wr.heap.size, 2, none⟩ = some (.int .i64 t') := by rw [← hw6]; simp [go_sem, z2]
        have y3 : w6.cell? ⟨wr.heap.size, 3, none⟩ = some (.int .i64 u') := by rw [← hw6]; simp [go_sem, z3]
        have hs6 : w6.heap.size = w5.heap.size := by rw [← hw6]; simp
        obtain ⟨w7, hw7⟩ : ∃ w7, w6.alloc (.cells #[.int .i64 0, .int .i64 d', .int .i64 t', .int .i64 u'] 33) = w7 := ⟨_, rfl⟩
        have hc7 : ∀ j u, [Value.int .i64 0, .int .i64 d', .int .i64 t', .int .i64 u'][j]? = some u → w7.cell? ((⟨w6.heap.size, 0, none⟩ : Addr).add j) = some u := by rw [← hw7]; exact cell_four _ _ _ _ _ _
        have hs7 : w7.heap.size = w6.heap.size + 1 := by rw [← hw7]; simp
        have h7 : Below wr.heap.size wr w7 := by
          rw [← hw7, ← hw6]
          exact (h5.setCell (Nat.le_refl _) _).alloc (by simp; omega) _
        have H7 := Lib.hid h7
        rw [hs6, hs5] at hc7
        have HC7 := Lib.hid hc7
        clear h5 hb ho hx hr hlk hcs h7 hc7 hat
        go_wp2_with (at_builtin; go_must (refine wpList_append_own _ rfl _ _ 22 rfl (w.heap.size + 1 + 1) 33 i0 _ 4 32 Try.underlying22 hi0 hz0 hz1 hz2 rfl (by decide) _ lk.length (flatP lk) rfl (own_below HO.out H7.out) ⟨wr.heap.size + 1, 0, none⟩ 1 1 [.int .i64 0, .int .i64 d', .int .i64 t', .int .i64 u'] rfl rfl HC7.out ?c2 ?c3 ?c4 ?c5 ?_))
        case c2 => exact ⟨rfl, rfl, rfl, rfl⟩
        case c3 => simp only [maxLen]; omega
        case c4 => omega
        case c5 => omega
        intro v8 w8 hown8 hg8 _
        have ho8 := own_more hown8
        have hx8 := (HX.out.keep H7.out (by omega)).grown hg8 (by omega) (fun e => by have := ownP_ge HO.out _ e.symm; omega)
        have hr8 := (HR.out.keep H7.out (by omega)).grown hg8 (by omega) (fun e => by have := ownP_ge HO.out _ e.symm; omega)
        have hb8 : Below w.heap.size w w8 := (HB.out.trans (H7.out.mono (by omega))).grown hg8 (by omega) (fun k hk => by have := ownP_ge HO.out _ hk; omega)
        have hz8 := hg8.size
        have HO8 := Lib.hid ho8
        have HX8 := Lib.hid hx8
        have HR8 := Lib.hid hr8
        have HB8 := Lib.hid hb8
        clear hown8 hg8 ho8 hx8 hr8 hb8 y0 y1 y2 y3 z0 z1 z2 z3 c1 c2 c3 c4
        go_wp2_with (fail)
        go_roundw
        case rel => exact ⟨k + 1, by omega, by go_num, by rw [HN1.out]; exact HO8.out, by rw [HN1.out]; exact HX8.out, HR8.out, by omega, HB8.out⟩
        case measure => simp [intOf]; omega
      · have hat' : (a' == at_) = false := by simp [hat]
        have HAT := Lib.hid hat
        have HSV := Lib.hid (HS.out a' d' t' u')
        obtain ⟨⟨v, ok⟩, hv⟩ : ∃ q, seenV xs a' d' t' u' = q := ⟨_, rfl⟩
        rw [hv] at HSV
        have hRR : ∀ W, Below wr.heap.size wr W → RR W W.heap.size C xs.length xs := fun W hW => H'.out.belowM (HB.out.trans (hW.mono (by omega)))
        have HRR := Lib.hid hRR
        cases ok
        · obtain ⟨hn, hv0⟩ := bindF_left (acc := (sk, lk)) hat hv
          subst hv0
          have HN1 := Lib.hid (HN.out.trans hn)
          have hw64 : IntKind.i64.wrap (sk + 0) = sk := by rw [Int.add_zero]; exact IntWalk.i64_in _ hrk
          have hw65 : IntKind.i64.wrap sk = sk := IntWalk.i64_in _ hrk
          clear h5 hb ho hx hr hlk hcs hat hv hn hRR f5
          go_wp2_with (fail)
          refine (HSV.out _ (HRR.out _ H5.out)).mono ?_
          rintro q6 w6 ⟨rfl, hb6⟩
          have hb56 := Lib.hid (below_next H5.out hb6)
          clear z0 z1 z2 z3 c1 c2 c3 c4
          obtain ⟨z0, z1, z2, z3⟩ := Z5.out w6 hb6
          have hs6 := hb6.size
          obtain ⟨w7, hw7⟩ : ∃ w7, w6.alloc (.cells #[.int .i64 a', .int .i64 d', .int .i64 t', .int .i64 u'] 33) = w7 := ⟨_, rfl⟩
          have hc7 : ∀ j u, [Value.int .i64 a', .int .i64 d', .int .i64 t', .int .i64 u'][j]? = some u → w7.cell? ((⟨w6.heap.size, 0, none⟩ : Addr).add j) = some u := by rw [← hw7]; exact cell_four _ _ _ _ _ _
          have hs7 : w7.heap.size = w6.heap.size + 1 := by rw [← hw7]; simp
          have H7 := Lib.hid (show Below wr.heap.size wr w7 by rw [← hw7]; exact below_al hb56.out _)
          have HC7 := Lib.hid hc7
          clear hc7 hb6
          go_wp2_with (at_builtin; go_must (refine wpList_append_own _ rfl _ _ 22 rfl (w.heap.size + 1 + 1) 33 i0 _ 4 32 Try.underlying22 hi0 hz0 hz1 hz2 rfl (by decide) _ lk.length (flatP lk) rfl (own_below HO.out H7.out) ⟨w6.heap.size, 0, none⟩ 1 1 [.int .i64 a', .int .i64 d', .int .i64 t', .int .i64 u'] rfl rfl HC7.out ?c2 ?c3 ?c4 ?c5 ?_))
          case c2 => exact flatP_one [(a', d', t', u')]
          case c3 => simp only [maxLen]; omega
          case c4 => omega
          case c5 => omega
          intro v8 w8 hown8 hg8 _
          have ho8 := own_more hown8
          have hx8 := (HX.out.keep H7.out (by omega)).grown hg8 (by omega) (fun e => by have := ownP_ge HO.out _ e.symm; omega)
          have hr8 := (HR.out.keep H7.out (by omega)).grown hg8 (by omega) (fun e => by have := ownP_ge HO.out _ e.symm; omega)
          have hb8 : Below w.heap.size w w8 := (HB.out.trans (H7.out.mono (by omega))).grown hg8 (by omega) (fun k hk => by have := ownP_ge HO.out _ hk; omega)
          have hz8 := hg8.size
          obtain ⟨w9, hw9, hF9, hL9, hN9⟩ := hx8.store4 sk
          obtain ⟨⟨x0, x1, x2, x3, x4, x5⟩, xf⟩ := hx8
          have xf4 := xf 4 (by omega)
          have HO9 := Lib.hid (show OwnsP w9 (w.heap.size + 1 + 1) v8 _ by rw [← hw9]; exact own_set ho8 (by omega) _)
          have HX9 := Lib.hid hF9
          have HR9 := Lib.hid (hr8.far hN9 (by omega))
          have HB9 := Lib.hid (hb8.trans (hL9 _ (Nat.le_refl _)))
          have hz9 := hN9.2
          clear hown8 hg8 ho8 hr8 hb8 z0 z1 z2 z3 xf hF9 hN9
          go_wp2_with (fail)
          go_roundw
          case rel => exact ⟨k + 1, by omega, by go_num, by rw [HN1.out]; exact HO9.out, by rw [HN1.out]; exact HX9.out, HR9.out, by omega, HB9.out⟩
          case measure => simp [intOf]; omega
        · have HN1 := Lib.hid (HN.out.trans (bindF_gone (acc := (sk, lk)) hat hv))
          dsimp only at HN1
          obtain ⟨sn, hsn⟩ : ∃ sn, wrap64 (sk + v) = sn := ⟨_, rfl⟩
          rw [hsn] at HN1
          have hw64 : IntKind.i64.wrap (sk + v) = sn := by rw [← hsn]; unfold wrap64; exact IntKind.wrap_i64 _
          clear h5 hb ho hx hr hlk hcs hat hv hRR f5
          go_wp2_with (fail)
          refine (HSV.out _ (HRR.out _ H5.out)).mono ?_
          rintro q6 w6 ⟨rfl, hb6⟩
          have hb56 := below_next H5.out hb6
          have hs6 := hb6.size
          have hx6 := HX.out.keep hb56 (by omega)
          obtain ⟨w9, hw9, hF9, hL9, hN9⟩ := hx6.store4 sn
          obtain ⟨⟨x0, x1, x2, x3, x4, x5⟩, xf⟩ := hx6
          have xf4 := xf 4 (by omega)
          have HO9 := Lib.hid (show OwnsP w9 (w.heap.size + 1 + 1) _ _ by rw [← hw9]; exact own_set (own_below HO.out hb56) (by omega) _)
          have HX9 := Lib.hid hF9
          have HR9 := Lib.hid ((HR.out.keep hb56 (by omega)).far hN9 (by omega))
          have HB9 := Lib.hid ((HB.out.trans (hb56.mono (by omega))).trans (hL9 _ (Nat.le_refl _)))
          have hz9 := hN9.2
          clear hb6 hb56 z0 z1 z2 z3 c1 c2 c3 c4 xf hF9 hN9
          go_wp2_with (fail)
          go_roundw
          case rel => exact ⟨k + 1, by omega, by go_num, by rw [HN1.out]; exact HO9.out, by rw [HN1.out]; exact HX9.out, HR9.out, by omega, HB9.out⟩
          case measure => simp [intOf]; omega
    · have hkl : k = l.length := by omega
      subst hkl
      have HE := Lib.hid (show bindT at_ xs s l = (sk, lk) by rw [← hcs, List.take_length])
      obtain ⟨A9, c9, rfl, hrp, hc9, hge⟩ := own_RP ho
      obtain ⟨w1, hw1, hF1, hL1, hN1⟩ := hx.store5 A9 lk.length c9
      have hr1 := hr.far hN1 (by omega)
      obtain ⟨w2, hw2, hF2, hL2, hN2⟩ := hr1.store6 b d t u sk A9 lk.length c9
      obtain ⟨⟨x0, x1, x2, x3, x4, x5⟩, xf⟩ := hx
      have xf5 := xf 5 (by omega)
      obtain ⟨⟨f0, f1, f2, f3, f4, f5⟩, _⟩ := hF1
      obtain ⟨⟨r0, r1, r2, r3, r4, r5⟩, rf⟩ := hr1
      have rf0 := rf 0 (by omega)
      have rf1 := rf 1 (by omega)
      have rf2 := rf 2 (by omega)
      have rf3 := rf 3 (by omega)
      have rf4 := rf 4 (by omega)
      have rf5 := rf 5 (by omega)
      obtain ⟨⟨p0, p1, p2, p3, p4, p5⟩, _⟩ := hF2
      have HRP := Lib.hid (show RP w2 w2.heap.size A9 lk.length lk from ((hrp.far hN1 (fun b off hA => by have := hge b off hA; omega)).far hN2 (fun b off hA => by have := hge b off hA; omega)).more (by have := hN1.2; have := hN2.2; omega))
      have HB2 := Lib.hid (HB.out.trans ((hL1 _ (Nat.le_refl _)).trans (hL2 _ (by omega))))
      clear hb ho hr hcs hrp hge hL1 hN1 hL2 hN2 xf rf
      go_wp2_with (fail)
      refine bodyPost_ret (v := trm b d t u sk A9 lk.length c9) (by simp [results, Try.results21, go_sem, p0, p1, p2, p3, p4, p5]) rfl ?_
      rw [HE.out]
      exact ⟨A9, c9, rfl, HRP.out, hc9, HB2.out⟩
end Go.Proofs.Ytmcgapejebceoaa.Te
