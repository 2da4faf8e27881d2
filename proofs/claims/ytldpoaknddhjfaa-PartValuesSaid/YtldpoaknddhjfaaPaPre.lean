/- The walk of part.Pre. -/
import Derived.Test.YtldpoaknddhjfaaPaPreMath
namespace Go.Proofs.Ytldpoaknddhjfaa.Pa
set_option maxRecDepth 100000
open Go Go.RowKit Go.Shelf Go.Proofs.Ytldpoaknddhjfaa.Sp
attribute [local go_sem] Oper.semAt_some

theorem wrap_is (n : Int) : IntKind.i64.wrap n = RowKit.wrap64 n := IntWalk.i64_left n
def PreS (d t u : Int) (s g : List Span) (x : Int) : Prop := DomS d t u s x ∧ mem g (valI d t u x)
def PreRel (K D : Int) (L : List Span) (pre : List Int) (x : Int) (B : Nat) (wA W0 : World) (i : Value) (wr : World) : Prop :=
  ∃ (k : Nat) (v : Value), k ≤ L.length ∧ i = .int .i64 k ∧ Boxed wr B 35 v ∧ wr.ownsRow B 38 2 v (preW K D L pre ++ (L.take k).map (blkW K D x)).length (flat (preW K D L pre ++ (L.take k).map (blkW K D x))) ∧ KeepsOthers W0 wr ∧ KeepP B W0 wr ∧ Below wA.heap.size wA wr
set_option maxHeartbeats 1000000 in
theorem pre_none (a d t u : Int) (A B : Option Addr) (n m c e : Nat) (s g : List Span) (w : World) (h : RS w w.heap.size A n s) (hn : n ≤ 1099511627776) (hc : n ≤ c) (hE : ∀ x, ¬ DomS d t u s x) :
    Calls Try.prog 16 #[prt a d t u, .slice A n c, .slice B m e] w (SetOut (PreS d t u s g) w) := by
  have HV := Lib.hid (fun W (hW : RS W W.heap.size A n s) => valued_any a d t u A n c s W hW hn hc)
  have H := Lib.hid h
  have HE := Lib.hid hE
  clear h hE hn hc
  go_enter Try.func16, Try.ntmps16
  go_wp2_with (fail)
  refine (HV.out _ (H.out.belowM ((Below.refl _ _).alloc (Nat.le_refl _) _))).mono ?_
  rintro e w1 ⟨v1, own, rfl, his, ho, hb⟩
  obtain rfl : own = [] := his.nil_iff.2 HE.out
  obtain ⟨A1, c1, hv1, hc1, hr1⟩ := own_RS ho
  subst hv1
  have HB := Lib.hid hb
  clear his ho hb hr1
  go_wp2_with (fail)
  go_ret
  exact setOut_nil (fun x hx => HE.out x hx.1) (((Below.refl _ _).alloc (Nat.le_refl _) _).trans (HB.out.mono (by simp)))

set_option maxHeartbeats 8000000 in
theorem pre_any (a d t u : Int) (A B : Option Addr) (n m c e : Nat) (s g : List Span) (w : World) (h : RS w w.heap.size A n s) (h' : RS w w.heap.size B m g) (hn : n ≤ 1099511627776) (hc : n ≤ c) (hm : m ≤ 1099511627776) (he : m ≤ e) :
    Calls Try.prog 16 #[prt a d t u, .slice A n c, .slice B m e] w (SetOut (PreS d t u s g) w) := by
  by_cases hE : ∀ x, ¬ DomS d t u s x
  · exact pre_none a d t u A B n m c e s g w h hn hc hE
  have hbits : Bits d t u := Classical.byContradiction fun hb => hE fun x hx => hb hx.1
  have HBI := Lib.hid hbits
  obtain ⟨b1, b2, b3, b4, b5, b6, b7⟩ := hbits
  obtain ⟨i0, hi0, hz0, hz1, hz2⟩ := info_parts infoSpan
  have pd := pw_pos d
  have pt := pw_pos t
  have pd2 := pw_le b2 pw20
  have pt2 := pw_le b4 pw21
  have hk1 : (2 : Int) ^ (d + t).toNat = pw d * pw t := pw_add d t b1 (by omega)
  have hk2 : (2 : Int) ^ d.toNat = pw d := rfl
  have HK1 := Lib.hid hk1
  have e1 : 0 ≤ d + t := by omega
  have e2 : d + t ≤ 64 := by omega
  have e3 : d ≤ 64 := by omega
  obtain ⟨w0, hw0⟩ : ∃ w0, w.alloc (.cells #[.int .i64 a, .int .i64 d, .int .i64 t, .int .i64 u] 23) = w0 := ⟨_, rfl⟩
  have hbw : Below w.heap.size w w0 := by rw [← hw0]; exact (Below.refl _ w).alloc (Nat.le_refl _) _
  have hw0s : w.heap.size < w0.heap.size := by rw [← hw0]; simp
  have hw0t : w0.heap.size ≤ w.heap.size + 1 := by rw [← hw0]; simp
  have q0 : ∀ (W : World), Below w0.heap.size w0 W → W.cell? ⟨w.heap.size, 0, none⟩ = some (.int .i64 a) ∧ W.cell? ⟨w.heap.size, 1, none⟩ = some (.int .i64 d) ∧ W.cell? ⟨w.heap.size, 2, none⟩ = some (.int .i64 t) ∧ W.cell? ⟨w.heap.size, 3, none⟩ = some (.int .i64 u) := by
    rw [← hw0]; exact fun W hW => boxed4 hW
  have Q0 := Lib.hid q0
  have HW := Lib.hid hbw
  have H := Lib.hid h
  have H' := Lib.hid h'
  have HE := Lib.hid hE
  clear b7 q0 hbw h h' hE
  refine (callsIn_wide (n := 4)).1 ?_
  refine callsIn_of_wp_marks Try.func16 rfl trivial ?_ rfl
  simp only [Try.ntmps16, List.size_toArray, List.length_cons, List.length_nil, Nat.reduceAdd, Nat.reduceSub, Array.replicate_succ, Array.replicate_zero, List.push_toArray, List.append_toArray, List.nil_append, List.cons_append]
  obtain ⟨r0, r1, r2, r3⟩ := Q0.out w0 (Below.refl _ _)
  gi_wp2_with (fail)
  refine ⟨trivial, ?_⟩
  refine (callsIn_wide.2 (valued_any a d t u A n c s w0 (H.out.belowM HW.out) hn hc)).mono ?_
  rintro x1 w1 ⟨v1, own, rfl, his1, ho1, hb1⟩
  have hne : own ≠ [] := fun e => HE.out (his1.nil_iff.1 e)
  have hpos : 0 < own.length := List.length_pos_iff.2 hne
  have hposb : ((own.length : Int) == 0) = false := by simp; omega
  obtain ⟨A1, c1, hv1, hc1, hr1⟩ := own_RS ho1
  subst hv1
  have hs1 := his1.1.short
  have hlow : Low own := low_of his1.1 fun x hx => ((his1.2 x).1 hx).2.2
  have HI1 := Lib.hid his1
  have HR1 := Lib.hid hr1
  have HL1 := Lib.hid hlow
  have HB1 := Lib.hid hb1
  obtain ⟨r0', r1', r2', r3'⟩ := Q0.out w1 hb1
  have hz1' := hb1.size
  clear hne his1 hr1 hlow ho1 hb1 r0 r1 r2 r3
  gi_wp2_with (fail)
  refine ⟨trivial, ?_⟩
  refine (callsIn_wide.2 (lower_any a d t u B m e g w1 ((H'.out.belowM HW.out).belowM HB1.out) hm he HBI.out)).mono ?_
  rintro x2 w2 ⟨v2, L, rfl, his2, ho2, hb2⟩
  obtain ⟨A2, c2, hv2, hc2, hr2⟩ := own_RS ho2
  subst hv2
  have hs2 := his2.1.short
  have HI2 := Lib.hid his2
  have HR2 := Lib.hid hr2
  have HB2 := Lib.hid (HB1.out.trans (hb2.mono HB1.out.size))
  have HR12 := Lib.hid (HR1.out.belowM hb2)
  have hz2' := hb2.size
  obtain ⟨r0, r1, r2, r3⟩ := Q0.out w2 HB2.out
  obtain ⟨g8, hg8⟩ : ∃ g8, w2.heap.size = g8 := ⟨_, rfl⟩
  obtain ⟨wA, hwA⟩ : ∃ wA, w2.alloc (.cells #[.slice A2 L.length c2] 35) = wA := ⟨_, rfl⟩
  have hbA : Below w2.heap.size w2 wA := by rw [← hwA]; exact (Below.refl _ _).alloc (Nat.le_refl _) _
  have bA : Boxed wA g8 35 (.slice A2 L.length c2) := by rw [← hwA, ← hg8]; exact Boxed.new _ _ _
  have hzA : wA.heap.size = g8 + 1 := by rw [← hwA, ← hg8]; simp
  obtain ⟨wB, hwB⟩ : ∃ wB, wA.alloc (.cells #[.slice none 0 0] 35) = wB := ⟨_, rfl⟩
  have hbB : Below wA.heap.size wA wB := by rw [← hwB]; exact (Below.refl _ _).alloc (Nat.le_refl _) _
  have bB : Boxed wB (g8 + 1) 35 (.slice none 0 0) := by rw [← hwB, ← hzA]; exact Boxed.new _ _ _
  have hgl : w.heap.size < g8 := by omega
  have hzB : wB.heap.size = g8 + 2 := by rw [← hwB]; simp [hzA]
  have HBA := Lib.hid (HB2.out.trans (hbA.mono (by omega)))
  have hbAB : Below w2.heap.size w2 wB := hbA.trans (hbB.mono (by omega))
  have HBAB := Lib.hid hbAB
  obtain ⟨t0, t1, t2, t3⟩ := Q0.out wB (HB2.out.trans (hbAB.mono (by omega)))
  have HRL := Lib.hid (HR2.out.belowM hbA)
  have HRO := Lib.hid (HR12.out.belowM hbAB)
  have HRA := Lib.hid (HR12.out.belowM hbA)
  clear hr2 his2 ho2 hb2 r0' r1' r2' r3' hbA hbAB
  gi_wp2_with (fail)
  refine ⟨trivial, ?_⟩
  refine (callsIn_wide.2 (rounds_any a d t u A1 c1 own wB HRO.out HI1.out.1 HL1.out HBI.out)).mono ?_
  rintro x3 w4 ⟨v4, R, rfl, his4, ho4, hb4⟩
  obtain ⟨A4, c4, hv4, hc4, hr4⟩ := own_RS ho4
  subst hv4
  have hs4 := his4.1.short
  have HI4 := Lib.hid his4
  have hz4 := hb4.size
  have HB4 := Lib.hid hb4
  have EA := Lib.hid (each_any A4 R.length c4 R R w4 hr4 (by omega) (Is.self his4.1))
  clear his4 hr4 ho4 hb4
  gi_wp2_with (fail)
  refine ⟨trivial, ?_⟩
  refine (callsIn_wide.2 EA.out).mono ?_
  rintro x4 w5 ⟨Bs, A5, c5, rfl, hcs, hge, hge2, hr5, hb5⟩
  have hz5 := hb5.size
  have hb45 := HB4.out.trans (hb5.mono HB4.out.size)
  have bB5 := boxed_below bB hb45 (by omega)
  have hbA5 : Below wA.heap.size wA w5 := hbB.trans (hb45.mono (by omega))
  have hst := each_stopsK 3 (by omega) Bs A5 c5 R HI4.out.1 (keeperP (g8 + 1)) w5
    (fun W hW => ⟨by have := hW.size; omega, fun q hq => by rw [ptr_boxed (boxed_below bB5 hW (by omega))] at hq; cases hq⟩)
    (fun W b off hW q => ⟨by have := hge2 b off q; omega, fun hq => by rw [ptr_boxed (boxed_below bB5 hW (by omega))] at hq; cases hq⟩) hcs hr5
  have HAA := Lib.hid bA
  have hlowL : ∀ q ∈ L, 0 ≤ q.1 ∧ q.1 ≤ q.2 ∧ q.2 ≤ pw t - 1 := ends_of HI2.out.1 fun y hy => by have := (HI2.out.2 y).1 hy; omega
  have hRm : ∀ h, mem R h ↔ ∃ x, mem own x ∧ x / (pw d * pw t) = h := HI4.out.2
  have hRb : ∀ h, mem R h → 0 ≤ h ∧ h * (pw d * pw t) ≤ 2097151 ∧ h ≤ 1048575 := fun h hh => by
    obtain ⟨x, hx, rfl⟩ := (hRm h).1 hh
    have hx' := ((HI1.out.2 x).1 hx).2.2
    have hK : 2 ≤ pw d * pw t := by
      have h2 := pw_two b3
      have := Int.mul_le_mul_of_nonneg_right pd (show 0 ≤ pw t by omega)
      omega
    have y1 : 0 ≤ x / (pw d * pw t) := Int.ediv_nonneg hx'.1 (by omega)
    have y2 : x / (pw d * pw t) * (pw d * pw t) ≤ x := Int.ediv_mul_le x (by omega)
    have y3 := Int.mul_le_mul_of_nonneg_left hK y1
    exact ⟨y1, by omega, by omega⟩
  have hRn : (numsL R).length ≤ 1048576 := by
    have := numsL_length R HI4.out.1
    have := cnt_le_to 1048576 R 0 HI4.out.1 (fun q hq => by have := ends_of HI4.out.1 (A := 0) (B := 1048575) (fun y hy => ⟨(hRb y hy).1, (hRb y hy).2.2⟩) q hq; omega) (by omega)
    omega
  have hLn : L.length ≤ 1048576 := by
    have := len_le_to 2097152 L 0 HI2.out.1 (fun q hq => by have := hlowL q hq; omega) (by omega)
    omega
  have HLL := Lib.hid hlowL
  have HRB := Lib.hid hRb
  have HRM := Lib.hid hRm
  clear hcs hge hge2 hr5 hb5 hb45 EA HB4 hlowL hRm hRb bA bB t0 t1 t2 t3 r0 r1 r2 r3 hk1 hwA hwB hg8 hbB
  gi_wp2_with (fail)
  refine wpIn_rangeFunc_ownF (F := Fence.wide) rfl (by omega) (gf := 31) (lb := #[.pointer (some ⟨Bs, 0, none⟩)]) rfl trivial (enters_of Try.func31 (by kernel_rfl) rfl)
    hst (fun h k => (keeperP _).trans h k) (fun W l o o' hl ho hc _ => keepP_put (by omega) ho hc) (Below.refl _ _) (fun _ => rfl)
    (fun pre W => (∃ v, Boxed W (g8 + 1) 35 v ∧ W.ownsRow (g8 + 1) 38 2 v (preW (pw d * pw t) (pw d) L pre).length (flat (preW (pw d * pw t) (pw d) L pre)) ∧ True) ∧ Below wA.heap.size wA W)
    (fun _ _ _ => False)
    (OwnFrom.and (Own.from (holdsRow_own (g8 + 1) (g8 + 1) 35 38 2 (fun pre : List Int => (preW (pw d * pw t) (pw d) L pre).length) (fun pre => flat (preW (pw d * pw t) (pw d) L pre)) (fun _ _ => True)) _) (ownFrom_below (Nat.le_refl _) (by omega)))
    (fun _ _ _ _ _ hs _ _ => hs)
    ⟨⟨_, bB5, World.ownsRow_nil _ _ _ _, trivial⟩, hbA5⟩
    (fun x => { tmps := #[prt a d t u, .slice A n c, .slice B m e, .pointer (some ⟨w.heap.size, 0, none⟩), undef, undef, .slice none 0 0, .slice A1 own.length c1, .pointer (some ⟨g8, 0, none⟩), .pointer (some ⟨g8 + 1, 0, none⟩), .int .i64 x, undef, undef, undef, prt a d t u, .slice A n c, .slice A1 own.length c1, .slice A1 own.length c1, .int .i64 (own.length : Int), .bool false, prt a d t u, .slice B m e, .slice A2 L.length c2, prt a d t u, .slice A1 own.length c1, .slice A4 R.length c4, .func (.func 31) #[] #[.pointer (some ⟨Bs, 0, none⟩)], .int .i64 x, undef, undef, undef, undef, undef, undef, undef, undef, undef, undef, undef, undef, undef, undef, undef, undef, undef, undef, undef, undef, undef, undef, undef, undef, undef, undef, undef, undef, undef, undef, undef, undef, undef, undef, undef, undef, undef], defers := [] }) ?assign ?body ?done ?stop
  case assign =>
    intro l x W K hK
    gi_wp2
    exact hK
  case stop =>
    rintro D cd pre W hD hpre h hK
    exact h.elim
  case body =>
    rintro lp pre x W ⟨⟨v0, hv0, hrow0, -⟩, hB⟩ hlt
    have hWs := hB.size
    have hb0W := HBA.out.trans (hB.mono HBA.out.size)
    obtain ⟨r0, r1, r2, r3⟩ := Q0.out W hb0W
    have bA' := boxed_below HAA.out hB (by omega)
    have hc8 := bA'.cell
    have hk1 := HK1.out
    have HV0 := Lib.hid hv0
    have HR0 := Lib.hid hrow0
    have HBW := Lib.hid hB
    have hBl := hv0.lt
    clear hst hv0 hrow0 hB hb0W bA'
    gi_wp2_with (fail)
    obtain ⟨f, hf⟩ : ∃ f, RowKit.wrap64 (x * (pw d * pw t)) = f := ⟨_, rfl⟩
    rw [hf]
    have HF := Lib.hid (show IntKind.i64.wrap (x * (pw d * pw t)) = f from (wrap_is _).trans hf)
    clear hf hk1
    gi_loopw [37] (fun i wr => PreRel (pw d * pw t) (pw d) L pre x (g8 + 1) wA W i wr) (fun i _ => L.length - (intOf i).toNat)
    case atStart => exact ⟨0, v0, Nat.zero_le _, rfl, HV0.out, by simpa using HR0.out, KeepsOthers.refl _, (keeperP _).refl _, HBW.out⟩
    case round =>
      obtain ⟨k, v, hk, rfl, hv, hrow, hko, hke, hbl⟩ := hrel
      have hws := hbl.size
      have HV1 := Lib.hid hv
      have HRW1 := Lib.hid hrow
      have HKO := Lib.hid hko
      have HKE := Lib.hid hke
      have HBL := Lib.hid hbl
      have hBlt := hv.lt
      by_cases hlt2 : k < L.length
      · obtain ⟨b, off, lo, hi, hA, hbB, hlk, hc1', hc2'⟩ := (HRL.out.below hbl).at_ hlt2
        have hbs : b < wr.heap.size := by omega
        have hq := HLL.out L[k] (List.getElem_mem hlt2)
        have hq0 : 0 ≤ lo ∧ lo ≤ hi ∧ hi ≤ 2097151 := by obtain ⟨hl1, e⟩ := hlk; rw [e] at hq; simp only at hq; omega
        have HNX0 := Lib.hid (bmap_next (f := blkW (pw d * pw t) (pw d) x) hlk)
        have hbk : blkW (pw d * pw t) (pw d) x (lo, hi) = (IntKind.i64.wrap (f + lo * pw d), IntKind.i64.wrap (IntKind.i64.wrap (f + (hi + 1) * pw d) - 1)) := by unfold blkW; rw [HF.out]
        have HNX := Lib.hid (show (preW (pw d * pw t) (pw d) L pre ++ (L.take k).map (blkW (pw d * pw t) (pw d) x)) ++ [(IntKind.i64.wrap (f + lo * pw d), IntKind.i64.wrap (IntKind.i64.wrap (f + (hi + 1) * pw d) - 1))] = preW (pw d * pw t) (pw d) L pre ++ (L.take (k + 1)).map (blkW (pw d * pw t) (pw d) x) by rw [HNX0.out, hbk, List.append_assoc])
        have hlen : (preW (pw d * pw t) (pw d) L pre ++ (L.take k).map (blkW (pw d * pw t) (pw d) x)).length + 1 ≤ 1099511627776 := by
          rw [List.length_append, preW_length, List.length_map, List.length_take]
          have y1 := Nat.mul_le_mul (show pre.length + 1 ≤ 1048576 by omega) hLn
          rw [Nat.add_mul, Nat.one_mul] at y1
          omega
        have HLEN := Lib.hid hlen
        obtain ⟨r0', r1', r2', r3'⟩ := Q0.out wr (HBA.out.trans (hbl.mono HBA.out.size))
        have m1 := mul_bound (a := lo) (b := pw d) (A := 2097152) (B := 1048576) hq0.1 (by omega) (by omega) pd2
        have m2 := mul_bound (a := hi + 1) (b := pw d) (A := 2097152) (B := 1048576) (by omega) (by omega) (by omega) pd2
        have s1 : IntKind.i64.wrap (lo * pw d) = lo * pw d := IntWalk.i64_in _ (by omega)
        have s2 : IntKind.i64.wrap (hi + 1) = hi + 1 := IntWalk.i64_in _ (by omega)
        have s3 : IntKind.i64.wrap ((hi + 1) * pw d) = (hi + 1) * pw d := IntWalk.i64_in _ (by omega)
        have hgood : GoodP (g8 + 1) wr := ⟨hBlt, fun q hq => by rw [ptr_boxed hv] at hq; exact (hrow.lt _ hq).2⟩
        obtain ⟨wq, hwq⟩ : ∃ wq, wr.alloc (.cells #[.int .i64 lo, .int .i64 hi] 38) = wq := ⟨_, rfl⟩
        have HWQ := Lib.hid hwq
        have HKA := Lib.hid (show KeepP (g8 + 1) wr wq by rw [← hwq]; exact (keeperP _).alloc wr _ hgood)
        have hvq : Boxed wq (g8 + 1) 35 v := by rw [← hwq]; exact hv.alloc _
        have hrowq : wq.ownsRow (g8 + 1) 38 2 v (preW (pw d * pw t) (pw d) L pre ++ (L.take k).map (blkW (pw d * pw t) (pw d) x)).length (flat (preW (pw d * pw t) (pw d) L pre ++ (L.take k).map (blkW (pw d * pw t) (pw d) x))) := by rw [← hwq]; exact hrow.alloc _
        have HV := Lib.hid hvq
        have HROW := Lib.hid hrowq
        have hc := hvq.cell
        have hfz := hvq.frozen
        have hlq := hvq.lt
        have hzq : wr.heap.size + 1 ≤ wq.heap.size := by rw [← hwq]; simp
        have k1 : wq.cell? ⟨w.heap.size, 1, none⟩ = some (.int .i64 d) := by rw [← hwq, Go.World.cell?_alloc_some wr _ _ (by rw [r1']; rfl)]; exact r1'
        have k2 : wq.cell? ⟨wr.heap.size, 0, none⟩ = some (.int .i64 lo) := by rw [← hwq]; simp
        have k3 : wq.cell? ⟨wr.heap.size, 1, none⟩ = some (.int .i64 hi) := by rw [← hwq]; simp
        have hBL2 : Below wA.heap.size wA wq := HBL.out.trans (by rw [← hwq]; exact (Below.refl _ _).alloc (by omega) _)
        have hne : some (g8 + 1) ≠ v.ownBlock := hvq.not_row (by decide) hrowq
        have hne3 : v.ownBlock ≠ some w.heap.size := fun q => by have := (hrow.lt _ q).1; omega
        have hne4 : v.ownBlock ≠ some wr.heap.size := fun q => by have := (hrow.lt _ q).2; omega
        have HBQ := Lib.hid hBL2
        have i1 : (0 : Int) ≤ (k : Int) := Int.natCast_nonneg _
        have i2 : (k : Int) < (L.length : Int) := by omega
        clear hlk hq hbk hlen hgood hvq hrowq hBL2 hv hrow hko hke hbl r0' r2' r3' HV1 HRW1 HNX0
        subst hA
        gi_wp2_with (fail)
        refine Ro.wpIn_round (S := fun w' => w'.cell? ⟨w.heap.size, 1, none⟩ = some (.int .i64 d) ∧ w'.cell? ⟨wr.heap.size, 0, none⟩ = some (.int .i64 lo) ∧ w'.cell? ⟨wr.heap.size, 1, none⟩ = some (.int .i64 hi)) (by kernel_rfl) (Ro.nodefer (by kernel_rfl)) ?hq ⟨k1, k2, k3⟩ (fun hHeld => ?_)
        case hq =>
          rintro ⟨a', w', h'⟩
          exact h'
        refine wpAnyH_take (i := 1) (oi := { dst := some 42, op := Go.Op.move (Go.Operand.tmp 11), type := 3, pos := "part.go:100", after := #[], guard := none }) (v := ?_) rfl (by kernel_rfl) (by kernel_rfl) (by kernel_rfl) (fun _ _ _ h => h) (Or.inl ⟨by rfl, ?_⟩) (by assumption) ?_
        rotate_left
        · intro w' hSw
          (try dsimp only at hSw)
          go_simp
          all_goals with_reducible rfl
        try simp only [Act.put, List.setIfInBounds_toArray, List.set_cons_zero, List.set_cons_succ]
        refine wpAnyH_take (i := 2) (oi := { dst := some 43, op := Go.Op.fieldAddr 38 (Go.Operand.tmp 13) 0, type := 0, pos := "part.go:100", after := #[], guard := none }) (v := ?_) rfl (by kernel_rfl) (by kernel_rfl) (by kernel_rfl) (fun _ _ _ h => h) (Or.inl ⟨by rfl, ?_⟩) (by assumption) ?_
        rotate_left
        · intro w' hSw
          (try dsimp only at hSw)
          go_simp
          all_goals with_reducible rfl
        try simp only [Act.put, List.setIfInBounds_toArray, List.set_cons_zero, List.set_cons_succ]
        refine wpAnyH_take (i := 3) (oi := { dst := some 44, op := Go.Op.load 3 (Go.Operand.tmp 43), type := 3, pos := "part.go:100", after := #[{ on := 2, ground := Go.Ground.data }], guard := none }) (v := ?_) rfl (by kernel_rfl) (by kernel_rfl) (by kernel_rfl) (fun _ _ _ h => h) (Or.inl ⟨by rfl, ?_⟩) (by assumption) ?_
        rotate_left
        · intro w' hSw
          (try dsimp only at hSw)
          go_simp
          all_goals with_reducible rfl
        try simp only [Act.put, List.setIfInBounds_toArray, List.set_cons_zero, List.set_cons_succ]
        refine wpAnyH_take (i := 4) (oi := { dst := some 45, op := Go.Op.fieldAddr 23 (Go.Operand.tmp 3) 1, type := 0, pos := "part.go:100", after := #[], guard := none }) (v := ?_) rfl (by kernel_rfl) (by kernel_rfl) (by kernel_rfl) (fun _ _ _ h => h) (Or.inl ⟨by rfl, ?_⟩) (by assumption) ?_
        rotate_left
        · intro w' hSw
          (try dsimp only at hSw)
          go_simp
          all_goals with_reducible rfl
        try simp only [Act.put, List.setIfInBounds_toArray, List.set_cons_zero, List.set_cons_succ]
        refine wpAnyH_take (i := 5) (oi := { dst := some 46, op := Go.Op.load 3 (Go.Operand.tmp 45), type := 3, pos := "part.go:100", after := #[{ on := 4, ground := Go.Ground.data }], guard := none }) (v := ?_) rfl (by kernel_rfl) (by kernel_rfl) (by kernel_rfl) (fun _ _ _ h => h) (Or.inl ⟨by rfl, ?_⟩) (by assumption) ?_
        rotate_left
        · intro w' hSw
          (try dsimp only at hSw)
          go_simp
          all_goals with_reducible rfl
        try simp only [Act.put, List.setIfInBounds_toArray, List.set_cons_zero, List.set_cons_succ]
        refine wpAnyH_take (i := 6) (oi := { dst := some 47, op := Go.Op.binOp Go.BinOp.shl 3 (Go.Operand.tmp 44) (Go.Operand.tmp 46) 3, type := 3, pos := "part.go:100", after := #[{ on := 3, ground := Go.Ground.data }, { on := 5, ground := Go.Ground.data }], guard := none }) (v := ?_) rfl (by kernel_rfl) (by kernel_rfl) (by kernel_rfl) (fun _ _ _ h => h) (Or.inl ⟨by rfl, ?_⟩) (by assumption) ?_
        rotate_left
        · intro w' hSw
          (try dsimp only at hSw)
          go_simp
          all_goals with_reducible rfl
        try simp only [Act.put, List.setIfInBounds_toArray, List.set_cons_zero, List.set_cons_succ]
        refine wpAnyH_take (i := 7) (oi := { dst := some 48, op := Go.Op.binOp Go.BinOp.add 3 (Go.Operand.tmp 42) (Go.Operand.tmp 47) 3, type := 3, pos := "part.go:100", after := #[{ on := 1, ground := Go.Ground.data }, { on := 6, ground := Go.Ground.data }], guard := none }) (v := ?_) rfl (by kernel_rfl) (by kernel_rfl) (by kernel_rfl) (fun _ _ _ h => h) (Or.inl ⟨by rfl, ?_⟩) (by assumption) ?_
        rotate_left
        · intro w' hSw
          (try dsimp only at hSw)
          go_simp
          all_goals with_reducible rfl
        try simp only [Act.put, List.setIfInBounds_toArray, List.set_cons_zero, List.set_cons_succ]
        refine wpAnyH_take (i := 8) (oi := { dst := some 49, op := Go.Op.move (Go.Operand.tmp 11), type := 3, pos := "part.go:100", after := #[], guard := none }) (v := ?_) rfl (by kernel_rfl) (by kernel_rfl) (by kernel_rfl) (fun _ _ _ h => h) (Or.inl ⟨by rfl, ?_⟩) (by assumption) ?_
        rotate_left
        · intro w' hSw
          (try dsimp only at hSw)
          go_simp
          all_goals with_reducible rfl
        try simp only [Act.put, List.setIfInBounds_toArray, List.set_cons_zero, List.set_cons_succ]
        refine wpAnyH_take (i := 9) (oi := { dst := some 50, op := Go.Op.fieldAddr 38 (Go.Operand.tmp 13) 1, type := 0, pos := "part.go:100", after := #[], guard := none }) (v := ?_) rfl (by kernel_rfl) (by kernel_rfl) (by kernel_rfl) (fun _ _ _ h => h) (Or.inl ⟨by rfl, ?_⟩) (by assumption) ?_
        rotate_left
        · intro w' hSw
          (try dsimp only at hSw)
          go_simp
          all_goals with_reducible rfl
        try simp only [Act.put, List.setIfInBounds_toArray, List.set_cons_zero, List.set_cons_succ]
        refine wpAnyH_take (i := 10) (oi := { dst := some 51, op := Go.Op.load 3 (Go.Operand.tmp 50), type := 3, pos := "part.go:100", after := #[{ on := 9, ground := Go.Ground.data }], guard := none }) (v := ?_) rfl (by kernel_rfl) (by kernel_rfl) (by kernel_rfl) (fun _ _ _ h => h) (Or.inl ⟨by rfl, ?_⟩) (by assumption) ?_
        rotate_left
        · intro w' hSw
          (try dsimp only at hSw)
          go_simp
          all_goals with_reducible rfl
        try simp only [Act.put, List.setIfInBounds_toArray, List.set_cons_zero, List.set_cons_succ]
        refine wpAnyH_take (i := 11) (oi := { dst := some 52, op := Go.Op.binOp Go.BinOp.add 3 (Go.Operand.tmp 51) (Go.Operand.const (Go.Value.int Go.IntKind.i64 1)) 3, type := 3, pos := "part.go:100", after := #[{ on := 10, ground := Go.Ground.data }], guard := none }) (v := ?_) rfl (by kernel_rfl) (by kernel_rfl) (by kernel_rfl) (fun _ _ _ h => h) (Or.inl ⟨by rfl, ?_⟩) (by assumption) ?_
        rotate_left
        · intro w' hSw
          (try dsimp only at hSw)
          go_simp
          all_goals with_reducible rfl
        try simp only [Act.put, List.setIfInBounds_toArray, List.set_cons_zero, List.set_cons_succ]
        refine wpAnyH_take (i := 12) (oi := { dst := some 53, op := Go.Op.fieldAddr 23 (Go.Operand.tmp 3) 1, type := 0, pos := "part.go:100", after := #[], guard := none }) (v := ?_) rfl (by kernel_rfl) (by kernel_rfl) (by kernel_rfl) (fun _ _ _ h => h) (Or.inl ⟨by rfl, ?_⟩) (by assumption) ?_
        rotate_left
        · intro w' hSw
          (try dsimp only at hSw)
          go_simp
          all_goals with_reducible rfl
        try simp only [Act.put, List.setIfInBounds_toArray, List.set_cons_zero, List.set_cons_succ]
        refine wpAnyH_take (i := 13) (oi := { dst := some 54, op := Go.Op.load 3 (Go.Operand.tmp 53), type := 3, pos := "part.go:100", after := #[{ on := 12, ground := Go.Ground.data }], guard := none }) (v := ?_) rfl (by kernel_rfl) (by kernel_rfl) (by kernel_rfl) (fun _ _ _ h => h) (Or.inl ⟨by rfl, ?_⟩) (by assumption) ?_
        rotate_left
        · intro w' hSw
          (try dsimp only at hSw)
          go_simp
          all_goals with_reducible rfl
        try simp only [Act.put, List.setIfInBounds_toArray, List.set_cons_zero, List.set_cons_succ]
        refine wpAnyH_take (i := 14) (oi := { dst := some 55, op := Go.Op.binOp Go.BinOp.shl 3 (Go.Operand.tmp 52) (Go.Operand.tmp 54) 3, type := 3, pos := "part.go:100", after := #[{ on := 11, ground := Go.Ground.data }, { on := 13, ground := Go.Ground.data }], guard := none }) (v := ?_) rfl (by kernel_rfl) (by kernel_rfl) (by kernel_rfl) (fun _ _ _ h => h) (Or.inl ⟨by rfl, ?_⟩) (by assumption) ?_
        rotate_left
        · intro w' hSw
          (try dsimp only at hSw)
          go_simp
          all_goals with_reducible rfl
        try simp only [Act.put, List.setIfInBounds_toArray, List.set_cons_zero, List.set_cons_succ]
        refine wpAnyH_take (i := 15) (oi := { dst := some 56, op := Go.Op.binOp Go.BinOp.add 3 (Go.Operand.tmp 49) (Go.Operand.tmp 55) 3, type := 3, pos := "part.go:100", after := #[{ on := 8, ground := Go.Ground.data }, { on := 14, ground := Go.Ground.data }], guard := none }) (v := ?_) rfl (by kernel_rfl) (by kernel_rfl) (by kernel_rfl) (fun _ _ _ h => h) (Or.inl ⟨by rfl, ?_⟩) (by assumption) ?_
        rotate_left
        · intro w' hSw
          (try dsimp only at hSw)
          go_simp
          all_goals with_reducible rfl
        try simp only [Act.put, List.setIfInBounds_toArray, List.set_cons_zero, List.set_cons_succ]
        refine wpAnyH_take (i := 16) (oi := { dst := some 57, op := Go.Op.binOp Go.BinOp.sub 3 (Go.Operand.tmp 56) (Go.Operand.const (Go.Value.int Go.IntKind.i64 1)) 3, type := 3, pos := "part.go:100", after := #[{ on := 15, ground := Go.Ground.data }], guard := none }) (v := ?_) rfl (by kernel_rfl) (by kernel_rfl) (by kernel_rfl) (fun _ _ _ h => h) (Or.inl ⟨by rfl, ?_⟩) (by assumption) ?_
        rotate_left
        · intro w' hSw
          (try dsimp only at hSw)
          go_simp
          all_goals with_reducible rfl
        try simp only [Act.put, List.setIfInBounds_toArray, List.set_cons_zero, List.set_cons_succ]
        refine wpAnyH_take (i := 17) (oi := { dst := some 58, op := Go.Op.build 38 #[(0, Go.Operand.tmp 48), (1, Go.Operand.tmp 57)], type := 38, pos := "part.go:100", after := #[{ on := 7, ground := Go.Ground.data }, { on := 16, ground := Go.Ground.data }], guard := none }) (v := ?_) rfl (by kernel_rfl) (by kernel_rfl) (by kernel_rfl) (fun _ _ _ h => h) (Or.inl ⟨by rfl, ?_⟩) (by assumption) ?_
        rotate_left
        · intro w' hSw
          (try dsimp only at hSw)
          go_simp
          all_goals with_reducible rfl
        try simp only [Act.put, List.setIfInBounds_toArray, List.set_cons_zero, List.set_cons_succ]
        refine wpAnyH_ready (rs := [0, 18]) (by kernel_rfl) (by simp) ?_
        refine AllReadyH.cons (o := { dst := some 41, op := Go.Op.load 35 (Go.Operand.tmp 9), type := 35, pos := "part.go:100", after := #[], guard := none }) rfl (fun K hK => ?_) (AllReadyH.cons (o := { dst := some 59, op := Go.Op.buildSlice 35 1 #[(0, Go.Operand.tmp 58)], type := 35, pos := "part.go:100", after := #[{ on := 17, ground := Go.Ground.data }], guard := none }) rfl (fun K hK => ?_) AllReadyH.nil)
        · go_simp
          refine hK.out _ _ ?_ (fun hHeld => ?_)
          · first | go_keep | (go_split_ands; refine ⟨?_, ?_, ?_⟩ <;> simp [*])
          clear hK K
          try simp only [Act.put, List.setIfInBounds_toArray, List.set_cons_zero, List.set_cons_succ]
          refine wpAnyH_ready (rs := [18]) (by kernel_rfl) (by simp) ?_
          refine AllReadyH.cons (o := { dst := some 59, op := Go.Op.buildSlice 35 1 #[(0, Go.Operand.tmp 58)], type := 35, pos := "part.go:100", after := #[{ on := 17, ground := Go.Ground.data }], guard := none }) rfl (fun K hK => ?_) AllReadyH.nil
          go_simp
          refine hK.out _ _ ?_ (fun hHeld => ?_)
          · first | go_keep | (go_split_ands; refine ⟨?_, ?_, ?_⟩ <;> simp [*])
          clear hK K
          try simp only [Act.put, List.setIfInBounds_toArray, List.set_cons_zero, List.set_cons_succ]
          refine wpAnyH_ready (rs := [19]) (by kernel_rfl) (by simp) ?_
          refine AllReadyH.cons (o := { dst := some 60, op := Go.Op.call { callee := Go.Callee.builtin Go.Builtin.append, args := #[Go.Operand.tmp 41, Go.Operand.tmp 59], argTypes := #[35, 35] }, type := 35, pos := "part.go:100", after := #[{ on := 0, ground := Go.Ground.data }, { on := 18, ground := Go.Ground.data }], guard := none }) rfl (fun K hK => ?_) AllReadyH.nil
          refine step_append_lies _ (by rfl) _ _ _ (by rfl) (g8 + 1) 38 i0 _ 2 16 Try.underlying35 hi0 hz0 hz1 hz2 rfl (by omega) v (preW (pw d * pw t) (pw d) L pre ++ (L.take k).map (blkW (pw d * pw t) (pw d) x)).length (flat (preW (pw d * pw t) (pw d) L pre ++ (L.take k).map (blkW (pw d * pw t) (pw d) x))) (by rfl) ((HROW.out.alloc _).drew)
              ⟨wq.heap.size, 0, none⟩ 1 1 [.int .i64 (IntKind.i64.wrap (f + lo * pw d)), .int .i64 (IntKind.i64.wrap (IntKind.i64.wrap (f + (hi + 1) * pw d) - 1))] (by rfl) (by rfl) (World.news_of_block (cs := #[.int .i64 (IntKind.i64.wrap (f + lo * pw d)), .int .i64 (IntKind.i64.wrap (IntKind.i64.wrap (f + (hi + 1) * pw d) - 1))]) (t := 38) (fr := (0, 0)) (heap_alloc_new wq _)) (by simp [Value.oneCell'])
              (by omega) (by have := HLEN.out; simp only [maxLen]; omega) (by have := HLEN.out; omega) (by simp; omega) (wq.heap.size + 1) (by simp) ?_
          intro gg cap w4 hown1 hgrow hat hlt4
          refine hK.out _ _ ?_ (fun hHeld => ?_)
          · go_split_ands
            refine ⟨?_, ?_, ?_⟩
            · (rw [hgrow.cell_far _ (by simp; omega) (Ne.symm hne3)]; assumption)
            · (rw [hgrow.cell_far _ (by simp; omega) (Ne.symm hne4)]; assumption)
            · (rw [hgrow.cell_far _ (by simp; omega) (Ne.symm hne4)]; assumption)
          clear hK K
          try simp only [Act.put, List.setIfInBounds_toArray, List.set_cons_zero, List.set_cons_succ]
          have hgrow' : (wq.alloc (.cells #[.int .i64 (IntKind.i64.wrap (f + lo * pw d)), .int .i64 (IntKind.i64.wrap (IntKind.i64.wrap (f + (hi + 1) * pw d) - 1))] 38)).grownBy w4 v.ownBlock := ⟨hgrow.os, hgrow.tape, hgrow.output, hgrow.size, hgrow.block⟩
          obtain ⟨hv1, hv2, hr2, hk2, hb2⟩ := HV.out.appended (by decide) HROW.out (by omega) (by omega) hown1 hgrow'
          have hkp := keepP_append (n := (preW (pw d * pw t) (pw d) L pre ++ (L.take k).map (blkW (pw d * pw t) (pw d) x)).length + 1) (cap := cap) HV.out hv1 (by have := hgrow'.size; simp at this; omega) (fun k hk hne => by rw [hgrow'.block k (by simp; omega) hne]; exact Below.heap_alloc wq _ k hk) (hat.imp id (fun e => by omega)) hlt4
          have hc1 := hv1.cell
          have hf1 := hv1.frozen
          obtain ⟨nn, hnn⟩ : ∃ nn, (preW (pw d * pw t) (pw d) L pre ++ (L.take k).map (blkW (pw d * pw t) (pw d) x)).length = nn := ⟨_, rfl⟩
          rw [hnn] at hv2 hr2 hk2 hb2 hkp ⊢
          have HNN := Lib.hid hnn
          clear hnn
          refine wpAnyH_ready (rs := [20]) (by kernel_rfl) (by simp) ?_
          refine AllReadyH.cons (o := { dst := none, op := Go.Op.store 35 (Go.Operand.tmp 9) (Go.Operand.tmp 60), type := 0, pos := "part.go:100", after := #[{ on := 19, ground := Go.Ground.data }, { on := 19, ground := Go.Ground.chain }, { on := 0, ground := Go.Ground.phase }, { on := 1, ground := Go.Ground.phase }, { on := 2, ground := Go.Ground.phase }, { on := 3, ground := Go.Ground.phase }, { on := 4, ground := Go.Ground.phase }, { on := 5, ground := Go.Ground.phase }, { on := 6, ground := Go.Ground.phase }, { on := 7, ground := Go.Ground.phase }, { on := 8, ground := Go.Ground.phase }, { on := 9, ground := Go.Ground.phase }, { on := 10, ground := Go.Ground.phase }, { on := 11, ground := Go.Ground.phase }, { on := 12, ground := Go.Ground.phase }, { on := 13, ground := Go.Ground.phase }, { on := 14, ground := Go.Ground.phase }, { on := 15, ground := Go.Ground.phase }, { on := 16, ground := Go.Ground.phase }, { on := 17, ground := Go.Ground.phase }, { on := 18, ground := Go.Ground.phase }, { on := 19, ground := Go.Ground.phase }], guard := none }) rfl (fun K hK => ?_) AllReadyH.nil
          go_simp
          refine hK.out _ _ ?_ (fun hHeld => ?_)
          · go_split_ands; refine ⟨?_, ?_, ?_⟩ <;> (rw [World.cell?_setCell_far _ _ _ _ (by simp only; omega)]; assumption)
          clear hK K
          try simp only [Act.put, List.setIfInBounds_toArray, List.set_cons_zero, List.set_cons_succ]
          refine wpAnyH_done (by kernel_rfl) ?_ _
          have HV2 := Lib.hid hv2
          have HR2 := Lib.hid hr2
          have HK2 := Lib.hid hk2
          have HKP := Lib.hid hkp
          have HB2 := Lib.hid hb2
          have hlt5 : (k : Int) < (L.length : Int) := by omega
          clear hv2 hr2 hk2 hkp hb2 hv1 hc1 hf1 hgrow hgrow' hat hlt4 hown1 hHeld
          gi_wp2_with (fail)
          go_roundw
          case rel => exact ⟨k + 1, _, by omega, by go_num, HV2.out, by rw [← HNX.out, List.length_append, HNN.out, flat_append]; exact HR2.out, (HKO.out.trans (KeepsOthers.alloc wr _)).trans (by rw [HWQ.out]; exact HK2.out), (keeperP _).trans HKE.out ((keeperP _).trans HKA.out HKP.out), HBQ.out.trans (by rw [hzA]; exact HB2.out)⟩
          case measure => simp [intOf]; omega
        · go_simp
          refine hK.out _ _ ?_ (fun hHeld => ?_)
          · first | go_keep | (go_split_ands; refine ⟨?_, ?_, ?_⟩ <;> simp [*])
          clear hK K
          try simp only [Act.put, List.setIfInBounds_toArray, List.set_cons_zero, List.set_cons_succ]
          refine wpAnyH_ready (rs := [0]) (by kernel_rfl) (by simp) ?_
          refine AllReadyH.cons (o := { dst := some 41, op := Go.Op.load 35 (Go.Operand.tmp 9), type := 35, pos := "part.go:100", after := #[], guard := none }) rfl (fun K hK => ?_) AllReadyH.nil
          go_simp
          refine hK.out _ _ ?_ (fun hHeld => ?_)
          · first | go_keep | (go_split_ands; refine ⟨?_, ?_, ?_⟩ <;> simp [*])
          clear hK K
          try simp only [Act.put, List.setIfInBounds_toArray, List.set_cons_zero, List.set_cons_succ]
          refine wpAnyH_ready (rs := [19]) (by kernel_rfl) (by simp) ?_
          refine AllReadyH.cons (o := { dst := some 60, op := Go.Op.call { callee := Go.Callee.builtin Go.Builtin.append, args := #[Go.Operand.tmp 41, Go.Operand.tmp 59], argTypes := #[35, 35] }, type := 35, pos := "part.go:100", after := #[{ on := 0, ground := Go.Ground.data }, { on := 18, ground := Go.Ground.data }], guard := none }) rfl (fun K hK => ?_) AllReadyH.nil
          refine step_append_lies _ (by rfl) _ _ _ (by rfl) (g8 + 1) 38 i0 _ 2 16 Try.underlying35 hi0 hz0 hz1 hz2 rfl (by omega) v (preW (pw d * pw t) (pw d) L pre ++ (L.take k).map (blkW (pw d * pw t) (pw d) x)).length (flat (preW (pw d * pw t) (pw d) L pre ++ (L.take k).map (blkW (pw d * pw t) (pw d) x))) (by rfl) ((HROW.out.alloc _).drew)
              ⟨wq.heap.size, 0, none⟩ 1 1 [.int .i64 (IntKind.i64.wrap (f + lo * pw d)), .int .i64 (IntKind.i64.wrap (IntKind.i64.wrap (f + (hi + 1) * pw d) - 1))] (by rfl) (by rfl) (World.news_of_block (cs := #[.int .i64 (IntKind.i64.wrap (f + lo * pw d)), .int .i64 (IntKind.i64.wrap (IntKind.i64.wrap (f + (hi + 1) * pw d) - 1))]) (t := 38) (fr := (0, 0)) (heap_alloc_new wq _)) (by simp [Value.oneCell'])
              (by omega) (by have := HLEN.out; simp only [maxLen]; omega) (by have := HLEN.out; omega) (by simp; omega) (wq.heap.size + 1) (by simp) ?_
          intro gg cap w4 hown1 hgrow hat hlt4
          refine hK.out _ _ ?_ (fun hHeld => ?_)
          · go_split_ands
            refine ⟨?_, ?_, ?_⟩
            · (rw [hgrow.cell_far _ (by simp; omega) (Ne.symm hne3)]; assumption)
            · (rw [hgrow.cell_far _ (by simp; omega) (Ne.symm hne4)]; assumption)
            · (rw [hgrow.cell_far _ (by simp; omega) (Ne.symm hne4)]; assumption)
          clear hK K
          try simp only [Act.put, List.setIfInBounds_toArray, List.set_cons_zero, List.set_cons_succ]
          have hgrow' : (wq.alloc (.cells #[.int .i64 (IntKind.i64.wrap (f + lo * pw d)), .int .i64 (IntKind.i64.wrap (IntKind.i64.wrap (f + (hi + 1) * pw d) - 1))] 38)).grownBy w4 v.ownBlock := ⟨hgrow.os, hgrow.tape, hgrow.output, hgrow.size, hgrow.block⟩
          obtain ⟨hv1, hv2, hr2, hk2, hb2⟩ := HV.out.appended (by decide) HROW.out (by omega) (by omega) hown1 hgrow'
          have hkp := keepP_append (n := (preW (pw d * pw t) (pw d) L pre ++ (L.take k).map (blkW (pw d * pw t) (pw d) x)).length + 1) (cap := cap) HV.out hv1 (by have := hgrow'.size; simp at this; omega) (fun k hk hne => by rw [hgrow'.block k (by simp; omega) hne]; exact Below.heap_alloc wq _ k hk) (hat.imp id (fun e => by omega)) hlt4
          have hc1 := hv1.cell
          have hf1 := hv1.frozen
          obtain ⟨nn, hnn⟩ : ∃ nn, (preW (pw d * pw t) (pw d) L pre ++ (L.take k).map (blkW (pw d * pw t) (pw d) x)).length = nn := ⟨_, rfl⟩
          rw [hnn] at hv2 hr2 hk2 hb2 hkp ⊢
          have HNN := Lib.hid hnn
          clear hnn
          refine wpAnyH_ready (rs := [20]) (by kernel_rfl) (by simp) ?_
          refine AllReadyH.cons (o := { dst := none, op := Go.Op.store 35 (Go.Operand.tmp 9) (Go.Operand.tmp 60), type := 0, pos := "part.go:100", after := #[{ on := 19, ground := Go.Ground.data }, { on := 19, ground := Go.Ground.chain }, { on := 0, ground := Go.Ground.phase }, { on := 1, ground := Go.Ground.phase }, { on := 2, ground := Go.Ground.phase }, { on := 3, ground := Go.Ground.phase }, { on := 4, ground := Go.Ground.phase }, { on := 5, ground := Go.Ground.phase }, { on := 6, ground := Go.Ground.phase }, { on := 7, ground := Go.Ground.phase }, { on := 8, ground := Go.Ground.phase }, { on := 9, ground := Go.Ground.phase }, { on := 10, ground := Go.Ground.phase }, { on := 11, ground := Go.Ground.phase }, { on := 12, ground := Go.Ground.phase }, { on := 13, ground := Go.Ground.phase }, { on := 14, ground := Go.Ground.phase }, { on := 15, ground := Go.Ground.phase }, { on := 16, ground := Go.Ground.phase }, { on := 17, ground := Go.Ground.phase }, { on := 18, ground := Go.Ground.phase }, { on := 19, ground := Go.Ground.phase }], guard := none }) rfl (fun K hK => ?_) AllReadyH.nil
          go_simp
          refine hK.out _ _ ?_ (fun hHeld => ?_)
          · go_split_ands; refine ⟨?_, ?_, ?_⟩ <;> (rw [World.cell?_setCell_far _ _ _ _ (by simp only; omega)]; assumption)
          clear hK K
          try simp only [Act.put, List.setIfInBounds_toArray, List.set_cons_zero, List.set_cons_succ]
          refine wpAnyH_done (by kernel_rfl) ?_ _
          have HV2 := Lib.hid hv2
          have HR2 := Lib.hid hr2
          have HK2 := Lib.hid hk2
          have HKP := Lib.hid hkp
          have HB2 := Lib.hid hb2
          have hlt5 : (k : Int) < (L.length : Int) := by omega
          clear hv2 hr2 hk2 hkp hb2 hv1 hc1 hf1 hgrow hgrow' hat hlt4 hown1 hHeld
          gi_wp2_with (fail)
          go_roundw
          case rel => exact ⟨k + 1, _, by omega, by go_num, HV2.out, by rw [← HNX.out, List.length_append, HNN.out, flat_append]; exact HR2.out, (HKO.out.trans (KeepsOthers.alloc wr _)).trans (by rw [HWQ.out]; exact HK2.out), (keeperP _).trans HKE.out ((keeperP _).trans HKA.out HKP.out), HBQ.out.trans (by rw [hzA]; exact HB2.out)⟩
          case measure => simp [intOf]; omega
      · have hkL : k = L.length := by omega
        subst hkL
        have HP2 := Lib.hid (preW_snoc (pw d * pw t) (pw d) L pre x)
        have hTk : L.take L.length = L := List.take_length
        rw [hTk] at HRW1
        clear hv hrow hko hke hbl
        gi_wp2_with (fail)
        exact ⟨HKO.out, HKE.out, ⟨⟨v, HV1.out, by rw [HP2.out]; exact HRW1.out, trivial⟩, HBL.out⟩⟩
  case done =>
    rintro D ys W hD rfl ⟨⟨v, hv, hrow, -⟩, hB⟩ hK
    have hWs := hB.size
    have hPL : preW (pw d * pw t) (pw d) L (numsL R) = preL (pw d * pw t) (pw d) L (numsL R) := preW_eq fun y hy r hr => by
      have y1 := HRB.out y ((numsL_mem R HI4.out.1 y).1 hy)
      have y2 := HLL.out r hr
      exact blk_eq b1 b2 b4 y1.1 y1.2.1 y2.1 y2.2.1 y2.2.2
    rw [hPL] at hrow
    obtain ⟨A6, c6, hv6, hc6, hr6⟩ := own_RS (show OwnsL W (g8 + 1) v (preL (pw d * pw t) (pw d) L (numsL R)) from hrow)
    subst hv6
    have hlen : (preL (pw d * pw t) (pw d) L (numsL R)).length ≤ 1099511627776 := by
      rw [preL_length]
      have := Nat.mul_le_mul hRn hLn
      omega
    have HPS := Lib.hid (fun x => pre_set (d := d) (t := t) (u := u) (s := s) (g := g) (own := own) (R := R) (W := L) (hs := numsL R) HI1.out.2 (fun h => numsL_mem R HI4.out.1 h) HRM.out HI2.out.1 HI2.out.2 x)
    have HR6 := Lib.hid hr6
    have HRW := Lib.hid (HRA.out.belowM hB)
    have HBW := Lib.hid (HW.out.trans ((HBA.out.trans (hB.mono HBA.out.size)).mono (by omega)))
    have hc := hv.cell
    have hwW : w.heap.size ≤ W.heap.size := by omega
    clear hst hv hrow hB hPL hr6 hbA5 bB5
    gi_wp2_with (fail)
    refine ⟨trivial, ?_⟩
    refine (callsIn_wide.2 (meet_any A1 A6 own.length _ c1 c6 own _ W HRW.out HR6.out (by omega) hlen hc1 hc6)).mono ?_
    rintro x9 w9 ⟨v9, o9, rfl, his9, ho9, hb9⟩
    have HIS := Lib.hid (show Is o9 (PreS d t u s g) from his9.congr HPS.out)
    have HK2 := Lib.hid (show w9.heap[D]? = some (.deferred (some [])) from (hb9.block D (Array.getElem?_eq_some_iff.1 hK).1).trans hK)
    have HO9 := Lib.hid (show OwnsL (w9.putObj D (.deferred none)) w.heap.size v9 o9 from own_mono (ownsRow_putObj ho9 _ HK2.out rfl) hwW)
    have HB9 := Lib.hid ((HBW.out.trans (hb9.mono hwW)).trans (belowK_b (w := w) (Nat.le_refl _) w9 D _ (.deferred none) (by omega) HK2.out rfl rfl))
    clear his9 ho9 hb9
    gi_wp2_with (fail)
    refine ⟨by simp, .inl ⟨_, _, rfl, run_takeDeferred HK2.out, ?_⟩⟩
    exact ⟨_, results_tmp rfl _ _ _, v9, o9, rfl, HIS.out, HO9.out, HB9.out⟩
end Go.Proofs.Ytldpoaknddhjfaa.Pa
