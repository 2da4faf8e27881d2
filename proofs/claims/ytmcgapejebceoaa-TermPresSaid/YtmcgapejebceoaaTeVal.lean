/- The walks of term.symbol, whole, Value. -/
import Derived.Test.YtmcgapejebceoaaTeFun
namespace Go.Proofs.Ytmcgapejebceoaa.Te
set_option maxRecDepth 100000
open Go Go.RowKit Go.Proofs.Ytmcgapejebceoaa.Sp Go.Proofs.Ytmcgapejebceoaa.Pa

def Sy (x : Int) : Prop := 0 ≤ x ∧ x ≤ 1114111
instance (x : Int) : Decidable (Sy x) := by unfold Sy; infer_instance
theorem symbol_any (x : Int) (w : World) : Calls Try.prog 41 #[.int .i64 x] w (RetW (.bool (decide (Sy x))) w) := by
  by_cases h1 : 0 ≤ x
  · by_cases h2 : x ≤ 1114111
    · rw [decide_eq_true (show Sy x from ⟨h1, h2⟩)]
      go_enter Try.func41, Try.ntmps41
      go_wp2_with (fail)
      go_ret
      exact ⟨rfl, rfl⟩
    · rw [decide_eq_false (show ¬ Sy x from fun h => h2 h.2)]
      go_enter Try.func41, Try.ntmps41
      go_wp2_with (fail)
      go_ret
      exact ⟨rfl, rfl⟩
  · rw [decide_eq_false (show ¬ Sy x from fun h => h1 h.1)]
    go_enter Try.func41, Try.ntmps41
    go_wp2_with (fail)
    go_ret
    exact ⟨rfl, rfl⟩
/-- A term's value, where the inner one is x. Sums wrap round. -/
def wholeT (b d t u x : Int) : Int × Bool := if Sy x ∧ Bits d t u then (wrap64 (b + valI d t u x), true) else (0, false)
theorem twhole_any (b d t u s : Int) (A : Option Addr) (n c : Nat) (x : Int) (w : World) : Calls Try.prog 43 #[trm b d t u s A n c, .int .i64 x] w (RetV (wholeT b d t u x) w) := by
  have HS := Lib.hid (symbol_any x)
  have HO := Lib.hid (outer_any b d t u s A n c)
  by_cases h1 : Sy x
  case neg =>
    rw [decide_eq_false h1] at HS
    have HV := Lib.hid (show wholeT b d t u x = (0, false) from if_neg (fun h => h1 h.1))
    go_enter Try.func43, Try.ntmps43
    go_wp2_with (fail)
    refine (HS.out _).mono ?_
    rintro e w1 ⟨rfl, rfl⟩
    go_wp2_with (fail)
    go_ret2
    exact ⟨ret_v HV.out, (Below.refl _ _).alloc (Nat.le_refl _) _⟩
  rw [decide_eq_true h1] at HS
  have HX := Lib.hid (value_any 0 d t u x)
  by_cases h2 : Bits d t u
  case neg =>
    have hp : valP d t u x = (0, false) := if_neg (fun h => h2 h.1)
    rw [hp] at HX
    have HV := Lib.hid (show wholeT b d t u x = (0, false) from if_neg (fun h => h2 h.2))
    have hx : x ≤ 9223372036854775807 := by have := h1.2; omega
    clear hp
    go_enter Try.func43, Try.ntmps43
    go_wp2_with (fail)
    refine (HS.out _).mono ?_
    rintro e w1 ⟨rfl, rfl⟩
    go_wp2_with (fail)
    refine (HO.out _).mono ?_
    rintro e w2 ⟨rfl, hb2⟩
    go_wp2_with (fail)
    refine (HX.out _ hx).mono ?_
    rintro e w3 ⟨rfl, hb3⟩
    go_wp2_with (fail)
    go_ret2
    exact ⟨ret_v HV.out, ((Below.refl _ w).alloc (Nat.le_refl _) _).trans ((hb2.trans (hb3.mono hb2.size)).mono (by simp))⟩
  have hp : valP d t u x = (valI d t u x, true) := if_pos ⟨h2, h1.1, by have := h1.2; omega⟩
  rw [hp] at HX
  have HV := Lib.hid (show wholeT b d t u x = (wrap64 (b + valI d t u x), true) from if_pos ⟨h1, h2⟩)
  have hx : x ≤ 9223372036854775807 := by have := h1.2; omega
  generalize valI d t u x = v at *
  clear hp h1 h2
  go_enter Try.func43, Try.ntmps43
  go_wp2_with (fail)
  refine (HS.out _).mono ?_
  rintro e w1 ⟨rfl, rfl⟩
  go_wp2_with (fail)
  refine (HO.out _).mono ?_
  rintro e w2 ⟨rfl, hb2⟩
  go_wp2_with (fail)
  refine (HX.out _ hx).mono ?_
  rintro e w3 ⟨rfl, hb3⟩
  obtain ⟨r0, r1, r2, r3, r4, r5⟩ := boxed6 (hb2.trans (hb3.mono hb2.size))
  go_wp2_with (fail)
  go_ret2
  exact ⟨ret_v HV.out, ((Below.refl _ w).alloc (Nat.le_refl _) _).trans ((hb2.trans (hb3.mono hb2.size)).mono (by simp))⟩
/-- The slice value with address A and length n reads as the symbols xs, and lies below block B. -/
def RR (w : World) (B : Nat) (A : Option Addr) (n : Nat) (xs : List Int) : Prop :=
  xs.length = n ∧ (∀ x ∈ xs, -2147483648 ≤ x ∧ x ≤ 2147483647) ∧ (0 < n → ∃ b off, A = some ⟨b, off, none⟩ ∧ b < B ∧ ∀ (j : Nat) (h : j < xs.length), w.cell? ⟨b, off + j, none⟩ = some (.int .i32 xs[j]))
section
variable {w w' : World} {B B' n : Nat} {A : Option Addr} {l : List Int}
theorem RR.nil_ (w : World) (B : Nat) (A : Option Addr) : RR w B A 0 [] := ⟨rfl, fun x h => absurd h (List.not_mem_nil), fun h => absurd h (by omega)⟩
theorem RR.at_ {k : Nat} (h : RR w B A n l) (hk : k < n) : ∃ b off, ∃ x : Int, A = some ⟨b, off, none⟩ ∧ b < B ∧ (∃ hl : k < l.length, l[k] = x) ∧ w.cell? ⟨b, off + k, none⟩ = some (.int .i32 x) ∧ -2147483648 ≤ x ∧ x ≤ 2147483647 := by
  obtain ⟨b, off, e, hb, hc⟩ := h.2.2 (by omega)
  have hl : k < l.length := by have := h.1; omega
  exact ⟨b, off, l[k], e, hb, ⟨hl, rfl⟩, hc k hl, h.2.1 _ (List.getElem_mem hl)⟩
theorem RR.keep (h : RR w B A n l) (hk : ∀ p : Addr, p.block < B → w'.cell? p = w.cell? p) : RR w' B A n l :=
  ⟨h.1, h.2.1, fun hn => by
    obtain ⟨b, off, e, hb, hc⟩ := h.2.2 hn
    exact ⟨b, off, e, hb, fun j hj => (hk _ hb).trans (hc j hj)⟩⟩
theorem RR.more (h : RR w B A n l) (hB : B ≤ B') : RR w B' A n l :=
  ⟨h.1, h.2.1, fun hn => by
    obtain ⟨b, off, e, hb, hc⟩ := h.2.2 hn
    exact ⟨b, off, e, by omega, hc⟩⟩
theorem RR.below (h : RR w B A n l) (hb : Below B w w') : RR w' B A n l := h.keep fun _ hp => hb.cell hp
theorem RR.belowM (h : RR w w.heap.size A n l) (hb : Below w.heap.size w w') : RR w' w'.heap.size A n l := (h.below hb).more hb.size
end

def atI (xs : List Int) (a : Int) : Int := xs.getD a.toNat 0
theorem atI_get {xs : List Int} {a x : Int} {k : Nat} (ha : a = k) (h : ∃ hl : k < xs.length, xs[k] = x) : atI xs a = x := by
  obtain ⟨hl, e⟩ := h
  unfold atI
  rw [ha, Int.toNat_natCast]
  simp [hl, e]
/-- The inner value: the sum of the parts' values, that wraps round. -/
def innerT (xs : List Int) (s : Int) (l : List PT) : Int := l.foldl (fun acc q => wrap64 (acc + valI q.2.1 q.2.2.1 q.2.2.2 (atI xs q.1))) s
def AllS (xs : List Int) (k : Nat) : Prop := ∀ x ∈ xs.take k, Sy x
noncomputable def symB (xs : List Int) : Bool := @decide (∀ x ∈ xs, Sy x) (Classical.propDecidable _)
theorem symB_true {xs : List Int} (h : AllS xs xs.length) : symB xs = true := by
  unfold symB
  have : ∀ x ∈ xs, Sy x := fun x hx => h x (by rw [List.take_length]; exact hx)
  simpa using this
theorem symB_false {xs : List Int} {k : Nat} {x : Int} (hk : ∃ hl : k < xs.length, xs[k] = x) (hx : ¬ Sy x) : symB xs = false := by
  obtain ⟨hl, e⟩ := hk
  unfold symB
  have : ¬ ∀ x ∈ xs, Sy x := fun h => hx (e ▸ h _ (List.getElem_mem hl))
  simpa using this
theorem allS_next {xs : List Int} {k : Nat} {x : Int} (h : AllS xs k) (hk : ∃ hl : k < xs.length, xs[k] = x) (hx : Sy x) : AllS xs (k + 1) := by
  obtain ⟨hl, e⟩ := hk
  intro y hy
  rw [List.take_succ_eq_append_getElem hl, List.mem_append] at hy
  rcases hy with hy | hy
  · exact h y hy
  · rw [List.mem_singleton, e] at hy
    subst hy
    exact hx
noncomputable def valueT (b d t u s : Int) (l : List PT) (xs : List Int) : Int × Bool := if symB xs = true ∧ partsB xs.length l = true then wholeT b d t u (innerT xs s l) else (0, false)
def VRel1 (xs : List Int) (B : Nat) (w2 : World) (iv : Value) (wr : World) : Prop := ∃ k : Nat, k ≤ xs.length ∧ iv = .int .i64 k ∧ AllS xs k ∧ Below B w2 wr
def VRel2 (xs : List Int) (s : Int) (l : List PT) (B : Nat) (w2 : World) (sv iv : Value) (wr : World) : Prop := ∃ k : Nat, k ≤ l.length ∧ iv = .int .i64 k ∧ sv = .int .i64 (innerT xs s (l.take k)) ∧ Below B w2 wr
theorem inner_next {xs : List Int} {s : Int} {l : List PT} {k : Nat} {a d t u : Int} (hk : ∃ hl : k < l.length, l[k] = (a, d, t, u)) : innerT xs s (l.take (k + 1)) = wrap64 (innerT xs s (l.take k) + valI d t u (atI xs a)) := by
  obtain ⟨hl, e⟩ := hk
  unfold innerT
  rw [List.take_succ_eq_append_getElem hl, List.foldl_append, e]
  rfl
set_option maxHeartbeats 8000000 in
theorem tvalue_any (b d t u s : Int) (A B : Option Addr) (n c m e : Nat) (l : List PT) (xs : List Int) (w : World) (h : RP w w.heap.size A n l) (hn : n ≤ maxLen) (h' : RR w w.heap.size B m xs) (hm : m ≤ maxLen) :
    Calls Try.prog 17 #[trm b d t u s A n c, .slice B m e] w (RetV (valueT b d t u s l xs) w) := by
  have HP := Lib.hid (fun W (hW : RP W W.heap.size A n l) => tparts_any b d t u s A n c l m W hW hn)
  unfold maxLen at hn hm
  have hlen := h.1
  have hlen' := h'.1
  subst hlen hlen'
  have hbw : Below w.heap.size w (w.alloc (.cells (tcells b d t u s A l.length c) 24)) := (Below.refl _ w).alloc (Nat.le_refl _) _
  obtain ⟨w0, hw0⟩ : ∃ w0, w.alloc (.cells (tcells b d t u s A l.length c) 24) = w0 := ⟨_, rfl⟩
  have X6 := Lib.hid (fun W (hb : Below w0.heap.size w0 W) => show Boxed6 W w.heap.size b d t u s A l.length c from by rw [← hw0] at hb; exact boxed6 hb)
  rw [hw0] at hbw
  have HW := Lib.hid hbw
  have H := Lib.hid (h.belowM hbw)
  have H' := Lib.hid (h'.belowM hbw)
  clear h h' hbw
  go_enter Try.func17, Try.ntmps17
  go_wp2_with (fail)
  go_loopw [15] (fun i wr => VRel1 xs w0.heap.size w0 i wr) (fun i _ => xs.length - (intOf i).toNat)
  case atStart => exact ⟨0, Nat.zero_le _, rfl, fun q hq => by simp at hq, Below.refl _ _⟩
  case round =>
    obtain ⟨k, hk, rfl, hA, hb⟩ := hrel
    have HA := Lib.hid hA
    have HB := Lib.hid hb
    have hz := hb.size
    by_cases hlt : k < xs.length
    · obtain ⟨bb, off, x, hA', hbB, hlk, c1, x1, x2⟩ := (H'.out.below hb).at_ hlt
      have HLK := Lib.hid hlk
      have HS := Lib.hid (symbol_any x)
      subst hA'
      clear hA hb hlk
      by_cases hx : Sy x
      · rw [decide_eq_true hx] at HS
        have HX := Lib.hid hx
        clear hx
        go_wp2_with (fail)
        refine (HS.out _).mono ?_
        rintro e w2 ⟨rfl, rfl⟩
        go_wp2_with (fail)
        go_roundw
        case rel => exact ⟨k + 1, by omega, by go_num, allS_next HA.out HLK.out HX.out, HB.out⟩
        case measure => simp [intOf]; omega
      · rw [decide_eq_false hx] at HS
        have HV := Lib.hid (show valueT b d t u s l xs = (0, false) from if_neg (fun h => by rw [symB_false HLK.out hx] at h; exact absurd h.1 (by decide)))
        clear hx
        go_wp2_with (fail)
        refine (HS.out _).mono ?_
        rintro e w2 ⟨rfl, rfl⟩
        go_wp2_with (fail)
        go_ret2
        exact ⟨ret_v HV.out, HW.out.trans (HB.out.mono HW.out.size)⟩
    · have hkl : k = xs.length := by omega
      subst hkl
      have HS := Lib.hid (symB_true hA)
      obtain ⟨r0, r1, r2, r3, r4, r5⟩ := X6.out wr hb
      clear hA hb
      rcases hr : partsB xs.length l with _ | _
      · rw [hr] at HP
        have HV := Lib.hid (show valueT b d t u s l xs = (0, false) from if_neg (fun h => by rw [hr] at h; exact absurd h.2 (by decide)))
        clear hr
        go_wp2_with (fail)
        refine (HP.out _ (H.out.belowM HB.out)).mono ?_
        rintro e w2 ⟨rfl, hb2⟩
        go_wp2_with (fail)
        go_ret2
        exact ⟨ret_v HV.out, HW.out.trans ((HB.out.trans (hb2.mono hz)).mono HW.out.size)⟩
      · rw [hr] at HP
        have HV := Lib.hid (show valueT b d t u s l xs = wholeT b d t u (innerT xs s l) from if_pos ⟨HS.out, hr⟩)
        have HR := Lib.hid hr
        clear hr
        go_wp2_with (fail)
        refine (HP.out _ (H.out.belowM HB.out)).mono ?_
        rintro e w2 ⟨rfl, hb2⟩
        have hbx := HB.out.trans (hb2.mono hz)
        obtain ⟨q0, q1, q2, q3, q4, q5⟩ := X6.out w2 hbx
        have HBX := Lib.hid hbx
        clear hbx hb2 r0 r1 r2 r3 r4 r5
        go_wp2_with (fail)
        obtain ⟨w3, hw3⟩ : ∃ w3, w3 = w2 := ⟨_, rfl⟩
        subst hw3
        have hz3 := HBX.out.size
        go_loopw [8, 34] (fun sv iv wr => VRel2 xs s l w3.heap.size w3 sv iv wr) (fun _ i _ => l.length - (intOf i).toNat)
        case atStart => exact ⟨0, Nat.zero_le _, rfl, rfl, Below.refl _ _⟩
        case round =>
          obtain ⟨k, hk, rfl, rfl, hb⟩ := hrel
          have hbx := HBX.out.trans (hb.mono hz3)
          obtain ⟨r0, r1, r2, r3, r4, r5⟩ := X6.out wr hbx
          have HB2 := Lib.hid hbx
          have hz4 := hbx.size
          obtain ⟨acc, hacc⟩ : ∃ acc, innerT xs s (l.take k) = acc := ⟨_, rfl⟩
          rw [hacc]
          by_cases hlt : k < l.length
          · obtain ⟨bb, off, a', d', t', u', hA', hbB, hlk, c1, c2, c3, c4⟩ := (H.out.below hbx).at_ hlt
            have HLK := Lib.hid hlk
            have hrt : rightB a' d' t' u' xs.length = true := by
              have := List.all_eq_true.1 HR.out l[k] (List.getElem_mem hlt)
              obtain ⟨_, e1⟩ := hlk
              rw [e1] at this
              exact this
            unfold rightB at hrt
            obtain ⟨ra, rb, rc⟩ := of_decide_eq_true hrt
            obtain ⟨j, hj⟩ := Int.eq_ofNat_of_zero_le ra
            subst hj
            have hjl : j < xs.length := by omega
            obtain ⟨b2, off2, x, hB', hbB2, hxk, y1, x1, x2⟩ := (H'.out.below hbx).at_ hjl
            subst hA' hB'
            have hsy : Sy x := by
              obtain ⟨_, e1⟩ := hxk
              rw [← e1]
              have := HA.out
              rw [AllS, List.take_length] at this
              exact this _ (List.getElem_mem _)
            have HI := Lib.hid (show innerT xs s (l.take (k + 1)) = wrap64 (acc + valI d' t' u' x) from by rw [inner_next HLK.out, hacc, atI_get rfl hxk])
            have hx9 : x ≤ 9223372036854775807 := by omega
            have HX := Lib.hid (show ∀ W, Calls Try.prog 42 #[prt j d' t' u', .int .i64 (IntKind.i64.wrap x)] W (RetV (valP d' t' u' x) W) from fun W => by rw [IntWalk.i64_in x (by omega)]; exact value_any j d' t' u' x W hx9)
            have hp : valP d' t' u' x = (valI d' t' u' x, true) := if_pos ⟨rc, hsy.1, by have := hsy.2; omega⟩
            rw [hp] at HX
            have hvb := valI_bound rc x
            generalize valI d' t' u' x = v at *
            have HC := Lib.hid (show ∀ W, Below wr.heap.size wr W → W.cell? ⟨b2, off2 + j, none⟩ = some (.int .i32 x) from fun W hW => (hW.cell (by simp only; omega)).trans y1)
            have HBR := Lib.hid hb
            obtain ⟨w5, hw5⟩ : ∃ w5, wr.alloc (.cells #[.int .i64 j, .int .i64 d', .int .i64 t', .int .i64 u'] 33) = w5 := ⟨_, rfl⟩
            have h45 : Below wr.heap.size wr w5 := by rw [← hw5]; exact (Below.refl _ _).alloc (Nat.le_refl _) _
            have Q5 := Lib.hid (show ∀ W, Below w5.heap.size w5 W → W.cell? ⟨wr.heap.size, 0, none⟩ = some (.int .i64 j) ∧ W.cell? ⟨wr.heap.size, 1, none⟩ = some (.int .i64 d') ∧ W.cell? ⟨wr.heap.size, 2, none⟩ = some (.int .i64 t') ∧ W.cell? ⟨wr.heap.size, 3, none⟩ = some (.int .i64 u') ∧ W.cell? ⟨b2, off2 + j, none⟩ = some (.int .i32 x) from fun W hW => by
              have hc := HC.out W (h45.trans (hW.mono h45.size))
              rw [← hw5] at hW
              obtain ⟨z0, z1, z2, z3⟩ := boxed4 hW
              exact ⟨z0, z1, z2, z3, hc⟩)
            have H45 := Lib.hid h45
            obtain ⟨z0, z1, z2, z3, z4⟩ := Q5.out w5 (Below.refl _ _)
            clear hrt hp rc hxk hlk hacc hb hbx hsy q0 q1 q2 q3 q4 q5 h45 HC
            go_wp2_with (fail)
            go_region_held3 (fun w' => w'.cell? ⟨wr.heap.size, 0, none⟩ = some (.int .i64 j) ∧ w'.cell? ⟨wr.heap.size, 1, none⟩ = some (.int .i64 d') ∧ w'.cell? ⟨wr.heap.size, 2, none⟩ = some (.int .i64 t') ∧ w'.cell? ⟨wr.heap.size, 3, none⟩ = some (.int .i64 u') ∧ w'.cell? ⟨b2, off2 + j, none⟩ = some (.int .i32 x))
              (first | go_keep | exact Q5.out _ (Below.refl _ _).drew | exact Q5.out _ hB4)
              (first
                | (go_at_call 42; (with_reducible refine (HX.out _).mono ?_); rintro q4 w4 ⟨rfl, hb4⟩; have hB4 : Below w5.heap.size w5 w4 := (Below.refl _ w5).drew.trans (hb4.mono (by simp))))
            have HB4 := Lib.hid (HBR.out.trans ((H45.out.trans (hB4.mono H45.out.size)).mono HBR.out.size))
            clear hb4 hB4
            go_wp2_with (fail)
            go_roundw
            case rel => exact ⟨k + 1, by omega, by go_num, by rw [HI.out], HB4.out⟩
            case measure => simp [intOf]; omega
          · have hkl : k = l.length := by omega
            subst hkl
            have HI := Lib.hid (show innerT xs s l = acc from by rw [← hacc, List.take_length])
            have HT := Lib.hid (twhole_any b d t u s A l.length c acc)
            clear hacc hb hbx
            go_wp2_with (fail)
            refine (HT.out _).mono ?_
            rintro e w4 ⟨rfl, hb4⟩
            go_wp2_with (fail)
            go_ret2
            exact ⟨ret_v (by rw [HV.out, HI.out]), HW.out.trans ((HB2.out.trans (hb4.mono hz4)).mono HW.out.size)⟩
end Go.Proofs.Ytmcgapejebceoaa.Te
