/- The walk of the law TermPuts. -/
import Derived.Test.YtmcgapejebceoaaTeRPut
import Derived.Test.YtmcgapejebceoaaTeMath
import Derived.Test.YtmcgapejebceoaaTeAwake
namespace Go.Proofs.Ytmcgapejebceoaa.Te
set_option maxRecDepth 100000
open Go Go.RowKit Go.Proofs.Ytmcgapejebceoaa.Sp Go.Proofs.Ytmcgapejebceoaa.Pa

def RetTX (rb rd rt ru rs : Int) (rl : List PT) (ok : Bool) (w : World) (e : Ending) (w' : World) : Prop := ∃ A c, e = .returned (.tuple #[trm rb rd rt ru rs A rl.length c, .bool ok]) ∧ RP w' w'.heap.size A rl.length rl ∧ Below w.heap.size w w'
theorem putT_len (x y : TB) (hy : y.l.length ≤ 20) : (putT x y).l.length ≤ 20 := by
  unfold putT
  split
  · simp
  · split
    · split
      · split
        · exact hy
        · simp [zTB]
      · split
        · split
          · exact hy
          · simp [zTB]
        · simp [zTB]
    · simp [zTB]
theorem rune_wrap {v : Int} (h0 : 0 ≤ v) (h1 : v ≤ 1114111) : IntKind.i32.wrap v = v := IntWalk.i32_in _ (by omega)
theorem rr_one {W : World} {g : Nat} {x : Int} (h0 : W.cell? ⟨g, 0, none⟩ = some (.int .i32 x)) (hg : g < W.heap.size) (h1 : -2147483648 ≤ x) (h2 : x ≤ 2147483647) : RR W W.heap.size (some ⟨g, 0, none⟩) 1 [x] :=
  ⟨rfl, fun y hy => by simp at hy; omega, fun _ => ⟨g, 0, rfl, hg, fun j hj => by
    obtain rfl : j = 0 := by simp at hj; omega
    exact h0⟩⟩
set_option maxHeartbeats 8000000 in
theorem puts_G1 (ub ud ut uu us : Int) (A : Option Addr) (c : Nat) (k : List PT) (b d t u s : Int) (B : Option Addr) (e : Nat) (l : List PT) (C : Option Addr) (f : Nat) (xs : List Int) (w : World) (h : RP w w.heap.size A k.length k) (hk : k.length ≤ maxLen) (h' : RP w w.heap.size B l.length l) (_hl : l.length ≤ maxLen) (hc : RR w w.heap.size C xs.length xs) (_hm : xs.length ≤ maxLen) (g1 : 20 < k.length) :
    Calls Try.prog 5 #[trm ub ud ut uu us A k.length c, trm b d t u s B l.length e, .slice C xs.length f] w (RetB true w) := by
  have HG1 := Lib.hid (fun W => tgreat_any ub ud ut uu us A k.length c W hk)
  rw [decide_eq_true g1] at HG1
  obtain ⟨w0, hw0⟩ : ∃ w0, (w.alloc (.cells (tcells ub ud ut uu us A k.length c) 24)).alloc (.cells (tcells b d t u s B l.length e) 24) = w0 := ⟨_, rfl⟩
  have hs0 : w0.heap.size = w.heap.size + 1 + 1 := by rw [← hw0]; simp
  have hb0 : Below w.heap.size w w0 := by rw [← hw0]; exact ((Below.refl _ _).alloc (Nat.le_refl _) _).alloc (by simp) _
  have hXU : BoxF w0 w.heap.size ub ud ut uu us A k.length c := by
    rw [← hw0]
    exact (BoxF.new w ub ud ut uu us A k.length c _).keep ((Below.refl _ _).alloc (Nat.le_refl _) _) (by simp)
  have hXT : BoxF w0 (w.heap.size + 1) b d t u s B l.length e := by
    rw [← hw0]
    have q := BoxF.new (w.alloc (.cells (tcells ub ud ut uu us A k.length c) 24)) b d t u s B l.length e 24
    simpa using q
  have XU := Lib.hid (fun W (hb : Below w0.heap.size w0 W) => show Boxed6 W w.heap.size ub ud ut uu us A k.length c from (hXU.keep hb (by omega)).1)
  have XT := Lib.hid (fun W (hb : Below w0.heap.size w0 W) => show Boxed6 W (w.heap.size + 1) b d t u s B l.length e from (hXT.keep hb (by omega)).1)
  have H := Lib.hid (h.belowM hb0)
  have H' := Lib.hid (h'.belowM hb0)
  have HC := Lib.hid (hc.belowM hb0)
  have HB0 := Lib.hid hb0
  clear h h' hc hb0 hXU hXT
  obtain ⟨p0, p1, p2, p3, p4, p5⟩ := XU.out w0 (Below.refl w0.heap.size w0)
  obtain ⟨q0, q1, q2, q3, q4, q5⟩ := XT.out w0 (Below.refl w0.heap.size w0)
  go_enter Try.func5, Try.ntmps5
  go_wp2_with (fail)
  refine (HG1.out _).mono ?_
  rintro qq1 w1 ⟨rfl, hb1⟩
  clear p0 p1 p2 p3 p4 p5 q0 q1 q2 q3 q4 q5
  have HB_w0_w1 := Lib.hid (below_next (Below.refl w0.heap.size w0) hb1)
  clear hb1
  obtain ⟨p0, p1, p2, p3, p4, p5⟩ := XU.out w1 HB_w0_w1.out
  obtain ⟨q0, q1, q2, q3, q4, q5⟩ := XT.out w1 HB_w0_w1.out
  go_wp2_with (fail)
  clear p0 p1 p2 p3 p4 p5 q0 q1 q2 q3 q4 q5
  refine (tawake_any _).mono ?_
  rintro qq2 w2 ⟨rfl, hb2⟩
  have HB_w0_w2 := Lib.hid (below_next HB_w0_w1.out hb2)
  clear hb2
  go_wp2_with (fail)
  go_ret
  exact ⟨rfl, below_next HB0.out HB_w0_w2.out⟩
set_option maxHeartbeats 8000000 in
theorem puts_G2 (ub ud ut uu us : Int) (A : Option Addr) (c : Nat) (k : List PT) (b d t u s : Int) (B : Option Addr) (e : Nat) (l : List PT) (C : Option Addr) (f : Nat) (xs : List Int) (w : World) (h : RP w w.heap.size A k.length k) (hk : k.length ≤ maxLen) (h' : RP w w.heap.size B l.length l) (hl : l.length ≤ maxLen) (hc : RR w w.heap.size C xs.length xs) (_hm : xs.length ≤ maxLen) (g1 : ¬ 20 < k.length) (g2 : 20 < l.length) :
    Calls Try.prog 5 #[trm ub ud ut uu us A k.length c, trm b d t u s B l.length e, .slice C xs.length f] w (RetB true w) := by
  have HG1 := Lib.hid (fun W => tgreat_any ub ud ut uu us A k.length c W hk)
  rw [decide_eq_false g1] at HG1
  have HG2 := Lib.hid (fun W => tgreat_any b d t u s B l.length e W hl)
  rw [decide_eq_true g2] at HG2
  obtain ⟨w0, hw0⟩ : ∃ w0, (w.alloc (.cells (tcells ub ud ut uu us A k.length c) 24)).alloc (.cells (tcells b d t u s B l.length e) 24) = w0 := ⟨_, rfl⟩
  have hs0 : w0.heap.size = w.heap.size + 1 + 1 := by rw [← hw0]; simp
  have hb0 : Below w.heap.size w w0 := by rw [← hw0]; exact ((Below.refl _ _).alloc (Nat.le_refl _) _).alloc (by simp) _
  have hXU : BoxF w0 w.heap.size ub ud ut uu us A k.length c := by
    rw [← hw0]
    exact (BoxF.new w ub ud ut uu us A k.length c _).keep ((Below.refl _ _).alloc (Nat.le_refl _) _) (by simp)
  have hXT : BoxF w0 (w.heap.size + 1) b d t u s B l.length e := by
    rw [← hw0]
    have q := BoxF.new (w.alloc (.cells (tcells ub ud ut uu us A k.length c) 24)) b d t u s B l.length e 24
    simpa using q
  have XU := Lib.hid (fun W (hb : Below w0.heap.size w0 W) => show Boxed6 W w.heap.size ub ud ut uu us A k.length c from (hXU.keep hb (by omega)).1)
  have XT := Lib.hid (fun W (hb : Below w0.heap.size w0 W) => show Boxed6 W (w.heap.size + 1) b d t u s B l.length e from (hXT.keep hb (by omega)).1)
  have H := Lib.hid (h.belowM hb0)
  have H' := Lib.hid (h'.belowM hb0)
  have HC := Lib.hid (hc.belowM hb0)
  have HB0 := Lib.hid hb0
  clear h h' hc hb0 hXU hXT
  obtain ⟨p0, p1, p2, p3, p4, p5⟩ := XU.out w0 (Below.refl w0.heap.size w0)
  obtain ⟨q0, q1, q2, q3, q4, q5⟩ := XT.out w0 (Below.refl w0.heap.size w0)
  go_enter Try.func5, Try.ntmps5
  go_wp2_with (fail)
  refine (HG1.out _).mono ?_
  rintro qq1 w1 ⟨rfl, hb1⟩
  clear p0 p1 p2 p3 p4 p5 q0 q1 q2 q3 q4 q5
  have HB_w0_w1 := Lib.hid (below_next (Below.refl w0.heap.size w0) hb1)
  clear hb1
  obtain ⟨p0, p1, p2, p3, p4, p5⟩ := XU.out w1 HB_w0_w1.out
  obtain ⟨q0, q1, q2, q3, q4, q5⟩ := XT.out w1 HB_w0_w1.out
  go_wp2_with (fail)
  refine (HG2.out _).mono ?_
  rintro qq2 w2 ⟨rfl, hb2⟩
  clear p0 p1 p2 p3 p4 p5 q0 q1 q2 q3 q4 q5
  have HB_w0_w2 := Lib.hid (below_next HB_w0_w1.out hb2)
  clear hb2
  obtain ⟨p0, p1, p2, p3, p4, p5⟩ := XU.out w2 HB_w0_w2.out
  obtain ⟨q0, q1, q2, q3, q4, q5⟩ := XT.out w2 HB_w0_w2.out
  go_wp2_with (fail)
  clear p0 p1 p2 p3 p4 p5 q0 q1 q2 q3 q4 q5
  refine (tawake_any _).mono ?_
  rintro qq3 w3 ⟨rfl, hb3⟩
  have HB_w0_w3 := Lib.hid (below_next HB_w0_w2.out hb3)
  clear hb3
  go_wp2_with (fail)
  go_ret
  exact ⟨rfl, below_next HB0.out HB_w0_w3.out⟩
set_option maxHeartbeats 8000000 in
theorem puts_G3 (ub ud ut uu us : Int) (A : Option Addr) (c : Nat) (k : List PT) (b d t u s : Int) (B : Option Addr) (e : Nat) (l : List PT) (C : Option Addr) (f : Nat) (xs : List Int) (w : World) (h : RP w w.heap.size A k.length k) (hk : k.length ≤ maxLen) (h' : RP w w.heap.size B l.length l) (hl : l.length ≤ maxLen) (hc : RR w w.heap.size C xs.length xs) (_hm : xs.length ≤ maxLen) (g1 : ¬ 20 < k.length) (g2 : ¬ 20 < l.length) (g3 : 100 < xs.length) :
    Calls Try.prog 5 #[trm ub ud ut uu us A k.length c, trm b d t u s B l.length e, .slice C xs.length f] w (RetB true w) := by
  have HG1 := Lib.hid (fun W => tgreat_any ub ud ut uu us A k.length c W hk)
  rw [decide_eq_false g1] at HG1
  have HG2 := Lib.hid (fun W => tgreat_any b d t u s B l.length e W hl)
  rw [decide_eq_false g2] at HG2
  have hd3 : decide ((100 : Int) < (xs.length : Int)) = true := by simp; omega
  obtain ⟨w0, hw0⟩ : ∃ w0, (w.alloc (.cells (tcells ub ud ut uu us A k.length c) 24)).alloc (.cells (tcells b d t u s B l.length e) 24) = w0 := ⟨_, rfl⟩
  have hs0 : w0.heap.size = w.heap.size + 1 + 1 := by rw [← hw0]; simp
  have hb0 : Below w.heap.size w w0 := by rw [← hw0]; exact ((Below.refl _ _).alloc (Nat.le_refl _) _).alloc (by simp) _
  have hXU : BoxF w0 w.heap.size ub ud ut uu us A k.length c := by
    rw [← hw0]
    exact (BoxF.new w ub ud ut uu us A k.length c _).keep ((Below.refl _ _).alloc (Nat.le_refl _) _) (by simp)
  have hXT : BoxF w0 (w.heap.size + 1) b d t u s B l.length e := by
    rw [← hw0]
    have q := BoxF.new (w.alloc (.cells (tcells ub ud ut uu us A k.length c) 24)) b d t u s B l.length e 24
    simpa using q
  have XU := Lib.hid (fun W (hb : Below w0.heap.size w0 W) => show Boxed6 W w.heap.size ub ud ut uu us A k.length c from (hXU.keep hb (by omega)).1)
  have XT := Lib.hid (fun W (hb : Below w0.heap.size w0 W) => show Boxed6 W (w.heap.size + 1) b d t u s B l.length e from (hXT.keep hb (by omega)).1)
  have H := Lib.hid (h.belowM hb0)
  have H' := Lib.hid (h'.belowM hb0)
  have HC := Lib.hid (hc.belowM hb0)
  have HB0 := Lib.hid hb0
  clear h h' hc hb0 hXU hXT
  obtain ⟨p0, p1, p2, p3, p4, p5⟩ := XU.out w0 (Below.refl w0.heap.size w0)
  obtain ⟨q0, q1, q2, q3, q4, q5⟩ := XT.out w0 (Below.refl w0.heap.size w0)
  go_enter Try.func5, Try.ntmps5
  go_wp2_with (fail)
  refine (HG1.out _).mono ?_
  rintro qq1 w1 ⟨rfl, hb1⟩
  clear p0 p1 p2 p3 p4 p5 q0 q1 q2 q3 q4 q5
  have HB_w0_w1 := Lib.hid (below_next (Below.refl w0.heap.size w0) hb1)
  clear hb1
  obtain ⟨p0, p1, p2, p3, p4, p5⟩ := XU.out w1 HB_w0_w1.out
  obtain ⟨q0, q1, q2, q3, q4, q5⟩ := XT.out w1 HB_w0_w1.out
  go_wp2_with (fail)
  refine (HG2.out _).mono ?_
  rintro qq2 w2 ⟨rfl, hb2⟩
  clear p0 p1 p2 p3 p4 p5 q0 q1 q2 q3 q4 q5
  have HB_w0_w2 := Lib.hid (below_next HB_w0_w1.out hb2)
  clear hb2
  obtain ⟨p0, p1, p2, p3, p4, p5⟩ := XU.out w2 HB_w0_w2.out
  obtain ⟨q0, q1, q2, q3, q4, q5⟩ := XT.out w2 HB_w0_w2.out
  go_wp2_with (fail)
  clear p0 p1 p2 p3 p4 p5 q0 q1 q2 q3 q4 q5
  refine (tawake_any _).mono ?_
  rintro qq3 w3 ⟨rfl, hb3⟩
  have HB_w0_w3 := Lib.hid (below_next HB_w0_w2.out hb3)
  clear hb3
  go_wp2_with (fail)
  go_ret
  exact ⟨rfl, below_next HB0.out HB_w0_w3.out⟩
set_option maxHeartbeats 8000000 in
theorem puts_M0 (ub ud ut uu us : Int) (A : Option Addr) (c : Nat) (k : List PT) (b d t u s : Int) (B : Option Addr) (e : Nat) (l : List PT) (C : Option Addr) (f : Nat) (xs : List Int) (w : World) (h : RP w w.heap.size A k.length k) (hk : k.length ≤ maxLen) (h' : RP w w.heap.size B l.length l) (hl : l.length ≤ maxLen) (hc : RR w w.heap.size C xs.length xs) (hm : xs.length ≤ maxLen) (g1 : ¬ 20 < k.length) (g2 : ¬ 20 < l.length) (g3 : ¬ 100 < xs.length) (rb rd rt ru rs : Int) (rl : List PT) (hr : putT ⟨ub, ud, ut, uu, us, k, true⟩ ⟨b, d, t, u, s, l, true⟩ = ⟨rb, rd, rt, ru, rs, rl, false⟩) (v : Int) (one : Bool) (hv : valueT b d t u s l xs = (v, one)) :
    Calls Try.prog 5 #[trm ub ud ut uu us A k.length c, trm b d t u s B l.length e, .slice C xs.length f] w (RetB true w) := by
  have HG1 := Lib.hid (fun W => tgreat_any ub ud ut uu us A k.length c W hk)
  rw [decide_eq_false g1] at HG1
  have HG2 := Lib.hid (fun W => tgreat_any b d t u s B l.length e W hl)
  rw [decide_eq_false g2] at HG2
  have hd3 : decide ((100 : Int) < (xs.length : Int)) = false := by simp; omega
  obtain ⟨w0, hw0⟩ : ∃ w0, (w.alloc (.cells (tcells ub ud ut uu us A k.length c) 24)).alloc (.cells (tcells b d t u s B l.length e) 24) = w0 := ⟨_, rfl⟩
  have hs0 : w0.heap.size = w.heap.size + 1 + 1 := by rw [← hw0]; simp
  have hb0 : Below w.heap.size w w0 := by rw [← hw0]; exact ((Below.refl _ _).alloc (Nat.le_refl _) _).alloc (by simp) _
  have hXU : BoxF w0 w.heap.size ub ud ut uu us A k.length c := by
    rw [← hw0]
    exact (BoxF.new w ub ud ut uu us A k.length c _).keep ((Below.refl _ _).alloc (Nat.le_refl _) _) (by simp)
  have hXT : BoxF w0 (w.heap.size + 1) b d t u s B l.length e := by
    rw [← hw0]
    have q := BoxF.new (w.alloc (.cells (tcells ub ud ut uu us A k.length c) 24)) b d t u s B l.length e 24
    simpa using q
  have XU := Lib.hid (fun W (hb : Below w0.heap.size w0 W) => show Boxed6 W w.heap.size ub ud ut uu us A k.length c from (hXU.keep hb (by omega)).1)
  have XT := Lib.hid (fun W (hb : Below w0.heap.size w0 W) => show Boxed6 W (w.heap.size + 1) b d t u s B l.length e from (hXT.keep hb (by omega)).1)
  have H := Lib.hid (h.belowM hb0)
  have H' := Lib.hid (h'.belowM hb0)
  have HC := Lib.hid (hc.belowM hb0)
  have HB0 := Lib.hid hb0
  have HP := Lib.hid (fun W h1 h2 => tput_any ub ud ut uu us A c k b d t u s B e l W h1 h2 (by omega))
  have HQ := Lib.hid (fun W h1 h2 => rput_any ub ud ut uu us A c k b d t u s B e l W h1 h2)
  have hrl := putT_len ⟨ub, ud, ut, uu, us, k, true⟩ ⟨b, d, t, u, s, l, true⟩ (show l.length ≤ 20 by omega)
  rw [hr] at HP HQ hrl
  dsimp only at hrl
  have HP2 := Lib.hid (fun W h1 h2 => show Calls Try.prog 19 #[trm ub ud ut uu us A k.length c, trm b d t u s B l.length e] W (RetTX rb rd rt ru rs rl false W) from HP.out W h1 h2)
  have HQ2 := Lib.hid (fun W h1 h2 => show Calls Try.prog 20 #[trm ub ud ut uu us A k.length c, trm b d t u s B l.length e] W (RetTX rb rd rt ru rs rl false W) from HQ.out W h1 h2)
  have HSM := Lib.hid (fun W D1 D2 g1 g2 h1 h2 => rsame_eq rb rd rt ru rs D1 D2 rl.length g1 g2 rl W h1 h2 (by unfold maxLen; omega))
  clear HP HQ hr
  have HV := Lib.hid (fun W h1 h2 => tvalue_any b d t u s B C l.length e xs.length f l xs W h1 hl h2 hm)
  rw [hv] at HV
  clear hv
  unfold maxLen at hk hl hm
  clear h h' hc hb0 hXU hXT
  obtain ⟨p0, p1, p2, p3, p4, p5⟩ := XU.out w0 (Below.refl w0.heap.size w0)
  obtain ⟨q0, q1, q2, q3, q4, q5⟩ := XT.out w0 (Below.refl w0.heap.size w0)
  go_enter Try.func5, Try.ntmps5
  go_wp2_with (fail)
  refine (HG1.out _).mono ?_
  rintro qq1 w1 ⟨rfl, hb1⟩
  clear p0 p1 p2 p3 p4 p5 q0 q1 q2 q3 q4 q5
  have HB_w0_w1 := Lib.hid (below_next (Below.refl w0.heap.size w0) hb1)
  clear hb1
  obtain ⟨p0, p1, p2, p3, p4, p5⟩ := XU.out w1 HB_w0_w1.out
  obtain ⟨q0, q1, q2, q3, q4, q5⟩ := XT.out w1 HB_w0_w1.out
  go_wp2_with (fail)
  refine (HG2.out _).mono ?_
  rintro qq2 w2 ⟨rfl, hb2⟩
  clear p0 p1 p2 p3 p4 p5 q0 q1 q2 q3 q4 q5
  have HB_w0_w2 := Lib.hid (below_next HB_w0_w1.out hb2)
  clear hb2
  obtain ⟨p0, p1, p2, p3, p4, p5⟩ := XU.out w2 HB_w0_w2.out
  obtain ⟨q0, q1, q2, q3, q4, q5⟩ := XT.out w2 HB_w0_w2.out
  go_wp2_with (fail)
  refine (HP2.out _ (H.out.belowM HB_w0_w2.out) (H'.out.belowM HB_w0_w2.out)).mono ?_
  rintro qq3 w3 ⟨A3, c3, rfl, hr3, hb3⟩
  clear p0 p1 p2 p3 p4 p5 q0 q1 q2 q3 q4 q5
  have HB_w0_w3 := Lib.hid (below_next HB_w0_w2.out hb3)
  clear hb3
  obtain ⟨wa, hwa⟩ : ∃ wa, w3.alloc (.cells (tcells rb rd rt ru rs A3 rl.length c3) 24) = wa := ⟨_, rfl⟩
  have h2wa : Below w3.heap.size w3 wa := by rw [← hwa]; exact (Below.refl _ _).alloc (Nat.le_refl _) _
  have hswa : wa.heap.size = w3.heap.size + 1 := by rw [← hwa]; simp
  have HB_w0_wa := Lib.hid (below_next HB_w0_w3.out h2wa)
  have X1 := Lib.hid (fun W (hb : Below wa.heap.size wa W) => show Boxed6 W w3.heap.size rb rd rt ru rs A3 rl.length c3 from by rw [← hwa] at hb; exact boxed6 hb)
  have R1 := Lib.hid (hr3.belowM h2wa)
  clear hr3 h2wa
  obtain ⟨p0, p1, p2, p3, p4, p5⟩ := XU.out wa HB_w0_wa.out
  obtain ⟨q0, q1, q2, q3, q4, q5⟩ := XT.out wa HB_w0_wa.out
  go_wp2_with (fail)
  refine (HQ2.out _ (H.out.belowM HB_w0_wa.out) (H'.out.belowM HB_w0_wa.out)).mono ?_
  rintro qq4 w4 ⟨A4, c4, rfl, hr4, hb4⟩
  clear p0 p1 p2 p3 p4 p5 q0 q1 q2 q3 q4 q5
  have HB_w0_w4 := Lib.hid (below_next HB_w0_wa.out hb4)
  have HB_wa_w4 := Lib.hid (below_next (Below.refl wa.heap.size wa) hb4)
  clear hb4
  obtain ⟨wb, hwb⟩ : ∃ wb, w4.alloc (.cells (tcells rb rd rt ru rs A4 rl.length c4) 24) = wb := ⟨_, rfl⟩
  have h2wb : Below w4.heap.size w4 wb := by rw [← hwb]; exact (Below.refl _ _).alloc (Nat.le_refl _) _
  have hswb : wb.heap.size = w4.heap.size + 1 := by rw [← hwb]; simp
  have HB_w0_wb := Lib.hid (below_next HB_w0_w4.out h2wb)
  have HB_wa_wb := Lib.hid (below_next HB_wa_w4.out h2wb)
  have X2 := Lib.hid (fun W (hb : Below wb.heap.size wb W) => show Boxed6 W w4.heap.size rb rd rt ru rs A4 rl.length c4 from by rw [← hwb] at hb; exact boxed6 hb)
  have R2 := Lib.hid (hr4.belowM h2wb)
  clear hr4 h2wb
  obtain ⟨x0, x1, x2, x3, x4, x5⟩ := X1.out wb HB_wa_wb.out
  obtain ⟨y0, y1, y2, y3, y4, y5⟩ := X2.out wb (Below.refl wb.heap.size wb)
  go_wp2_with (fail)
  refine (HSM.out _ A3 A4 c3 c4 (R1.out.belowM HB_wa_wb.out) (R2.out.belowM (Below.refl wb.heap.size wb))).mono ?_
  rintro qq5 w5 ⟨rfl, hb5⟩
  clear x0 x1 x2 x3 x4 x5 y0 y1 y2 y3 y4 y5
  have HB_w0_w5 := Lib.hid (below_next HB_w0_wb.out hb5)
  have HB_wa_w5 := Lib.hid (below_next HB_wa_wb.out hb5)
  have HB_wb_w5 := Lib.hid (below_next (Below.refl wb.heap.size wb) hb5)
  clear hb5
  obtain ⟨p0, p1, p2, p3, p4, p5⟩ := XU.out w5 HB_w0_w5.out
  obtain ⟨q0, q1, q2, q3, q4, q5⟩ := XT.out w5 HB_w0_w5.out
  go_wp2_with (fail)
  refine (HV.out _ (H'.out.belowM HB_w0_w5.out) (HC.out.belowM HB_w0_w5.out)).mono ?_
  rintro qq6 w6 ⟨rfl, hb6⟩
  clear p0 p1 p2 p3 p4 p5 q0 q1 q2 q3 q4 q5
  have HB_w0_w6 := Lib.hid (below_next HB_w0_w5.out hb6)
  have HB_wa_w6 := Lib.hid (below_next HB_wa_w5.out hb6)
  have HB_wb_w6 := Lib.hid (below_next HB_wb_w5.out hb6)
  clear hb6
  go_wp2_with (fail)
  refine (tawake_any _).mono ?_
  rintro qq7 w7 ⟨rfl, hb7⟩
  have HB_w0_w7 := Lib.hid (below_next HB_w0_w6.out hb7)
  have HB_wa_w7 := Lib.hid (below_next HB_wa_w6.out hb7)
  have HB_wb_w7 := Lib.hid (below_next HB_wb_w6.out hb7)
  clear hb7
  go_wp2_with (fail)
  go_ret
  exact ⟨rfl, below_next HB0.out HB_w0_w7.out⟩
set_option maxHeartbeats 8000000 in
theorem puts_M1 (ub ud ut uu us : Int) (A : Option Addr) (c : Nat) (k : List PT) (b d t u s : Int) (B : Option Addr) (e : Nat) (l : List PT) (C : Option Addr) (f : Nat) (xs : List Int) (w : World) (h : RP w w.heap.size A k.length k) (hk : k.length ≤ maxLen) (h' : RP w w.heap.size B l.length l) (hl : l.length ≤ maxLen) (hc : RR w w.heap.size C xs.length xs) (hm : xs.length ≤ maxLen) (g1 : ¬ 20 < k.length) (g2 : ¬ 20 < l.length) (g3 : ¬ 100 < xs.length) (rb rd rt ru rs : Int) (rl : List PT) (hr : putT ⟨ub, ud, ut, uu, us, k, true⟩ ⟨b, d, t, u, s, l, true⟩ = ⟨rb, rd, rt, ru, rs, rl, true⟩) (v : Int) (hv : valueT b d t u s l xs = (v, false)) :
    Calls Try.prog 5 #[trm ub ud ut uu us A k.length c, trm b d t u s B l.length e, .slice C xs.length f] w (RetB true w) := by
  have HG1 := Lib.hid (fun W => tgreat_any ub ud ut uu us A k.length c W hk)
  rw [decide_eq_false g1] at HG1
  have HG2 := Lib.hid (fun W => tgreat_any b d t u s B l.length e W hl)
  rw [decide_eq_false g2] at HG2
  have hd3 : decide ((100 : Int) < (xs.length : Int)) = false := by simp; omega
  obtain ⟨w0, hw0⟩ : ∃ w0, (w.alloc (.cells (tcells ub ud ut uu us A k.length c) 24)).alloc (.cells (tcells b d t u s B l.length e) 24) = w0 := ⟨_, rfl⟩
  have hs0 : w0.heap.size = w.heap.size + 1 + 1 := by rw [← hw0]; simp
  have hb0 : Below w.heap.size w w0 := by rw [← hw0]; exact ((Below.refl _ _).alloc (Nat.le_refl _) _).alloc (by simp) _
  have hXU : BoxF w0 w.heap.size ub ud ut uu us A k.length c := by
    rw [← hw0]
    exact (BoxF.new w ub ud ut uu us A k.length c _).keep ((Below.refl _ _).alloc (Nat.le_refl _) _) (by simp)
  have hXT : BoxF w0 (w.heap.size + 1) b d t u s B l.length e := by
    rw [← hw0]
    have q := BoxF.new (w.alloc (.cells (tcells ub ud ut uu us A k.length c) 24)) b d t u s B l.length e 24
    simpa using q
  have XU := Lib.hid (fun W (hb : Below w0.heap.size w0 W) => show Boxed6 W w.heap.size ub ud ut uu us A k.length c from (hXU.keep hb (by omega)).1)
  have XT := Lib.hid (fun W (hb : Below w0.heap.size w0 W) => show Boxed6 W (w.heap.size + 1) b d t u s B l.length e from (hXT.keep hb (by omega)).1)
  have H := Lib.hid (h.belowM hb0)
  have H' := Lib.hid (h'.belowM hb0)
  have HC := Lib.hid (hc.belowM hb0)
  have HB0 := Lib.hid hb0
  have HP := Lib.hid (fun W h1 h2 => tput_any ub ud ut uu us A c k b d t u s B e l W h1 h2 (by omega))
  have HQ := Lib.hid (fun W h1 h2 => rput_any ub ud ut uu us A c k b d t u s B e l W h1 h2)
  have hrl := putT_len ⟨ub, ud, ut, uu, us, k, true⟩ ⟨b, d, t, u, s, l, true⟩ (show l.length ≤ 20 by omega)
  rw [hr] at HP HQ hrl
  dsimp only at hrl
  have HP2 := Lib.hid (fun W h1 h2 => show Calls Try.prog 19 #[trm ub ud ut uu us A k.length c, trm b d t u s B l.length e] W (RetTX rb rd rt ru rs rl true W) from HP.out W h1 h2)
  have HQ2 := Lib.hid (fun W h1 h2 => show Calls Try.prog 20 #[trm ub ud ut uu us A k.length c, trm b d t u s B l.length e] W (RetTX rb rd rt ru rs rl true W) from HQ.out W h1 h2)
  have HSM := Lib.hid (fun W D1 D2 g1 g2 h1 h2 => rsame_eq rb rd rt ru rs D1 D2 rl.length g1 g2 rl W h1 h2 (by unfold maxLen; omega))
  clear HP HQ hr
  have HV := Lib.hid (fun W h1 h2 => tvalue_any b d t u s B C l.length e xs.length f l xs W h1 hl h2 hm)
  rw [hv] at HV
  clear hv
  unfold maxLen at hk hl hm
  clear h h' hc hb0 hXU hXT
  obtain ⟨p0, p1, p2, p3, p4, p5⟩ := XU.out w0 (Below.refl w0.heap.size w0)
  obtain ⟨q0, q1, q2, q3, q4, q5⟩ := XT.out w0 (Below.refl w0.heap.size w0)
  go_enter Try.func5, Try.ntmps5
  go_wp2_with (fail)
  refine (HG1.out _).mono ?_
  rintro qq1 w1 ⟨rfl, hb1⟩
  clear p0 p1 p2 p3 p4 p5 q0 q1 q2 q3 q4 q5
  have HB_w0_w1 := Lib.hid (below_next (Below.refl w0.heap.size w0) hb1)
  clear hb1
  obtain ⟨p0, p1, p2, p3, p4, p5⟩ := XU.out w1 HB_w0_w1.out
  obtain ⟨q0, q1, q2, q3, q4, q5⟩ := XT.out w1 HB_w0_w1.out
  go_wp2_with (fail)
  refine (HG2.out _).mono ?_
  rintro qq2 w2 ⟨rfl, hb2⟩
  clear p0 p1 p2 p3 p4 p5 q0 q1 q2 q3 q4 q5
  have HB_w0_w2 := Lib.hid (below_next HB_w0_w1.out hb2)
  clear hb2
  obtain ⟨p0, p1, p2, p3, p4, p5⟩ := XU.out w2 HB_w0_w2.out
  obtain ⟨q0, q1, q2, q3, q4, q5⟩ := XT.out w2 HB_w0_w2.out
  go_wp2_with (fail)
  refine (HP2.out _ (H.out.belowM HB_w0_w2.out) (H'.out.belowM HB_w0_w2.out)).mono ?_
  rintro qq3 w3 ⟨A3, c3, rfl, hr3, hb3⟩
  clear p0 p1 p2 p3 p4 p5 q0 q1 q2 q3 q4 q5
  have HB_w0_w3 := Lib.hid (below_next HB_w0_w2.out hb3)
  clear hb3
  obtain ⟨wa, hwa⟩ : ∃ wa, w3.alloc (.cells (tcells rb rd rt ru rs A3 rl.length c3) 24) = wa := ⟨_, rfl⟩
  have h2wa : Below w3.heap.size w3 wa := by rw [← hwa]; exact (Below.refl _ _).alloc (Nat.le_refl _) _
  have hswa : wa.heap.size = w3.heap.size + 1 := by rw [← hwa]; simp
  have HB_w0_wa := Lib.hid (below_next HB_w0_w3.out h2wa)
  have X1 := Lib.hid (fun W (hb : Below wa.heap.size wa W) => show Boxed6 W w3.heap.size rb rd rt ru rs A3 rl.length c3 from by rw [← hwa] at hb; exact boxed6 hb)
  have R1 := Lib.hid (hr3.belowM h2wa)
  clear hr3 h2wa
  obtain ⟨p0, p1, p2, p3, p4, p5⟩ := XU.out wa HB_w0_wa.out
  obtain ⟨q0, q1, q2, q3, q4, q5⟩ := XT.out wa HB_w0_wa.out
  go_wp2_with (fail)
  refine (HQ2.out _ (H.out.belowM HB_w0_wa.out) (H'.out.belowM HB_w0_wa.out)).mono ?_
  rintro qq4 w4 ⟨A4, c4, rfl, hr4, hb4⟩
  clear p0 p1 p2 p3 p4 p5 q0 q1 q2 q3 q4 q5
  have HB_w0_w4 := Lib.hid (below_next HB_w0_wa.out hb4)
  have HB_wa_w4 := Lib.hid (below_next (Below.refl wa.heap.size wa) hb4)
  clear hb4
  obtain ⟨wb, hwb⟩ : ∃ wb, w4.alloc (.cells (tcells rb rd rt ru rs A4 rl.length c4) 24) = wb := ⟨_, rfl⟩
  have h2wb : Below w4.heap.size w4 wb := by rw [← hwb]; exact (Below.refl _ _).alloc (Nat.le_refl _) _
  have hswb : wb.heap.size = w4.heap.size + 1 := by rw [← hwb]; simp
  have HB_w0_wb := Lib.hid (below_next HB_w0_w4.out h2wb)
  have HB_wa_wb := Lib.hid (below_next HB_wa_w4.out h2wb)
  have X2 := Lib.hid (fun W (hb : Below wb.heap.size wb W) => show Boxed6 W w4.heap.size rb rd rt ru rs A4 rl.length c4 from by rw [← hwb] at hb; exact boxed6 hb)
  have R2 := Lib.hid (hr4.belowM h2wb)
  clear hr4 h2wb
  obtain ⟨x0, x1, x2, x3, x4, x5⟩ := X1.out wb HB_wa_wb.out
  obtain ⟨y0, y1, y2, y3, y4, y5⟩ := X2.out wb (Below.refl wb.heap.size wb)
  go_wp2_with (fail)
  refine (HSM.out _ A3 A4 c3 c4 (R1.out.belowM HB_wa_wb.out) (R2.out.belowM (Below.refl wb.heap.size wb))).mono ?_
  rintro qq5 w5 ⟨rfl, hb5⟩
  clear x0 x1 x2 x3 x4 x5 y0 y1 y2 y3 y4 y5
  have HB_w0_w5 := Lib.hid (below_next HB_w0_wb.out hb5)
  have HB_wa_w5 := Lib.hid (below_next HB_wa_wb.out hb5)
  have HB_wb_w5 := Lib.hid (below_next (Below.refl wb.heap.size wb) hb5)
  clear hb5
  obtain ⟨p0, p1, p2, p3, p4, p5⟩ := XU.out w5 HB_w0_w5.out
  obtain ⟨q0, q1, q2, q3, q4, q5⟩ := XT.out w5 HB_w0_w5.out
  go_wp2_with (fail)
  refine (HV.out _ (H'.out.belowM HB_w0_w5.out) (HC.out.belowM HB_w0_w5.out)).mono ?_
  rintro qq6 w6 ⟨rfl, hb6⟩
  clear p0 p1 p2 p3 p4 p5 q0 q1 q2 q3 q4 q5
  have HB_w0_w6 := Lib.hid (below_next HB_w0_w5.out hb6)
  have HB_wa_w6 := Lib.hid (below_next HB_wa_w5.out hb6)
  have HB_wb_w6 := Lib.hid (below_next HB_wb_w5.out hb6)
  clear hb6
  go_wp2_with (fail)
  refine (tawake_any _).mono ?_
  rintro qq7 w7 ⟨rfl, hb7⟩
  have HB_w0_w7 := Lib.hid (below_next HB_w0_w6.out hb7)
  have HB_wa_w7 := Lib.hid (below_next HB_wa_w6.out hb7)
  have HB_wb_w7 := Lib.hid (below_next HB_wb_w6.out hb7)
  clear hb7
  go_wp2_with (fail)
  go_ret
  exact ⟨rfl, below_next HB0.out HB_w0_w7.out⟩
set_option maxHeartbeats 8000000 in
theorem puts_M2 (ub ud ut uu us : Int) (A : Option Addr) (c : Nat) (k : List PT) (b d t u s : Int) (B : Option Addr) (e : Nat) (l : List PT) (C : Option Addr) (f : Nat) (xs : List Int) (w : World) (h : RP w w.heap.size A k.length k) (hk : k.length ≤ maxLen) (h' : RP w w.heap.size B l.length l) (hl : l.length ≤ maxLen) (hc : RR w w.heap.size C xs.length xs) (hm : xs.length ≤ maxLen) (g1 : ¬ 20 < k.length) (g2 : ¬ 20 < l.length) (g3 : ¬ 100 < xs.length) (rb rd rt ru rs : Int) (rl : List PT) (hr : putT ⟨ub, ud, ut, uu, us, k, true⟩ ⟨b, d, t, u, s, l, true⟩ = ⟨rb, rd, rt, ru, rs, rl, true⟩) (v : Int) (hv : valueT b d t u s l xs = (v, true)) (h1 : v < 0) :
    Calls Try.prog 5 #[trm ub ud ut uu us A k.length c, trm b d t u s B l.length e, .slice C xs.length f] w (RetB true w) := by
  have HG1 := Lib.hid (fun W => tgreat_any ub ud ut uu us A k.length c W hk)
  rw [decide_eq_false g1] at HG1
  have HG2 := Lib.hid (fun W => tgreat_any b d t u s B l.length e W hl)
  rw [decide_eq_false g2] at HG2
  have hd3 : decide ((100 : Int) < (xs.length : Int)) = false := by simp; omega
  obtain ⟨w0, hw0⟩ : ∃ w0, (w.alloc (.cells (tcells ub ud ut uu us A k.length c) 24)).alloc (.cells (tcells b d t u s B l.length e) 24) = w0 := ⟨_, rfl⟩
  have hs0 : w0.heap.size = w.heap.size + 1 + 1 := by rw [← hw0]; simp
  have hb0 : Below w.heap.size w w0 := by rw [← hw0]; exact ((Below.refl _ _).alloc (Nat.le_refl _) _).alloc (by simp) _
  have hXU : BoxF w0 w.heap.size ub ud ut uu us A k.length c := by
    rw [← hw0]
    exact (BoxF.new w ub ud ut uu us A k.length c _).keep ((Below.refl _ _).alloc (Nat.le_refl _) _) (by simp)
  have hXT : BoxF w0 (w.heap.size + 1) b d t u s B l.length e := by
    rw [← hw0]
    have q := BoxF.new (w.alloc (.cells (tcells ub ud ut uu us A k.length c) 24)) b d t u s B l.length e 24
    simpa using q
  have XU := Lib.hid (fun W (hb : Below w0.heap.size w0 W) => show Boxed6 W w.heap.size ub ud ut uu us A k.length c from (hXU.keep hb (by omega)).1)
  have XT := Lib.hid (fun W (hb : Below w0.heap.size w0 W) => show Boxed6 W (w.heap.size + 1) b d t u s B l.length e from (hXT.keep hb (by omega)).1)
  have H := Lib.hid (h.belowM hb0)
  have H' := Lib.hid (h'.belowM hb0)
  have HC := Lib.hid (hc.belowM hb0)
  have HB0 := Lib.hid hb0
  have HP := Lib.hid (fun W h1 h2 => tput_any ub ud ut uu us A c k b d t u s B e l W h1 h2 (by omega))
  have HQ := Lib.hid (fun W h1 h2 => rput_any ub ud ut uu us A c k b d t u s B e l W h1 h2)
  have hrl := putT_len ⟨ub, ud, ut, uu, us, k, true⟩ ⟨b, d, t, u, s, l, true⟩ (show l.length ≤ 20 by omega)
  rw [hr] at HP HQ hrl
  dsimp only at hrl
  have HP2 := Lib.hid (fun W h1 h2 => show Calls Try.prog 19 #[trm ub ud ut uu us A k.length c, trm b d t u s B l.length e] W (RetTX rb rd rt ru rs rl true W) from HP.out W h1 h2)
  have HQ2 := Lib.hid (fun W h1 h2 => show Calls Try.prog 20 #[trm ub ud ut uu us A k.length c, trm b d t u s B l.length e] W (RetTX rb rd rt ru rs rl true W) from HQ.out W h1 h2)
  have HSM := Lib.hid (fun W D1 D2 g1 g2 h1 h2 => rsame_eq rb rd rt ru rs D1 D2 rl.length g1 g2 rl W h1 h2 (by unfold maxLen; omega))
  clear HP HQ hr
  have HV := Lib.hid (fun W h1 h2 => tvalue_any b d t u s B C l.length e xs.length f l xs W h1 hl h2 hm)
  rw [hv] at HV
  clear hv
  have hd1 : decide (v < 0) = true := by simp; omega
  unfold maxLen at hk hl hm
  clear h h' hc hb0 hXU hXT
  obtain ⟨p0, p1, p2, p3, p4, p5⟩ := XU.out w0 (Below.refl w0.heap.size w0)
  obtain ⟨q0, q1, q2, q3, q4, q5⟩ := XT.out w0 (Below.refl w0.heap.size w0)
  go_enter Try.func5, Try.ntmps5
  go_wp2_with (fail)
  refine (HG1.out _).mono ?_
  rintro qq1 w1 ⟨rfl, hb1⟩
  clear p0 p1 p2 p3 p4 p5 q0 q1 q2 q3 q4 q5
  have HB_w0_w1 := Lib.hid (below_next (Below.refl w0.heap.size w0) hb1)
  clear hb1
  obtain ⟨p0, p1, p2, p3, p4, p5⟩ := XU.out w1 HB_w0_w1.out
  obtain ⟨q0, q1, q2, q3, q4, q5⟩ := XT.out w1 HB_w0_w1.out
  go_wp2_with (fail)
  refine (HG2.out _).mono ?_
  rintro qq2 w2 ⟨rfl, hb2⟩
  clear p0 p1 p2 p3 p4 p5 q0 q1 q2 q3 q4 q5
  have HB_w0_w2 := Lib.hid (below_next HB_w0_w1.out hb2)
  clear hb2
  obtain ⟨p0, p1, p2, p3, p4, p5⟩ := XU.out w2 HB_w0_w2.out
  obtain ⟨q0, q1, q2, q3, q4, q5⟩ := XT.out w2 HB_w0_w2.out
  go_wp2_with (fail)
  refine (HP2.out _ (H.out.belowM HB_w0_w2.out) (H'.out.belowM HB_w0_w2.out)).mono ?_
  rintro qq3 w3 ⟨A3, c3, rfl, hr3, hb3⟩
  clear p0 p1 p2 p3 p4 p5 q0 q1 q2 q3 q4 q5
  have HB_w0_w3 := Lib.hid (below_next HB_w0_w2.out hb3)
  clear hb3
  obtain ⟨wa, hwa⟩ : ∃ wa, w3.alloc (.cells (tcells rb rd rt ru rs A3 rl.length c3) 24) = wa := ⟨_, rfl⟩
  have h2wa : Below w3.heap.size w3 wa := by rw [← hwa]; exact (Below.refl _ _).alloc (Nat.le_refl _) _
  have hswa : wa.heap.size = w3.heap.size + 1 := by rw [← hwa]; simp
  have HB_w0_wa := Lib.hid (below_next HB_w0_w3.out h2wa)
  have X1 := Lib.hid (fun W (hb : Below wa.heap.size wa W) => show Boxed6 W w3.heap.size rb rd rt ru rs A3 rl.length c3 from by rw [← hwa] at hb; exact boxed6 hb)
  have R1 := Lib.hid (hr3.belowM h2wa)
  clear hr3 h2wa
  obtain ⟨p0, p1, p2, p3, p4, p5⟩ := XU.out wa HB_w0_wa.out
  obtain ⟨q0, q1, q2, q3, q4, q5⟩ := XT.out wa HB_w0_wa.out
  go_wp2_with (fail)
  refine (HQ2.out _ (H.out.belowM HB_w0_wa.out) (H'.out.belowM HB_w0_wa.out)).mono ?_
  rintro qq4 w4 ⟨A4, c4, rfl, hr4, hb4⟩
  clear p0 p1 p2 p3 p4 p5 q0 q1 q2 q3 q4 q5
  have HB_w0_w4 := Lib.hid (below_next HB_w0_wa.out hb4)
  have HB_wa_w4 := Lib.hid (below_next (Below.refl wa.heap.size wa) hb4)
  clear hb4
  obtain ⟨wb, hwb⟩ : ∃ wb, w4.alloc (.cells (tcells rb rd rt ru rs A4 rl.length c4) 24) = wb := ⟨_, rfl⟩
  have h2wb : Below w4.heap.size w4 wb := by rw [← hwb]; exact (Below.refl _ _).alloc (Nat.le_refl _) _
  have hswb : wb.heap.size = w4.heap.size + 1 := by rw [← hwb]; simp
  have HB_w0_wb := Lib.hid (below_next HB_w0_w4.out h2wb)
  have HB_wa_wb := Lib.hid (below_next HB_wa_w4.out h2wb)
  have X2 := Lib.hid (fun W (hb : Below wb.heap.size wb W) => show Boxed6 W w4.heap.size rb rd rt ru rs A4 rl.length c4 from by rw [← hwb] at hb; exact boxed6 hb)
  have R2 := Lib.hid (hr4.belowM h2wb)
  clear hr4 h2wb
  obtain ⟨x0, x1, x2, x3, x4, x5⟩ := X1.out wb HB_wa_wb.out
  obtain ⟨y0, y1, y2, y3, y4, y5⟩ := X2.out wb (Below.refl wb.heap.size wb)
  go_wp2_with (fail)
  refine (HSM.out _ A3 A4 c3 c4 (R1.out.belowM HB_wa_wb.out) (R2.out.belowM (Below.refl wb.heap.size wb))).mono ?_
  rintro qq5 w5 ⟨rfl, hb5⟩
  clear x0 x1 x2 x3 x4 x5 y0 y1 y2 y3 y4 y5
  have HB_w0_w5 := Lib.hid (below_next HB_w0_wb.out hb5)
  have HB_wa_w5 := Lib.hid (below_next HB_wa_wb.out hb5)
  have HB_wb_w5 := Lib.hid (below_next (Below.refl wb.heap.size wb) hb5)
  clear hb5
  obtain ⟨p0, p1, p2, p3, p4, p5⟩ := XU.out w5 HB_w0_w5.out
  obtain ⟨q0, q1, q2, q3, q4, q5⟩ := XT.out w5 HB_w0_w5.out
  go_wp2_with (fail)
  refine (HV.out _ (H'.out.belowM HB_w0_w5.out) (HC.out.belowM HB_w0_w5.out)).mono ?_
  rintro qq6 w6 ⟨rfl, hb6⟩
  clear p0 p1 p2 p3 p4 p5 q0 q1 q2 q3 q4 q5
  have HB_w0_w6 := Lib.hid (below_next HB_w0_w5.out hb6)
  have HB_wa_w6 := Lib.hid (below_next HB_wa_w5.out hb6)
  have HB_wb_w6 := Lib.hid (below_next HB_wb_w5.out hb6)
  clear hb6
  go_wp2_with (fail)
  refine (tawake_any _).mono ?_
  rintro qq7 w7 ⟨rfl, hb7⟩
  have HB_w0_w7 := Lib.hid (below_next HB_w0_w6.out hb7)
  have HB_wa_w7 := Lib.hid (below_next HB_wa_w6.out hb7)
  have HB_wb_w7 := Lib.hid (below_next HB_wb_w6.out hb7)
  clear hb7
  go_wp2_with (fail)
  go_ret
  exact ⟨rfl, below_next HB0.out HB_w0_w7.out⟩
set_option maxHeartbeats 8000000 in
theorem puts_M3 (ub ud ut uu us : Int) (A : Option Addr) (c : Nat) (k : List PT) (b d t u s : Int) (B : Option Addr) (e : Nat) (l : List PT) (C : Option Addr) (f : Nat) (xs : List Int) (w : World) (h : RP w w.heap.size A k.length k) (hk : k.length ≤ maxLen) (h' : RP w w.heap.size B l.length l) (hl : l.length ≤ maxLen) (hc : RR w w.heap.size C xs.length xs) (hm : xs.length ≤ maxLen) (g1 : ¬ 20 < k.length) (g2 : ¬ 20 < l.length) (g3 : ¬ 100 < xs.length) (rb rd rt ru rs : Int) (rl : List PT) (hr : putT ⟨ub, ud, ut, uu, us, k, true⟩ ⟨b, d, t, u, s, l, true⟩ = ⟨rb, rd, rt, ru, rs, rl, true⟩) (v : Int) (hv : valueT b d t u s l xs = (v, true)) (h1 : 0 ≤ v) (h2 : 1114111 < v) :
    Calls Try.prog 5 #[trm ub ud ut uu us A k.length c, trm b d t u s B l.length e, .slice C xs.length f] w (RetB true w) := by
  have HG1 := Lib.hid (fun W => tgreat_any ub ud ut uu us A k.length c W hk)
  rw [decide_eq_false g1] at HG1
  have HG2 := Lib.hid (fun W => tgreat_any b d t u s B l.length e W hl)
  rw [decide_eq_false g2] at HG2
  have hd3 : decide ((100 : Int) < (xs.length : Int)) = false := by simp; omega
  obtain ⟨w0, hw0⟩ : ∃ w0, (w.alloc (.cells (tcells ub ud ut uu us A k.length c) 24)).alloc (.cells (tcells b d t u s B l.length e) 24) = w0 := ⟨_, rfl⟩
  have hs0 : w0.heap.size = w.heap.size + 1 + 1 := by rw [← hw0]; simp
  have hb0 : Below w.heap.size w w0 := by rw [← hw0]; exact ((Below.refl _ _).alloc (Nat.le_refl _) _).alloc (by simp) _
  have hXU : BoxF w0 w.heap.size ub ud ut uu us A k.length c := by
    rw [← hw0]
    exact (BoxF.new w ub ud ut uu us A k.length c _).keep ((Below.refl _ _).alloc (Nat.le_refl _) _) (by simp)
  have hXT : BoxF w0 (w.heap.size + 1) b d t u s B l.length e := by
    rw [← hw0]
    have q := BoxF.new (w.alloc (.cells (tcells ub ud ut uu us A k.length c) 24)) b d t u s B l.length e 24
    simpa using q
  have XU := Lib.hid (fun W (hb : Below w0.heap.size w0 W) => show Boxed6 W w.heap.size ub ud ut uu us A k.length c from (hXU.keep hb (by omega)).1)
  have XT := Lib.hid (fun W (hb : Below w0.heap.size w0 W) => show Boxed6 W (w.heap.size + 1) b d t u s B l.length e from (hXT.keep hb (by omega)).1)
  have H := Lib.hid (h.belowM hb0)
  have H' := Lib.hid (h'.belowM hb0)
  have HC := Lib.hid (hc.belowM hb0)
  have HB0 := Lib.hid hb0
  have HP := Lib.hid (fun W h1 h2 => tput_any ub ud ut uu us A c k b d t u s B e l W h1 h2 (by omega))
  have HQ := Lib.hid (fun W h1 h2 => rput_any ub ud ut uu us A c k b d t u s B e l W h1 h2)
  have hrl := putT_len ⟨ub, ud, ut, uu, us, k, true⟩ ⟨b, d, t, u, s, l, true⟩ (show l.length ≤ 20 by omega)
  rw [hr] at HP HQ hrl
  dsimp only at hrl
  have HP2 := Lib.hid (fun W h1 h2 => show Calls Try.prog 19 #[trm ub ud ut uu us A k.length c, trm b d t u s B l.length e] W (RetTX rb rd rt ru rs rl true W) from HP.out W h1 h2)
  have HQ2 := Lib.hid (fun W h1 h2 => show Calls Try.prog 20 #[trm ub ud ut uu us A k.length c, trm b d t u s B l.length e] W (RetTX rb rd rt ru rs rl true W) from HQ.out W h1 h2)
  have HSM := Lib.hid (fun W D1 D2 g1 g2 h1 h2 => rsame_eq rb rd rt ru rs D1 D2 rl.length g1 g2 rl W h1 h2 (by unfold maxLen; omega))
  clear HP HQ hr
  have HV := Lib.hid (fun W h1 h2 => tvalue_any b d t u s B C l.length e xs.length f l xs W h1 hl h2 hm)
  rw [hv] at HV
  clear hv
  have hd1 : decide (v < 0) = false := by simp; omega
  have hd2 : decide ((1114111 : Int) < v) = true := by simp; omega
  unfold maxLen at hk hl hm
  clear h h' hc hb0 hXU hXT
  obtain ⟨p0, p1, p2, p3, p4, p5⟩ := XU.out w0 (Below.refl w0.heap.size w0)
  obtain ⟨q0, q1, q2, q3, q4, q5⟩ := XT.out w0 (Below.refl w0.heap.size w0)
  go_enter Try.func5, Try.ntmps5
  go_wp2_with (fail)
  refine (HG1.out _).mono ?_
  rintro qq1 w1 ⟨rfl, hb1⟩
  clear p0 p1 p2 p3 p4 p5 q0 q1 q2 q3 q4 q5
  have HB_w0_w1 := Lib.hid (below_next (Below.refl w0.heap.size w0) hb1)
  clear hb1
  obtain ⟨p0, p1, p2, p3, p4, p5⟩ := XU.out w1 HB_w0_w1.out
  obtain ⟨q0, q1, q2, q3, q4, q5⟩ := XT.out w1 HB_w0_w1.out
  go_wp2_with (fail)
  refine (HG2.out _).mono ?_
  rintro qq2 w2 ⟨rfl, hb2⟩
  clear p0 p1 p2 p3 p4 p5 q0 q1 q2 q3 q4 q5
  have HB_w0_w2 := Lib.hid (below_next HB_w0_w1.out hb2)
  clear hb2
  obtain ⟨p0, p1, p2, p3, p4, p5⟩ := XU.out w2 HB_w0_w2.out
  obtain ⟨q0, q1, q2, q3, q4, q5⟩ := XT.out w2 HB_w0_w2.out
  go_wp2_with (fail)
  refine (HP2.out _ (H.out.belowM HB_w0_w2.out) (H'.out.belowM HB_w0_w2.out)).mono ?_
  rintro qq3 w3 ⟨A3, c3, rfl, hr3, hb3⟩
  clear p0 p1 p2 p3 p4 p5 q0 q1 q2 q3 q4 q5
  have HB_w0_w3 := Lib.hid (below_next HB_w0_w2.out hb3)
  clear hb3
  obtain ⟨wa, hwa⟩ : ∃ wa, w3.alloc (.cells (tcells rb rd rt ru rs A3 rl.length c3) 24) = wa := ⟨_, rfl⟩
  have h2wa : Below w3.heap.size w3 wa := by rw [← hwa]; exact (Below.refl _ _).alloc (Nat.le_refl _) _
  have hswa : wa.heap.size = w3.heap.size + 1 := by rw [← hwa]; simp
  have HB_w0_wa := Lib.hid (below_next HB_w0_w3.out h2wa)
  have X1 := Lib.hid (fun W (hb : Below wa.heap.size wa W) => show Boxed6 W w3.heap.size rb rd rt ru rs A3 rl.length c3 from by rw [← hwa] at hb; exact boxed6 hb)
  have R1 := Lib.hid (hr3.belowM h2wa)
  clear hr3 h2wa
  obtain ⟨p0, p1, p2, p3, p4, p5⟩ := XU.out wa HB_w0_wa.out
  obtain ⟨q0, q1, q2, q3, q4, q5⟩ := XT.out wa HB_w0_wa.out
  go_wp2_with (fail)
  refine (HQ2.out _ (H.out.belowM HB_w0_wa.out) (H'.out.belowM HB_w0_wa.out)).mono ?_
  rintro qq4 w4 ⟨A4, c4, rfl, hr4, hb4⟩
  clear p0 p1 p2 p3 p4 p5 q0 q1 q2 q3 q4 q5
  have HB_w0_w4 := Lib.hid (below_next HB_w0_wa.out hb4)
  have HB_wa_w4 := Lib.hid (below_next (Below.refl wa.heap.size wa) hb4)
  clear hb4
  obtain ⟨wb, hwb⟩ : ∃ wb, w4.alloc (.cells (tcells rb rd rt ru rs A4 rl.length c4) 24) = wb := ⟨_, rfl⟩
  have h2wb : Below w4.heap.size w4 wb := by rw [← hwb]; exact (Below.refl _ _).alloc (Nat.le_refl _) _
  have hswb : wb.heap.size = w4.heap.size + 1 := by rw [← hwb]; simp
  have HB_w0_wb := Lib.hid (below_next HB_w0_w4.out h2wb)
  have HB_wa_wb := Lib.hid (below_next HB_wa_w4.out h2wb)
  have X2 := Lib.hid (fun W (hb : Below wb.heap.size wb W) => show Boxed6 W w4.heap.size rb rd rt ru rs A4 rl.length c4 from by rw [← hwb] at hb; exact boxed6 hb)
  have R2 := Lib.hid (hr4.belowM h2wb)
  clear hr4 h2wb
  obtain ⟨x0, x1, x2, x3, x4, x5⟩ := X1.out wb HB_wa_wb.out
  obtain ⟨y0, y1, y2, y3, y4, y5⟩ := X2.out wb (Below.refl wb.heap.size wb)
  go_wp2_with (fail)
  refine (HSM.out _ A3 A4 c3 c4 (R1.out.belowM HB_wa_wb.out) (R2.out.belowM (Below.refl wb.heap.size wb))).mono ?_
  rintro qq5 w5 ⟨rfl, hb5⟩
  clear x0 x1 x2 x3 x4 x5 y0 y1 y2 y3 y4 y5
  have HB_w0_w5 := Lib.hid (below_next HB_w0_wb.out hb5)
  have HB_wa_w5 := Lib.hid (below_next HB_wa_wb.out hb5)
  have HB_wb_w5 := Lib.hid (below_next (Below.refl wb.heap.size wb) hb5)
  clear hb5
  obtain ⟨p0, p1, p2, p3, p4, p5⟩ := XU.out w5 HB_w0_w5.out
  obtain ⟨q0, q1, q2, q3, q4, q5⟩ := XT.out w5 HB_w0_w5.out
  go_wp2_with (fail)
  refine (HV.out _ (H'.out.belowM HB_w0_w5.out) (HC.out.belowM HB_w0_w5.out)).mono ?_
  rintro qq6 w6 ⟨rfl, hb6⟩
  clear p0 p1 p2 p3 p4 p5 q0 q1 q2 q3 q4 q5
  have HB_w0_w6 := Lib.hid (below_next HB_w0_w5.out hb6)
  have HB_wa_w6 := Lib.hid (below_next HB_wa_w5.out hb6)
  have HB_wb_w6 := Lib.hid (below_next HB_wb_w5.out hb6)
  clear hb6
  go_wp2_with (fail)
  refine (tawake_any _).mono ?_
  rintro qq7 w7 ⟨rfl, hb7⟩
  have HB_w0_w7 := Lib.hid (below_next HB_w0_w6.out hb7)
  have HB_wa_w7 := Lib.hid (below_next HB_wa_w6.out hb7)
  have HB_wb_w7 := Lib.hid (below_next HB_wb_w6.out hb7)
  clear hb7
  go_wp2_with (fail)
  go_ret
  exact ⟨rfl, below_next HB0.out HB_w0_w7.out⟩
set_option maxHeartbeats 8000000 in
theorem puts_M4 (ub ud ut uu us : Int) (A : Option Addr) (c : Nat) (k : List PT) (b d t u s : Int) (B : Option Addr) (e : Nat) (l : List PT) (C : Option Addr) (f : Nat) (xs : List Int) (w : World) (h : RP w w.heap.size A k.length k) (hk : k.length ≤ maxLen) (h' : RP w w.heap.size B l.length l) (hl : l.length ≤ maxLen) (hc : RR w w.heap.size C xs.length xs) (hm : xs.length ≤ maxLen) (g1 : ¬ 20 < k.length) (g2 : ¬ 20 < l.length) (g3 : ¬ 100 < xs.length) (rb rd rt ru rs : Int) (rl : List PT) (hr : putT ⟨ub, ud, ut, uu, us, k, true⟩ ⟨b, d, t, u, s, l, true⟩ = ⟨rb, rd, rt, ru, rs, rl, true⟩) (v : Int) (hv : valueT b d t u s l xs = (v, true)) (h1 : 0 ≤ v) (h2 : v ≤ 1114111) (x : Int) (hx : valueT ub ud ut uu us k [v] = (x, false)) (y : Int) (three : Bool) (hy : valueT rb rd rt ru rs rl xs = (y, three)) :
    Calls Try.prog 5 #[trm ub ud ut uu us A k.length c, trm b d t u s B l.length e, .slice C xs.length f] w (RetB true w) := by
  have HG1 := Lib.hid (fun W => tgreat_any ub ud ut uu us A k.length c W hk)
  rw [decide_eq_false g1] at HG1
  have HG2 := Lib.hid (fun W => tgreat_any b d t u s B l.length e W hl)
  rw [decide_eq_false g2] at HG2
  have hd3 : decide ((100 : Int) < (xs.length : Int)) = false := by simp; omega
  obtain ⟨w0, hw0⟩ : ∃ w0, (w.alloc (.cells (tcells ub ud ut uu us A k.length c) 24)).alloc (.cells (tcells b d t u s B l.length e) 24) = w0 := ⟨_, rfl⟩
  have hs0 : w0.heap.size = w.heap.size + 1 + 1 := by rw [← hw0]; simp
  have hb0 : Below w.heap.size w w0 := by rw [← hw0]; exact ((Below.refl _ _).alloc (Nat.le_refl _) _).alloc (by simp) _
  have hXU : BoxF w0 w.heap.size ub ud ut uu us A k.length c := by
    rw [← hw0]
    exact (BoxF.new w ub ud ut uu us A k.length c _).keep ((Below.refl _ _).alloc (Nat.le_refl _) _) (by simp)
  have hXT : BoxF w0 (w.heap.size + 1) b d t u s B l.length e := by
    rw [← hw0]
    have q := BoxF.new (w.alloc (.cells (tcells ub ud ut uu us A k.length c) 24)) b d t u s B l.length e 24
    simpa using q
  have XU := Lib.hid (fun W (hb : Below w0.heap.size w0 W) => show Boxed6 W w.heap.size ub ud ut uu us A k.length c from (hXU.keep hb (by omega)).1)
  have XT := Lib.hid (fun W (hb : Below w0.heap.size w0 W) => show Boxed6 W (w.heap.size + 1) b d t u s B l.length e from (hXT.keep hb (by omega)).1)
  have H := Lib.hid (h.belowM hb0)
  have H' := Lib.hid (h'.belowM hb0)
  have HC := Lib.hid (hc.belowM hb0)
  have HB0 := Lib.hid hb0
  have HP := Lib.hid (fun W h1 h2 => tput_any ub ud ut uu us A c k b d t u s B e l W h1 h2 (by omega))
  have HQ := Lib.hid (fun W h1 h2 => rput_any ub ud ut uu us A c k b d t u s B e l W h1 h2)
  have hrl := putT_len ⟨ub, ud, ut, uu, us, k, true⟩ ⟨b, d, t, u, s, l, true⟩ (show l.length ≤ 20 by omega)
  rw [hr] at HP HQ hrl
  dsimp only at hrl
  have HP2 := Lib.hid (fun W h1 h2 => show Calls Try.prog 19 #[trm ub ud ut uu us A k.length c, trm b d t u s B l.length e] W (RetTX rb rd rt ru rs rl true W) from HP.out W h1 h2)
  have HQ2 := Lib.hid (fun W h1 h2 => show Calls Try.prog 20 #[trm ub ud ut uu us A k.length c, trm b d t u s B l.length e] W (RetTX rb rd rt ru rs rl true W) from HQ.out W h1 h2)
  have HSM := Lib.hid (fun W D1 D2 g1 g2 h1 h2 => rsame_eq rb rd rt ru rs D1 D2 rl.length g1 g2 rl W h1 h2 (by unfold maxLen; omega))
  clear HP HQ hr
  have HV := Lib.hid (fun W h1 h2 => tvalue_any b d t u s B C l.length e xs.length f l xs W h1 hl h2 hm)
  rw [hv] at HV
  have HX := Lib.hid (fun W D h1 h2 => tvalue_any ub ud ut uu us A D k.length c 1 1 k [v] W h1 hk h2 (by unfold maxLen; omega))
  rw [hx] at HX
  have hwv : IntKind.i32.wrap v = v := rune_wrap h1 h2
  have HY := Lib.hid (fun W D g h1 h2 => tvalue_any rb rd rt ru rs D C rl.length g xs.length f rl xs W h1 (by unfold maxLen; omega) h2 hm)
  rw [hy] at HY
  clear hx hy
  clear hv
  have hd1 : decide (v < 0) = false := by simp; omega
  have hd2 : decide ((1114111 : Int) < v) = false := by simp; omega
  unfold maxLen at hk hl hm
  clear h h' hc hb0 hXU hXT
  obtain ⟨p0, p1, p2, p3, p4, p5⟩ := XU.out w0 (Below.refl w0.heap.size w0)
  obtain ⟨q0, q1, q2, q3, q4, q5⟩ := XT.out w0 (Below.refl w0.heap.size w0)
  go_enter Try.func5, Try.ntmps5
  go_wp2_with (fail)
  refine (HG1.out _).mono ?_
  rintro qq1 w1 ⟨rfl, hb1⟩
  clear p0 p1 p2 p3 p4 p5 q0 q1 q2 q3 q4 q5
  have HB_w0_w1 := Lib.hid (below_next (Below.refl w0.heap.size w0) hb1)
  clear hb1
  obtain ⟨p0, p1, p2, p3, p4, p5⟩ := XU.out w1 HB_w0_w1.out
  obtain ⟨q0, q1, q2, q3, q4, q5⟩ := XT.out w1 HB_w0_w1.out
  go_wp2_with (fail)
  refine (HG2.out _).mono ?_
  rintro qq2 w2 ⟨rfl, hb2⟩
  clear p0 p1 p2 p3 p4 p5 q0 q1 q2 q3 q4 q5
  have HB_w0_w2 := Lib.hid (below_next HB_w0_w1.out hb2)
  clear hb2
  obtain ⟨p0, p1, p2, p3, p4, p5⟩ := XU.out w2 HB_w0_w2.out
  obtain ⟨q0, q1, q2, q3, q4, q5⟩ := XT.out w2 HB_w0_w2.out
  go_wp2_with (fail)
  refine (HP2.out _ (H.out.belowM HB_w0_w2.out) (H'.out.belowM HB_w0_w2.out)).mono ?_
  rintro qq3 w3 ⟨A3, c3, rfl, hr3, hb3⟩
  clear p0 p1 p2 p3 p4 p5 q0 q1 q2 q3 q4 q5
  have HB_w0_w3 := Lib.hid (below_next HB_w0_w2.out hb3)
  clear hb3
  obtain ⟨wa, hwa⟩ : ∃ wa, w3.alloc (.cells (tcells rb rd rt ru rs A3 rl.length c3) 24) = wa := ⟨_, rfl⟩
  have h2wa : Below w3.heap.size w3 wa := by rw [← hwa]; exact (Below.refl _ _).alloc (Nat.le_refl _) _
  have hswa : wa.heap.size = w3.heap.size + 1 := by rw [← hwa]; simp
  have HB_w0_wa := Lib.hid (below_next HB_w0_w3.out h2wa)
  have X1 := Lib.hid (fun W (hb : Below wa.heap.size wa W) => show Boxed6 W w3.heap.size rb rd rt ru rs A3 rl.length c3 from by rw [← hwa] at hb; exact boxed6 hb)
  have R1 := Lib.hid (hr3.belowM h2wa)
  clear hr3 h2wa
  obtain ⟨p0, p1, p2, p3, p4, p5⟩ := XU.out wa HB_w0_wa.out
  obtain ⟨q0, q1, q2, q3, q4, q5⟩ := XT.out wa HB_w0_wa.out
  go_wp2_with (fail)
  refine (HQ2.out _ (H.out.belowM HB_w0_wa.out) (H'.out.belowM HB_w0_wa.out)).mono ?_
  rintro qq4 w4 ⟨A4, c4, rfl, hr4, hb4⟩
  clear p0 p1 p2 p3 p4 p5 q0 q1 q2 q3 q4 q5
  have HB_w0_w4 := Lib.hid (below_next HB_w0_wa.out hb4)
  have HB_wa_w4 := Lib.hid (below_next (Below.refl wa.heap.size wa) hb4)
  clear hb4
  obtain ⟨wb, hwb⟩ : ∃ wb, w4.alloc (.cells (tcells rb rd rt ru rs A4 rl.length c4) 24) = wb := ⟨_, rfl⟩
  have h2wb : Below w4.heap.size w4 wb := by rw [← hwb]; exact (Below.refl _ _).alloc (Nat.le_refl _) _
  have hswb : wb.heap.size = w4.heap.size + 1 := by rw [← hwb]; simp
  have HB_w0_wb := Lib.hid (below_next HB_w0_w4.out h2wb)
  have HB_wa_wb := Lib.hid (below_next HB_wa_w4.out h2wb)
  have X2 := Lib.hid (fun W (hb : Below wb.heap.size wb W) => show Boxed6 W w4.heap.size rb rd rt ru rs A4 rl.length c4 from by rw [← hwb] at hb; exact boxed6 hb)
  have R2 := Lib.hid (hr4.belowM h2wb)
  clear hr4 h2wb
  obtain ⟨x0, x1, x2, x3, x4, x5⟩ := X1.out wb HB_wa_wb.out
  obtain ⟨y0, y1, y2, y3, y4, y5⟩ := X2.out wb (Below.refl wb.heap.size wb)
  go_wp2_with (fail)
  refine (HSM.out _ A3 A4 c3 c4 (R1.out.belowM HB_wa_wb.out) (R2.out.belowM (Below.refl wb.heap.size wb))).mono ?_
  rintro qq5 w5 ⟨rfl, hb5⟩
  clear x0 x1 x2 x3 x4 x5 y0 y1 y2 y3 y4 y5
  have HB_w0_w5 := Lib.hid (below_next HB_w0_wb.out hb5)
  have HB_wa_w5 := Lib.hid (below_next HB_wa_wb.out hb5)
  have HB_wb_w5 := Lib.hid (below_next (Below.refl wb.heap.size wb) hb5)
  clear hb5
  obtain ⟨p0, p1, p2, p3, p4, p5⟩ := XU.out w5 HB_w0_w5.out
  obtain ⟨q0, q1, q2, q3, q4, q5⟩ := XT.out w5 HB_w0_w5.out
  go_wp2_with (fail)
  refine (HV.out _ (H'.out.belowM HB_w0_w5.out) (HC.out.belowM HB_w0_w5.out)).mono ?_
  rintro qq6 w6 ⟨rfl, hb6⟩
  clear p0 p1 p2 p3 p4 p5 q0 q1 q2 q3 q4 q5
  have HB_w0_w6 := Lib.hid (below_next HB_w0_w5.out hb6)
  have HB_wa_w6 := Lib.hid (below_next HB_wa_w5.out hb6)
  have HB_wb_w6 := Lib.hid (below_next HB_wb_w5.out hb6)
  clear hb6
  obtain ⟨p0, p1, p2, p3, p4, p5⟩ := XU.out w6 HB_w0_w6.out
  obtain ⟨wc, hwc⟩ : ∃ wc, w6.alloc (.cells (#[.int .i32 v]) 21) = wc := ⟨_, rfl⟩
  have h2wc : Below w6.heap.size w6 wc := by rw [← hwc]; exact (Below.refl _ _).alloc (Nat.le_refl _) _
  have hswc : wc.heap.size = w6.heap.size + 1 := by rw [← hwc]; simp
  have HB_w0_wc := Lib.hid (below_next HB_w0_w6.out h2wc)
  have HB_wa_wc := Lib.hid (below_next HB_wa_w6.out h2wc)
  have HB_wb_wc := Lib.hid (below_next HB_wb_w6.out h2wc)
  have rv : RR wc wc.heap.size (some ⟨w6.heap.size, 0, none⟩) 1 [v] := rr_one (by rw [← hwc]; simp) (by omega) (by omega) (by omega)
  clear h2wc
  go_wp2_with (fail)
  refine (HX.out _ _ (H.out.belowM HB_w0_wc.out) rv).mono ?_
  rintro qq7 w7 ⟨rfl, hb7⟩
  clear p0 p1 p2 p3 p4 p5
  have HB_w0_w7 := Lib.hid (below_next HB_w0_wc.out hb7)
  have HB_wa_w7 := Lib.hid (below_next HB_wa_wc.out hb7)
  have HB_wb_w7 := Lib.hid (below_next HB_wb_wc.out hb7)
  have HB_wc_w7 := Lib.hid (below_next (Below.refl wc.heap.size wc) hb7)
  clear hb7
  obtain ⟨x0, x1, x2, x3, x4, x5⟩ := X1.out w7 HB_wa_w7.out
  go_wp2_with (fail)
  refine (HY.out _ A3 c3 (R1.out.belowM HB_wa_w7.out) (HC.out.belowM HB_w0_w7.out)).mono ?_
  rintro qq8 w8 ⟨rfl, hb8⟩
  clear x0 x1 x2 x3 x4 x5
  have HB_w0_w8 := Lib.hid (below_next HB_w0_w7.out hb8)
  have HB_wa_w8 := Lib.hid (below_next HB_wa_w7.out hb8)
  have HB_wb_w8 := Lib.hid (below_next HB_wb_w7.out hb8)
  have HB_wc_w8 := Lib.hid (below_next HB_wc_w7.out hb8)
  clear hb8
  go_wp2_with (fail)
  refine (tawake_any _).mono ?_
  rintro qq9 w9 ⟨rfl, hb9⟩
  have HB_w0_w9 := Lib.hid (below_next HB_w0_w8.out hb9)
  have HB_wa_w9 := Lib.hid (below_next HB_wa_w8.out hb9)
  have HB_wb_w9 := Lib.hid (below_next HB_wb_w8.out hb9)
  have HB_wc_w9 := Lib.hid (below_next HB_wc_w8.out hb9)
  clear hb9
  go_wp2_with (fail)
  go_ret
  exact ⟨rfl, below_next HB0.out HB_w0_w9.out⟩
set_option maxHeartbeats 8000000 in
theorem puts_M5 (ub ud ut uu us : Int) (A : Option Addr) (c : Nat) (k : List PT) (b d t u s : Int) (B : Option Addr) (e : Nat) (l : List PT) (C : Option Addr) (f : Nat) (xs : List Int) (w : World) (h : RP w w.heap.size A k.length k) (hk : k.length ≤ maxLen) (h' : RP w w.heap.size B l.length l) (hl : l.length ≤ maxLen) (hc : RR w w.heap.size C xs.length xs) (hm : xs.length ≤ maxLen) (g1 : ¬ 20 < k.length) (g2 : ¬ 20 < l.length) (g3 : ¬ 100 < xs.length) (rb rd rt ru rs : Int) (rl : List PT) (hr : putT ⟨ub, ud, ut, uu, us, k, true⟩ ⟨b, d, t, u, s, l, true⟩ = ⟨rb, rd, rt, ru, rs, rl, true⟩) (v : Int) (hv : valueT b d t u s l xs = (v, true)) (h1 : 0 ≤ v) (h2 : v ≤ 1114111) (x : Int) (hx : valueT ub ud ut uu us k [v] = (x, true)) (hy : valueT rb rd rt ru rs rl xs = (x, true)) :
    Calls Try.prog 5 #[trm ub ud ut uu us A k.length c, trm b d t u s B l.length e, .slice C xs.length f] w (RetB true w) := by
  have HG1 := Lib.hid (fun W => tgreat_any ub ud ut uu us A k.length c W hk)
  rw [decide_eq_false g1] at HG1
  have HG2 := Lib.hid (fun W => tgreat_any b d t u s B l.length e W hl)
  rw [decide_eq_false g2] at HG2
  have hd3 : decide ((100 : Int) < (xs.length : Int)) = false := by simp; omega
  obtain ⟨w0, hw0⟩ : ∃ w0, (w.alloc (.cells (tcells ub ud ut uu us A k.length c) 24)).alloc (.cells (tcells b d t u s B l.length e) 24) = w0 := ⟨_, rfl⟩
  have hs0 : w0.heap.size = w.heap.size + 1 + 1 := by rw [← hw0]; simp
  have hb0 : Below w.heap.size w w0 := by rw [← hw0]; exact ((Below.refl _ _).alloc (Nat.le_refl _) _).alloc (by simp) _
  have hXU : BoxF w0 w.heap.size ub ud ut uu us A k.length c := by
    rw [← hw0]
    exact (BoxF.new w ub ud ut uu us A k.length c _).keep ((Below.refl _ _).alloc (Nat.le_refl _) _) (by simp)
  have hXT : BoxF w0 (w.heap.size + 1) b d t u s B l.length e := by
    rw [← hw0]
    have q := BoxF.new (w.alloc (.cells (tcells ub ud ut uu us A k.length c) 24)) b d t u s B l.length e 24
    simpa using q
  have XU := Lib.hid (fun W (hb : Below w0.heap.size w0 W) => show Boxed6 W w.heap.size ub ud ut uu us A k.length c from (hXU.keep hb (by omega)).1)
  have XT := Lib.hid (fun W (hb : Below w0.heap.size w0 W) => show Boxed6 W (w.heap.size + 1) b d t u s B l.length e from (hXT.keep hb (by omega)).1)
  have H := Lib.hid (h.belowM hb0)
  have H' := Lib.hid (h'.belowM hb0)
  have HC := Lib.hid (hc.belowM hb0)
  have HB0 := Lib.hid hb0
  have HP := Lib.hid (fun W h1 h2 => tput_any ub ud ut uu us A c k b d t u s B e l W h1 h2 (by omega))
  have HQ := Lib.hid (fun W h1 h2 => rput_any ub ud ut uu us A c k b d t u s B e l W h1 h2)
  have hrl := putT_len ⟨ub, ud, ut, uu, us, k, true⟩ ⟨b, d, t, u, s, l, true⟩ (show l.length ≤ 20 by omega)
  rw [hr] at HP HQ hrl
  dsimp only at hrl
  have HP2 := Lib.hid (fun W h1 h2 => show Calls Try.prog 19 #[trm ub ud ut uu us A k.length c, trm b d t u s B l.length e] W (RetTX rb rd rt ru rs rl true W) from HP.out W h1 h2)
  have HQ2 := Lib.hid (fun W h1 h2 => show Calls Try.prog 20 #[trm ub ud ut uu us A k.length c, trm b d t u s B l.length e] W (RetTX rb rd rt ru rs rl true W) from HQ.out W h1 h2)
  have HSM := Lib.hid (fun W D1 D2 g1 g2 h1 h2 => rsame_eq rb rd rt ru rs D1 D2 rl.length g1 g2 rl W h1 h2 (by unfold maxLen; omega))
  clear HP HQ hr
  have HV := Lib.hid (fun W h1 h2 => tvalue_any b d t u s B C l.length e xs.length f l xs W h1 hl h2 hm)
  rw [hv] at HV
  have HX := Lib.hid (fun W D h1 h2 => tvalue_any ub ud ut uu us A D k.length c 1 1 k [v] W h1 hk h2 (by unfold maxLen; omega))
  rw [hx] at HX
  have hwv : IntKind.i32.wrap v = v := rune_wrap h1 h2
  have HY := Lib.hid (fun W D g h1 h2 => tvalue_any rb rd rt ru rs D C rl.length g xs.length f rl xs W h1 (by unfold maxLen; omega) h2 hm)
  rw [hy] at HY
  clear hx hy
  clear hv
  have hd1 : decide (v < 0) = false := by simp; omega
  have hd2 : decide ((1114111 : Int) < v) = false := by simp; omega
  unfold maxLen at hk hl hm
  clear h h' hc hb0 hXU hXT
  obtain ⟨p0, p1, p2, p3, p4, p5⟩ := XU.out w0 (Below.refl w0.heap.size w0)
  obtain ⟨q0, q1, q2, q3, q4, q5⟩ := XT.out w0 (Below.refl w0.heap.size w0)
  go_enter Try.func5, Try.ntmps5
  go_wp2_with (fail)
  refine (HG1.out _).mono ?_
  rintro qq1 w1 ⟨rfl, hb1⟩
  clear p0 p1 p2 p3 p4 p5 q0 q1 q2 q3 q4 q5
  have HB_w0_w1 := Lib.hid (below_next (Below.refl w0.heap.size w0) hb1)
  clear hb1
  obtain ⟨p0, p1, p2, p3, p4, p5⟩ := XU.out w1 HB_w0_w1.out
  obtain ⟨q0, q1, q2, q3, q4, q5⟩ := XT.out w1 HB_w0_w1.out
  go_wp2_with (fail)
  refine (HG2.out _).mono ?_
  rintro qq2 w2 ⟨rfl, hb2⟩
  clear p0 p1 p2 p3 p4 p5 q0 q1 q2 q3 q4 q5
  have HB_w0_w2 := Lib.hid (below_next HB_w0_w1.out hb2)
  clear hb2
  obtain ⟨p0, p1, p2, p3, p4, p5⟩ := XU.out w2 HB_w0_w2.out
  obtain ⟨q0, q1, q2, q3, q4, q5⟩ := XT.out w2 HB_w0_w2.out
  go_wp2_with (fail)
  refine (HP2.out _ (H.out.belowM HB_w0_w2.out) (H'.out.belowM HB_w0_w2.out)).mono ?_
  rintro qq3 w3 ⟨A3, c3, rfl, hr3, hb3⟩
  clear p0 p1 p2 p3 p4 p5 q0 q1 q2 q3 q4 q5
  have HB_w0_w3 := Lib.hid (below_next HB_w0_w2.out hb3)
  clear hb3
  obtain ⟨wa, hwa⟩ : ∃ wa, w3.alloc (.cells (tcells rb rd rt ru rs A3 rl.length c3) 24) = wa := ⟨_, rfl⟩
  have h2wa : Below w3.heap.size w3 wa := by rw [← hwa]; exact (Below.refl _ _).alloc (Nat.le_refl _) _
  have hswa : wa.heap.size = w3.heap.size + 1 := by rw [← hwa]; simp
  have HB_w0_wa := Lib.hid (below_next HB_w0_w3.out h2wa)
  have X1 := Lib.hid (fun W (hb : Below wa.heap.size wa W) => show Boxed6 W w3.heap.size rb rd rt ru rs A3 rl.length c3 from by rw [← hwa] at hb; exact boxed6 hb)
  have R1 := Lib.hid (hr3.belowM h2wa)
  clear hr3 h2wa
  obtain ⟨p0, p1, p2, p3, p4, p5⟩ := XU.out wa HB_w0_wa.out
  obtain ⟨q0, q1, q2, q3, q4, q5⟩ := XT.out wa HB_w0_wa.out
  go_wp2_with (fail)
  refine (HQ2.out _ (H.out.belowM HB_w0_wa.out) (H'.out.belowM HB_w0_wa.out)).mono ?_
  rintro qq4 w4 ⟨A4, c4, rfl, hr4, hb4⟩
  clear p0 p1 p2 p3 p4 p5 q0 q1 q2 q3 q4 q5
  have HB_w0_w4 := Lib.hid (below_next HB_w0_wa.out hb4)
  have HB_wa_w4 := Lib.hid (below_next (Below.refl wa.heap.size wa) hb4)
  clear hb4
  obtain ⟨wb, hwb⟩ : ∃ wb, w4.alloc (.cells (tcells rb rd rt ru rs A4 rl.length c4) 24) = wb := ⟨_, rfl⟩
  have h2wb : Below w4.heap.size w4 wb := by rw [← hwb]; exact (Below.refl _ _).alloc (Nat.le_refl _) _
  have hswb : wb.heap.size = w4.heap.size + 1 := by rw [← hwb]; simp
  have HB_w0_wb := Lib.hid (below_next HB_w0_w4.out h2wb)
  have HB_wa_wb := Lib.hid (below_next HB_wa_w4.out h2wb)
  have X2 := Lib.hid (fun W (hb : Below wb.heap.size wb W) => show Boxed6 W w4.heap.size rb rd rt ru rs A4 rl.length c4 from by rw [← hwb] at hb; exact boxed6 hb)
  have R2 := Lib.hid (hr4.belowM h2wb)
  clear hr4 h2wb
  obtain ⟨x0, x1, x2, x3, x4, x5⟩ := X1.out wb HB_wa_wb.out
  obtain ⟨y0, y1, y2, y3, y4, y5⟩ := X2.out wb (Below.refl wb.heap.size wb)
  go_wp2_with (fail)
  refine (HSM.out _ A3 A4 c3 c4 (R1.out.belowM HB_wa_wb.out) (R2.out.belowM (Below.refl wb.heap.size wb))).mono ?_
  rintro qq5 w5 ⟨rfl, hb5⟩
  clear x0 x1 x2 x3 x4 x5 y0 y1 y2 y3 y4 y5
  have HB_w0_w5 := Lib.hid (below_next HB_w0_wb.out hb5)
  have HB_wa_w5 := Lib.hid (below_next HB_wa_wb.out hb5)
  have HB_wb_w5 := Lib.hid (below_next (Below.refl wb.heap.size wb) hb5)
  clear hb5
  obtain ⟨p0, p1, p2, p3, p4, p5⟩ := XU.out w5 HB_w0_w5.out
  obtain ⟨q0, q1, q2, q3, q4, q5⟩ := XT.out w5 HB_w0_w5.out
  go_wp2_with (fail)
  refine (HV.out _ (H'.out.belowM HB_w0_w5.out) (HC.out.belowM HB_w0_w5.out)).mono ?_
  rintro qq6 w6 ⟨rfl, hb6⟩
  clear p0 p1 p2 p3 p4 p5 q0 q1 q2 q3 q4 q5
  have HB_w0_w6 := Lib.hid (below_next HB_w0_w5.out hb6)
  have HB_wa_w6 := Lib.hid (below_next HB_wa_w5.out hb6)
  have HB_wb_w6 := Lib.hid (below_next HB_wb_w5.out hb6)
  clear hb6
  obtain ⟨p0, p1, p2, p3, p4, p5⟩ := XU.out w6 HB_w0_w6.out
  obtain ⟨wc, hwc⟩ : ∃ wc, w6.alloc (.cells (#[.int .i32 v]) 21) = wc := ⟨_, rfl⟩
  have h2wc : Below w6.heap.size w6 wc := by rw [← hwc]; exact (Below.refl _ _).alloc (Nat.le_refl _) _
  have hswc : wc.heap.size = w6.heap.size + 1 := by rw [← hwc]; simp
  have HB_w0_wc := Lib.hid (below_next HB_w0_w6.out h2wc)
  have HB_wa_wc := Lib.hid (below_next HB_wa_w6.out h2wc)
  have HB_wb_wc := Lib.hid (below_next HB_wb_w6.out h2wc)
  have rv : RR wc wc.heap.size (some ⟨w6.heap.size, 0, none⟩) 1 [v] := rr_one (by rw [← hwc]; simp) (by omega) (by omega) (by omega)
  clear h2wc
  go_wp2_with (fail)
  refine (HX.out _ _ (H.out.belowM HB_w0_wc.out) rv).mono ?_
  rintro qq7 w7 ⟨rfl, hb7⟩
  clear p0 p1 p2 p3 p4 p5
  have HB_w0_w7 := Lib.hid (below_next HB_w0_wc.out hb7)
  have HB_wa_w7 := Lib.hid (below_next HB_wa_wc.out hb7)
  have HB_wb_w7 := Lib.hid (below_next HB_wb_wc.out hb7)
  have HB_wc_w7 := Lib.hid (below_next (Below.refl wc.heap.size wc) hb7)
  clear hb7
  obtain ⟨x0, x1, x2, x3, x4, x5⟩ := X1.out w7 HB_wa_w7.out
  go_wp2_with (fail)
  refine (HY.out _ A3 c3 (R1.out.belowM HB_wa_w7.out) (HC.out.belowM HB_w0_w7.out)).mono ?_
  rintro qq8 w8 ⟨rfl, hb8⟩
  clear x0 x1 x2 x3 x4 x5
  have HB_w0_w8 := Lib.hid (below_next HB_w0_w7.out hb8)
  have HB_wa_w8 := Lib.hid (below_next HB_wa_w7.out hb8)
  have HB_wb_w8 := Lib.hid (below_next HB_wb_w7.out hb8)
  have HB_wc_w8 := Lib.hid (below_next HB_wc_w7.out hb8)
  clear hb8
  go_wp2_with (fail)
  refine (tawake_any _).mono ?_
  rintro qq9 w9 ⟨rfl, hb9⟩
  have HB_w0_w9 := Lib.hid (below_next HB_w0_w8.out hb9)
  have HB_wa_w9 := Lib.hid (below_next HB_wa_w8.out hb9)
  have HB_wb_w9 := Lib.hid (below_next HB_wb_w8.out hb9)
  have HB_wc_w9 := Lib.hid (below_next HB_wc_w8.out hb9)
  clear hb9
  go_wp2_with (fail)
  go_ret
  exact ⟨rfl, below_next HB0.out HB_w0_w9.out⟩

theorem walk_TermPuts (ub ud ut uu us : Int) (A : Option Addr) (c : Nat) (k : List PT) (b d t u s : Int) (B : Option Addr) (e : Nat) (l : List PT) (C : Option Addr) (f : Nat) (xs : List Int) (w : World) (h : RP w w.heap.size A k.length k) (hk : k.length ≤ maxLen) (h' : RP w w.heap.size B l.length l) (hl : l.length ≤ maxLen) (hc : RR w w.heap.size C xs.length xs) (hm : xs.length ≤ maxLen) (hs : R64 s) :
    Calls Try.prog 5 #[trm ub ud ut uu us A k.length c, trm b d t u s B l.length e, .slice C xs.length f] w (RetB true w) := by
  by_cases g1 : 20 < k.length
  · exact puts_G1 ub ud ut uu us A c k b d t u s B e l C f xs w h hk h' hl hc hm g1
  by_cases g2 : 20 < l.length
  · exact puts_G2 ub ud ut uu us A c k b d t u s B e l C f xs w h hk h' hl hc hm g1 g2
  by_cases g3 : 100 < xs.length
  · exact puts_G3 ub ud ut uu us A c k b d t u s B e l C f xs w h hk h' hl hc hm g1 g2 g3
  have hp := put_value ⟨ub, ud, ut, uu, us, k, true⟩ ⟨b, d, t, u, s, l, true⟩ xs
  obtain ⟨⟨rb, rd, rt, ru, rs, rl, ok⟩, hr⟩ : ∃ r, putT ⟨ub, ud, ut, uu, us, k, true⟩ ⟨b, d, t, u, s, l, true⟩ = r := ⟨_, rfl⟩
  rw [hr] at hp
  dsimp only at hp
  obtain ⟨⟨v, one⟩, hv⟩ : ∃ q, valueT b d t u s l xs = q := ⟨_, rfl⟩
  cases ok
  · exact puts_M0 ub ud ut uu us A c k b d t u s B e l C f xs w h hk h' hl hc hm g1 g2 g3 rb rd rt ru rs rl hr v one hv
  cases one
  · exact puts_M1 ub ud ut uu us A c k b d t u s B e l C f xs w h hk h' hl hc hm g1 g2 g3 rb rd rt ru rs rl hr v hv
  by_cases h1 : v < 0
  · exact puts_M2 ub ud ut uu us A c k b d t u s B e l C f xs w h hk h' hl hc hm g1 g2 g3 rb rd rt ru rs rl hr v hv h1
  by_cases h2 : 1114111 < v
  · exact puts_M3 ub ud ut uu us A c k b d t u s B e l C f xs w h hk h' hl hc hm g1 g2 g3 rb rd rt ru rs rl hr v hv (by omega) h2
  obtain ⟨⟨x, two⟩, hx⟩ : ∃ q, valueT ub ud ut uu us k [v] = q := ⟨_, rfl⟩
  cases two
  · obtain ⟨⟨y, three⟩, hy⟩ : ∃ q, valueT rb rd rt ru rs rl xs = q := ⟨_, rfl⟩
    exact puts_M4 ub ud ut uu us A c k b d t u s B e l C f xs w h hk h' hl hc hm g1 g2 g3 rb rd rt ru rs rl hr v hv (by omega) (by omega) x hx y three hy
  · exact puts_M5 ub ud ut uu us A c k b d t u s B e l C f xs w h hk h' hl hc hm g1 g2 g3 rb rd rt ru rs rl hr v hv (by omega) (by omega) x hx (hp v x hs rfl hv ⟨by omega, by omega⟩ hx)
end Go.Proofs.Ytmcgapejebceoaa.Te
