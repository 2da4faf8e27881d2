/- The walks of the small functions of terms, the program's and the document's: small, known, symbol, outer, plain, all. -/
import Derived.Test.YtgmkchkaceciiaaTeBase
namespace Go.Proofs.Ytgmkchkaceciiaa.Te
set_option maxRecDepth 100000
open Go Go.RowKit Go.Proofs.Ytgmkchkaceciiaa.Sp Go.Proofs.Ytgmkchkaceciiaa.Pa

attribute [local go_sem] part_guard part_eq
theorem small_any (x : Int) (w : World) : Calls Try.prog 137 #[.int .i64 x] w (RetW (.bool (decide (Sm x))) w) := by
  by_cases h1 : -1114111 ≤ x
  · by_cases h2 : x ≤ 1114111
    · rw [decide_eq_true (show Sm x from ⟨h1, h2⟩)]
      go_enter Try.func137, Try.ntmps137
      go_wp2_with (fail)
      go_ret
      exact ⟨rfl, rfl⟩
    · rw [decide_eq_false (show ¬ Sm x from fun h => h2 h.2)]
      go_enter Try.func137, Try.ntmps137
      go_wp2_with (fail)
      go_ret
      exact ⟨rfl, rfl⟩
  · rw [decide_eq_false (show ¬ Sm x from fun h => h1 h.1)]
    go_enter Try.func137, Try.ntmps137
    go_wp2_with (fail)
    go_ret
    exact ⟨rfl, rfl⟩
theorem rsmall_any (x : Int) (w : World) : Calls Try.prog 134 #[.int .i64 x] w (RetW (.bool (decide (Sm x))) w) := by
  by_cases h1 : -1114111 ≤ x
  · by_cases h2 : x ≤ 1114111
    · rw [decide_eq_true (show Sm x from ⟨h1, h2⟩)]
      go_enter Try.func134, Try.ntmps134
      go_wp2_with (fail)
      go_ret
      exact ⟨rfl, rfl⟩
    · rw [decide_eq_false (show ¬ Sm x from fun h => h2 h.2)]
      go_enter Try.func134, Try.ntmps134
      go_wp2_with (fail)
      go_ret
      exact ⟨rfl, rfl⟩
  · rw [decide_eq_false (show ¬ Sm x from fun h => h1 h.1)]
    go_enter Try.func134, Try.ntmps134
    go_wp2_with (fail)
    go_ret
    exact ⟨rfl, rfl⟩
theorem outer_any (b d t u s : Int) (A : Option Addr) (n c : Nat) (w : World) : Calls Try.prog 139 #[trm b d t u s A n c] w (RetP 0 d t u w) := by
  go_enter Try.func139, Try.ntmps139
  go_wp2_with (fail)
  exact bodyPost_ret (v := prt 0 d t u) (by simp [results, Try.results139, go_sem]) rfl ⟨rfl, (((Below.refl _ _).alloc (Nat.le_refl _) _).alloc (by simp) _)⟩
theorem router_any (b d t u s : Int) (A : Option Addr) (n c : Nat) (w : World) : Calls Try.prog 136 #[trm b d t u s A n c] w (RetP 0 d t u w) := by
  go_enter Try.func136, Try.ntmps136
  go_wp2_with (fail)
  exact bodyPost_ret (v := prt 0 d t u) (by simp [results, Try.results136, go_sem]) rfl ⟨rfl, (((Below.refl _ _).alloc (Nat.le_refl _) _).alloc (by simp) _)⟩
theorem known_any (x : Int) (w : World) : Calls Try.prog 125 #[.int .i64 x] w (RetW (.bool (decide (x = 1 ∨ x = 2))) w) := by
  by_cases h1 : x = 1
  · subst h1
    rw [decide_eq_true (by omega)]
    go_enter Try.func125, Try.ntmps125
    go_wp2_with (fail)
    go_ret
    exact ⟨rfl, rfl⟩
  · have h1' : (x == 1) = false := by simpa using h1
    by_cases h2 : x = 2
    · subst h2
      rw [decide_eq_true (by omega)]
      go_enter Try.func125, Try.ntmps125
      go_wp2_with (fail)
      go_ret
      exact ⟨rfl, rfl⟩
    · have h2' : (x == 2) = false := by simpa using h2
      rw [decide_eq_false (by omega)]
      go_enter Try.func125, Try.ntmps125
      go_wp2_with (fail)
      go_ret
      exact ⟨rfl, rfl⟩
theorem all_any (a d t u : Int) (w : World) : Calls Try.prog 123 #[prt a d t u] w (RetB (takesAll (a, d, t, u)) w) := by
  unfold takesAll
  by_cases h1 : d = 0
  · subst h1
    by_cases h2 : t = 21
    · subst h2
      go_enter Try.func123, Try.ntmps123
      go_wp2_with (fail)
      go_ret
      exact ⟨rfl, (Below.refl _ _).alloc (Nat.le_refl _) _⟩
    · have h2' : (t == 21) = false := by simpa using h2
      go_enter Try.func123, Try.ntmps123
      go_wp2_with (fail)
      go_ret
      exact ⟨ret_bool (by simp [h2]), (Below.refl _ _).alloc (Nat.le_refl _) _⟩
  · have h1' : (d == 0) = false := by simpa using h1
    go_enter Try.func123, Try.ntmps123
    go_wp2_with (fail)
    go_ret
    exact ⟨ret_bool (by simp [h1]), (Below.refl _ _).alloc (Nat.le_refl _) _⟩
theorem tplain_any (b d t u s : Int) (A : Option Addr) (n c : Nat) (w : World) : Calls Try.prog 129 #[trm b d t u s A n c] w (RetB (plainT b d t u) w) := by
  have HO := Lib.hid (outer_any b d t u s A n c)
  have HW := Lib.hid (whole_any 0)
  unfold plainT
  by_cases h1 : b = 0
  · subst h1
    go_enter Try.func129, Try.ntmps129
    go_wp2_with (fail)
    refine (HO.out _).mono ?_
    rintro e w1 ⟨rfl, hb1⟩
    go_wp2_with (fail)
    refine (HW.out _).mono ?_
    rintro e w2 ⟨rfl, hb2⟩
    go_wp2_with (fail)
    all_goals go_ret
    all_goals exact ⟨ret_bool (by simp_all), ((Below.refl _ _).alloc (Nat.le_refl _) _).trans ((hb1.trans (hb2.mono hb1.size)).mono (by simp))⟩
  · have h1' : (b == 0) = false := by simpa using h1
    go_enter Try.func129, Try.ntmps129
    go_wp2_with (fail)
    go_ret
    exact ⟨ret_bool (by simp [h1]), (Below.refl _ _).alloc (Nat.le_refl _) _⟩
theorem rplain_any (b d t u s : Int) (A : Option Addr) (n c : Nat) (w : World) : Calls Try.prog 124 #[trm b d t u s A n c] w (RetB (plainT b d t u) w) := by
  have HO := Lib.hid (router_any b d t u s A n c)
  have HA := Lib.hid (all_any 0 d t u)
  unfold plainT
  by_cases h1 : b = 0
  · subst h1
    go_enter Try.func124, Try.ntmps124
    go_wp2_with (fail)
    refine (HO.out _).mono ?_
    rintro e w1 ⟨rfl, hb1⟩
    go_wp2_with (fail)
    refine (HA.out _).mono ?_
    rintro e w2 ⟨rfl, hb2⟩
    go_wp2_with (fail)
    go_ret
    exact ⟨ret_bool (by simp [takesAll]), ((Below.refl _ _).alloc (Nat.le_refl _) _).trans ((hb1.trans (hb2.mono hb1.size)).mono (by simp))⟩
  · have h1' : (b == 0) = false := by simpa using h1
    go_enter Try.func124, Try.ntmps124
    go_wp2_with (fail)
    go_ret
    exact ⟨ret_bool (by simp [h1]), (Below.refl _ _).alloc (Nat.le_refl _) _⟩

/-- The loop over the parts: as far as k all are right. -/
def AllR (n : Int) (l : List PT) (k : Nat) : Prop := ∀ q ∈ l.take k, rightB q.1 q.2.1 q.2.2.1 q.2.2.2 n = true
theorem allR_next {n : Int} {l : List PT} {k : Nat} {a d t u : Int} (h : AllR n l k) (hk : ∃ hl : k < l.length, l[k] = (a, d, t, u)) (hr : rightB a d t u n = true) : AllR n l (k + 1) := by
  obtain ⟨hl, e⟩ := hk
  intro q hq
  rw [List.take_succ_eq_append_getElem hl, List.mem_append] at hq
  rcases hq with hq | hq
  · exact h q hq
  · rw [List.mem_singleton, e] at hq
    subst hq
    exact hr
def partsB (n : Int) (l : List PT) : Bool := l.all fun q => rightB q.1 q.2.1 q.2.2.1 q.2.2.2 n
theorem partsB_true {n : Int} {l : List PT} (h : AllR n l l.length) : partsB n l = true := by
  unfold partsB
  rw [List.all_eq_true]
  intro q hq
  exact h q (by rw [List.take_length]; exact hq)
theorem partsB_false {n : Int} {l : List PT} {k : Nat} {a d t u : Int} (hk : ∃ hl : k < l.length, l[k] = (a, d, t, u)) (hr : rightB a d t u n = false) : partsB n l = false := by
  obtain ⟨hl, e⟩ := hk
  unfold partsB
  rw [Bool.eq_false_iff]
  intro h
  have := (List.all_eq_true.1 h) l[k] (List.getElem_mem hl)
  rw [e] at this
  simp only at this
  rw [hr] at this
  cases this
def PRel (n : Int) (l : List PT) (B : Nat) (w2 : World) (i : Value) (wr : World) : Prop :=
  ∃ k : Nat, k ≤ l.length ∧ i = .int .i64 k ∧ AllR n l k ∧ Below B w2 wr
set_option maxHeartbeats 2000000 in
theorem tparts_any (b d t u s : Int) (A : Option Addr) (n c : Nat) (l : List PT) (m : Int) (w : World) (h : RP w w.heap.size A n l) (hn : n ≤ maxLen) :
    Calls Try.prog 127 #[trm b d t u s A n c, .int .i64 m] w (RetB (partsB m l) w) := by
  unfold maxLen at hn
  have hlen := h.1
  subst hlen
  have hbw : Below w.heap.size w (w.alloc (.cells (tcells b d t u s A l.length c) 114)) := (Below.refl _ w).alloc (Nat.le_refl _) _
  obtain ⟨w0, hw0⟩ : ∃ w0, w.alloc (.cells (tcells b d t u s A l.length c) 114) = w0 := ⟨_, rfl⟩
  have X6 := Lib.hid (fun W (hb : Below w0.heap.size w0 W) => show Boxed6 W w.heap.size b d t u s A l.length c from by rw [← hw0] at hb; exact boxed6 hb)
  rw [hw0] at hbw
  have HW := Lib.hid hbw
  have H := Lib.hid (h.belowM hbw)
  obtain ⟨r0, r1, r2, r3, r4, r5⟩ := X6.out w0 (Below.refl _ _)
  clear h hbw
  go_enter Try.func127, Try.ntmps127
  go_wp2_with (fail)
  go_loopw [10] (fun i wr => PRel m l w0.heap.size w0 i wr) (fun i _ => l.length - (intOf i).toNat)
  case atStart => exact ⟨0, Nat.zero_le _, rfl, fun q hq => by simp at hq, Below.refl _ _⟩
  case round =>
    obtain ⟨k, hk, rfl, hA, hb⟩ := hrel
    have HA := Lib.hid hA
    have HB := Lib.hid hb
    have hz := hb.size
    by_cases hlt : k < l.length
    · obtain ⟨bb, off, a', d', t', u', hA', hbB, hlk, c1, c2, c3, c4⟩ := (H.out.below hb).at_ hlt
      have HLK := Lib.hid hlk
      have HR := Lib.hid (right_any a' d' t' u' m)
      subst hA'
      clear hA hb hlk r0 r1 r2 r3 r4 r5
      rcases hr : rightB a' d' t' u' m with _ | _
      · rw [hr] at HR
        have HRR := Lib.hid hr
        clear hr
        go_wp2_with (fail)
        refine (HR.out _).mono ?_
        rintro e w2 ⟨rfl, hb2⟩
        go_wp2_with (fail)
        go_ret
        exact ⟨ret_bool (partsB_false HLK.out HRR.out).symm, HW.out.trans ((HB.out.trans (((Below.refl _ _).alloc (Nat.le_refl _) _ |>.trans (hb2.mono (by simp))).mono hz)).mono HW.out.size)⟩
      · rw [hr] at HR
        have HRR := Lib.hid hr
        clear hr
        go_wp2_with (fail)
        refine (HR.out _).mono ?_
        rintro e w2 ⟨rfl, hb2⟩
        go_wp2_with (fail)
        go_roundw
        case rel => exact ⟨k + 1, by omega, by go_num, allR_next HA.out HLK.out HRR.out, HB.out.trans (((Below.refl _ _).alloc (Nat.le_refl _) _ |>.trans (hb2.mono (by simp))).mono hz)⟩
        case measure => simp [intOf]; omega
    · have hkl : k = l.length := by omega
      subst hkl
      go_wp2_with (fail)
      go_ret
      exact ⟨ret_bool (partsB_true HA.out).symm, HW.out.trans (HB.out.mono HW.out.size)⟩
end Go.Proofs.Ytgmkchkaceciiaa.Te
