/- The walk of (*pack.writer).terms. -/
import Derived.Test.YtgmkchkaceciiaaPkWrite
namespace Go.Proofs.Ytgmkchkaceciiaa.Pk
set_option maxRecDepth 100000
open Go Go.RowKit Go.Proofs.Ytgmkchkaceciiaa.Sp Go.Proofs.Ytgmkchkaceciiaa.Pa Go.Proofs.Ytgmkchkaceciiaa.Te Go.Proofs.Ytgmkchkaceciiaa.Mi Go.Proofs.Ytgmkchkaceciiaa.De Go.Proofs.Ytgmkchkaceciiaa.Wo

def WtRel (x bs : Nat) (v : Value) (wide : Bool) (L : List Nat) (ts : List TmL) (w : World) (iv : Value) (wr : World) : Prop := ∃ k : Nat, k ≤ ts.length ∧ iv = .int .i64 k ∧ WRel x bs v wide L ((ts.length : Int) :: (ts.take k).flatMap termI) w wr
def WpRel (x bs : Nat) (v : Value) (wide : Bool) (L : List Nat) (t : TmL) (w : World) (iv : Value) (wr : World) : Prop := ∃ k : Nat, k ≤ t.ps.length ∧ iv = .int .i64 k ∧ WRel x bs v wide L ([t.b, t.d, t.t, t.u, t.s, (t.ps.length : Int)] ++ (t.ps.take k).flatMap partI) w wr
theorem flat_len (l : List PT) : (l.flatMap partI).length = 4 * l.length := by
  induction l with
  | nil => rfl
  | cons a l ih => rw [List.flatMap_cons, List.length_append, ih, List.length_cons]; show 4 + 4 * l.length = _; omega
theorem termI_len (t : TmL) : (termI t).length = 6 + 4 * t.ps.length := by unfold termI; rw [List.length_append, flat_len]; rfl
theorem flatT_take (ts : List TmL) (k : Nat) : ((ts.take k).flatMap termI).length ≤ (ts.flatMap termI).length := by
  have h := List.take_append_drop k ts
  have h2 : ts.flatMap termI = (ts.take k).flatMap termI ++ (ts.drop k).flatMap termI := by rw [← List.flatMap_append, h]
  rw [h2, List.length_append]
  omega
theorem flatT_next {ts : List TmL} {k : Nat} (h : k < ts.length) : ((ts.take k).flatMap termI).length + (termI ts[k]).length ≤ (ts.flatMap termI).length := by
  have := flatT_take ts (k + 1)
  rw [List.take_succ_eq_append_getElem h, List.flatMap_append, List.length_append] at this
  simpa using this
theorem flatT_count (ts : List TmL) : 6 * ts.length ≤ (ts.flatMap termI).length := by
  induction ts with
  | nil => exact Nat.zero_le _
  | cons t ts ih => rw [List.flatMap_cons, List.length_append, termI_len, List.length_cons]; omega
set_option maxHeartbeats 8000000 in
theorem wterms_any (x bs : Nat) (v : Value) (wide : Bool) (L : List Nat) (A : Option Addr) (c : Nat) (ts : List TmL) (w0 w : World) (h : WrS x bs v wide L w) (hr : RTm w0 A ts.length ts) (hb : Below w0.heap.size w0 w) (hx : w0.heap.size ≤ x) (hbs : w0.heap.size ≤ bs) (hL : L.length + 4 * (termsI ts).length ≤ 1099511627776) :
    Calls Try.prog 83 #[.pointer (some ⟨x, 0, none⟩), .slice A ts.length c] w (WOut x bs v wide L (termsI ts) w) := by
  have htl := flatT_count ts
  have hL1 : L.length + 4 * ((ts.flatMap termI).length + 1) ≤ 1099511627776 := hL
  have hlw := h.lt
  have hts : ts.length ≤ 1099511627776 := by omega
  have HW := Lib.hid h
  have HR := Lib.hid hr
  have HB := Lib.hid hb
  have HFL := Lib.hid (fun k (hk : k < ts.length) => flatT_next hk)
  have HFT := Lib.hid (fun k => flatT_take ts k)
  obtain ⟨ws, hws⟩ : ∃ ws, w.alloc (.cells #[.int .i64 (ts.length : Int)] 3) = ws := ⟨_, rfl⟩
  have HC0 := Lib.hid (num_new [(ts.length : Int)] h hws (by simp; omega))
  clear h hr hb hL
  go_enter Try.func83, Try.ntmps83
  go_wp2_with (fail)
  refine HC0.out.mono ?_
  rintro e w1 ⟨rfl, hr1⟩
  have HR1 := Lib.hid hr1
  clear hr1 hws
  go_wp2_with (fail)
  go_loopw [15] (fun iv wr => WtRel x bs v wide L ts w iv wr) (fun i _ => ts.length - (intOf i).toNat)
  case atStart => exact ⟨0, Nat.zero_le _, rfl, by simpa using HR1.out⟩
  case round =>
    obtain ⟨k, hk, rfl, hrel⟩ := hrel
    obtain ⟨wo, rfl⟩ : ∃ wo : World, wo = wr := ⟨_, rfl⟩
    by_cases hlt : k < ts.length
    case neg =>
      have HF := Lib.hid (show WOut x bs v wide L (termsI ts) w (.returned (.tuple #[])) wo from ⟨rfl, by rw [List.take_of_length_le (by omega)] at hrel; exact hrel⟩)
      clear hrel
      go_wp2_with (fail)
      go_end0
      exact HF.out
    obtain ⟨v1, s1, k1, o1⟩ := hrel
    have hlow : Below w0.heap.size w0 wo := HB.out.trans (k1.low HW.out hx hbs)
    obtain ⟨b, off, hA, hbB, d0, d1, d2, d3, d4, A', c', d5, hp, hc, hm⟩ := HR.out.at_ hlt
    have hbo : b < wo.heap.size := by have := hlow.size; omega
    have hfk := HFL.out k hlt
    rw [termI_len] at hfk
    obtain ⟨t, ht⟩ : ∃ t, ts[k] = t := ⟨_, rfl⟩
    have HTK := Lib.hid (show (ts.take (k + 1)).flatMap termI = (ts.take k).flatMap termI ++ termI t by rw [List.take_succ_eq_append_getElem hlt, List.flatMap_append, ht]; simp)
    rw [ht] at d0 d1 d2 d3 d4 d5 hp hc hm hfk
    have d0 := (hlow.cell hbB).trans d0
    have d1 := (hlow.cell hbB).trans d1
    have d2 := (hlow.cell hbB).trans d2
    have d3 := (hlow.cell hbB).trans d3
    have d4 := (hlow.cell hbB).trans d4
    have d5 := (hlow.cell hbB).trans d5
    have HP := Lib.hid hp
    obtain ⟨w5, hw5⟩ : ∃ w5, wo.alloc (.cells (tcells t.b t.d t.t t.u t.s A' t.ps.length c') 114) = w5 := ⟨_, rfl⟩
    have hs5 : w5.heap.size = wo.heap.size + 1 := by rw [← hw5]; simp
    have hb5 : Below wo.heap.size wo w5 := by rw [← hw5]; exact (Below.refl _ _).alloc (Nat.le_refl _) _
    have HBX := Lib.hid (fun W (h : W.heap[wo.heap.size]? = w5.heap[wo.heap.size]?) => show Boxed6 W wo.heap.size t.b t.d t.t t.u t.s A' t.ps.length c' from by
      have e : ∀ j, W.cell? ⟨wo.heap.size, j, none⟩ = w5.cell? ⟨wo.heap.size, j, none⟩ := fun j => World.cell?_of_block h
      have h5 : w5.heap[wo.heap.size]? = some (.cells (tcells t.b t.d t.t t.u t.s A' t.ps.length c') 114 (0, 0)) := by rw [← hw5]; exact heap_alloc_new wo _
      unfold Boxed6
      simp only [e, cell_of_row w5 wo.heap.size _ _ _ _ h5]
      exact ⟨rfl, rfl, rfl, rfl, rfl, rfl⟩)
    obtain ⟨ws5, hws5⟩ : ∃ ws5, w5.alloc (.cells #[.int .i64 t.b, .int .i64 t.d, .int .i64 t.t, .int .i64 t.u, .int .i64 t.s, .int .i64 (t.ps.length : Int)] 3) = ws5 := ⟨_, rfl⟩
    have s5 := s1.keep hb5
    have hx1 := s1.lt
    have hno : ∀ g, v1.ownBlock = some g → g < wo.heap.size := fun g e => (s1.row.lt g e).2
    have HNO := Lib.hid hno
    have hml : (L ++ numsB ((ts.length : Int) :: (ts.take k).flatMap termI)).length = L.length + 4 * (((ts.take k).flatMap termI).length + 1) := by rw [List.length_append, numsB_length, List.length_cons]
    have hL2 : (L ++ numsB ((ts.length : Int) :: (ts.take k).flatMap termI)).length + 4 * (6 + 4 * t.ps.length) ≤ 1099511627776 := by rw [hml]; omega
    obtain ⟨M, hM⟩ : ∃ M, L ++ numsB ((ts.length : Int) :: (ts.take k).flatMap termI) = M := ⟨_, rfl⟩
    obtain ⟨wd, hwd⟩ : ∃ wd, (wide || wideB ((ts.length : Int) :: (ts.take k).flatMap termI)) = wd := ⟨_, rfl⟩
    have HTHEN := Lib.hid (fun w2 (hh : WRel x bs v1 wd M (termI t) wo w2) => show WtRel x bs v wide L ts w (.int .i64 ((k : Int) + 1)) w2 from ⟨k + 1, by omega, by go_num, by
      rw [HTK.out, ← List.cons_append]
      exact WRel.then k1 o1 (by rw [hM, hwd]; exact hh)⟩)
    rw [hM, hwd] at s5 s1
    rw [hM] at hL2
    have HS1 := Lib.hid s1
    have hc5 := num_new [t.b, t.d, t.t, t.u, t.s, (t.ps.length : Int)] s5 hws5 (by simp; omega)
    rw [hs5] at hc5
    have HC5 := Lib.hid hc5
    clear hc5
    have HB5 := Lib.hid hb5
    have HLO := Lib.hid hlow
    obtain ⟨r0, r1, r2, r3, r4, r5⟩ := HBX.out w5 rfl
    rw [hA]
    have HML := Lib.hid hm
    unfold maxLen at hm
    have HL2 := Lib.hid hL2
    have HFK := Lib.hid hfk
    have HL1 := Lib.hid hL1
    clear hA ht hp hc s1 k1 o1 hlow hml hM hwd hb5 s5 hno hL2 hfk hL1
    go_wp2_with (fail)
    refine HC5.out.mono ?_
    rintro e w6 ⟨rfl, hr6⟩
    obtain ⟨v6, s6, k6, o6⟩ := hr6
    have HR6 := Lib.hid (show WRel x bs v1 wd M ([t.b, t.d, t.t, t.u, t.s, (t.ps.length : Int)] ++ []) wo w6 from by
      rw [List.append_nil]
      exact WRel.pre HB5.out ⟨v6, s6, k6, o6⟩)
    have hq6 : w6.heap[wo.heap.size]? = w5.heap[wo.heap.size]? := k6.block _ (by omega) (by omega) (fun e => by have := HNO.out _ e; omega)
    obtain ⟨q0, q1, q2, q3, q4, q5⟩ := HBX.out w6 hq6
    clear s6 k6 o6 hq6 hws5 r0 r1 r2 r3 r4 r5 d0 d1 d2 d3 d4 d5
    go_wp2_with (fail)
    go_loopw [38] (fun iv wr => WpRel x bs v1 wd M t wo iv wr) (fun i _ => t.ps.length - (intOf i).toNat)
    case atStart => exact ⟨0, Nat.zero_le _, rfl, by simpa using HR6.out⟩
    case round =>
      obtain ⟨j, hj, rfl, hrel⟩ := hrel
      by_cases hlt2 : j < t.ps.length
      case neg =>
        have HF := Lib.hid (HTHEN.out wr (by rw [List.take_of_length_le (by omega)] at hrel; exact hrel))
        clear hrel
        go_wp2_with (fail)
        go_roundw
        case rel => exact HF.out
        case measure => simp [intOf]; omega
      obtain ⟨v7, s7, k7, o7⟩ := hrel
      have hlow7 : Below w0.heap.size w0 wr := HLO.out.trans (k7.low HS1.out hx hbs)
      obtain ⟨b7, off7, pa, pd, pt, pu, hA7, hb7, hlk, c70, c71, c72, c73⟩ := (HP.out.below hlow7).at_ hlt2
      subst hA7
      obtain ⟨hlj, hej⟩ := hlk
      have HPK := Lib.hid (show (t.ps.take (j + 1)).flatMap partI = (t.ps.take j).flatMap partI ++ [pa, pd, pt, pu] by rw [List.take_succ_eq_append_getElem hlj, List.flatMap_append, hej]; simp [partI])
      obtain ⟨w8, hw8⟩ : ∃ w8, wr.alloc (.cells #[.int .i64 pa, .int .i64 pd, .int .i64 pt, .int .i64 pu] 120) = w8 := ⟨_, rfl⟩
      have hs8 : w8.heap.size = wr.heap.size + 1 := by rw [← hw8]; simp
      have hb8 : Below wr.heap.size wr w8 := by rw [← hw8]; exact (Below.refl _ _).alloc (Nat.le_refl _) _
      have z0 : w8.cell? ⟨wr.heap.size, 0, none⟩ = some (.int .i64 pa) := by rw [← hw8]; simp
      have z1 : w8.cell? ⟨wr.heap.size, 1, none⟩ = some (.int .i64 pd) := by rw [← hw8]; simp
      have z2 : w8.cell? ⟨wr.heap.size, 2, none⟩ = some (.int .i64 pt) := by rw [← hw8]; simp
      have z3 : w8.cell? ⟨wr.heap.size, 3, none⟩ = some (.int .i64 pu) := by rw [← hw8]; simp
      obtain ⟨ws8, hws8⟩ : ∃ ws8, w8.alloc (.cells #[.int .i64 pa, .int .i64 pd, .int .i64 pt, .int .i64 pu] 3) = ws8 := ⟨_, rfl⟩
      have hl8 : (M ++ numsB ([t.b, t.d, t.t, t.u, t.s, (t.ps.length : Int)] ++ (t.ps.take j).flatMap partI)).length + 4 * 4 ≤ 1099511627776 := by
        have hL2 := HL2.out
        rw [List.length_append, numsB_length, List.length_append, flat_len, List.length_take]
        simp
        omega
      have hc8 := num_new [pa, pd, pt, pu] (s7.keep hb8) hws8 hl8
      rw [hs8] at hc8
      have HC8 := Lib.hid hc8
      clear hc8
      have HTH := Lib.hid (fun w2 (hh : WRel x bs v7 (wd || wideB ([t.b, t.d, t.t, t.u, t.s, (t.ps.length : Int)] ++ (t.ps.take j).flatMap partI)) (M ++ numsB ([t.b, t.d, t.t, t.u, t.s, (t.ps.length : Int)] ++ (t.ps.take j).flatMap partI)) [pa, pd, pt, pu] w8 w2) => show WpRel x bs v1 wd M t wo (.int .i64 ((j : Int) + 1)) w2 from ⟨j + 1, by omega, by go_num, by
        rw [HPK.out, ← List.append_assoc]
        exact WRel.then k7 o7 (hh.pre hb8)⟩)
      have hb7r : b7 < wr.heap.size := by have := hlow7.size; omega
      clear s7 k7 o7 hlow7 hej hb8 hl8 q0 q1 q2 q3 q4 q5
      go_wp2_with (fail)
      refine HC8.out.mono ?_
      rintro e w9 ⟨rfl, hr9⟩
      have HR9 := Lib.hid (HTH.out w9 hr9)
      clear hr9 hws8
      go_wp2_with (fail)
      go_roundw
      case rel => exact HR9.out
      case measure => simp [intOf]; omega
end Go.Proofs.Ytgmkchkaceciiaa.Pk
