/- The walk of term.asked. -/
import Derived.Test.YtmcgapejebceoaaTeHit
namespace Go.Proofs.Ytmcgapejebceoaa.Te
set_option maxRecDepth 100000
open Go Go.RowKit Go.Proofs.Ytmcgapejebceoaa.Sp Go.Proofs.Ytmcgapejebceoaa.Pa

structure TM where
  b : Int
  d : Int
  t : Int
  u : Int
  s : Int
  A : Option Addr
  c : Nat
  l : List PT
/-- Terms in a row, in a world. -/
def RTs (w : World) (g off : Nat) (ts : List TM) : Prop := ∀ (j : Nat) (h : j < ts.length), w.cell? ⟨g, off + j * 6, none⟩ = some (.int .i64 ts[j].b) ∧ w.cell? ⟨g, off + j * 6 + 1, none⟩ = some (.int .i64 ts[j].d) ∧ w.cell? ⟨g, off + j * 6 + 2, none⟩ = some (.int .i64 ts[j].t) ∧ w.cell? ⟨g, off + j * 6 + 3, none⟩ = some (.int .i64 ts[j].u) ∧ w.cell? ⟨g, off + j * 6 + 4, none⟩ = some (.int .i64 ts[j].s) ∧ w.cell? ⟨g, off + j * 6 + 5, none⟩ = some (.slice ts[j].A ts[j].l.length ts[j].c)
theorem RTs.below {w w' : World} {g off B : Nat} {ts : List TM} (h : RTs w g off ts) (hb : Below B w w') (hg : g < B) : RTs w' g off ts := fun j hj => by
  obtain ⟨h0, h1, h2, h3, h4, h5⟩ := h j hj
  exact ⟨(hb.cell hg).trans h0, (hb.cell hg).trans h1, (hb.cell hg).trans h2, (hb.cell hg).trans h3, (hb.cell hg).trans h4, (hb.cell hg).trans h5⟩
def okT (x : TM) : Prop := partsB 1 x.l = true ∧ Bits x.d x.t x.u
theorem right_outer (d t u : Int) : rightB 0 d t u 1 = decide (Bits d t u) := by
  unfold rightB
  by_cases h : Bits d t u
  · rw [decide_eq_true h, decide_eq_true ⟨by omega, by omega, h⟩]
  · rw [decide_eq_false h, decide_eq_false (fun q => h q.2.2)]
def KRel (ts : List TM) (w : World) (iv : Value) (wr : World) : Prop := ∃ k : Nat, k ≤ ts.length ∧ iv = .int .i64 k ∧ (∀ x ∈ ts.take k, okT x) ∧ Below w.heap.size w wr
set_option maxHeartbeats 4000000 in
theorem asked_any (As : Option Addr) (cs : Nat) (sl : List Span) (g off ct : Nat) (ts : List TM) (w : World) (hs : RS w w.heap.size As sl.length sl) (hcs : sl.length ≤ cs) (hsl : sl.length ≤ 1000000) (hts : RTs w g off ts) (hg : g < w.heap.size) (hn : ts.length ≤ 100) (hp : ∀ x ∈ ts, RP w w.heap.size x.A x.l.length x.l ∧ x.l.length ≤ maxLen) :
    Calls Try.prog 52 #[.slice As sl.length cs, .slice (some ⟨g, off, none⟩) ts.length ct] w (PlainOut (fun y => (∀ x ∈ ts, okT x) ∧ mem sl y ∧ mem [(0, 1114111)] y) w) := by
  have HTS := Lib.hid hts
  have HP := Lib.hid hp
  have HSS := Lib.hid hs
  clear hts hp hs
  go_enter Try.func52, Try.ntmps52
  go_wp2_with (fail)
  go_loopw [9] (fun i wr => KRel ts w i wr) (fun i _ => ts.length - (intOf i).toNat)
  case atStart => exact ⟨0, Nat.zero_le _, rfl, fun x hx => by simp at hx, Below.refl _ _⟩
  case round =>
    obtain ⟨k, hk, rfl, hok, hb⟩ := hrel
    have HOK := Lib.hid hok
    have HB := Lib.hid hb
    have hz := hb.size
    clear hok
    by_cases hlt : k < ts.length
    · obtain ⟨c0, c1, c2, c3, c4, c5⟩ := (HTS.out.below hb hg) k hlt
      obtain ⟨hrp, hml⟩ := HP.out _ (List.getElem_mem hlt)
      have HNX := Lib.hid (show okT ts[k] → ∀ x ∈ ts.take (k + 1), okT x from fun hq x hx => by
        rw [List.take_succ_eq_append_getElem hlt, List.mem_append] at hx
        rcases hx with hx | hx
        · exact HOK.out x hx
        · rw [List.mem_singleton] at hx
          subst hx
          exact hq)
      have HNO := Lib.hid (show ¬ okT ts[k] → ∀ y, ¬ ((∀ x ∈ ts, okT x) ∧ mem sl y ∧ mem [(0, 1114111)] y) from fun hq y hy => hq (hy.1 _ (List.getElem_mem hlt)))
      obtain ⟨⟨b, d, t, u, s, A, c, l⟩, hT⟩ : ∃ x, ts[k] = x := ⟨_, rfl⟩
      rw [hT] at c0 c1 c2 c3 c4 c5 hrp hml HNX HNO
      dsimp only at c0 c1 c2 c3 c4 c5 hrp hml
      obtain ⟨w5, hw5⟩ : ∃ w5, wr.alloc (.cells (tcells b d t u s A l.length c) 24) = w5 := ⟨_, rfl⟩
      have h5 : Below wr.heap.size wr w5 := by rw [← hw5]; exact (Below.refl _ _).alloc (Nat.le_refl _) _
      have X6 := Lib.hid (fun W (hb : Below w5.heap.size w5 W) => show Boxed6 W wr.heap.size b d t u s A l.length c from by rw [← hw5] at hb; exact boxed6 hb)
      obtain ⟨q0, q1, q2, q3, q4, q5⟩ := X6.out w5 (Below.refl _ _)
      have HTP := Lib.hid (tparts_any b d t u s A l.length c l 1 w5 (hrp.belowM (hb.trans (h5.mono hz))) hml)
      have H5 := Lib.hid h5
      clear hT hrp hml h5 hb
      rcases hpb : partsB 1 l with _ | _
      · rw [hpb] at HTP
        have HNO2 := Lib.hid (HNO.out (fun q => by have := q.1; dsimp only at this; rw [hpb] at this; cases this))
        clear hpb
        go_wp2_with (fail)
        refine HTP.out.mono ?_
        rintro q6 w6 ⟨rfl, hb6⟩
        go_wp2_with (fail)
        go_ret
        exact ⟨none, 0, 0, [], rfl, ⟨Plain.nil, fun y => ⟨fun h => (by obtain ⟨_, p, hp, _⟩ := h; cases hp), fun h => absurd h (HNO2.out y)⟩⟩, RS.nil_ _ _ _, by omega, by omega, HB.out.trans ((below_next H5.out hb6).mono hz)⟩
      · rw [hpb] at HTP
        have HRO := Lib.hid (right_any 0 d t u 1)
        rw [right_outer] at HRO
        by_cases hB : Bits d t u
        · rw [decide_eq_true hB] at HRO
          have HN2 := Lib.hid (HNX.out ⟨hpb, hB⟩)
          clear hpb hB
          go_wp2_with (fail)
          refine HTP.out.mono ?_
          rintro q6 w6 ⟨rfl, hb6⟩
          have H6 := Lib.hid (below_next H5.out hb6)
          clear q0 q1 q2 q3 q4 q5
          obtain ⟨q0, q1, q2, q3, q4, q5⟩ := X6.out w6 hb6
          clear hb6
          go_wp2_with (fail)
          refine (outer_any b d t u s A l.length c _).mono ?_
          rintro q7 w7 ⟨rfl, hb7⟩
          have H7 := Lib.hid (below_next H6.out hb7)
          clear hb7 q0 q1 q2 q3 q4 q5
          go_wp2_with (fail)
          refine (HRO.out _).mono ?_
          rintro q8 w8 ⟨rfl, hb8⟩
          have H8 := Lib.hid (HB.out.trans ((below_next H7.out hb8).mono hz))
          clear hb8 c0 c1 c2 c3 c4 c5
          go_wp2_with (fail)
          go_roundw
          case rel => exact ⟨k + 1, by omega, by go_num, HN2.out, H8.out⟩
          case measure => simp [intOf]; omega
        · rw [decide_eq_false hB] at HRO
          have HNO2 := Lib.hid (HNO.out (fun q => hB q.2))
          clear hpb hB
          go_wp2_with (fail)
          refine HTP.out.mono ?_
          rintro q6 w6 ⟨rfl, hb6⟩
          have H6 := Lib.hid (below_next H5.out hb6)
          clear q0 q1 q2 q3 q4 q5
          obtain ⟨q0, q1, q2, q3, q4, q5⟩ := X6.out w6 hb6
          clear hb6
          go_wp2_with (fail)
          refine (outer_any b d t u s A l.length c _).mono ?_
          rintro q7 w7 ⟨rfl, hb7⟩
          have H7 := Lib.hid (below_next H6.out hb7)
          clear hb7 q0 q1 q2 q3 q4 q5
          go_wp2_with (fail)
          refine (HRO.out _).mono ?_
          rintro q8 w8 ⟨rfl, hb8⟩
          have H8 := Lib.hid (HB.out.trans ((below_next H7.out hb8).mono hz))
          clear hb8
          go_wp2_with (fail)
          go_ret
          exact ⟨none, 0, 0, [], rfl, ⟨Plain.nil, fun y => ⟨fun h => (by obtain ⟨_, p, hp, _⟩ := h; cases hp), fun h => absurd h (HNO2.out y)⟩⟩, RS.nil_ _ _ _, by omega, by omega, H8.out⟩
    · have hkl : k = ts.length := by omega
      subst hkl
      rw [List.take_length] at HOK
      go_wp2_with (fail)
      refine (symbols_any _).mono ?_
      rintro q6 w6 ⟨B6, rfl, hr6, hb6⟩
      have h06 := below_next HB.out (by exact hb6)
      have HM := Lib.hid (meet_any As B6 sl.length 1 cs 1 sl [(0, 1114111)] w6 (HSS.out.belowM h06) hr6 (by omega) (by omega) hcs (by omega))
      have H06 := Lib.hid h06
      clear hr6 hb6 h06 hb
      go_wp2_with (fail)
      refine HM.out.mono ?_
      rintro q7 w7 ⟨v7, o7, rfl, his, ho7, hb7⟩
      obtain ⟨A7, c7, rfl, hc7, hr7⟩ := own_RS ho7
      have HI := Lib.hid his
      have HR := Lib.hid hr7
      have H7 := Lib.hid (below_next H06.out hb7)
      clear his ho7 hr7 hb7
      go_wp2_with (fail)
      go_ret
      exact ⟨A7, _, c7, o7, rfl, HI.out.congr fun y => ⟨fun h => ⟨HOK.out, h⟩, fun h => h.2⟩, HR.out, HI.out.1.short, hc7, H7.out⟩
end Go.Proofs.Ytmcgapejebceoaa.Te
