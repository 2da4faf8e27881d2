/- Texts of this proof, joined: TeHit, TeAsked, TePre, TeRPre. -/
import Derived.Test.YtplpafoflibnlaaJ11
import Derived.Test.YtplpafoflibnlaaJ12
import Derived.Test.YtplpafoflibnlaaJ14
import Derived.Test.YtplpafoflibnlaaJ15
import Derived.Test.YtplpafoflibnlaaJ17
import Derived.StillTailTactics
/- The walk of term.hit. -/
namespace Go.Proofs.Ytplpafoflibnlaa.Te
set_option maxRecDepth 100000
open Go Go.RowKit Go.Proofs.Ytplpafoflibnlaa.Sp Go.Proofs.Ytplpafoflibnlaa.Pa

theorem memB_true {l : List Span} {x : Int} (h : mem l x) : memB l x = true := by unfold memB; simp [h]
theorem memB_false {l : List Span} {x : Int} (h : ¬ mem l x) : memB l x = false := by unfold memB; simp [h]
end Go.Proofs.Ytplpafoflibnlaa.Te
/- The walk of term.asked. -/
namespace Go.Proofs.Ytplpafoflibnlaa.Te
set_option maxRecDepth 100000
open Go Go.RowKit Go.Proofs.Ytplpafoflibnlaa.Sp Go.Proofs.Ytplpafoflibnlaa.Pa

structure TM where
  b : Int
  d : Int
  t : Int
  u : Int
  s : Int
  A : Option Addr
  c : Nat
  l : List PT
/-- Terms in a row, in a world. -/
def RTs (w : World) (g off : Nat) (ts : List TM) : Prop := ∀ (j : Nat) (h : j < ts.length), w.cell? ⟨g, off + j * 6, none⟩ = some (.int .i64 ts[j].b) ∧ w.cell? ⟨g, off + j * 6 + 1, none⟩ = some (.int .i64 ts[j].d) ∧ w.cell? ⟨g, off + j * 6 + 2, none⟩ = some (.int .i64 ts[j].t) ∧ w.cell? ⟨g, off + j * 6 + 3, none⟩ = some (.int .i64 ts[j].u) ∧ w.cell? ⟨g, off + j * 6 + 4, none⟩ = some (.int .i64 ts[j].s) ∧ w.cell? ⟨g, off + j * 6 + 5, none⟩ = some (.slice ts[j].A ts[j].l.length ts[j].c)
theorem RTs.below {w w' : World} {g off B : Nat} {ts : List TM} (h : RTs w g off ts) (hb : Below B w w') (hg : g < B) : RTs w' g off ts := fun j hj => by
  obtain ⟨h0, h1, h2, h3, h4, h5⟩ := h j hj
  exact ⟨(hb.cell hg).trans h0, (hb.cell hg).trans h1, (hb.cell hg).trans h2, (hb.cell hg).trans h3, (hb.cell hg).trans h4, (hb.cell hg).trans h5⟩
def okT (x : TM) : Prop := partsB 1 x.l = true ∧ Bits x.d x.t x.u
theorem right_outer (d t u : Int) : rightB 0 d t u 1 = decide (Bits d t u) := by
  unfold rightB
  by_cases h : Bits d t u
  · rw [decide_eq_true h, decide_eq_true ⟨by omega, by omega, h⟩]
  · rw [decide_eq_false h, decide_eq_false (fun q => h q.2.2)]
def KRel (ts : List TM) (w : World) (iv : Value) (wr : World) : Prop := ∃ k : Nat, k ≤ ts.length ∧ iv = .int .i64 k ∧ (∀ x ∈ ts.take k, okT x) ∧ Below w.heap.size w wr
set_option maxHeartbeats 4000000 in
theorem asked_any (As : Option Addr) (cs : Nat) (sl : List Span) (g off ct : Nat) (ts : List TM) (w : World) (hs : RS w w.heap.size As sl.length sl) (hcs : sl.length ≤ cs) (hsl : sl.length ≤ 1000000) (hts : RTs w g off ts) (hg : g < w.heap.size) (hn : ts.length ≤ 100) (hp : ∀ x ∈ ts, RP w w.heap.size x.A x.l.length x.l ∧ x.l.length ≤ maxLen) :
    Calls Try.prog 42 #[.slice As sl.length cs, .slice (some ⟨g, off, none⟩) ts.length ct] w (PlainOut (fun y => (∀ x ∈ ts, okT x) ∧ mem sl y ∧ mem [(0, 1114111)] y) w) := by
  have HTS := Lib.hid hts
  have HP := Lib.hid hp
  have HSS := Lib.hid hs
  clear hts hp hs
  go_enter Try.func42, Try.ntmps42
  go_wp2_with (fail)
  go_loopw [9] (fun i wr => KRel ts w i wr) (fun i _ => ts.length - (intOf i).toNat)
  case atStart => exact ⟨0, Nat.zero_le _, rfl, fun x hx => by simp at hx, Below.refl _ _⟩
  case round =>
    obtain ⟨k, hk, rfl, hok, hb⟩ := hrel
    have HOK := Lib.hid hok
    have HB := Lib.hid hb
    have hz := hb.size
    clear hok
    by_cases hlt : k < ts.length
    · obtain ⟨c0, c1, c2, c3, c4, c5⟩ := (HTS.out.below hb hg) k hlt
      obtain ⟨hrp, hml⟩ := HP.out _ (List.getElem_mem hlt)
      have HNX := Lib.hid (show okT ts[k] → ∀ x ∈ ts.take (k + 1), okT x from fun hq x hx => by
        rw [List.take_succ_eq_append_getElem hlt, List.mem_append] at hx
        rcases hx with hx | hx
        · exact HOK.out x hx
        · rw [List.mem_singleton] at hx
          subst hx
          exact hq)
      have HNO := Lib.hid (show ¬ okT ts[k] → ∀ y, ¬ ((∀ x ∈ ts, okT x) ∧ mem sl y ∧ mem [(0, 1114111)] y) from fun hq y hy => hq (hy.1 _ (List.getElem_mem hlt)))
      obtain ⟨⟨b, d, t, u, s, A, c, l⟩, hT⟩ : ∃ x, ts[k] = x := ⟨_, rfl⟩
      rw [hT] at c0 c1 c2 c3 c4 c5 hrp hml HNX HNO
      dsimp only at c0 c1 c2 c3 c4 c5 hrp hml
      obtain ⟨w5, hw5⟩ : ∃ w5, wr.alloc (.cells (tcells b d t u s A l.length c) 24) = w5 := ⟨_, rfl⟩
      have h5 : Below wr.heap.size wr w5 := by rw [← hw5]; exact (Below.refl _ _).alloc (Nat.le_refl _) _
      have X6 := Lib.hid (fun W (hb : Below w5.heap.size w5 W) => show Boxed6 W wr.heap.size b d t u s A l.length c from by rw [← hw5] at hb; exact boxed6 hb)
      obtain ⟨q0, q1, q2, q3, q4, q5⟩ := X6.out w5 (Below.refl _ _)
      have HTP := Lib.hid (tparts_any b d t u s A l.length c l 1 w5 (hrp.belowM (hb.trans (h5.mono hz))) hml)
      have H5 := Lib.hid h5
      clear hT hrp hml h5 hb
      rcases hpb : partsB 1 l with _ | _
      · rw [hpb] at HTP
        have HNO2 := Lib.hid (HNO.out (fun q => by have := q.1; dsimp only at this; rw [hpb] at this; cases this))
        clear hpb
        go_wp2_with (fail)
        refine HTP.out.mono ?_
        rintro q6 w6 ⟨rfl, hb6⟩
        go_wp2_with (fail)
        go_ret
        exact ⟨none, 0, 0, [], rfl, ⟨Plain.nil, fun y => ⟨fun h => (by obtain ⟨_, p, hp, _⟩ := h; cases hp), fun h => absurd h (HNO2.out y)⟩⟩, RS.nil_ _ _ _, by omega, by omega, HB.out.trans ((below_next H5.out hb6).mono hz)⟩
      · rw [hpb] at HTP
        have HRO := Lib.hid (right_any 0 d t u 1)
        rw [right_outer] at HRO
        by_cases hB : Bits d t u
        · rw [decide_eq_true hB] at HRO
          have HN2 := Lib.hid (HNX.out ⟨hpb, hB⟩)
          clear hpb hB
          go_wp2_with (fail)
          refine HTP.out.mono ?_
          rintro q6 w6 ⟨rfl, hb6⟩
          have H6 := Lib.hid (below_next H5.out hb6)
          clear q0 q1 q2 q3 q4 q5
          obtain ⟨q0, q1, q2, q3, q4, q5⟩ := X6.out w6 hb6
          clear hb6
          go_wp2_with (fail)
          refine (outer_any b d t u s A l.length c _).mono ?_
          rintro q7 w7 ⟨rfl, hb7⟩
          have H7 := Lib.hid (below_next H6.out hb7)
          clear hb7 q0 q1 q2 q3 q4 q5
          go_wp2_with (fail)
          refine (HRO.out _).mono ?_
          rintro q8 w8 ⟨rfl, hb8⟩
          have H8 := Lib.hid (HB.out.trans ((below_next H7.out hb8).mono hz))
          clear hb8 c0 c1 c2 c3 c4 c5
          go_wp2_with (fail)
          go_roundw
          case rel => exact ⟨k + 1, by omega, by go_num, HN2.out, H8.out⟩
          case measure => simp [intOf]; omega
        · rw [decide_eq_false hB] at HRO
          have HNO2 := Lib.hid (HNO.out (fun q => hB q.2))
          clear hpb hB
          go_wp2_with (fail)
          refine HTP.out.mono ?_
          rintro q6 w6 ⟨rfl, hb6⟩
          have H6 := Lib.hid (below_next H5.out hb6)
          clear q0 q1 q2 q3 q4 q5
          obtain ⟨q0, q1, q2, q3, q4, q5⟩ := X6.out w6 hb6
          clear hb6
          go_wp2_with (fail)
          refine (outer_any b d t u s A l.length c _).mono ?_
          rintro q7 w7 ⟨rfl, hb7⟩
          have H7 := Lib.hid (below_next H6.out hb7)
          clear hb7 q0 q1 q2 q3 q4 q5
          go_wp2_with (fail)
          refine (HRO.out _).mono ?_
          rintro q8 w8 ⟨rfl, hb8⟩
          have H8 := Lib.hid (HB.out.trans ((below_next H7.out hb8).mono hz))
          clear hb8
          go_wp2_with (fail)
          go_ret
          exact ⟨none, 0, 0, [], rfl, ⟨Plain.nil, fun y => ⟨fun h => (by obtain ⟨_, p, hp, _⟩ := h; cases hp), fun h => absurd h (HNO2.out y)⟩⟩, RS.nil_ _ _ _, by omega, by omega, H8.out⟩
    · have hkl : k = ts.length := by omega
      subst hkl
      rw [List.take_length] at HOK
      go_wp2_with (fail)
      refine (symbols_any _).mono ?_
      rintro q6 w6 ⟨B6, rfl, hr6, hb6⟩
      have h06 := below_next HB.out (by exact hb6)
      have HM := Lib.hid (meet_any As B6 sl.length 1 cs 1 sl [(0, 1114111)] w6 (HSS.out.belowM h06) hr6 (by omega) (by omega) hcs (by omega))
      have H06 := Lib.hid h06
      clear hr6 hb6 h06 hb
      go_wp2_with (fail)
      refine HM.out.mono ?_
      rintro q7 w7 ⟨v7, o7, rfl, his, ho7, hb7⟩
      obtain ⟨A7, c7, rfl, hc7, hr7⟩ := own_RS ho7
      have HI := Lib.hid his
      have HR := Lib.hid hr7
      have H7 := Lib.hid (below_next H06.out hb7)
      clear his ho7 hr7 hb7
      go_wp2_with (fail)
      go_ret
      exact ⟨A7, _, c7, o7, rfl, HI.out.congr fun y => ⟨fun h => ⟨HOK.out, h⟩, fun h => h.2⟩, HR.out, HI.out.1.short, hc7, H7.out⟩
end Go.Proofs.Ytplpafoflibnlaa.Te
/- The walk of term.Pre. -/
namespace Go.Proofs.Ytplpafoflibnlaa.Te
set_option maxRecDepth 100000
open Go Go.RowKit Go.Proofs.Ytplpafoflibnlaa.Sp Go.Proofs.Ytplpafoflibnlaa.Pa

theorem not_ok {b d t u s : Int} {l : List PT} {y v : Int} (h : valueT b d t u s l [y] = (v, true)) : partsB 1 l = true ∧ Bits d t u := by
  obtain ⟨_, a2, a3⟩ := value_true h
  exact ⟨a2, (whole_true a3).2.1⟩
theorem box_row {w : World} {base : Nat} {v : Value} {xs : List Span} (h : OwnsL w base v xs) : ∀ k, v.ownBlock = some k → k < w.heap.size := fun k hk => (World.ownsRow.lt h k hk).2
/-- Between the rounds over the spans. -/
def OutR (Q : Int → Prop) (own : List Span) (w3 : World) (v iv : Value) (wr : World) : Prop :=
  ∃ (k X : Nat) (xs : List Span), k ≤ own.length ∧ iv = .int .i64 k ∧ OwnsL wr w3.heap.size v xs ∧ Below w3.heap.size w3 wr ∧ xs.length ≤ 50 * X ∧ X ≤ 1114112 ∧ (∀ p ∈ own.drop k, (X : Int) ≤ p.1) ∧ (∀ y, inL xs y ↔ inL (own.take k) y ∧ Q y)
/-- Within a span. -/
def InR (Q : Int → Prop) (xs0 : List Span) (lo hi : Int) (gr : Nat) (w3 : World) (v xv : Value) (wr : World) : Prop :=
  ∃ (x : Nat) (xs : List Span), lo ≤ x ∧ (x : Int) ≤ hi + 1 ∧ xv = .int .i64 x ∧ OwnsL wr w3.heap.size v xs ∧ Below w3.heap.size w3 wr ∧ xs.length ≤ 50 * x ∧ (∀ y, inL xs y ↔ inL xs0 y ∨ (lo ≤ y ∧ y < x ∧ Q y)) ∧ wr.cell? ⟨gr, 1, none⟩ = some (.int .i64 hi) ∧ v.ownBlock ≠ some gr ∧ gr < wr.heap.size
theorem cell_grown {w w' : World} {r : Option Nat} {g i : Nat} {u : Value} (hg : w.grownBy w' r) (hne : r ≠ some g) (h : w.cell? ⟨g, i, none⟩ = some u) : w'.cell? ⟨g, i, none⟩ = some u := hg.cell h (fun e => hne e.symm)
theorem take_in {own : List Span} {k : Nat} {lo hi : Int} (hk : ∃ hl : k < own.length, own[k] = (lo, hi)) (y : Int) : inL (own.take (k + 1)) y ↔ inL (own.take k) y ∨ (lo ≤ y ∧ y ≤ hi) := by
  obtain ⟨hl, e⟩ := hk
  rw [List.take_succ_eq_append_getElem hl, inL_append, e, inL_one]
end Go.Proofs.Ytplpafoflibnlaa.Te
/- The walks of the document's Symbols, add and Pre. -/
namespace Go.Proofs.Ytplpafoflibnlaa.Te
set_option maxRecDepth 100000
open Go Go.RowKit Go.Proofs.Ytplpafoflibnlaa.Sp Go.Proofs.Ytplpafoflibnlaa.Pa

set_option maxHeartbeats 1000000 in
theorem rsymbols_any (A : Option Addr) (c : Nat) (l : List Span) (w : World) (h : RS w w.heap.size A l.length l) (hn : l.length ≤ 1000000) :
    Calls Try.prog 14 #[.slice A l.length c] w (SetOut (fun y => mem l y ∧ Sy y) w) := by
  obtain ⟨w1, hw1⟩ : ∃ w1, w.alloc (.cells #[.int .i64 0, .int .i64 1114111] 60) = w1 := ⟨_, rfl⟩
  have hs1 : w1.heap.size = w.heap.size + 1 := by rw [← hw1]; simp
  have h01 : Below w.heap.size w w1 := by rw [← hw1]; exact (Below.refl _ _).alloc (Nat.le_refl _) _
  have hr1 : RS w1 w1.heap.size (some ⟨w.heap.size, 0, none⟩) 1 [(0, 1114111)] := ⟨rfl, fun _ => ⟨w.heap.size, 0, rfl, by omega, fun j hj => by
    obtain rfl : j = 0 := by simp at hj; omega
    rw [← hw1]
    constructor <;> simp⟩⟩
  have HM := Lib.hid (rmake1 A (some ⟨w.heap.size, 0, none⟩) l.length 1 c 1 l [(0, 1114111)] w1 (h.belowM h01) hr1 (by omega) (by omega))
  have H01 := Lib.hid h01
  have HE := Lib.hid (show ∀ y, (Rng y ∧ inP 1 (memB l y) (memB [(0, 1114111)] y) = true) ↔ mem l y ∧ Sy y from fun y => by
    have e4 : mem [(0, 1114111)] y ↔ Rng y ∧ Sy y := by unfold mem Sy; simp
    unfold inP
    simp only [if_true, Bool.and_eq_true, memB_iff]
    rw [e4]
    exact ⟨fun q => ⟨q.2.1, q.2.2.2⟩, fun q => ⟨q.1.1, q.1, q.1.1, q.2⟩⟩)
  clear h hr1 h01
  go_enter Try.func14, Try.ntmps14
  go_wp2_with (fail)
  refine HM.out.mono ?_
  rintro q2 w2 ⟨v2, o2, rfl, hi2, ho2, hb2⟩
  have HI := Lib.hid hi2
  clear hi2
  go_wp2_with (fail)
  go_ret
  exact ⟨v2, o2, rfl, HI.out.congr HE.out, own_mono ho2 (by omega), below_next H01.out hb2⟩

/-- A number more behind a rising list of spans. -/
def addL (xs : List Span) (x : Int) : List Span := match xs.reverse with
  | [] => [(x, x)]
  | (lo, hi) :: r => if hi = x - 1 then r.reverse ++ [(lo, x)] else xs ++ [(x, x)]
theorem addL_nil (x : Int) : addL [] x = [(x, x)] := rfl
theorem addL_snoc (ys : List Span) (lo hi x : Int) : addL (ys ++ [(lo, hi)]) x = if hi = x - 1 then ys ++ [(lo, x)] else ys ++ [(lo, hi)] ++ [(x, x)] := by
  unfold addL
  rw [List.reverse_append]
  simp
theorem snoc_cases (xs : List Span) : xs = [] ∨ ∃ ys lo hi, xs = ys ++ [(lo, hi)] := by
  rcases List.eq_nil_or_concat xs with h | ⟨ys, ⟨lo, hi⟩, h⟩
  · exact .inl h
  · exact .inr ⟨ys, lo, hi, by rw [h, List.concat_eq_append]⟩
/-- What the loops keep: a plain list of numbers below x. -/
def RisL (xs : List Span) (x : Int) : Prop := Plain xs ∧ ∀ p ∈ xs, p.2 < x
theorem addL_ok {xs : List Span} {x : Int} (h : RisL xs x) (hx : Sy x) : RisL (addL xs x) (x + 1) ∧ ∀ y, inL (addL xs x) y ↔ inL xs y ∨ y = x := by
  obtain ⟨hp, hlt⟩ := h
  unfold Sy at hx
  rcases snoc_cases xs with rfl | ⟨ys, lo, hi, rfl⟩
  · rw [addL_nil]
    refine ⟨⟨Plain.snoc (l := []) Plain.nil ⟨Int.le_refl _, by omega, by omega⟩ (fun q hq => by cases hq), fun p hp => ?_⟩, fun y => ?_⟩
    · rw [List.mem_singleton] at hp
      subst hp
      omega
    · rw [inL_one]
      constructor
      · intro h; exact .inr (by omega)
      · rintro (h | h)
        · exact absurd h inL_nil
        · omega
  · rw [addL_snoc]
    obtain ⟨py, pl, pg⟩ := hp.append
    have hok : Ok (lo, hi) := pl.2 _ (List.mem_singleton.2 rfl)
    have hhi := hlt (lo, hi) (List.mem_append_right _ (List.mem_singleton.2 rfl))
    obtain ⟨o1, o2, o3⟩ := hok
    dsimp only at hhi o1 o2 o3
    split
    · rename_i he
      subst he
      refine ⟨⟨Plain.snoc py ⟨by dsimp only; omega, o2, by dsimp only; omega⟩ (fun q hq => by have := pg q hq (lo, x - 1) (List.mem_singleton.2 rfl); dsimp only at this ⊢; exact this), fun p hp => ?_⟩, fun y => ?_⟩
      · rcases List.mem_append.1 hp with hp | hp
        · have := hlt p (List.mem_append_left _ hp); omega
        · rw [List.mem_singleton] at hp
          subst hp
          dsimp only
          omega
      · rw [inL_append, inL_append, inL_one, inL_one]
        constructor
        · rintro (h | h)
          · exact .inl (.inl h)
          · by_cases e : y = x
            · exact .inr e
            · exact .inl (.inr (by omega))
        · rintro ((h | h) | h)
          · exact .inl h
          · exact .inr (by omega)
          · exact .inr (by omega)
    · rename_i he
      refine ⟨⟨Plain.snoc hp ⟨Int.le_refl _, by dsimp only; omega, by dsimp only; omega⟩ (fun q hq => ?_), fun p hp => ?_⟩, fun y => ?_⟩
      · rcases List.mem_append.1 hq with hq | hq
        · have := pg q hq _ (List.mem_singleton.2 rfl)
          dsimp only at this ⊢
          omega
        · rw [List.mem_singleton] at hq
          subst hq
          dsimp only
          omega
      · rcases List.mem_append.1 hp with hp | hp
        · have := hlt p hp; omega
        · rw [List.mem_singleton] at hp
          subst hp
          dsimp only
          omega
      · rw [inL_append (l := ys ++ [(lo, hi)]), inL_one]
        constructor
        · rintro (h | h)
          · exact .inl h
          · exact .inr (by omega)
        · rintro (h | h)
          · exact .inl h
          · exact .inr (by omega)
def AddOut (base : Nat) (xs : List Span) (w : World) (e : Ending) (w' : World) : Prop := ∃ v', e = .returned v' ∧ OwnsL w' base v' xs ∧ Below base w w'
set_option maxHeartbeats 2000000 in
theorem add_any (base : Nat) (v : Value) (xs : List Span) (x : Int) (w : World) (hown : OwnsL w base v xs) (hbase : base ≤ w.heap.size) (hlen : xs.length ≤ 1000000000000) (hx : Sy x) :
    Calls Try.prog 48 #[v, .int .i64 x] w (AddOut base (addL xs x) w) := by
  obtain ⟨i0, hi0, hz0, hz1, hz2⟩ := info_parts infoSpan
  have hwx : IntKind.i64.wrap (x - 1) = x - 1 := IntWalk.i64_in _ (by unfold Sy at hx; omega)
  rcases snoc_cases xs with rfl | ⟨ys, lo, hi, rfl⟩
  · obtain ⟨A, c, rfl, hc, hr⟩ := own_RS hown
    simp only [List.length_nil] at *
    have HO := Lib.hid hown
    clear hown hr
    go_enter Try.func48, Try.ntmps48
    go_wp2_with (at_builtin; go_must (refine wpList_append_own _ rfl _ _ 25 rfl base 60 i0 _ 2 16 Try.underlying25 hi0 hz0 hz1 hz2 rfl (by decide) (.slice A 0 c) 0 [] rfl (World.ownsRow.alloc HO.out _) ⟨w.heap.size, 0, none⟩ 1 1 [.int .i64 x, .int .i64 x] rfl rfl (cell_two _ _ _ _) ?c2 ?c3 ?c4 ?c5 ?_))
    case c2 => first | exact ⟨rfl, rfl⟩ | exact flat_one [(_, _)] | rfl
    case c3 => simp only [maxLen]; omega
    case c4 => omega
    case c5 => first | omega | (simp only [World.size_alloc]; omega)
    intro v1 w1 hown1 hg1 _
    go_wp2_with (fail)
    go_ret
    exact ⟨v1, rfl, ownS_more (l := []) hown1, ((Below.refl base w).alloc hbase _).grown hg1 (by simp; omega) (own_ge HO.out)⟩
  · obtain ⟨A, c, rfl, hc, hr⟩ := own_RS hown
    obtain ⟨g, rfl, hbg, hgl⟩ := own_of_form hown (by simp)
    have hlast := own_last hown
    have hj : (ys ++ [(lo, hi)]).length = ys.length + 1 := by simp
    have HE := Lib.hid (addL_snoc ys lo hi x)
    have HO := Lib.hid hown
    have hfz : w.frozen? ⟨g, ys.length * 2 + 1, none⟩ = false := World.ownsRow.frozenAt hown _
    rw [hj] at hlen
    obtain ⟨j, hjE⟩ : ∃ j, ys.length = j := ⟨_, rfl⟩
    rw [hjE] at hj hlen hlast hfz
    have hw1 : IntKind.i64.wrap (((j + 1 : Nat) : Int) - 1) = (j : Int) := by rw [IntWalk.i64_in _ (by omega)]; omega
    have hw1' : IntKind.i64.wrap ((j : Int) + 1 - 1) = (j : Int) := by rw [IntWalk.i64_in _ (by omega)]; omega
    have hpos : decide ((0 : Int) < ((j + 1 : Nat) : Int)) = true := decide_eq_true (by omega)
    have hpos' : decide ((0 : Int) < (j : Int) + 1) = true := decide_eq_true (by omega)
    have HJ := Lib.hid hjE
    rw [hj]
    clear hown hr
    by_cases he : hi = x - 1
    · have he' : (hi == x - 1) = true := by simp [he]
      have HE2 := Lib.hid (HE.out.trans (if_pos he))
      have HT := Lib.hid (own_turn0 (j := j) (by rw [← hj]; exact HO.out) hjE x)
      clear hj hjE he
      go_enter Try.func48, Try.ntmps48
      go_wp2_with (fail)
      go_ret
      refine ⟨_, rfl, ?_, (Below.refl base w).setCell (by simp only; omega) _⟩
      rw [HE2.out]
      have := HT.out
      rw [List.length_append, HJ.out] at this
      exact this
    · have he' : (hi == x - 1) = false := by simp [he]
      have HE2 := Lib.hid (HE.out.trans (if_neg he))
      have HO2 := Lib.hid (show w.ownsRow base 60 2 (.slice (some ⟨g, 0, none⟩) (j + 1) c) (j + 1) (flat (ys ++ [(lo, hi)])) from by rw [← hj]; exact HO.out)
      have HJ1 := Lib.hid hj
      clear hj hjE he
      go_enter Try.func48, Try.ntmps48
      go_wp2_with (at_builtin; go_must (refine wpList_append_own _ rfl _ _ 25 rfl base 60 i0 _ 2 16 Try.underlying25 hi0 hz0 hz1 hz2 rfl (by decide) (.slice (some ⟨g, 0, none⟩) (j + 1) c) (j + 1) (flat (ys ++ [(lo, hi)])) rfl (World.ownsRow.alloc HO2.out _) ⟨w.heap.size, 0, none⟩ 1 1 [.int .i64 x, .int .i64 x] rfl rfl (cell_two _ _ _ _) ?c2 ?c3 ?c4 ?c5 ?_))
      case c2 => first | exact ⟨rfl, rfl⟩ | exact flat_one [(_, _)] | rfl
      case c3 => simp only [maxLen]; omega
      case c4 => omega
      case c5 => first | omega | (simp only [World.size_alloc]; omega)
      intro v1 w1 hown1 hg1 _
      go_wp2_with (fail)
      go_ret
      refine ⟨v1, rfl, ?_, ((Below.refl base w).alloc hbase _).grown hg1 (by simp; omega) (World.ownsRow.lt HO2.out · · |>.1)⟩
      rw [HE2.out]
      exact ownS_more (by rw [HJ1.out]; exact hown1)
end Go.Proofs.Ytplpafoflibnlaa.Te
