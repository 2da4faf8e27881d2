/- The walks of span.Minus and span.Within. -/
import Derived.Test.YtgmkchkaceciiaaSpCut
import Derived.Test.YtgmkchkaceciiaaSpNorm
namespace Go.Proofs.Ytgmkchkaceciiaa.Sp
set_option maxRecDepth 100000
open Go Go.RowKit

theorem own_mono {w : World} {base base' : Nat} {v : Value} {xs : List Span} (h : OwnsL w base v xs) (hb : base' ≤ base) : OwnsL w base' v xs := by
  obtain ⟨h1, h2⟩ := h
  refine ⟨h1, ?_⟩
  rcases h2 with h2 | ⟨g, cap, cur, hv, hg, hr⟩
  · exact .inl h2
  · exact .inr ⟨g, cap, cur, hv, by omega, hr⟩
def lenV : Value → Nat
  | .slice _ n _ => n
  | _ => 0

/-- Between two rounds: k spans of p are gone through, j of Q passed by. -/
def MinusRel (p Q : List Span) (w2 : World) (q out i : Value) (wr : World) : Prop :=
  ∃ (k j : Nat) (o : List Span) (A : Option Addr) (n c : Nat), k ≤ p.length ∧ i = .int .i64 k ∧ q = .slice A n c ∧ n + j = Q.length ∧ n ≤ c ∧ RS wr w2.heap.size A n (Q.drop j) ∧ OwnsL wr w2.heap.size out o ∧ MinusInv p Q k j o ∧ Below w2.heap.size w2 wr
def SkipRel (p Q : List Span) (k : Nat) (o : List Span) (out : Value) (w2 : World) (bx : Nat) (lo hi : Int) (q : Value) (wr : World) : Prop :=
  ∃ (j : Nat) (A : Option Addr) (n c : Nat), q = .slice A n c ∧ n + j = Q.length ∧ n ≤ c ∧ RS wr w2.heap.size A n (Q.drop j) ∧ OwnsL wr w2.heap.size out o ∧ MinusInv p Q k j o ∧ Below w2.heap.size w2 wr ∧
    wr.cell? ⟨bx, 0, none⟩ = some (.int .i64 lo) ∧ wr.cell? ⟨bx, 1, none⟩ = some (.int .i64 hi)
theorem minus_skip {p Q o : List Span} {k j : Nat} {lo hi a b : Int} (h : MinusInv p Q k j o) (hp : Plain p) (hk : ∃ hl : k < p.length, p[k] = (lo, hi)) (hj : ∃ hl : 0 < (Q.drop j).length, (Q.drop j)[0] = (a, b)) (hlt : b < lo) : MinusInv p Q k (j + 1) o := by
  obtain ⟨hl, e⟩ := hk
  obtain ⟨hl', e'⟩ := hj
  rw [List.length_drop] at hl'
  have e2 : Q[j]'(by omega) = (a, b) := by rw [← e', List.getElem_drop]; rfl
  exact h.skip hp hl (by omega) (by rw [e, e2]; exact hlt)
theorem minus_cut {p Q o : List Span} {k j : Nat} {lo hi : Int} (h : MinusInv p Q k j o) (hp : Plain p) (hQ : Plain Q) (hk : ∃ hl : k < p.length, p[k] = (lo, hi)) (hge : ∀ a b, (∃ hl : 0 < (Q.drop j).length, (Q.drop j)[0] = (a, b)) → lo ≤ b) : MinusInv p Q (k + 1) j (cutL hi lo o (Q.drop j)) := by
  obtain ⟨hl, e⟩ := hk
  have := h.cut hp hQ hl (fun hj => by
    have := hge Q[j].1 Q[j].2 ⟨by rw [List.length_drop]; omega, by rw [List.getElem_drop]; rfl⟩
    rw [e]; exact this)
  rw [e] at this
  exact this
theorem drop_one {Q : List Span} (j : Nat) : (Q.drop j).drop 1 = Q.drop (j + 1) := by rw [List.drop_drop]

set_option maxHeartbeats 2000000 in
theorem minus_any (A A' : Option Addr) (n n' c c' : Nat) (l r : List Span) (w : World) (h : RS w w.heap.size A n l) (h' : RS w w.heap.size A' n' r) (hn : n ≤ 1099511627776) (hn' : n' ≤ 1099511627776) (hc : n ≤ c) (hc' : n' ≤ c') :
    Calls Try.prog 18 #[.slice A n c, .slice A' n' c'] w (SetOut (fun x => mem l x ∧ ¬ mem r x) w) := by
  go_enter Try.func18, Try.ntmps18
  go_wp2_with (fail)
  refine (plain_any A' n' c' r _ h' hn' hc').mono ?_
  rintro e w1 ⟨A1, n1, c1, Q, rfl, hQ, hr1, hs1, hnc1, hb1⟩
  have h1 := h.belowM hb1
  have HQS := Lib.hid hQ.2
  have HQ := Lib.hid hQ.1
  clear hQ
  go_wp2_with (fail)
  refine (plain_any A n c l _ h1 hn hc).mono ?_
  rintro e w2 ⟨A2, n2, c2, p, rfl, hP, hr2, hs2, hnc2, hb2⟩
  have hr1 := hr1.belowM hb2
  have HPS := Lib.hid hP.2
  have HP := Lib.hid hP.1
  clear hP
  have hz1 := hb1.size
  have hz2 := hb2.size
  obtain rfl : p.length = n2 := hr2.1
  have HQL := Lib.hid hr1.1
  go_wp2_with (fail)
  go_loopw [5, 6, 14] (fun q out i wr => MinusRel p Q w2 q out i wr) (fun _ _ i _ => p.length - (intOf i).toNat)
  case atStart => exact ⟨0, 0, [], A1, n1, c1, Nat.zero_le _, rfl, rfl, HQL.out.symm, hnc1, hr1, World.ownsRow_nil _ _ _ _, MinusInv.start p Q, Below.refl _ _⟩
  case round =>
    obtain ⟨k, j0, out, Aj, nj, cj, hk, rfl, rfl, hnj, hncj, hrq, ho, hi, hb⟩ := hrel
    have hz := hb.size
    have HN0 := Lib.hid hnj; clear hnj
    have HC0 := Lib.hid hncj; clear hncj
    have HRQ0 := Lib.hid hrq; clear hrq
    have HO0 := Lib.hid ho; clear ho
    have HI0 := Lib.hid hi; clear hi
    obtain ⟨wo, rfl⟩ : ∃ wo : World, wo = wr := ⟨_, rfl⟩
    by_cases hlt : k < p.length
    · obtain ⟨b, off, lo, hi, hA, hbB, hlk, hc1, hc2⟩ := (hr2.below hb).at_ hlt
      have hbs : b < wo.heap.size := by omega
      have HL := Lib.hid hlk; clear hlk
      rw [hA]
      clear hA
      go_wp2_with (fail)
      go_loopw [5] (fun q wr => SkipRel p Q k out u6 w2 wo.heap.size lo hi q wr) (fun q _ => lenV q)
      case atStart => exact ⟨j0, Aj, nj, cj, rfl, HN0.out, HC0.out, HRQ0.out.below ((Below.refl _ _).alloc hz _), World.ownsRow.alloc HO0.out _, HI0.out, hb.alloc hz _, by simp, by simp⟩
      case round =>
        obtain ⟨j, A3, n3, c3, rfl, hn3, hc3, hrq, ho, hi, hb3, hx1, hx2⟩ := hrel
        have hz3 := hb3.size
        have HN := Lib.hid hn3; clear hn3
        have HC := Lib.hid hc3; clear hc3
        have HO := Lib.hid ho; clear ho
        have HI := Lib.hid hi; clear hi
        rcases n3 with _ | m
        · have HRQ := Lib.hid hrq; clear hrq
          have hd : decide ((0 : Int) < ((0 : Nat) : Int)) = false := by simp
          have HCI := Lib.hid (minus_cut HI.out HP.out HQ.out HL.out (fun a b ⟨hl, _⟩ => by have := HRQ.out.1; omega))
          go_wp2_with (fail)
          go_quiet (fail)
          go_wp2_with (fail)
          refine (cut_any w2.heap.size _ out (Q.drop j) lo hi _ _ _ (wr.drewN nq) HO.out hz3 HRQ.out (HQ.out.drop j) (by have := HI.out.plain.short; omega)).mono ?_
          rintro e w4 ⟨v4, rfl, ho4, hb4⟩
          have HO4 := Lib.hid ho4; clear ho4
          go_wp2_with (fail)
          go_roundw
          case rel => exact ⟨k + 1, j, _, _, _, _, by omega, by go_num, rfl, HN.out, HC.out, RS.below (w := wr.drewN nq) HRQ.out hb4, HO4.out, HCI.out, (below_drewN hb3 nq).trans hb4⟩
          case measure => simp [intOf]; omega
        · obtain ⟨b3, off3, a, bb, hA3, hb3B, hlk3, hc31, hc32⟩ := hrq.at_ (k := 0) (by omega)
          have hbs3 : b3 < wr.heap.size := by omega
          simp only [Nat.zero_mul, Nat.add_zero] at hc31 hc32
          subst hA3
          have HRQ := Lib.hid hrq; clear hrq
          have HL3 := Lib.hid hlk3; clear hlk3
          have hd : decide ((0 : Int) < ((m + 1 : Nat) : Int)) = true := by simp
          by_cases hlt3 : bb < lo
          · have HSK := Lib.hid (minus_skip HI.out HP.out HL.out HL3.out hlt3)
            have hcut := HRQ.out.cut (k := 1) (cap := c3) (by omega) HC.out
            rw [drop_one] at hcut
            by_cases hcap : c3 = 1
            · subst hcap
              have hm : m = 0 := by have := HC.out; omega
              subst hm
              have HCUT := Lib.hid hcut; clear hcut
              go_wp2_with (fail)
              go_quiet (fail)
              go_wp2_with (fail)
              go_roundw
              case rel => exact ⟨j + 1, _, 0, _, rfl, by have := HN.out; omega, Nat.zero_le _, HCUT.out, HO.out, HSK.out, below_drewN hb3 _, hx1, hx2⟩
              case measure => simp [lenV]
            · rw [if_neg hcap] at hcut
              have HCUT := Lib.hid hcut; clear hcut
              go_wp2_with (fail)
              go_quiet (fail)
              go_wp2_with (fail)
              go_roundw
              case rel => exact ⟨j + 1, _, m, _, rfl, by have := HN.out; omega, by have := HC.out; omega, HCUT.out, HO.out, HSK.out, below_drewN hb3 _, hx1, hx2⟩
              case measure => simp [lenV]
          · have HCI := Lib.hid (minus_cut HI.out HP.out HQ.out HL.out (fun a' b' h => by
              obtain ⟨_, e1⟩ := h
              obtain ⟨_, e2⟩ := HL3.out
              have e3 := e1.symm.trans e2
              injection e3 with _ e3
              omega))
            go_wp2_with (fail)
            go_quiet (fail)
            go_wp2_with (fail)
            refine (cut_any w2.heap.size _ out (Q.drop j) lo hi _ _ _ (wr.drewN nq) HO.out hz3 HRQ.out (HQ.out.drop j) (by have := HI.out.plain.short; omega)).mono ?_
            rintro e w4 ⟨v4, rfl, ho4, hb4⟩
            have HO4 := Lib.hid ho4; clear ho4
            go_wp2_with (fail)
            go_roundw
            case rel => exact ⟨k + 1, j, _, _, _, _, by omega, by go_num, rfl, HN.out, HC.out, RS.below (w := wr.drewN nq) HRQ.out hb4, HO4.out, HCI.out, (below_drewN hb3 nq).trans hb4⟩
            case measure => simp [intOf]; omega
    · have hkp : p.length ≤ k := by omega
      have HD := Lib.hid (HI0.out.done hkp)
      go_wp2_with (fail)
      go_ret
      exact ⟨_, out, rfl, HD.out.congr fun x => by rw [HPS.out, HQS.out], own_mono HO0.out (by omega), (hb1.trans (hb2.mono hz1)).trans (hb.mono (by omega))⟩

set_option maxHeartbeats 400000 in
theorem within_any (A A' : Option Addr) (n n' c c' : Nat) (l r : List Span) (b : Bool) (w : World) (h : RS w w.heap.size A n l) (h' : RS w w.heap.size A' n' r) (hn : n ≤ 1099511627776) (hn' : n' ≤ 1099511627776) (hc : n ≤ c) (hc' : n' ≤ c')
    (hb : b = true ↔ ∀ x, ¬ (mem l x ∧ ¬ mem r x)) :
    Calls Try.prog 19 #[.slice A n c, .slice A' n' c'] w (RetB b w) := by
  have HB := Lib.hid hb; clear hb
  go_enter Try.func19, Try.ntmps19
  go_wp2_with (fail)
  refine (minus_any A A' n n' c c' l r _ h h' hn hn' hc hc').mono ?_
  rintro e w1 ⟨v, out, rfl, his, ho, hb1⟩
  obtain ⟨A1, c1, hv, _, _⟩ := own_RS ho
  subst hv
  have HI := Lib.hid his; clear his ho
  rcases b with _ | _
  · have hne : ¬ out = [] := fun e => by have := HB.out.2 (HI.out.nil_iff.1 e); cases this
    have hpos : 0 < out.length := List.length_pos_iff.2 hne
    have hd : ((out.length : Int) == 0) = false := by simp; exact hne
    clear hne
    go_wp2_with (fail)
    go_ret
    exact ⟨rfl, hb1⟩
  · have he : out = [] := HI.out.nil_iff.2 (HB.out.1 rfl)
    subst he
    go_wp2_with (fail)
    go_ret
    exact ⟨rfl, hb1⟩
end Go.Proofs.Ytgmkchkaceciiaa.Sp
