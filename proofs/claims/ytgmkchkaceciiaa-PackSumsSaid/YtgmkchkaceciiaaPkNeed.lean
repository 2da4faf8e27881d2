/- The walk of table.need. -/
import Derived.Test.YtgmkchkaceciiaaPkChk
namespace Go.Proofs.Ytgmkchkaceciiaa.Pk
set_option maxRecDepth 100000
open Go Go.RowKit Go.Proofs.Ytgmkchkaceciiaa.Sp Go.Proofs.Ytgmkchkaceciiaa.Pa Go.Proofs.Ytgmkchkaceciiaa.Te Go.Proofs.Ytgmkchkaceciiaa.Mi Go.Proofs.Ytgmkchkaceciiaa.De

def NeedOut (l : List TmL) (w : World) (e : Ending) (w' : World) : Prop := ∃ n : Nat, NeedIs l n ∧ e = .returned (.int .i64 n) ∧ Below w.heap.size w w'
def NeRel (l : List TmL) (w : World) (nv iv : Value) (wr : World) : Prop := ∃ k n : Nat, k ≤ l.length ∧ iv = .int .i64 k ∧ nv = .int .i64 n ∧ NeedIs (l.take k) n ∧ n ≤ 5 ∧ Below w.heap.size w wr
/-- The inner loop: from n on no window as short is enough. -/
def NiRel (t : TmL) (n : Nat) (W : World) (nv : Value) (wr : World) : Prop := ∃ m : Nat, n ≤ m ∧ m ≤ 5 ∧ nv = .int .i64 m ∧ (∀ k : Nat, n ≤ k → k < m → termOk k t = false) ∧ Below W.heap.size W wr
set_option maxHeartbeats 4000000 in
theorem need_any (A : Option Addr) (c : Nat) (l : List TmL) (w : World) (h : RTm w A l.length l) (hl : l.length ≤ maxLen) :
    Calls Try.prog 92 #[.slice A l.length c] w (NeedOut l w) := by
  unfold maxLen at hl
  have H := Lib.hid h
  clear h
  go_enter Try.func92, Try.ntmps92
  go_wp2_with (fail)
  go_loopw [3, 8] (fun nv iv wr => NeRel l w nv iv wr) (fun _ i _ => l.length - (intOf i).toNat)
  case atStart => exact ⟨0, 0, Nat.zero_le _, rfl, rfl, NeedIs.nil, by omega, Below.refl _ _⟩
  case round =>
    obtain ⟨k, n, hk, rfl, rfl, hn, hn5, hb⟩ := hrel
    have HN := Lib.hid hn
    clear hn
    by_cases hlt : k < l.length
    case neg =>
      have HT := Lib.hid (show l.take k = l from List.take_of_length_le (by omega))
      have HB := Lib.hid hb
      clear hb
      go_wp2_with (fail)
      go_ret
      exact ⟨n, by have := HN.out; rwa [HT.out] at this, rfl, HB.out⟩
    obtain ⟨wo, rfl⟩ : ∃ wo : World, wo = wr := ⟨_, rfl⟩
    obtain ⟨b, off, hA, hbB, d0, d1, d2, d3, d4, A', c', d5, hp, hc, hm⟩ := (H.out.belowM hb).at_ hlt
    obtain ⟨t, ht⟩ : ∃ t, l[k] = t := ⟨_, rfl⟩
    rw [ht] at d0 d1 d2 d3 d4 d5 hp hc hm
    have HTK := Lib.hid (show l.take (k + 1) = l.take k ++ [t] by rw [List.take_succ_eq_append_getElem hlt, ht])
    clear ht
    obtain ⟨w5, hw5⟩ : ∃ w5, wo.alloc (.cells (tcells t.b t.d t.t t.u t.s A' t.ps.length c') 114) = w5 := ⟨_, rfl⟩
    have hs5 : w5.heap.size = wo.heap.size + 1 := by rw [← hw5]; simp
    have X6 := Lib.hid (fun W (hb : Below w5.heap.size w5 W) => show Boxed6 W wo.heap.size t.b t.d t.t t.u t.s A' t.ps.length c' from by rw [← hw5] at hb; exact boxed6 hb)
    have hb5 : Below wo.heap.size wo w5 := by rw [← hw5]; exact (Below.refl _ _).alloc (Nat.le_refl _) _
    have HP := Lib.hid (hp.belowM hb5)
    have HB5 := Lib.hid (hb.trans (hb5.mono hb.size))
    rw [hA]
    clear hA hb hb5 hp hc
    go_wp2_with (fail)
    go_loopw [3] (fun nv wr => NiRel t n w5 nv wr) (fun nv _ => 5 - (intOf nv).toNat)
    case atStart => exact ⟨n, Nat.le_refl _, hn5, rfl, fun j h1 h2 => absurd h1 (by omega), Below.refl _ _⟩
    case round =>
      obtain ⟨m, hnm, hm5, rfl, hall, hb6⟩ := hrel
      have HALL := Lib.hid hall
      have HB6 := Lib.hid hb6
      obtain ⟨r0, r1, r2, r3, r4, r5⟩ := X6.out wr hb6
      have HR := Lib.hid (tright_any 1 1 m t.b t.d t.t t.u t.s A' t.ps.length c' t.ps wr (HP.out.belowM hb6) hm)
      have hz6 := hb6.size
      clear hall hb6
      by_cases hm4 : m = 5
      · subst hm4
        have HNE := Lib.hid (HN.out.snoc hnm (Nat.le_refl _) HALL.out (fun h => absurd h (by omega)))
        go_wp2_with (fail)
        go_roundw
        case rel => exact ⟨k + 1, 5, by omega, by go_num, rfl, by rw [HTK.out]; exact HNE.out, by omega, HB5.out.trans (HB6.out.mono (by have := HB5.out.size; omega))⟩
        case measure => simp [intOf]; omega
      · obtain ⟨r, hr⟩ : ∃ r, termOk m t = r := ⟨_, rfl⟩
        have HRR := Lib.hid hr
        have HR2 := Lib.hid (show Calls Try.prog 107 #[trm t.b t.d t.t t.u t.s A' t.ps.length c', .int .i64 1, .int .i64 1, .int .i64 m] wr (RetB r wr) from by rw [← hr]; exact HR.out)
        have hm4' : m ≤ 4 := by omega
        clear hr HR hm4
        cases r
        · have HA2 := Lib.hid (show ∀ j : Nat, n ≤ j → j < m + 1 → termOk j t = false from fun j h1 h2 => by
            rcases Nat.lt_or_ge j m with q | q
            · exact HALL.out j h1 q
            · obtain rfl : j = m := by omega
              exact HRR.out)
          go_wp2_with (fail)
          refine HR2.out.mono ?_
          rintro e w7 ⟨rfl, hb7⟩
          have HB7 := Lib.hid hb7
          clear hb7
          go_wp2_with (fail)
          go_roundw
          case rel => exact ⟨m + 1, by omega, by omega, by go_num, HA2.out, HB6.out.trans (HB7.out.mono hz6)⟩
          case measure => simp [intOf]; omega
        · have HNE := Lib.hid (HN.out.snoc hnm hm5 HALL.out (fun _ => HRR.out))
          go_wp2_with (fail)
          refine HR2.out.mono ?_
          rintro e w7 ⟨rfl, hb7⟩
          have HB7 := Lib.hid hb7
          clear hb7
          go_wp2_with (fail)
          go_roundw
          case rel => exact ⟨k + 1, m, by omega, by go_num, rfl, by rw [HTK.out]; exact HNE.out, by omega, HB5.out.trans ((HB6.out.trans (HB7.out.mono hz6)).mono (by have := HB5.out.size; omega))⟩
          case measure => simp [intOf]; omega
end Go.Proofs.Ytgmkchkaceciiaa.Pk
