/- The walk of MintermClasses. -/
import Derived.Test.YtplpafoflibnlaaMiLeast
import Derived.Test.YtplpafoflibnlaaMiAwake
namespace Go.Proofs.Ytplpafoflibnlaa.Mi
set_option maxRecDepth 100000
open Go Go.RowKit Go.Proofs.Ytplpafoflibnlaa.Sp

def ClRel (fam : List (List Span)) (w2 : World) (i : Value) (wr : World) : Prop := ∃ k : Nat, k ≤ fam.length ∧ i = .int .i64 k ∧ Below w2.heap.size w2 wr
set_option maxHeartbeats 4000000 in
theorem walk_MintermClasses (A : Option Addr) (c : Nat) (fam : List (List Span)) (x : Int) (w : World) (h : RGs w A fam.length fam) (hl : fam.length ≤ maxLen) (hs : ∀ l ∈ fam, l.length ≤ maxLen) :
    Calls Try.prog 7 #[.slice A fam.length c, .int .i64 x] w (RetB true w) := by
  by_cases hg : 30 < fam.length ∨ ∃ l ∈ fam, 30 < l.length
  · have HG := Lib.hid (mgreat_any A c fam true w h hl hs ⟨fun _ => hg, fun _ => rfl⟩)
    clear h hl hs hg
    go_enter Try.func7, Try.ntmps7
    go_wp2_with (fail)
    refine HG.out.mono ?_
    rintro e w1 ⟨rfl, hb1⟩
    go_wp2_with (fail)
    refine (awake_any _).mono ?_
    rintro e w2 ⟨rfl, hb2⟩
    go_wp2_with (fail)
    go_ret
    exact ⟨rfl, below_nextM hb1 hb2⟩
  · have HG := Lib.hid (mgreat_any A c fam false w h hl hs ⟨fun q => (by cases q), fun q => absurd q hg⟩)
    have hl2 : fam.length ≤ 30 := by omega
    have hs2 : ∀ l ∈ fam, l.length ≤ 30 := fun l hm => by
      rcases Nat.lt_or_ge 30 l.length with q | q
      · exact absurd (.inr ⟨l, hm, q⟩) hg
      · exact q
    have HS := Lib.hid (show ∀ l ∈ fam, l.length ≤ 1000000000 from fun l hm => by have := hs2 l hm; omega)
    have H := Lib.hid h
    clear h hs hg hs2 hl
    go_enter Try.func7, Try.ntmps7
    go_wp2_with (fail)
    refine HG.out.mono ?_
    rintro e w1 ⟨rfl, hb1⟩
    have HL := Lib.hid (least_any A c fam w1 (H.out.belowM hb1) (by omega) HS.out)
    have HB1 := Lib.hid hb1
    clear hb1
    go_wp2_with (fail)
    refine HL.out.mono ?_
    rintro e w2 ⟨g, cap, xs, rfl, hxl, hxs, ho, hb2⟩
    have HO := Lib.hid ho
    have HX := Lib.hid hxs
    have HB2 := Lib.hid (below_nextM HB1.out hb2)
    clear ho hxs hb2
    go_wp2_with (fail)
    go_loopw [6] (fun i wr => ClRel fam w2 i wr) (fun i _ => fam.length - (intOf i).toNat)
    case atStart => exact ⟨0, Nat.zero_le _, rfl, Below.refl _ _⟩
    case round =>
      obtain ⟨k, hk, rfl, hb⟩ := hrel
      by_cases hlt : k < fam.length
      · obtain ⟨b, off, Aj, cj, hA, hbB, hcj, hrj, hlc, _⟩ := (H.out.belowM (below_nextM HB2.out hb)).at_ hlt
        have hp := plainOf_is fam[k]
        have HF := Lib.hid (rat_any Aj fam[k].length cj fam[k] (plainOf fam[k]) 0 wr hrj (by have := HS.out _ (List.getElem_mem hlt); omega) hp (by omega))
        rw [nth_first _ hp.1] at HF
        have HB := Lib.hid hb
        have hla : xs.getD k 0 = if (fstP (plainOf fam[k])).2 = true then (fstP (plainOf fam[k])).1 else -1 := by
          rw [HX.out k hlt]; unfold leastAt; rw [List.getD_eq_getElem?_getD, List.getElem?_eq_getElem hlt]; rfl
        rw [hA]
        clear hA hrj hb hp
        obtain ⟨nk, hnk⟩ : ∃ nk, fam[k].length = nk := ⟨_, rfl⟩
        rw [hnk] at hcj HF
        clear hnk hlc
        obtain ⟨⟨lo, ok⟩, hfp⟩ : ∃ q, fstP (plainOf fam[k]) = q := ⟨_, rfl⟩
        rw [hfp] at HF hla
        clear hfp
        simp only at hla
        go_wp2_with (fail)
        refine HF.out.mono ?_
        rintro e w3 ⟨rfl, hb3⟩
        have HB3 := Lib.hid (below_nextM HB.out hb3)
        have hc3 := ownN_cell hxl (ownN_below HO.out HB3.out) hlt
        clear hb3 HB
        cases ok with
        | false =>
          simp only [Bool.false_eq_true, if_false] at hla
          rw [hla] at hc3
          go_wp2_with (fail)
          go_roundw
          case rel => exact ⟨k + 1, by omega, by go_num, HB3.out⟩
          case measure => simp [intOf]; omega
        | true =>
          simp only [if_true] at hla
          rw [hla] at hc3
          go_wp2_with (fail)
          go_roundw
          case rel => exact ⟨k + 1, by omega, by go_num, HB3.out⟩
          case measure => simp [intOf]; omega
      · have HR := Lib.hid (H.out.belowM (below_nextM HB2.out hb))
        have HC := Lib.hid (class_any A c fam x wr HR.out (by omega) HS.out)
        have HB := Lib.hid (below_nextM HB2.out hb)
        obtain ⟨z, hz⟩ : ∃ z, classOf fam x = z := ⟨_, rfl⟩
        rw [hz] at HC
        have HZ := Lib.hid hz
        clear hb hz
        go_wp2_with (fail)
        refine HC.out.mono ?_
        rintro e w3 ⟨rfl, hb3⟩
        have HC2 := Lib.hid (rclass_any A c fam x w3 (HR.out.belowM hb3) (by omega) HS.out)
        rw [HZ.out] at HC2
        have HB3 := Lib.hid (below_nextM HB.out hb3)
        clear hb3
        go_wp2_with (fail)
        refine HC2.out.mono ?_
        rintro e w4 ⟨rfl, rfl⟩
        go_wp2_with (fail)
        refine (awake_any _).mono ?_
        rintro e w5 ⟨rfl, hb5⟩
        go_wp2_with (fail)
        go_ret
        exact ⟨rfl, below_nextM HB3.out hb5⟩

end Go.Proofs.Ytplpafoflibnlaa.Mi
