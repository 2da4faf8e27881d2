/- The walk of MintermSplits. -/
import Derived.Test.YtplpafoflibnlaaMiRefCuts
import Derived.Test.YtplpafoflibnlaaMiSame
import Derived.Test.YtplpafoflibnlaaMiSplit
import Derived.Test.YtplpafoflibnlaaMiAwake
namespace Go.Proofs.Ytplpafoflibnlaa.Mi
set_option maxRecDepth 100000
open Go Go.RowKit Go.Proofs.Ytplpafoflibnlaa.Sp

set_option maxHeartbeats 8000000 in
theorem walk_MintermSplits (As : Option Addr) (cs : Nat) (all : List Span) (A : Option Addr) (c : Nat) (fam : List (List Span)) (w : World) (hall : RS w w.heap.size As all.length all) (_hal : all.length ≤ maxLen) (_hac : all.length ≤ cs) (h : RGs w A fam.length fam) (hl : fam.length ≤ maxLen) (hs : ∀ l ∈ fam, l.length ≤ maxLen) :
    Calls Try.prog 6 #[.slice As all.length cs, .slice A fam.length c] w (RetB true w) := by
  by_cases ha : 30 < all.length
  · have hd : decide ((30 : Int) < (all.length : Int)) = true := decide_eq_true (by omega)
    clear h hall
    go_enter Try.func6, Try.ntmps6
    go_wp2_with (fail)
    refine (awake_any _).mono ?_
    rintro e w2 ⟨rfl, hb2⟩
    go_wp2_with (fail)
    go_ret
    exact ⟨rfl, hb2⟩
  have hd : decide ((30 : Int) < (all.length : Int)) = false := decide_eq_false (by omega)
  by_cases hg : 30 < fam.length ∨ ∃ l ∈ fam, 30 < l.length
  · have HG := Lib.hid (mgreat_any A c fam true w h hl hs ⟨fun _ => hg, fun _ => rfl⟩)
    clear h hl hs hg hall
    go_enter Try.func6, Try.ntmps6
    go_wp2_with (fail)
    refine HG.out.mono ?_
    rintro e w1 ⟨rfl, hb1⟩
    go_wp2_with (fail)
    refine (awake_any _).mono ?_
    rintro e w2 ⟨rfl, hb2⟩
    go_wp2_with (fail)
    go_ret
    exact ⟨rfl, below_nextM hb1 hb2⟩
  have HG := Lib.hid (mgreat_any A c fam false w h hl hs ⟨fun q => (by cases q), fun q => absurd q hg⟩)
  have hl2 : fam.length ≤ 30 := by omega
  have hs2 : ∀ l ∈ fam, l.length ≤ 30 := fun l hm => by
    rcases Nat.lt_or_ge 30 l.length with q | q
    · exact absurd (.inr ⟨l, hm, q⟩) hg
    · exact q
  have HS := Lib.hid hs2
  have H := Lib.hid h
  have HA := Lib.hid hall
  clear h hs hg hs2 hl hall
  go_enter Try.func6, Try.ntmps6
  go_wp2_with (fail)
  refine HG.out.mono ?_
  rintro e w1 ⟨rfl, hb1⟩
  have HSP := Lib.hid (split_any As cs all A c fam w1 (HA.out.belowM hb1) (by omega) (H.out.belowM hb1) (by omega) (fun l hm => by have := HS.out l hm; omega))
  have HB1 := Lib.hid hb1
  clear hb1
  go_wp2_with (fail)
  refine HSP.out.mono ?_
  rintro e w2 ⟨v, L, hL, hor, hb2⟩
  have HB2 := Lib.hid (below_nextM HB1.out hb2)
  have HF2 := Lib.hid (H.out.belowM HB2.out)
  have HA2 := Lib.hid (HA.out.belowM HB2.out)
  have HL := Lib.hid hL
  clear hL hb2
  obtain ⟨AL, cL, LL, en, hret, hLg, hLL, hLs⟩ : ∃ (AL : Option Addr) (cL : Nat) (LL : List (List Span)) (en : Int), e = .returned (.tuple #[.slice AL LL.length cL, .int .i64 en]) ∧ RGs w2 AL LL.length LL ∧ ((en = 0 ∧ LL = L ∧ L.length ≤ 1024) ∨ (en = 4 ∧ LL = [] ∧ 1024 < L.length)) ∧ (∀ l ∈ LL, l.length ≤ 1073741825) := by
    rcases hor with ⟨he, hL1024, hoG⟩ | ⟨he, hbig⟩
    · obtain ⟨AL, cL, rfl, hrg, hlc⟩ := hoG.reads
      exact ⟨AL, cL, L, 0, he, hrg, .inl ⟨rfl, rfl, hL1024⟩, fun l hl => (HL.out.plain l hl).1.short⟩
    · exact ⟨none, 0, [], 4, he, RGs.nil_ _ _, .inr ⟨rfl, rfl, hbig⟩, fun l hl => by cases hl⟩
  subst hret
  have HLG := Lib.hid hLg
  have HLS := Lib.hid hLs
  have HRS := Lib.hid (rsplit_any As cs all A c fam w2 HA2.out (by omega) HF2.out (by omega) (fun l hm => by have := HS.out l hm; omega))
  clear hor hLg hLs
  go_wp2_with (fail)
  refine HRS.out.mono ?_
  rintro e w3 ⟨AR, cR, R, rfl, hR, hrR, hb3⟩
  obtain rfl : L = R := HL.out.unique hR
  have HR3 := Lib.hid hrR
  have HLG3 := Lib.hid (HLG.out.belowM hb3)
  have HB3 := Lib.hid (below_nextM HB2.out hb3)
  have HRP := Lib.hid (show ∀ l ∈ L, l.length ≤ 1099511627776 from fun l hl => by have := (hR.plain l hl).1.short; omega)
  clear hR hrR hb3
  rcases hLL with ⟨rfl, rfl, hL1⟩ | ⟨rfl, rfl, hbig⟩
  · have hd2 : decide ((1024 : Int) < (LL.length : Int)) = false := decide_eq_false (by omega)
    have HSM := Lib.hid (rsame_any AL AR cL cR LL LL w3 HLG3.out HR3.out (by omega) (by omega) HRP.out HRP.out)
    rw [decide_eq_true rfl] at HSM
    go_wp2_with (fail)
    refine HSM.out.mono ?_
    rintro e w4 ⟨rfl, hb4⟩
    have HB4 := Lib.hid (below_nextM HB3.out hb4)
    clear hb4
    go_wp2_with (fail)
    refine (awake_any _).mono ?_
    rintro e w5 ⟨rfl, hb5⟩
    have HB5 := Lib.hid (below_nextM HB4.out hb5)
    clear hb5
    go_wp2_with (fail)
    go_ret
    exact ⟨rfl, HB5.out⟩
  · have hd2 : decide ((1024 : Int) < (L.length : Int)) = true := decide_eq_true (by omega)
    go_wp2_with (fail)
    refine (awake_any _).mono ?_
    rintro e w5 ⟨rfl, hb5⟩
    have HB5 := Lib.hid (below_nextM HB3.out hb5)
    clear hb5
    go_wp2_with (fail)
    go_ret
    exact ⟨rfl, HB5.out⟩
end Go.Proofs.Ytplpafoflibnlaa.Mi
