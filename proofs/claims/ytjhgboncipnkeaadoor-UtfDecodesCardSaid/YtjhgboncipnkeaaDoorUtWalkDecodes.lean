/- The walk of UtfDecodes. -/
import Derived.Test.YtjhgboncipnkeaaDoorUtRRepair
import Derived.Test.YtjhgboncipnkeaaDoorUtAwake
namespace Go.Proofs.YtjhgboncipnkeaaDoor.Ut
set_option maxRecDepth 100000
open Go Go.RowKit Go.Proofs.YtjhgboncipnkeaaDoor.Wo

set_option maxHeartbeats 4000000 in
theorem walk_UtfDecodes (A : Option Addr) (c : Nat) (l : List Int) (w : World) (hT : Tabs w) (h : RY w w.heap.size A l.length l) (hc : l.length ≤ c) (hm : l.length ≤ maxLen) (hx : ∀ x ∈ l, 0 ≤ x ∧ x ≤ 255) :
    Calls Tryd.prog 5 #[.slice A l.length c] w (RetB true w) := by
  unfold maxLen at hm
  have HAW := Lib.hid (fun W (hb : Below w.heap.size w W) => awake_any W (hT.below hb hT.2.2))
  by_cases hbig : 2000 < l.length
  · clear h
    go_enter Tryd.func5, Tryd.ntmps5
    go_wp2_with (go_at_call 13; refine (HAW.out _ (Below.refl _ _)).mono ?_; rintro e w8 ⟨rfl, hb8⟩)
    go_ret
    exact ⟨rfl, hb8⟩
  have H1 := Lib.hid (refrepair_any A c l w h hx hc (by omega))
  have H2 := Lib.hid (fun W (hb : Below w.heap.size w W) => decode_any A l.length c l W (h.belowM hb) hx (by omega) hc (hT.below hb hT.2.2))
  have H3 := Lib.hid (fun W (hb : Below w.heap.size w W) => valid_any A l.length c l W (h.belowM hb) hx (by omega) hc (hT.below hb hT.2.2))
  have H4 := Lib.hid (fun W (hb : Below w.heap.size w W) => repair_any A l.length c l W (h.belowM hb) hx (by omega) hc (hT.below hb hT.2.2))
  have hrl := repL_len _ l hx (Nat.le_refl _)
  have HS := Lib.hid (fun (A1 A2 : Option Addr) c1 c2 W (q1 : RR W W.heap.size A1 (repL l).length (repL l)) (q2 : RR W W.heap.size A2 (repL l).length (repL l)) => (by
    have := wsame_any A1 A2 c1 c2 (repL l) (repL l) W q1 q2 (by omega) (by omega)
    rw [decide_eq_true (rfl : repL l = repL l)] at this
    exact this : Calls Tryd.prog 19 #[.slice A1 (repL l).length c1, .slice A2 (repL l).length c2] W (RetB true W)))
  unfold RRepOut at H1
  unfold DecOut at H2
  have hdec : decL l = if okL l = true then repL l else [] := rfl
  generalize decL l = dl at H2 hdec
  generalize okL l = b at H1 H2 H3 hdec
  generalize repL l = r at H1 H4 HS hdec
  clear h hT hrl
  cases b
  · have hd0 : dl = [] := hdec.trans (if_neg (by simp))
    subst hd0
    clear hdec
    go_enter Tryd.func5, Tryd.ntmps5
    go_wp2_with (fail)
    refine H1.out.mono ?_
    rintro e w1 ⟨v1, rfl, A1, c1, rfl, hr1, hc1, -, hb1⟩
    have HR1 := Lib.hid hr1
    have HB1 := Lib.hid hb1
    clear hr1 hb1
    go_wp2_with (fail)
    refine (H2.out _ HB1.out).mono ?_
    rintro e w2 ⟨v2, rfl, A2, c2, rfl, hr2, hc2, -, hb2⟩
    have HB2 := Lib.hid (HB1.out.trans (hb2.mono HB1.out.size))
    have HR12 := Lib.hid (HR1.out.belowM hb2)
    clear hr2 hb2
    go_wp2_with (fail)
    refine (H3.out _ HB2.out).mono ?_
    rintro e w3 ⟨rfl, hb3⟩
    have HB3 := Lib.hid (HB2.out.trans (hb3.mono HB2.out.size))
    have HR13 := Lib.hid (HR12.out.belowM hb3)
    clear hb3
    go_wp2_with (fail)
    refine (H4.out _ HB3.out).mono ?_
    rintro e w4 ⟨v4, rfl, A4, c4, rfl, hr4, hc4, -, hb4⟩
    have HB4 := Lib.hid (HB3.out.trans (hb4.mono HB3.out.size))
    have HS4 := Lib.hid (HS.out A4 A1 c4 c1 w4 hr4 (HR13.out.belowM hb4))
    clear hr4 hb4
    go_wp2_with (fail)
    refine HS4.out.mono ?_
    rintro e w5 ⟨rfl, hb5⟩
    have HB5 := Lib.hid (HB4.out.trans (hb5.mono HB4.out.size))
    clear hb5
    go_wp2_with (go_at_call 13; refine (HAW.out _ HB5.out).mono ?_; rintro e w8 ⟨rfl, hb8⟩)
    go_ret
    exact ⟨rfl, HB5.out.trans (hb8.mono HB5.out.size)⟩
  · have hd0 : dl = r := hdec.trans (if_pos rfl)
    subst hd0
    clear hdec
    go_enter Tryd.func5, Tryd.ntmps5
    go_wp2_with (fail)
    refine H1.out.mono ?_
    rintro e w1 ⟨v1, rfl, A1, c1, rfl, hr1, hc1, -, hb1⟩
    have HR1 := Lib.hid hr1
    have HB1 := Lib.hid hb1
    clear hr1 hb1
    go_wp2_with (fail)
    refine (H2.out _ HB1.out).mono ?_
    rintro e w2 ⟨v2, rfl, A2, c2, rfl, hr2, hc2, -, hb2⟩
    have HB2 := Lib.hid (HB1.out.trans (hb2.mono HB1.out.size))
    have HR12 := Lib.hid (HR1.out.belowM hb2)
    have HR22 := Lib.hid hr2
    clear hr2 hb2
    go_wp2_with (fail)
    refine (H3.out _ HB2.out).mono ?_
    rintro e w3 ⟨rfl, hb3⟩
    have HB3 := Lib.hid (HB2.out.trans (hb3.mono HB2.out.size))
    have HR13 := Lib.hid (HR12.out.belowM hb3)
    have HR23 := Lib.hid (HR22.out.belowM hb3)
    clear hb3
    go_wp2_with (fail)
    refine (H4.out _ HB3.out).mono ?_
    rintro e w4 ⟨v4, rfl, A4, c4, rfl, hr4, hc4, -, hb4⟩
    have HB4 := Lib.hid (HB3.out.trans (hb4.mono HB3.out.size))
    have HR14 := Lib.hid (HR13.out.belowM hb4)
    have HR24 := Lib.hid (HR23.out.belowM hb4)
    have HS4 := Lib.hid (HS.out A4 A1 c4 c1 w4 hr4 HR14.out)
    clear hr4 hb4
    go_wp2_with (fail)
    refine HS4.out.mono ?_
    rintro e w5 ⟨rfl, hb5⟩
    have HB5 := Lib.hid (HB4.out.trans (hb5.mono HB4.out.size))
    have HS5 := Lib.hid (HS.out A2 A1 c2 c1 w5 (HR24.out.belowM hb5) (HR14.out.belowM hb5))
    clear hb5
    go_wp2_with (fail)
    refine HS5.out.mono ?_
    rintro e w6 ⟨rfl, hb6⟩
    have HB6 := Lib.hid (HB5.out.trans (hb6.mono HB5.out.size))
    clear hb6
    go_wp2_with (go_at_call 13; refine (HAW.out _ HB6.out).mono ?_; rintro e w8 ⟨rfl, hb8⟩)
    go_ret
    exact ⟨rfl, HB6.out.trans (hb8.mono HB6.out.size)⟩
end Go.Proofs.YtjhgboncipnkeaaDoor.Ut
