/- The walk of UtfEncodes. -/
import Derived.Test.YtjhgboncipnkeaaDoorUtAwake
import Derived.Deep.CutRange
import Derived.Deep.DeepCutAuto
import Derived.Deep.RegionWith
import Derived.BigRegion
import Derived.RegionTactic
namespace Go.Proofs.YtjhgboncipnkeaaDoor.Ut
set_option maxRecDepth 100000
open Go Go.RowKit Go.Proofs.YtjhgboncipnkeaaDoor.Wo

theorem scan_encB {x : Int} (h : inS 2 x = true) : scanAt (encB x) 0 = (x, ((encB x).length : Int), true) := by
  have h1 := (encB_len h).1
  unfold scanAt
  rw [if_neg (by omega)]
  have := scan_enc h []
  rw [List.append_nil] at this
  exact this
set_option maxHeartbeats 4000000 in
theorem walk_UtfEncodes (x : Int) (w : World) (hT : Tabs w) (h0 : -2147483648 ≤ x) (h1 : x ≤ 2147483647) :
    Calls Tryd.prog 3 #[.int .i32 x] w (RetB true w) := by
  have HT := Lib.hid hT
  have HE := Lib.hid (encode_any x w h0 h1)
  have HI := Lib.hid (rin_any 2 x)
  have HAW := Lib.hid (fun W (hb : Below w.heap.size w W) => awake_any W (hT.below hb hT.2.2))
  have HBY := Lib.hid (refbytes_any x)
  obtain ⟨f, hf⟩ : ∃ f, inS 2 x = f := ⟨_, rfl⟩
  rw [hf] at HI
  have HX := Lib.hid hf
  have HSC := Lib.hid (fun (q : inS 2 x = true) => scan_encB q)
  have HLE := Lib.hid (fun (q : inS 2 x = true) => encB_len q)
  have HNO := Lib.hid (fun (q : inS 2 x = false) => encB_not q)
  have HSA := Lib.hid (fun (A : Option Addr) c W (hW : RY W W.heap.size A (encB x).length (encB x)) (hc : (encB x).length ≤ c) (hb : Below w.heap.size w W) => scan_any A (encB x).length c (encB x) 0 W hW (byteB x) hc (by have := encB_len_le x; omega) (hT.below hb hT.2.2).1 (hT.below hb hT.2.2).2.1 (hT.below hb hT.2.2).2.2)
  generalize encB x = l at HE HBY HSC HLE HNO HSA
  clear hT hf
  go_enter Tryd.func3, Tryd.ntmps3
  go_wp2_with (fail)
  refine HE.out.mono ?_
  rintro e w1 ⟨v1, rfl, A1, c1, rfl, hr1, hc1, -, hb1⟩
  have hcv : ∀ W, Below w1.heap.size w1 W → (convert 22 9 (.slice A1 l.length c1)).run Tryd.prog W = .ok (.string (strOfNums l)) W := fun W hW => conv_bytes (hr1.below hW)
  have HR := Lib.hid hr1
  have HB1 := Lib.hid hb1
  go_upto_region 2 with (fail)
  go_cut [14] (fun t wx => t = .bool false ∧ Below w1.heap.size w1 wx)
  case first =>
    have hc0 := hcv w1.drew (Below.refl _ _).drew
    go_region_with (go_at_call 11; refine (HBY.out _).mono ?_; rintro e w5 ⟨A5, c5, rfl, hr5, hb5⟩; have hcv5 := conv_bytes (c := c5) hr5; have hcv6 := hcv w5 (below_of_drew hb5); have hb9 := below_of_drew hb5; clear hr5 hb5)
    all_goals
      go_wp2_with (fail)
      go_meet
      exact ⟨rfl, by assumption⟩
  case rest =>
    obtain ⟨rfl, hbc⟩ := hcut
    have HBC := Lib.hid (HB1.out.trans (hbc.mono HB1.out.size))
    have HRC := Lib.hid (HR.out.belowM hbc)
    clear hbc hcv hb1 hr1
    cases f
    · have hl := HNO.out HX.out
      subst hl
      go_wp2_with (first | (go_at_call 12; refine (HI.out _).mono ?_; rintro e w7 ⟨rfl, rfl⟩) | (go_at_call 13; refine (HAW.out _ HBC.out).mono ?_; rintro e w8 ⟨rfl, hb8⟩))
      go_ret
      exact ⟨rfl, HBC.out.trans (hb8.mono HBC.out.size)⟩
    · have hlen := HLE.out HX.out
      have HSX := Lib.hid (HSC.out HX.out)
      have hl0 : (l.length == 0) = false := beq_eq_false_iff_ne.2 (by omega)
      have hl1 : ((l.length : Int) == 0) = false := beq_eq_false_iff_ne.2 (by omega)
      go_wp2_with (fail)
      refine (HSA.out _ _ _ HRC.out hc1 HBC.out).mono ?_
      rw [HSX.out]
      rintro e w7 ⟨rfl, hb7⟩
      have HB7 := Lib.hid (HBC.out.trans (hb7.mono HBC.out.size))
      clear hb7
      go_wp2_with (first | (go_at_call 13; refine (HAW.out _ HB7.out).mono ?_; rintro e w8 ⟨rfl, hb8⟩))
      go_ret
      exact ⟨rfl, HB7.out.trans (hb8.mono HB7.out.size)⟩
end Go.Proofs.YtjhgboncipnkeaaDoor.Ut
