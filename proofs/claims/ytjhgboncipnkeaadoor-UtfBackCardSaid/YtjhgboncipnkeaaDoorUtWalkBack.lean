/- The walk of UtfBack. -/
import Derived.Test.YtjhgboncipnkeaaDoorUtAppend
import Derived.Test.YtjhgboncipnkeaaDoorUtDecode
import Derived.Test.YtjhgboncipnkeaaDoorUtAwake
import Derived.Test.YtjhgboncipnkeaaDoorUtScalar
namespace Go.Proofs.YtjhgboncipnkeaaDoor.Ut
set_option maxRecDepth 100000
open Go Go.RowKit Go.Proofs.YtjhgboncipnkeaaDoor.Wo

theorem encL_len : ∀ l : List Int, (encL l).length ≤ 4 * l.length := by
  intro l
  induction l with
  | nil => simp [encL]
  | cons x l ih =>
    have h := encB_len_le x
    unfold encL at *
    rw [List.flatMap_cons, List.length_append, List.length_cons]
    omega
theorem encL_next {l : List Int} {k : Nat} {x : Int} (h : ∃ hl : k < l.length, l[k] = x) : encL (l.take (k + 1)) = encL (l.take k) ++ encB x := by
  obtain ⟨hl, rfl⟩ := h
  unfold encL
  rw [List.take_succ_eq_append_getElem hl, List.flatMap_append]
  simp
theorem fits_more {l : List Int} {k : Nat} {x : Int} (h : ∃ hl : k < l.length, l[k] = x) : fitsS 2 (l.take (k + 1)) = (fitsS 2 (l.take k) && inS 2 x) := by
  obtain ⟨hl, rfl⟩ := h
  unfold fitsS
  rw [List.take_succ_eq_append_getElem hl, List.all_append]
  simp
theorem encB_pos (x : Int) : decide (0 < (encB x).length) = inS 2 x ∧ decide ((0 : Int) < ((encB x).length : Int)) = inS 2 x := by
  cases q : inS 2 x
  · rw [encB_not q]; exact ⟨rfl, rfl⟩
  · have := (encB_len q).1
    exact ⟨decide_eq_true (by omega), decide_eq_true (by omega)⟩
def AllRel (l : List Int) (w1 : World) (v ok i : Value) (wr : World) : Prop :=
  ∃ k : Nat, k ≤ l.length ∧ i = .int .i64 k ∧ ok = .bool (fitsS 2 (l.take k)) ∧ wr.ownsRow w1.heap.size 5 1 v (encL (l.take k)).length ((encL (l.take k)).map (Value.int .u8)) ∧ Below w1.heap.size w1 wr
def AgainRel (l : List Int) (w1 : World) (v i : Value) (wr : World) : Prop :=
  ∃ k : Nat, k ≤ l.length ∧ i = .int .i64 k ∧ wr.ownsRow w1.heap.size 5 1 v (encL (l.take k)).length ((encL (l.take k)).map (Value.int .u8)) ∧ Below w1.heap.size w1 wr
theorem row_more {w9 : World} {base : Nat} {v9 : Value} {a b : List Int} (h : w9.ownsRow base 5 1 v9 (a.length + b.length) (a.map (Value.int .u8) ++ b.map (Value.int .u8))) {c : List Int} (hc : c = a ++ b) : w9.ownsRow base 5 1 v9 c.length (c.map (Value.int .u8)) := by
  subst hc
  rw [List.length_append, List.map_append]
  exact h
set_option maxHeartbeats 8000000 in
theorem walk_UtfBack (A : Option Addr) (c : Nat) (l : List Int) (B : Option Addr) (d : Nat) (r : List Int) (w : World) (hT : Tabs w) (h : RR w w.heap.size A l.length l) (h' : RY w w.heap.size B r.length r) (_hc : l.length ≤ c) (hd : r.length ≤ d) (hm : l.length ≤ maxLen) (hm' : r.length ≤ maxLen) (hx : ∀ x ∈ l, -2147483648 ≤ x ∧ x ≤ 2147483647) (hy : ∀ x ∈ r, 0 ≤ x ∧ x ≤ 255) :
    Calls Tryd.prog 7 #[.slice A l.length c, .slice B r.length d] w (RetB true w) := by
  unfold maxLen at hm hm'
  have HAW := Lib.hid (fun W (hb : Below w.heap.size w W) => awake_any W (hT.below hb hT.2.2))
  by_cases g1 : 2000 < l.length
  · clear h h'
    go_enter Tryd.func7, Tryd.ntmps7
    go_wp2_with (go_at_call 13; refine (HAW.out _ (Below.refl _ _)).mono ?_; rintro e w8 ⟨rfl, hb8⟩)
    go_ret
    exact ⟨rfl, hb8⟩
  by_cases g2 : 2000 < r.length
  · clear h h'
    go_enter Tryd.func7, Tryd.ntmps7
    go_wp2_with (go_at_call 13; refine (HAW.out _ (Below.refl _ _)).mono ?_; rintro e w8 ⟨rfl, hb8⟩)
    go_ret
    exact ⟨rfl, hb8⟩
  have HX := Lib.hid hx
  have HH := Lib.hid h
  have HRL := Lib.hid (fun W (hW : Below w.heap.size w W) => (h.belowM hW))
  have HD := Lib.hid (fun (A1 : Option Addr) m c1 W (hb : Below w.heap.size w W) (q : RY W W.heap.size A1 m (encL l)) (hm : m ≤ 10000) (hmc : m ≤ c1) => decode_any A1 m c1 (encL l) W q (byteL_enc l) (by omega) hmc (hT.below hb hT.2.2))
  have HR := Lib.hid (fun W (hb : Below w.heap.size w W) => repair_any B r.length d r W (h'.belowM hb) hy (by omega) hd (hT.below hb hT.2.2))
  have HV := Lib.hid (fun W (hb : Below w.heap.size w W) => valid_any B r.length d r W (h'.belowM hb) hy (by omega) hd (hT.below hb hT.2.2))
  have HVA := Lib.hid (fun (A1 : Option Addr) m c1 W (hb : Below w.heap.size w W) (q : RY W W.heap.size A1 m (encL (repL r))) (hm : m ≤ 10000) (hmc : m ≤ c1) => (by
    have := valid_any A1 m c1 (encL (repL r)) W q (byteL_enc _) (by omega) hmc (hT.below hb hT.2.2)
    rw [(okL_encL _ (rep_fits _ r hy (Nat.le_refl _))).1] at this
    exact this : Calls Tryd.prog 18 #[.slice A1 m c1] W (RetB true W)))
  have HCB := Lib.hid (fun W (hb : Below w.heap.size w W) => conv_bytes (c := d) (h'.below hb))
  have hrl := repL_len _ r hy (Nat.le_refl _)
  have hrf := rep_fits _ r hy (Nat.le_refl _)
  have HIFF := Lib.hid (ok_iff hy)
  have HY := Lib.hid hy
  have HFIT := Lib.hid (fun x hx => (by
    have := List.all_eq_true.1 hrf x hx
    have := (inS2 x).1 this
    omega : x ∈ repL r → -2147483648 ≤ x ∧ x ≤ 2147483647))
  clear h h' hT hrf
  go_enter Tryd.func7, Tryd.ntmps7
  go_wp2_with (fail)
  go_loopw [5, 6, 7] (fun v ok i wr => AllRel l w v ok i wr) (fun _ _ i _ => l.length - (intOf i).toNat)
  case atStart => exact ⟨0, Nat.zero_le _, rfl, rfl, World.ownsRow_nil _ _ _ _, Below.refl _ _⟩
  case round =>
    obtain ⟨k, hk, rfl, rfl, hrow, hb⟩ := hrel
    have HROW := Lib.hid hrow
    have HB := Lib.hid hb
    have hsz := hb.size
    have hel := encL_len (l.take k)
    rw [List.length_take] at hel
    clear hrow hb
    by_cases hlt : k < l.length
    · obtain ⟨b, off, x, hA, hbB, hlk, hc1⟩ := (HH.out.below HB.out).at_ hlt
      have hxb : -2147483648 ≤ x ∧ x ≤ 2147483647 := by obtain ⟨hl1, e1⟩ := hlk; rw [← e1]; exact HX.out _ (List.getElem_mem hl1)
      have HN := Lib.hid (encL_next hlk)
      have HF := Lib.hid (fits_more hlk)
      have HE := Lib.hid (encode_any2 x wr hxb.1 hxb.2)
      have hle := encB_len_le x
      have hpos := encB_pos x
      obtain ⟨b0, hb0⟩ : ∃ b0, fitsS 2 (l.take k) = b0 := ⟨_, rfl⟩
      obtain ⟨f0, hf0⟩ : ∃ f0, inS 2 x = f0 := ⟨_, rfl⟩
      rw [hb0, hf0] at HF
      rw [hf0] at hpos
      generalize encB x = ex at HE hle hpos HN
      subst hA
      rw [hb0]
      obtain ⟨p1, p2⟩ := hpos
      clear hlk hxb hb0 hf0
      cases b0 <;> cases f0
      all_goals
        go_wp2_with (fail)
        refine HE.out.mono ?_
        rintro e w2 ⟨A2, c2, rfl, hr2, hnil2, hb2⟩
        have HR2 := Lib.hid hr2
        have HN2 := Lib.hid hnil2
        have HO2 := Lib.hid (own_below HROW.out hb2)
        have HB2 := Lib.hid (HB.out.trans (hb2.mono hsz))
        clear hr2 hnil2 hb2
        go_wp2_with (at_builtin; go_must (refine append_RY rfl _ _ rfl w.heap.size _ _ _ rfl HO2.out _ A2 ex.length c2 ex rfl HR2.out HN2.out ?b1 ?b2 ?_))
        case b1 => omega
        case b2 => exact HB2.out.size
        intro v9 w9 hown9 hg9
        have HO9 := Lib.hid (row_more hown9 HN.out)
        have HB9 := Lib.hid (HB2.out.trans (grown_below HO2.out hg9 (Nat.le_refl _) HB2.out.size))
        clear hown9 hg9
        go_wp2_with (fail)
        go_roundw
        case rel => exact ⟨k + 1, by omega, by go_num, by rw [HF.out]; rfl, HO9.out, HB9.out⟩
        case measure => simp [intOf]; omega
    · obtain rfl : k = l.length := by omega
      rw [List.take_length] at HROW hel ⊢
      obtain ⟨A1, c1, rfl, hr1, hc1, -⟩ := own_RY HROW.out rfl
      have HDD := Lib.hid (HD.out A1 _ c1 wr HB.out hr1 (by omega) hc1)
      have HLW := Lib.hid HRL.out
      have hfd : fitsS 2 l = true → okL (encL l) = true ∧ repL (encL l) = l := fun q => okL_encL l q
      have hdl : decL (encL l) = if okL (encL l) = true then repL (encL l) else [] := rfl
      obtain ⟨b0, hb0⟩ : ∃ b0, fitsS 2 l = b0 := ⟨_, rfl⟩
      rw [hb0] at hfd ⊢
      unfold DecOut at HDD
      generalize decL (encL l) = dl at HDD hdl
      have HOK := Lib.hid hfd
      have HDL := Lib.hid hdl
      clear hr1 hc1 HROW hb0 hfd hdl
      generalize okL (encL l) = bo at HDD HOK HDL
      have HSM := Lib.hid (fun (A9 : Option Addr) c9 W (hb : Below w.heap.size w W) (q : RR W W.heap.size A9 l.length l) => (by
        have := wsame_any A9 A c9 c l l W q (HRL.out W hb) (by omega) (by omega)
        rw [decide_eq_true (rfl : l = l)] at this
        exact this : Calls Tryd.prog 19 #[.slice A9 l.length c9, .slice A l.length c] W (RetB true W)))
      have HVR := Lib.hid (show ∀ x ∈ repL r, -2147483648 ≤ x ∧ x ≤ 2147483647 from fun x q => HFIT.out x q q)
      obtain ⟨vr, hvr⟩ : ∃ vr, okL r = vr := ⟨_, rfl⟩
      rw [hvr] at HV HIFF
      generalize repL r = rr at HR HVA hrl HIFF HVR HDL
      have heL := encL_len rr
      clear hvr HFIT hel
      cases b0
      · go_wp2_with (fail)
        refine HDD.out.mono ?_
        rintro e w5 ⟨v5, rfl, A5, c5, rfl, hr5, hc5, -, hb5⟩
        have HB5 := Lib.hid (HB.out.trans (hb5.mono hsz))
        clear hr5 hc5 hb5 HDD
        go_wp2_with (fail)
        refine (HR.out _ HB5.out).mono ?_
        rintro e w6 ⟨v6, rfl, A6, c6, rfl, hr6, hc6, -, hb6⟩
        have HB6 := Lib.hid (HB5.out.trans (hb6.mono HB5.out.size))
        have HR6 := Lib.hid hr6
        have hs6 := HB6.out.size
        clear hr6 hb6 hc6
        go_wp2_with (fail)
        go_loopw [11, 13] (fun v i wr => AgainRel rr w6 v i wr) (fun _ i _ => rr.length - (intOf i).toNat)
        case atStart => exact ⟨0, Nat.zero_le _, rfl, World.ownsRow_nil _ _ _ _, Below.refl _ _⟩
        case round =>
          obtain ⟨k, hk, rfl, hrow, hb⟩ := hrel
          have HROW := Lib.hid hrow
          have HBK := Lib.hid hb
          have hsk := hb.size
          have hel := encL_len (rr.take k)
          rw [List.length_take] at hel
          clear hrow hb
          by_cases hlt : k < rr.length
          · obtain ⟨b, off, x, hA, hbB, hlk, hc1⟩ := (HR6.out.below HBK.out).at_ hlt
            have hxb : -2147483648 ≤ x ∧ x ≤ 2147483647 := by obtain ⟨hl1, e1⟩ := hlk; rw [← e1]; exact HVR.out _ (List.getElem_mem hl1)
            have HN := Lib.hid (encL_next hlk)
            have HE := Lib.hid (encode_any2 x wr hxb.1 hxb.2)
            have hle := encB_len_le x
            generalize encB x = ex at HE hle HN
            subst hA
            clear hlk hxb
            go_wp2_with (fail)
            refine HE.out.mono ?_
            rintro e w7 ⟨A7, c7, rfl, hr7, hnil7, hb7⟩
            have HR7 := Lib.hid hr7
            have HN7 := Lib.hid hnil7
            have HO7 := Lib.hid (own_below HROW.out hb7)
            have HB7 := Lib.hid (HBK.out.trans (hb7.mono hsk))
            clear hr7 hnil7 hb7
            go_wp2_with (at_builtin; go_must (refine append_RY rfl _ _ rfl w6.heap.size _ _ _ rfl HO7.out _ A7 ex.length c7 ex rfl HR7.out HN7.out ?b1 ?b2 ?_))
            case b1 => omega
            case b2 => exact HB7.out.size
            intro v9 w9 hown9 hg9
            have HO9 := Lib.hid (row_more hown9 HN.out)
            have HB9 := Lib.hid (HB7.out.trans (grown_below HO7.out hg9 (Nat.le_refl _) HB7.out.size))
            clear hown9 hg9
            go_wp2_with (fail)
            go_roundw
            case rel => exact ⟨k + 1, by omega, by go_num, HO9.out, HB9.out⟩
            case measure => simp [intOf]; omega
          · obtain rfl : k = rr.length := by omega
            rw [List.take_length] at HROW
            obtain ⟨A7, c7, rfl, hr7, hc7, -⟩ := own_RY HROW.out rfl
            have hbw : Below w.heap.size w wr := HB6.out.trans (HBK.out.mono hs6)
            have HBW := Lib.hid hbw
            have HC1 := Lib.hid (fun W (hW : Below wr.heap.size wr W) => conv_bytes (c := c7) (hr7.below hW))
            have HC2 := Lib.hid (fun W (hW : Below wr.heap.size wr W) => HCB.out W (hbw.trans (hW.mono hbw.size)))
            have HV1 := Lib.hid (fun W (hW : Below wr.heap.size wr W) => HV.out W (hbw.trans (hW.mono hbw.size)))
            have HV2 := Lib.hid (fun W (hW : Below wr.heap.size wr W) => HVA.out A7 _ c7 W (hbw.trans (hW.mono hbw.size)) (hr7.belowM hW) (by omega) hc7)
            have HAW2 := Lib.hid (fun W (hW : Below wr.heap.size wr W) => HAW.out W (hbw.trans (hW.mono hbw.size)))
            have hbE := byteL_enc rr
            generalize encL rr = E at HC1 HV2 HIFF hbE heL ⊢
            have hd1 := HC1.out _ (Below.refl wr.heap.size wr).drew
            have hd2 := HC2.out _ (Below.refl wr.heap.size wr).drew
            have hbw0 := (Below.refl wr.heap.size wr).drew
            have hseq : ((strOfNums E).toList == (strOfNums r).toList) = vr := by
              cases vr
              · exact str_ne hbE HY.out (fun q => by have := HIFF.out.2 q; cases this)
              · rw [HIFF.out.1 rfl]; simp
            have HSEQ := Lib.hid hseq
            clear hr7 hbw HROW hseq hbE
            go_wp2_with (fail)
            have hseq := HSEQ.out
            cases vr
            all_goals
              go_region_held3 (fun w' => Below wr.heap.size wr w' ∧ (convert 22 9 (.slice A7 E.length c7)).run Tryd.prog w' = .ok (.string (strOfNums E)) w' ∧ (convert 22 9 (.slice B r.length d)).run Tryd.prog w' = .ok (.string (strOfNums r)) w')
                (first | go_keep | (go_split_ands; refine ⟨?_, ?_, ?_⟩; all_goals (first | assumption | exact Below.drew (by assumption) | (refine below_two (by assumption) hb5 ?_; exact Below.size (by assumption)) | exact HC1.out _ (below_two (by assumption) hb5 (Below.size (by assumption))) | exact HC2.out _ (below_two (by assumption) hb5 (Below.size (by assumption))))))
                (first | (go_at_call_of 18 (Value.slice B r.length d); refine (HV1.out _ (by first | assumption | (go_split_ands; assumption))).mono ?_; rintro e w5 ⟨rfl, hb5⟩) | (go_at_call_of 18 (Value.slice A7 E.length c7); refine (HV2.out _ (by first | assumption | (go_split_ands; assumption))).mono ?_; rintro e w5 ⟨rfl, hb5⟩) | (go_at_call 13; refine (HAW2.out _ (by first | assumption | (go_split_ands; assumption))).mono ?_; rintro e w5 ⟨rfl, hb5⟩))
              go_split_ands
              go_wp2_with (fail)
              go_ret
              exact ⟨rfl, HBW.out.trans (Below.mono (by assumption) HBW.out.size)⟩
      · obtain ⟨q1, q2⟩ := HOK.out rfl
        subst q1
        have q3 : dl = l := by rw [HDL.out, if_pos rfl, q2]
        subst q3
        clear HOK HDL q2
        go_wp2_with (fail)
        refine HDD.out.mono ?_
        rintro e w5 ⟨v5, rfl, A5, c5, rfl, hr5, hc5, -, hb5⟩
        have HB5a := Lib.hid (HB.out.trans (hb5.mono hsz))
        have HSS := Lib.hid (HSM.out A5 c5 w5 HB5a.out hr5)
        clear hr5 hc5 hb5 HDD
        go_wp2_with (fail)
        refine HSS.out.mono ?_
        rintro e w5b ⟨rfl, hb5⟩
        have HB5 := Lib.hid (HB5a.out.trans (hb5.mono HB5a.out.size))
        clear hb5
        go_wp2_with (fail)
        refine (HR.out _ HB5.out).mono ?_
        rintro e w6 ⟨v6, rfl, A6, c6, rfl, hr6, hc6, -, hb6⟩
        have HB6 := Lib.hid (HB5.out.trans (hb6.mono HB5.out.size))
        have HR6 := Lib.hid hr6
        have hs6 := HB6.out.size
        clear hr6 hb6 hc6
        go_wp2_with (fail)
        go_loopw [11, 13] (fun v i wr => AgainRel rr w6 v i wr) (fun _ i _ => rr.length - (intOf i).toNat)
        case atStart => exact ⟨0, Nat.zero_le _, rfl, World.ownsRow_nil _ _ _ _, Below.refl _ _⟩
        case round =>
          obtain ⟨k, hk, rfl, hrow, hb⟩ := hrel
          have HROW := Lib.hid hrow
          have HBK := Lib.hid hb
          have hsk := hb.size
          have hel := encL_len (rr.take k)
          rw [List.length_take] at hel
          clear hrow hb
          by_cases hlt : k < rr.length
          · obtain ⟨b, off, x, hA, hbB, hlk, hc1⟩ := (HR6.out.below HBK.out).at_ hlt
            have hxb : -2147483648 ≤ x ∧ x ≤ 2147483647 := by obtain ⟨hl1, e1⟩ := hlk; rw [← e1]; exact HVR.out _ (List.getElem_mem hl1)
            have HN := Lib.hid (encL_next hlk)
            have HE := Lib.hid (encode_any2 x wr hxb.1 hxb.2)
            have hle := encB_len_le x
            generalize encB x = ex at HE hle HN
            subst hA
            clear hlk hxb
            go_wp2_with (fail)
            refine HE.out.mono ?_
            rintro e w7 ⟨A7, c7, rfl, hr7, hnil7, hb7⟩
            have HR7 := Lib.hid hr7
            have HN7 := Lib.hid hnil7
            have HO7 := Lib.hid (own_below HROW.out hb7)
            have HB7 := Lib.hid (HBK.out.trans (hb7.mono hsk))
            clear hr7 hnil7 hb7
            go_wp2_with (at_builtin; go_must (refine append_RY rfl _ _ rfl w6.heap.size _ _ _ rfl HO7.out _ A7 ex.length c7 ex rfl HR7.out HN7.out ?b1 ?b2 ?_))
            case b1 => omega
            case b2 => exact HB7.out.size
            intro v9 w9 hown9 hg9
            have HO9 := Lib.hid (row_more hown9 HN.out)
            have HB9 := Lib.hid (HB7.out.trans (grown_below HO7.out hg9 (Nat.le_refl _) HB7.out.size))
            clear hown9 hg9
            go_wp2_with (fail)
            go_roundw
            case rel => exact ⟨k + 1, by omega, by go_num, HO9.out, HB9.out⟩
            case measure => simp [intOf]; omega
          · obtain rfl : k = rr.length := by omega
            rw [List.take_length] at HROW
            obtain ⟨A7, c7, rfl, hr7, hc7, -⟩ := own_RY HROW.out rfl
            have hbw : Below w.heap.size w wr := HB6.out.trans (HBK.out.mono hs6)
            have HBW := Lib.hid hbw
            have HC1 := Lib.hid (fun W (hW : Below wr.heap.size wr W) => conv_bytes (c := c7) (hr7.below hW))
            have HC2 := Lib.hid (fun W (hW : Below wr.heap.size wr W) => HCB.out W (hbw.trans (hW.mono hbw.size)))
            have HV1 := Lib.hid (fun W (hW : Below wr.heap.size wr W) => HV.out W (hbw.trans (hW.mono hbw.size)))
            have HV2 := Lib.hid (fun W (hW : Below wr.heap.size wr W) => HVA.out A7 _ c7 W (hbw.trans (hW.mono hbw.size)) (hr7.belowM hW) (by omega) hc7)
            have HAW2 := Lib.hid (fun W (hW : Below wr.heap.size wr W) => HAW.out W (hbw.trans (hW.mono hbw.size)))
            have hbE := byteL_enc rr
            generalize encL rr = E at HC1 HV2 HIFF hbE heL ⊢
            have hd1 := HC1.out _ (Below.refl wr.heap.size wr).drew
            have hd2 := HC2.out _ (Below.refl wr.heap.size wr).drew
            have hbw0 := (Below.refl wr.heap.size wr).drew
            have hseq : ((strOfNums E).toList == (strOfNums r).toList) = vr := by
              cases vr
              · exact str_ne hbE HY.out (fun q => by have := HIFF.out.2 q; cases this)
              · rw [HIFF.out.1 rfl]; simp
            have HSEQ := Lib.hid hseq
            clear hr7 hbw HROW hseq hbE
            go_wp2_with (fail)
            have hseq := HSEQ.out
            cases vr
            all_goals
              go_region_held3 (fun w' => Below wr.heap.size wr w' ∧ (convert 22 9 (.slice A7 E.length c7)).run Tryd.prog w' = .ok (.string (strOfNums E)) w' ∧ (convert 22 9 (.slice B r.length d)).run Tryd.prog w' = .ok (.string (strOfNums r)) w')
                (first | go_keep | (go_split_ands; refine ⟨?_, ?_, ?_⟩; all_goals (first | assumption | exact Below.drew (by assumption) | (refine below_two (by assumption) hb5 ?_; exact Below.size (by assumption)) | exact HC1.out _ (below_two (by assumption) hb5 (Below.size (by assumption))) | exact HC2.out _ (below_two (by assumption) hb5 (Below.size (by assumption))))))
                (first | (go_at_call_of 18 (Value.slice B r.length d); refine (HV1.out _ (by first | assumption | (go_split_ands; assumption))).mono ?_; rintro e w5 ⟨rfl, hb5⟩) | (go_at_call_of 18 (Value.slice A7 E.length c7); refine (HV2.out _ (by first | assumption | (go_split_ands; assumption))).mono ?_; rintro e w5 ⟨rfl, hb5⟩) | (go_at_call 13; refine (HAW2.out _ (by first | assumption | (go_split_ands; assumption))).mono ?_; rintro e w5 ⟨rfl, hb5⟩))
              go_split_ands
              go_wp2_with (fail)
              go_ret
              exact ⟨rfl, HBW.out.trans (Below.mono (by assumption) HBW.out.size)⟩
end Go.Proofs.YtjhgboncipnkeaaDoor.Ut
