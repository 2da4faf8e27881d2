/- The walk of UtfJoins. -/
import Derived.Test.YtjhgboncipnkeaaDoorUtWant
import Derived.Test.YtjhgboncipnkeaaDoorUtJoinMath
import Derived.Test.YtjhgboncipnkeaaDoorUtValid
import Derived.Test.YtjhgboncipnkeaaDoorUtAwake
namespace Go.Proofs.YtjhgboncipnkeaaDoor.Ut
set_option maxRecDepth 100000
open Go Go.RowKit Go.Proofs.YtjhgboncipnkeaaDoor.Wo

theorem row_cat {w9 : World} {base : Nat} {v9 : Value} {f : Int → Value} {e : TypeId} {a b : List Int} (h : w9.ownsRow base e 1 v9 (a.length + b.length) (a.map f ++ b.map f)) : w9.ownsRow base e 1 v9 (a ++ b).length ((a ++ b).map f) := by
  rw [List.length_append, List.map_append]
  exact h
theorem row_cat0 {w9 : World} {base : Nat} {v9 : Value} {f : Int → Value} {e : TypeId} {b : List Int} (h : w9.ownsRow base e 1 v9 (0 + b.length) ([] ++ b.map f)) : w9.ownsRow base e 1 v9 b.length (b.map f) := by
  rw [Nat.zero_add, List.nil_append] at h
  exact h
theorem one_RY (w : World) (x : Int) : RY (w.alloc (.cells #[.int .u8 x] 5)) (w.alloc (.cells #[.int .u8 x] 5)).heap.size (some ⟨w.heap.size, 0, none⟩) 1 [x] := new_RY [x] 1 rfl (by simp)
theorem one_RR (w : World) (x : Int) : RR (w.alloc (.cells #[.int .i32 x] 21)) (w.alloc (.cells #[.int .i32 x] 21)).heap.size (some ⟨w.heap.size, 0, none⟩) 1 [x] := by
  refine ⟨rfl, fun _ => ⟨w.heap.size, 0, rfl, by simp, fun j hj => ?_⟩⟩
  have : j = 0 := by simp at hj; exact hj
  subst this
  simp
set_option maxHeartbeats 8000000 in
theorem walk_UtfJoins (A : Option Addr) (c : Nat) (l : List Int) (B : Option Addr) (d : Nat) (r : List Int) (x : Int) (w : World) (hT : Tabs w) (h : RY w w.heap.size A l.length l) (h' : RY w w.heap.size B r.length r) (hc : l.length ≤ c) (hd : r.length ≤ d) (hm : l.length ≤ maxLen) (hm' : r.length ≤ maxLen) (hx : ∀ x ∈ l, 0 ≤ x ∧ x ≤ 255) (hy : ∀ x ∈ r, 0 ≤ x ∧ x ≤ 255) (hx0 : 0 ≤ x) (hx1 : x ≤ 255) (hnA : A = none → c = 0) (hnB : B = none → d = 0) :
    Calls Tryd.prog 8 #[.slice A l.length c, .slice B r.length d, .int .u8 x] w (RetB true w) := by
  unfold maxLen at hm hm'
  have HAW := Lib.hid (fun W (hb : Below w.heap.size w W) => awake_any W (hT.below hb hT.2.2))
  by_cases g1 : 2000 < l.length
  · clear h h'
    go_enter Tryd.func8, Tryd.ntmps8
    go_wp2_with (go_at_call 13; refine (HAW.out _ (Below.refl _ _)).mono ?_; rintro e w8 ⟨rfl, hb8⟩)
    go_ret
    exact ⟨rfl, hb8⟩
  by_cases g2 : 2000 < r.length
  · clear h h'
    go_enter Tryd.func8, Tryd.ntmps8
    go_wp2_with (go_at_call 13; refine (HAW.out _ (Below.refl _ _)).mono ?_; rintro e w8 ⟨rfl, hb8⟩)
    go_ret
    exact ⟨rfl, hb8⟩
  have HAL := Lib.hid (fun W (hb : Below w.heap.size w W) => h.belowM hb)
  have HBL := Lib.hid (fun W (hb : Below w.heap.size w W) => h'.belowM hb)
  have HR1 := Lib.hid (repair_any A l.length c l w h hx (by omega) hc hT)
  have HR2 := Lib.hid (fun W (hb : Below w.heap.size w W) => repair_any B r.length d r W (h'.belowM hb) hy (by omega) hd (hT.below hb hT.2.2))
  have HV := Lib.hid (fun W (hb : Below w.heap.size w W) => valid_any A l.length c l W (h.belowM hb) hx (by omega) hc (hT.below hb hT.2.2))
  have HRP := Lib.hid (fun (A1 : Option Addr) c1 (L : List Int) W (hb : Below w.heap.size w W) (q : RY W W.heap.size A1 L.length L) (hL : ByteL L) (hm : L.length ≤ 10000) (hmc : L.length ≤ c1) => repair_any A1 L.length c1 L W q hL (by omega) hmc (hT.below hb hT.2.2))
  have HSM := Lib.hid (fun (A1 A2 : Option Addr) c1 c2 (L : List Int) W (hL : L.length ≤ 100000) (q1 : RR W W.heap.size A1 L.length L) (q2 : RR W W.heap.size A2 L.length L) => (by
    have := wsame_any A1 A2 c1 c2 L L W q1 q2 (by omega) (by omega)
    rw [decide_eq_true (rfl : L = L)] at this
    exact this : Calls Tryd.prog 19 #[.slice A1 L.length c1, .slice A2 L.length c2] W (RetB true W)))
  have hl1 := repL_len _ l hx (Nat.le_refl _)
  have hl2 := repL_len _ r hy (Nat.le_refl _)
  obtain ⟨y, hyx⟩ : ∃ y, x % 128 = y := ⟨_, rfl⟩
  have hy0 : 0 ≤ y ∧ y ≤ 127 := by omega
  have hbj : ByteL (l ++ r) := byteL_append hx hy
  have hbk : ByteL (l ++ [y] ++ r) := byteL_append (byteL_append hx (fun z hz => by obtain rfl := List.mem_singleton.1 hz; omega)) hy
  have HJ := Lib.hid (fun (q : okL l = true) => rep_join hx hy q)
  have HK := Lib.hid (show repL (l ++ [y] ++ r) = repL l ++ [y] ++ repL r by
    rw [List.append_assoc, List.append_assoc]
    exact rep_ascii _ l y r (Nat.le_refl _) hx hy hy0.1 hy0.2)
  have hlu : (repL l ++ repL r).length ≤ 4000 := by rw [List.length_append]; omega
  have hlk : (repL l ++ [y] ++ repL r).length ≤ 4001 := by rw [List.length_append, List.length_append, List.length_singleton]; omega
  have hlJ : (l ++ r).length ≤ 4000 := by rw [List.length_append]; omega
  have hlK : (l ++ [y] ++ r).length ≤ 4001 := by rw [List.length_append, List.length_append, List.length_singleton]; omega
  have HBJ := Lib.hid hbj
  have HBK := Lib.hid hbk
  have HNA := Lib.hid hnA
  have HNB := Lib.hid hnB
  obtain ⟨va, hva⟩ : ∃ va, okL l = va := ⟨_, rfl⟩
  rw [hva] at HV HJ
  generalize repL l = u at HR1 HJ HK hl1 hlu hlk
  generalize repL r = z at HR2 HJ HK hl2 hlu hlk
  obtain ⟨UJ, hUJ⟩ : ∃ UJ, u ++ z = UJ := ⟨_, rfl⟩
  obtain ⟨UK, hUK⟩ : ∃ UK, u ++ [y] ++ z = UK := ⟨_, rfl⟩
  obtain ⟨LJ, hLJ⟩ : ∃ LJ, l ++ r = LJ := ⟨_, rfl⟩
  obtain ⟨LK, hLK⟩ : ∃ LK, l ++ [y] ++ r = LK := ⟨_, rfl⟩
  rw [hUJ, hLJ] at HJ
  rw [hUK, hLK] at HK
  rw [hLJ] at HBJ hlJ
  rw [hLK] at HBK hlK
  rw [hUJ] at hlu
  rw [hUK] at hlk
  have HUJ := Lib.hid hUJ
  have HUK := Lib.hid hUK
  have HLJ := Lib.hid hLJ
  have HLK := Lib.hid hLK
  clear hUJ hUK hLJ hLK
  have HYX := Lib.hid hyx
  clear h h' hT hx hy hva hbj hbk hnA hnB
  go_enter Tryd.func8, Tryd.ntmps8
  go_wp2_with (fail)
  refine HR1.out.mono ?_
  rintro e w1 ⟨v1, rfl, A1, c1, rfl, hr1, hc1, hf1, hb1⟩
  have HX1 := Lib.hid hr1
  have HB1 := Lib.hid hb1
  have hn1 : A1 = none → c1 = 0 := hf1.2
  clear hr1 hb1 hf1
  go_wp2_with (fail)
  refine (HR2.out _ HB1.out).mono ?_
  rintro e w2 ⟨v2, rfl, A2, c2, rfl, hr2, hc2, hf2, hb2⟩
  have HX2 := Lib.hid hr2
  have HX12 := Lib.hid (HX1.out.belowM hb2)
  have HB2 := Lib.hid (HB1.out.trans (hb2.mono HB1.out.size))
  have hn2 : A2 = none → c2 = 0 := hf2.2
  have HN1 := Lib.hid hn1
  have HN2 := Lib.hid hn2
  have hs2 := HB2.out.size
  clear hr2 hb2 hf2 hn1 hn2
  go_wp2_with (fail)
  refine (HV.out _ HB2.out).mono ?_
  rintro e w3 ⟨rfl, hb3⟩
  have HB3 := Lib.hid hb3
  have hs3 := hb3.size
  clear hb3
  cases va
  · have HW3 := Lib.hid (HB2.out.trans (HB3.out.mono hs2))
    have HO40 := Lib.hid (own_new w3 5 w3.heap.size (Nat.le_refl _))
    have HG40 := Lib.hid ((Below.refl w3.heap.size w3).alloc (Nat.le_refl _) (.cells #[] 5))
    go_wp2_with (at_builtin; go_must (refine want_RY (by rfl) _ _ rfl w3.heap.size _ 0 [] rfl (HO40.out) _ A l.length c l rfl (HAL.out _ (HW3.out.trans (HG40.out.mono HW3.out.size))) HNA.out ?b1 ?b2 ?_))
    case b1 => omega
    case b2 => (first | exact HG40.out.size | (have := HG40.out.size; simp; omega))
    intro v41 w41 hown41 hgr41
    have hq41 : w41.ownsRow w3.heap.size 5 1 v41 l.length ((l).map (Value.int .u8)) := by
      simpa [Nat.add_assoc, Nat.add_comm, Nat.add_left_comm] using hown41
    have HO41 := Lib.hid hq41
    clear hq41
    have HG41 := Lib.hid (HG40.out.trans (grown_below (HO40.out) hgr41 (Nat.le_refl _) (by first | exact HG40.out.size | (have := HG40.out.size; simp; omega))))
    have hz41 := HG41.out.size
    clear hown41 hgr41
    go_wp2_with (at_builtin; go_must (refine want_RY (by rfl) _ _ rfl w3.heap.size _ l.length _ rfl (HO41.out.alloc _) _ (some ⟨w41.heap.size, 0, none⟩) 1 1 [y] rfl (one_RY w41 y) (fun e => by cases e) ?b1 ?b2 ?_))
    case b1 => omega
    case b2 => (first | exact HG41.out.size | (have := HG41.out.size; simp; omega))
    intro v42 w42 hown42 hgr42
    have hq42 : w42.ownsRow w3.heap.size 5 1 v42 (l.length + 1) ((l ++ [y]).map (Value.int .u8)) := by
      simpa [Nat.add_assoc, Nat.add_comm, Nat.add_left_comm] using hown42
    have HO42 := Lib.hid hq42
    clear hq42
    have HG42 := Lib.hid ((HG41.out.alloc HG41.out.size _).trans (grown_below (HO41.out.alloc _) hgr42 (Nat.le_refl _) (by first | exact HG41.out.size | (have := HG41.out.size; simp; omega))))
    have hz42 := HG42.out.size
    clear hown42 hgr42
    go_wp2_with (at_builtin; go_must (refine want_RY (by rfl) _ _ rfl w3.heap.size _ _ _ rfl (HO42.out) _ B r.length d r rfl (HBL.out _ (HW3.out.trans (HG42.out.mono HW3.out.size))) HNB.out ?b1 ?b2 ?_))
    case b1 => omega
    case b2 => (first | exact HG42.out.size | (have := HG42.out.size; simp; omega))
    intro v43 w43 hown43 hgr43
    have hq43 : w43.ownsRow w3.heap.size 5 1 v43 LK.length ((LK).map (Value.int .u8)) := by
      rw [← HLK.out]; simpa [Nat.add_assoc, Nat.add_comm, Nat.add_left_comm] using hown43
    have HO43 := Lib.hid hq43
    clear hq43
    have HG43 := Lib.hid (HG42.out.trans (grown_below (HO42.out) hgr43 (Nat.le_refl _) (by first | exact HG42.out.size | (have := HG42.out.size; simp; omega))))
    have hz43 := HG43.out.size
    clear hown43 hgr43
    obtain ⟨A4, c4, rfl, hr4, hc4, -⟩ := own_RY HO43.out rfl
    have hwb4 := HW3.out.trans (HG43.out.mono HW3.out.size)
    have hrp4 := HRP.out A4 c4 LK w43 hwb4 hr4 HBK.out (by omega) hc4
    rw [HK.out] at hrp4
    have HP4 := Lib.hid hrp4
    have HWB4 := Lib.hid hwb4
    have HWW4 := Lib.hid (HB3.out.trans (HG43.out.mono HB3.out.size))
    clear hrp4 hr4 hwb4
    go_wp2_with (fail)
    refine HP4.out.mono ?_
    rintro e q4 ⟨v4r, rfl, A4r, c4r, rfl, hr4r, hc4r, -, hb4r⟩
    have HXR4 := Lib.hid hr4r
    have HQB4 := Lib.hid (HWB4.out.trans (hb4r.mono HWB4.out.size))
    have HQW4 := Lib.hid (HWW4.out.trans (hb4r.mono HWW4.out.size))
    have hzq4 := HQW4.out.size
    clear hr4r hb4r
    have HO50 := Lib.hid (own_new q4 21 q4.heap.size (Nat.le_refl _))
    have HG50 := Lib.hid ((Below.refl q4.heap.size q4).alloc (Nat.le_refl _) (.cells #[] 21))
    go_wp2_with (at_builtin; go_must (refine want_RR (by rfl) _ _ rfl q4.heap.size _ 0 [] rfl (HO50.out) _ A1 u.length c1 u rfl (HX12.out.belowM (HQW4.out.trans (HG50.out.mono HQW4.out.size))) HN1.out ?b1 ?b2 ?_))
    case b1 => omega
    case b2 => (first | exact HG50.out.size | (have := HG50.out.size; simp; omega))
    intro v51 w51 hown51 hgr51
    have hq51 : w51.ownsRow q4.heap.size 21 1 v51 u.length ((u).map (Value.int .i32)) := by
      simpa [Nat.add_assoc, Nat.add_comm, Nat.add_left_comm] using hown51
    have HO51 := Lib.hid hq51
    clear hq51
    have HG51 := Lib.hid (HG50.out.trans (grown_below (HO50.out) hgr51 (Nat.le_refl _) (by first | exact HG50.out.size | (have := HG50.out.size; simp; omega))))
    have hz51 := HG51.out.size
    clear hown51 hgr51
    go_wp2_with (at_builtin; go_must (refine want_RR (by rfl) _ _ rfl q4.heap.size _ u.length _ rfl (HO51.out.alloc _) _ (some ⟨w51.heap.size, 0, none⟩) 1 1 [y] rfl (one_RR w51 y) (fun e => by cases e) ?b1 ?b2 ?_))
    case b1 => omega
    case b2 => (first | exact HG51.out.size | (have := HG51.out.size; simp; omega))
    intro v52 w52 hown52 hgr52
    have hq52 : w52.ownsRow q4.heap.size 21 1 v52 (u.length + 1) ((u ++ [y]).map (Value.int .i32)) := by
      simpa [Nat.add_assoc, Nat.add_comm, Nat.add_left_comm] using hown52
    have HO52 := Lib.hid hq52
    clear hq52
    have HG52 := Lib.hid ((HG51.out.alloc HG51.out.size _).trans (grown_below (HO51.out.alloc _) hgr52 (Nat.le_refl _) (by first | exact HG51.out.size | (have := HG51.out.size; simp; omega))))
    have hz52 := HG52.out.size
    clear hown52 hgr52
    go_wp2_with (at_builtin; go_must (refine want_RR (by rfl) _ _ rfl q4.heap.size _ _ _ rfl (HO52.out) _ A2 z.length c2 z rfl (HX2.out.belowM (HQW4.out.trans (HG52.out.mono HQW4.out.size))) HN2.out ?b1 ?b2 ?_))
    case b1 => omega
    case b2 => (first | exact HG52.out.size | (have := HG52.out.size; simp; omega))
    intro v53 w53 hown53 hgr53
    have hq53 : w53.ownsRow q4.heap.size 21 1 v53 UK.length ((UK).map (Value.int .i32)) := by
      rw [← HUK.out]; simpa [Nat.add_assoc, Nat.add_comm, Nat.add_left_comm] using hown53
    have HO53 := Lib.hid hq53
    clear hq53
    have HG53 := Lib.hid (HG52.out.trans (grown_below (HO52.out) hgr53 (Nat.le_refl _) (by first | exact HG52.out.size | (have := HG52.out.size; simp; omega))))
    have hz53 := HG53.out.size
    clear hown53 hgr53
    obtain ⟨A5, c5, rfl, hr5, hc5, -⟩ := own_RR HO53.out rfl
    have HS5 := Lib.hid (HSM.out A4r A5 c4r c5 UK w53 (by omega) (HXR4.out.belowM HG53.out) hr5)
    have HFB5 := Lib.hid (HQB4.out.trans (HG53.out.mono HQB4.out.size))
    have HFW5 := Lib.hid (HQW4.out.trans (HG53.out.mono HQW4.out.size))
    clear hr5
    go_wp2_with (fail)
    refine HS5.out.mono ?_
    rintro e s5 ⟨rfl, hbs5⟩
    have HEB5 := Lib.hid (HFB5.out.trans (hbs5.mono HFB5.out.size))
    have HEW5 := Lib.hid (HFW5.out.trans (hbs5.mono HFW5.out.size))
    clear hbs5
    go_wp2_with (go_at_call 13; refine (HAW.out _ HEB5.out).mono ?_; rintro e w8 ⟨rfl, hb8⟩)
    go_ret
    exact ⟨rfl, HEB5.out.trans (hb8.mono HEB5.out.size)⟩
  · have HW3 := Lib.hid (HB2.out.trans (HB3.out.mono hs2))
    have HO40 := Lib.hid (own_new w3 5 w3.heap.size (Nat.le_refl _))
    have HG40 := Lib.hid ((Below.refl w3.heap.size w3).alloc (Nat.le_refl _) (.cells #[] 5))
    go_wp2_with (at_builtin; go_must (refine want_RY (by rfl) _ _ rfl w3.heap.size _ 0 [] rfl (HO40.out) _ A l.length c l rfl (HAL.out _ (HW3.out.trans (HG40.out.mono HW3.out.size))) HNA.out ?b1 ?b2 ?_))
    case b1 => omega
    case b2 => (first | exact HG40.out.size | (have := HG40.out.size; simp; omega))
    intro v41 w41 hown41 hgr41
    have hq41 : w41.ownsRow w3.heap.size 5 1 v41 l.length ((l).map (Value.int .u8)) := by
      simpa [Nat.add_assoc, Nat.add_comm, Nat.add_left_comm] using hown41
    have HO41 := Lib.hid hq41
    clear hq41
    have HG41 := Lib.hid (HG40.out.trans (grown_below (HO40.out) hgr41 (Nat.le_refl _) (by first | exact HG40.out.size | (have := HG40.out.size; simp; omega))))
    have hz41 := HG41.out.size
    clear hown41 hgr41
    go_wp2_with (at_builtin; go_must (refine want_RY (by rfl) _ _ rfl w3.heap.size _ l.length _ rfl (HO41.out) _ B r.length d r rfl (HBL.out _ (HW3.out.trans (HG41.out.mono HW3.out.size))) HNB.out ?b1 ?b2 ?_))
    case b1 => omega
    case b2 => (first | exact HG41.out.size | (have := HG41.out.size; simp; omega))
    intro v42 w42 hown42 hgr42
    have hq42 : w42.ownsRow w3.heap.size 5 1 v42 LJ.length ((LJ).map (Value.int .u8)) := by
      rw [← HLJ.out]; simpa [Nat.add_assoc, Nat.add_comm, Nat.add_left_comm] using hown42
    have HO42 := Lib.hid hq42
    clear hq42
    have HG42 := Lib.hid (HG41.out.trans (grown_below (HO41.out) hgr42 (Nat.le_refl _) (by first | exact HG41.out.size | (have := HG41.out.size; simp; omega))))
    have hz42 := HG42.out.size
    clear hown42 hgr42
    obtain ⟨A4, c4, rfl, hr4, hc4, -⟩ := own_RY HO42.out rfl
    have hwb4 := HW3.out.trans (HG42.out.mono HW3.out.size)
    have hrp4 := HRP.out A4 c4 LJ w42 hwb4 hr4 HBJ.out (by omega) hc4
    rw [HJ.out (by trivial)] at hrp4
    have HP4 := Lib.hid hrp4
    have HWB4 := Lib.hid hwb4
    have HWW4 := Lib.hid (HB3.out.trans (HG42.out.mono HB3.out.size))
    clear hrp4 hr4 hwb4
    go_wp2_with (fail)
    refine HP4.out.mono ?_
    rintro e q4 ⟨v4r, rfl, A4r, c4r, rfl, hr4r, hc4r, -, hb4r⟩
    have HXR4 := Lib.hid hr4r
    have HQB4 := Lib.hid (HWB4.out.trans (hb4r.mono HWB4.out.size))
    have HQW4 := Lib.hid (HWW4.out.trans (hb4r.mono HWW4.out.size))
    have hzq4 := HQW4.out.size
    clear hr4r hb4r
    have HO50 := Lib.hid (own_new q4 21 q4.heap.size (Nat.le_refl _))
    have HG50 := Lib.hid ((Below.refl q4.heap.size q4).alloc (Nat.le_refl _) (.cells #[] 21))
    go_wp2_with (at_builtin; go_must (refine want_RR (by rfl) _ _ rfl q4.heap.size _ 0 [] rfl (HO50.out) _ A1 u.length c1 u rfl (HX12.out.belowM (HQW4.out.trans (HG50.out.mono HQW4.out.size))) HN1.out ?b1 ?b2 ?_))
    case b1 => omega
    case b2 => (first | exact HG50.out.size | (have := HG50.out.size; simp; omega))
    intro v51 w51 hown51 hgr51
    have hq51 : w51.ownsRow q4.heap.size 21 1 v51 u.length ((u).map (Value.int .i32)) := by
      simpa [Nat.add_assoc, Nat.add_comm, Nat.add_left_comm] using hown51
    have HO51 := Lib.hid hq51
    clear hq51
    have HG51 := Lib.hid (HG50.out.trans (grown_below (HO50.out) hgr51 (Nat.le_refl _) (by first | exact HG50.out.size | (have := HG50.out.size; simp; omega))))
    have hz51 := HG51.out.size
    clear hown51 hgr51
    go_wp2_with (at_builtin; go_must (refine want_RR (by rfl) _ _ rfl q4.heap.size _ u.length _ rfl (HO51.out) _ A2 z.length c2 z rfl (HX2.out.belowM (HQW4.out.trans (HG51.out.mono HQW4.out.size))) HN2.out ?b1 ?b2 ?_))
    case b1 => omega
    case b2 => (first | exact HG51.out.size | (have := HG51.out.size; simp; omega))
    intro v52 w52 hown52 hgr52
    have hq52 : w52.ownsRow q4.heap.size 21 1 v52 UJ.length ((UJ).map (Value.int .i32)) := by
      rw [← HUJ.out]; simpa [Nat.add_assoc, Nat.add_comm, Nat.add_left_comm] using hown52
    have HO52 := Lib.hid hq52
    clear hq52
    have HG52 := Lib.hid (HG51.out.trans (grown_below (HO51.out) hgr52 (Nat.le_refl _) (by first | exact HG51.out.size | (have := HG51.out.size; simp; omega))))
    have hz52 := HG52.out.size
    clear hown52 hgr52
    obtain ⟨A5, c5, rfl, hr5, hc5, -⟩ := own_RR HO52.out rfl
    have HS5 := Lib.hid (HSM.out A4r A5 c4r c5 UJ w52 (by omega) (HXR4.out.belowM HG52.out) hr5)
    have HFB5 := Lib.hid (HQB4.out.trans (HG52.out.mono HQB4.out.size))
    have HFW5 := Lib.hid (HQW4.out.trans (HG52.out.mono HQW4.out.size))
    clear hr5
    go_wp2_with (fail)
    refine HS5.out.mono ?_
    rintro e s5 ⟨rfl, hbs5⟩
    have HEB5 := Lib.hid (HFB5.out.trans (hbs5.mono HFB5.out.size))
    have HEW5 := Lib.hid (HFW5.out.trans (hbs5.mono HFW5.out.size))
    clear hbs5
    have HO60 := Lib.hid (own_new s5 5 s5.heap.size (Nat.le_refl _))
    have HG60 := Lib.hid ((Below.refl s5.heap.size s5).alloc (Nat.le_refl _) (.cells #[] 5))
    go_wp2_with (at_builtin; go_must (refine want_RY (by rfl) _ _ rfl s5.heap.size _ 0 [] rfl (HO60.out) _ A l.length c l rfl (HAL.out _ (HEB5.out.trans (HG60.out.mono HEB5.out.size))) HNA.out ?b1 ?b2 ?_))
    case b1 => omega
    case b2 => (first | exact HG60.out.size | (have := HG60.out.size; simp; omega))
    intro v61 w61 hown61 hgr61
    have hq61 : w61.ownsRow s5.heap.size 5 1 v61 l.length ((l).map (Value.int .u8)) := by
      simpa [Nat.add_assoc, Nat.add_comm, Nat.add_left_comm] using hown61
    have HO61 := Lib.hid hq61
    clear hq61
    have HG61 := Lib.hid (HG60.out.trans (grown_below (HO60.out) hgr61 (Nat.le_refl _) (by first | exact HG60.out.size | (have := HG60.out.size; simp; omega))))
    have hz61 := HG61.out.size
    clear hown61 hgr61
    go_wp2_with (at_builtin; go_must (refine want_RY (by rfl) _ _ rfl s5.heap.size _ l.length _ rfl (HO61.out.alloc _) _ (some ⟨w61.heap.size, 0, none⟩) 1 1 [y] rfl (one_RY w61 y) (fun e => by cases e) ?b1 ?b2 ?_))
    case b1 => omega
    case b2 => (first | exact HG61.out.size | (have := HG61.out.size; simp; omega))
    intro v62 w62 hown62 hgr62
    have hq62 : w62.ownsRow s5.heap.size 5 1 v62 (l.length + 1) ((l ++ [y]).map (Value.int .u8)) := by
      simpa [Nat.add_assoc, Nat.add_comm, Nat.add_left_comm] using hown62
    have HO62 := Lib.hid hq62
    clear hq62
    have HG62 := Lib.hid ((HG61.out.alloc HG61.out.size _).trans (grown_below (HO61.out.alloc _) hgr62 (Nat.le_refl _) (by first | exact HG61.out.size | (have := HG61.out.size; simp; omega))))
    have hz62 := HG62.out.size
    clear hown62 hgr62
    go_wp2_with (at_builtin; go_must (refine want_RY (by rfl) _ _ rfl s5.heap.size _ _ _ rfl (HO62.out) _ B r.length d r rfl (HBL.out _ (HEB5.out.trans (HG62.out.mono HEB5.out.size))) HNB.out ?b1 ?b2 ?_))
    case b1 => omega
    case b2 => (first | exact HG62.out.size | (have := HG62.out.size; simp; omega))
    intro v63 w63 hown63 hgr63
    have hq63 : w63.ownsRow s5.heap.size 5 1 v63 LK.length ((LK).map (Value.int .u8)) := by
      rw [← HLK.out]; simpa [Nat.add_assoc, Nat.add_comm, Nat.add_left_comm] using hown63
    have HO63 := Lib.hid hq63
    clear hq63
    have HG63 := Lib.hid (HG62.out.trans (grown_below (HO62.out) hgr63 (Nat.le_refl _) (by first | exact HG62.out.size | (have := HG62.out.size; simp; omega))))
    have hz63 := HG63.out.size
    clear hown63 hgr63
    obtain ⟨A6, c6, rfl, hr6, hc6, -⟩ := own_RY HO63.out rfl
    have hwb6 := HEB5.out.trans (HG63.out.mono HEB5.out.size)
    have hrp6 := HRP.out A6 c6 LK w63 hwb6 hr6 HBK.out (by omega) hc6
    rw [HK.out] at hrp6
    have HP6 := Lib.hid hrp6
    have HWB6 := Lib.hid hwb6
    have HWW6 := Lib.hid (HEW5.out.trans (HG63.out.mono HEW5.out.size))
    clear hrp6 hr6 hwb6
    go_wp2_with (fail)
    refine HP6.out.mono ?_
    rintro e q6 ⟨v6r, rfl, A6r, c6r, rfl, hr6r, hc6r, -, hb6r⟩
    have HXR6 := Lib.hid hr6r
    have HQB6 := Lib.hid (HWB6.out.trans (hb6r.mono HWB6.out.size))
    have HQW6 := Lib.hid (HWW6.out.trans (hb6r.mono HWW6.out.size))
    have hzq6 := HQW6.out.size
    clear hr6r hb6r
    have HO70 := Lib.hid (own_new q6 21 q6.heap.size (Nat.le_refl _))
    have HG70 := Lib.hid ((Below.refl q6.heap.size q6).alloc (Nat.le_refl _) (.cells #[] 21))
    go_wp2_with (at_builtin; go_must (refine want_RR (by rfl) _ _ rfl q6.heap.size _ 0 [] rfl (HO70.out) _ A1 u.length c1 u rfl (HX12.out.belowM (HQW6.out.trans (HG70.out.mono HQW6.out.size))) HN1.out ?b1 ?b2 ?_))
    case b1 => omega
    case b2 => (first | exact HG70.out.size | (have := HG70.out.size; simp; omega))
    intro v71 w71 hown71 hgr71
    have hq71 : w71.ownsRow q6.heap.size 21 1 v71 u.length ((u).map (Value.int .i32)) := by
      simpa [Nat.add_assoc, Nat.add_comm, Nat.add_left_comm] using hown71
    have HO71 := Lib.hid hq71
    clear hq71
    have HG71 := Lib.hid (HG70.out.trans (grown_below (HO70.out) hgr71 (Nat.le_refl _) (by first | exact HG70.out.size | (have := HG70.out.size; simp; omega))))
    have hz71 := HG71.out.size
    clear hown71 hgr71
    go_wp2_with (at_builtin; go_must (refine want_RR (by rfl) _ _ rfl q6.heap.size _ u.length _ rfl (HO71.out.alloc _) _ (some ⟨w71.heap.size, 0, none⟩) 1 1 [y] rfl (one_RR w71 y) (fun e => by cases e) ?b1 ?b2 ?_))
    case b1 => omega
    case b2 => (first | exact HG71.out.size | (have := HG71.out.size; simp; omega))
    intro v72 w72 hown72 hgr72
    have hq72 : w72.ownsRow q6.heap.size 21 1 v72 (u.length + 1) ((u ++ [y]).map (Value.int .i32)) := by
      simpa [Nat.add_assoc, Nat.add_comm, Nat.add_left_comm] using hown72
    have HO72 := Lib.hid hq72
    clear hq72
    have HG72 := Lib.hid ((HG71.out.alloc HG71.out.size _).trans (grown_below (HO71.out.alloc _) hgr72 (Nat.le_refl _) (by first | exact HG71.out.size | (have := HG71.out.size; simp; omega))))
    have hz72 := HG72.out.size
    clear hown72 hgr72
    go_wp2_with (at_builtin; go_must (refine want_RR (by rfl) _ _ rfl q6.heap.size _ _ _ rfl (HO72.out) _ A2 z.length c2 z rfl (HX2.out.belowM (HQW6.out.trans (HG72.out.mono HQW6.out.size))) HN2.out ?b1 ?b2 ?_))
    case b1 => omega
    case b2 => (first | exact HG72.out.size | (have := HG72.out.size; simp; omega))
    intro v73 w73 hown73 hgr73
    have hq73 : w73.ownsRow q6.heap.size 21 1 v73 UK.length ((UK).map (Value.int .i32)) := by
      rw [← HUK.out]; simpa [Nat.add_assoc, Nat.add_comm, Nat.add_left_comm] using hown73
    have HO73 := Lib.hid hq73
    clear hq73
    have HG73 := Lib.hid (HG72.out.trans (grown_below (HO72.out) hgr73 (Nat.le_refl _) (by first | exact HG72.out.size | (have := HG72.out.size; simp; omega))))
    have hz73 := HG73.out.size
    clear hown73 hgr73
    obtain ⟨A7, c7, rfl, hr7, hc7, -⟩ := own_RR HO73.out rfl
    have HS7 := Lib.hid (HSM.out A6r A7 c6r c7 UK w73 (by omega) (HXR6.out.belowM HG73.out) hr7)
    have HFB7 := Lib.hid (HQB6.out.trans (HG73.out.mono HQB6.out.size))
    have HFW7 := Lib.hid (HQW6.out.trans (HG73.out.mono HQW6.out.size))
    clear hr7
    go_wp2_with (fail)
    refine HS7.out.mono ?_
    rintro e s7 ⟨rfl, hbs7⟩
    have HEB7 := Lib.hid (HFB7.out.trans (hbs7.mono HFB7.out.size))
    have HEW7 := Lib.hid (HFW7.out.trans (hbs7.mono HFW7.out.size))
    clear hbs7
    go_wp2_with (go_at_call 13; refine (HAW.out _ HEB7.out).mono ?_; rintro e w8 ⟨rfl, hb8⟩)
    go_ret
    exact ⟨rfl, HEB7.out.trans (hb8.mono HEB7.out.size)⟩
end Go.Proofs.YtjhgboncipnkeaaDoor.Ut
