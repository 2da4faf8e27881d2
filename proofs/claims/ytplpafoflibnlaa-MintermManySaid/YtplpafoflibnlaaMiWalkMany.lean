/- The walk of MintermMany. -/
import Derived.Test.YtplpafoflibnlaaMiRows
import Derived.Deep.DeepCutAuto
import Derived.Deep.CutRange
namespace Go.Proofs.Ytplpafoflibnlaa.Mi
set_option maxRecDepth 100000
open Go Go.RowKit Go.Proofs.Ytplpafoflibnlaa.Sp

theorem u64_rngM (n : Int) : 0 ≤ IntKind.u64.wrap n := by
  simp only [IntKind.wrap, IntKind.signed, IntKind.bits]
  simp
  omega
theorem tmod_nat {m : Int} (h : 0 ≤ m) (d : Int) (hd : 0 < d) : ∃ a : Nat, (a : Int) < d ∧ m.tmod d = (a : Int) := by
  rw [Int.tmod_eq_emod_of_nonneg h]
  have h1 := Int.emod_nonneg m (show d ≠ 0 by omega)
  have h2 := Int.emod_lt_of_pos m hd
  exact ⟨(m % d).toNat, by omega, by omega⟩
theorem smallW (a : Nat) (h : a < 2000) : RowKit.wrap64 (a : Int) = (a : Int) ∧ IntKind.i64.wrap (a : Int) = (a : Int) ∧ IntKind.i64.wrap (1 + (a : Int)) = 1 + (a : Int) ∧ IntKind.i64.wrap (1018 + (a : Int)) = 1018 + (a : Int) :=
  ⟨IntWalk.wrap64_in _ (by omega), IntWalk.i64_in _ (by omega), IntWalk.i64_in _ (by omega), IntWalk.i64_in _ (by omega)⟩
theorem manyNums (n : Int) : ∃ M : Int, Hid (IntKind.u64.wrap n = M) ∧ ∃ a : Nat, a < 50 ∧ Hid (M.tmod 50 = (a : Int)) ∧ ∃ b : Nat, b < 200 ∧ Hid (M.tmod 200 = (b : Int)) ∧ ∃ c : Nat, c < 10 ∧ Hid (M.tmod 10 = (c : Int)) := by
  have hM := u64_rngM n
  obtain ⟨a, ha, ha2⟩ := tmod_nat hM 50 (by decide)
  obtain ⟨b, hb, hb2⟩ := tmod_nat hM 200 (by decide)
  obtain ⟨c, hc, hc2⟩ := tmod_nat hM 10 (by decide)
  exact ⟨_, Lib.hid rfl, a, Int.ofNat_lt.1 ha, Lib.hid ha2, b, Int.ofNat_lt.1 hb, Lib.hid hb2, c, Int.ofNat_lt.1 hc, Lib.hid hc2⟩
def MyRel (w : World) (K : Nat) (v i : Value) (wr : World) : Prop := ∃ k : Nat, k ≤ K ∧ i = .int .i64 k ∧ OwnsR wr w.heap.size v (famK k) ∧ Below w.heap.size w wr
/-- From the loop on, for k sets. -/
def ManyEnd (w : World) (e : Ending) (w' : World) : Prop := e = .returned (.bool true) ∧ Below w.heap.size w w'
set_option maxHeartbeats 8000000 in
theorem walk_MintermMany (n : Int) (w : World) :
    Calls Try.prog 11 #[.int .i64 n] w (RetB true w) := by
  obtain ⟨i1, hi1, hz0, hz1, hz2⟩ := info_parts infoRow
  obtain ⟨M, HME, a, ha, HA2, b, hb, HB2, c, hc, HC2⟩ := manyNums n
  obtain ⟨wa, wa2, wa3, _⟩ := smallW a (Nat.lt_trans ha (by decide))
  obtain ⟨wc, wc2, _, wc3⟩ := smallW c (Nat.lt_trans hc (by decide))
  by_cases hbig : 190 ≤ b
  · have hd : decide ((190 : Int) ≤ (b : Int)) = true := decide_eq_true (by omega)
    have hK1 : 1 ≤ 1018 + c := by omega
    have hK2 : 1018 + c ≤ 1027 := by omega
    have HK := Lib.hid (show (1018 + (c : Int)) = ((1018 + c : Nat) : Int) by omega)
    obtain ⟨K, hK⟩ : ∃ K, 1018 + c = K := ⟨_, rfl⟩
    rw [hK] at hK1 hK2 HK
    have hMe := HME.out
    have ha2 := HA2.out
    have hb2 := HB2.out
    have hc2 := HC2.out
    go_enter Try.func11, Try.ntmps11
    go_upto_region 4 with (fail)
    rw [HK.out]
    clear ha2 hb2 hc2 wa wc wa2 wc2 wa3 wc3 ha hb hc hMe hd hK HK HME HA2 HB2 HC2 hbig
    go_wp2_with (fail)
    go_loopw [4, 5] (fun v i wr => MyRel w K v i wr) (fun _ i _ => K - (intOf i).toNat)
    case atStart => exact ⟨0, Nat.zero_le _, rfl, ownR_nil _ _, Below.refl _ _⟩
    case round =>
      obtain ⟨k, hk, rfl, ho, hb⟩ := hrel
      obtain ⟨A4, c4, hv⟩ := ho.shape
      rw [famK_len] at hv
      subst hv
      have hbs := hb.size
      by_cases hlt : k < K
      · have s2 : IntKind.i64.wrap (2 * (k : Int)) = 2 * (k : Int) := IntWalk.i64_in _ (by omega)
        have s3 : IntKind.i64.wrap ((k : Int) + 1) = (k : Int) + 1 := IntWalk.i64_in _ (by omega)
        obtain ⟨w1, hw1⟩ : ∃ w1, wr.alloc (.cells #[.int .i64 (2 * (k : Int)), .int .i64 (2 * (k : Int))] 60) = w1 := ⟨_, rfl⟩
        obtain ⟨w2, hw2⟩ : ∃ w2, w1.alloc (.cells #[.slice (some ⟨wr.heap.size, 0, none⟩) 1 1] 25) = w2 := ⟨_, rfl⟩
        have hs1 : w1.heap.size = wr.heap.size + 1 := by rw [← hw1]; simp
        have hs2 : w2.heap.size = wr.heap.size + 1 + 1 := by rw [← hw2]; simp [hs1]
        have b1 : Below wr.heap.size wr w1 := by rw [← hw1]; exact (Below.refl _ _).alloc (Nat.le_refl _) _
        have b2 : Below w1.heap.size w1 w2 := by rw [← hw2]; exact (Below.refl _ _).alloc (Nat.le_refl _) _
        have r1 : RS w1 w1.heap.size (some ⟨wr.heap.size, 0, none⟩) 1 [(2 * (k : Int), 2 * (k : Int))] := by rw [hs1, ← hw1]; exact rs_two _ _ _
        have r2 : RS w2 w2.heap.size (some ⟨wr.heap.size, 0, none⟩) 1 [(2 * (k : Int), 2 * (k : Int))] := r1.belowM b2
        have hnb : (Value.slice A4 k c4).ownBlock ≠ some wr.heap.size := fun e => by
          obtain ⟨_, q1, _⟩ := ho
          have := (World.ownsRow.lt q1 _ e).2
          omega
        have hge : ∀ q, (Value.slice A4 k c4).ownBlock = some q → w.heap.size ≤ q := fun q e => by
          obtain ⟨_, q1, _⟩ := ho
          exact (World.ownsRow.lt q1 _ e).1
        obtain ⟨vs, o1, o2⟩ := (ho.below b1).below b2
        rw [famK_len] at o1
        have hcN : ∀ j u, [Value.slice (some ⟨wr.heap.size, 0, none⟩) 1 1][j]? = some u → w2.cell? ((⟨wr.heap.size + 1, 0, none⟩ : Addr).add j) = some u := by rw [← hw2, ← hs1]; exact cell_one_new _ _ _
        have HO2 := Lib.hid o2
        have HR2 := Lib.hid r2
        have HB2 := Lib.hid (below_nextM hb (below_nextM b1 b2))
        clear o2 r1 r2 b1 b2 ho
        go_wp2_with (at_builtin; go_must (refine wpList_append_own_at _ rfl _ _ 27 rfl w.heap.size 25 i1 _ 1 24 Try.underlying27 hi1 hz0 hz1 hz2 rfl (by decide) (.slice A4 k c4) k vs rfl o1 ⟨wr.heap.size + 1, 0, none⟩ 1 1 [.slice (some ⟨wr.heap.size, 0, none⟩) 1 1] rfl rfl hcN ?c2 ?c3 ?c4 ?c5 ?_))
        case c2 => first | rfl | (intro q hq; simp at hq; subst hq; rfl)
        case c3 => simp only [maxLen]; omega
        case c4 => omega
        case c5 => omega
        intro v' w' hown hg _ hat
        have hN : OwnsR w' w.heap.size v' (famK (k + 1)) := by
          rw [famK_succ]
          refine OwnsR.more vs HO2.out (by rw [famK_len]; have := o1.1; omega) (A := some ⟨wr.heap.size, 0, none⟩) (c := 1) HR2.out (by simp) (fun q => by cases q) (fun _ b off e => ?_) hg (by rw [famK_len]; exact hown) ?_
          · injection e with e
            injection e with e _ _
            subst e
            exact ⟨hnb, by omega⟩
          · rcases hat with e | e
            · exact .inl e
            · exact .inr ⟨_, e, by omega⟩
        have HN := Lib.hid hN
        have HBN := Lib.hid (HB2.out.grown hg HB2.out.size hge)
        clear hN hown hg hat o1
        go_wp2_with (fail)
        go_roundw
        case rel => exact ⟨k + 1, by omega, by go_num, HN.out, HBN.out⟩
        case measure => simp [intOf]; omega
      · have hkK : k = K := by omega
        subst hkK
        have s2 : IntKind.i64.wrap (3 * (k : Int)) = 3 * (k : Int) := IntWalk.i64_in _ (by omega)
        have s3 : IntKind.i64.wrap ((k : Int) + 1) = (k : Int) + 1 := IntWalk.i64_in _ (by omega)
        obtain ⟨w1, hw1⟩ : ∃ w1, wr.alloc (.cells #[.int .i64 (-5), .int .i64 (3 * (k : Int))] 60) = w1 := ⟨_, rfl⟩
        have hs1 : w1.heap.size = wr.heap.size + 1 := by rw [← hw1]; simp
        have b1 : Below wr.heap.size wr w1 := by rw [← hw1]; exact (Below.refl _ _).alloc (Nat.le_refl _) _
        have r1 : RS w1 w1.heap.size (some ⟨wr.heap.size, 0, none⟩) 1 [(-5, 3 * (k : Int))] := by rw [hs1, ← hw1]; exact rs_two _ _ _
        have hrg := OwnsR.reads (famK_len k) (ho.below b1)
        have HSP := Lib.hid (split_any _ 1 [(-5, 3 * (k : Int))] A4 c4 (famK k) w1 r1 (by simp) hrg (by rw [famK_len]; omega) (fun l hl => by obtain ⟨i, _, rfl⟩ := List.mem_map.1 hl; simp))
        simp only [List.length_cons, List.length_nil, Nat.zero_add, famK_len] at HSP
        have HB1 := Lib.hid (below_nextM hb b1)
        clear r1 b1 hrg ho hb
        go_wp2_with (fail)
        refine HSP.out.mono ?_
        rintro e w5 ⟨v, L, hL, hor, hb5⟩
        obtain rfl : manyL k = L := (many_blocks hK1 (by omega)).unique hL
        have HB5 := Lib.hid (below_nextM HB1.out hb5)
        clear hL hb5
        rcases hor with ⟨rfl, hle, hoG⟩ | ⟨rfl, hbig⟩
        · rw [manyL_len] at hle
          have hd : decide ((1024 : Int) < (k : Int) + 1) = false := decide_eq_false (by omega)
          obtain ⟨A, c, rfl, hrg, _⟩ := hoG.reads
          obtain ⟨b, off, A0, c0, rfl, hbb, hc0, _, _, _⟩ := hrg.at_ (k := 0) (by rw [manyL_len]; omega)
          have hc0' : w5.cell? ⟨b, off, none⟩ = some (.slice A0 (k + 1) c0) := by
            have e : ((manyL k)[0]'(by rw [manyL_len]; omega)).length = k + 1 := restK_len hK1
            rw [e] at hc0
            exact hc0
          rw [manyL_len]
          clear hrg hoG hc0
          go_wp2_with (fail)
          refine (awake_any _).mono ?_
          rintro e w6 ⟨rfl, hb6⟩
          go_wp2_with (fail)
          go_ret
          exact ⟨rfl, below_nextM HB5.out hb6⟩
        · rw [manyL_len] at hbig
          have hd : decide ((1024 : Int) < (k : Int) + 1) = true := decide_eq_true (by omega)
          go_wp2_with (fail)
          refine (awake_any _).mono ?_
          rintro e w6 ⟨rfl, hb6⟩
          go_wp2_with (fail)
          go_ret
          exact ⟨rfl, below_nextM HB5.out hb6⟩
  · have hd : decide ((190 : Int) ≤ (b : Int)) = false := decide_eq_false (by omega)
    have hK1 : 1 ≤ 1 + a := by omega
    have hK2 : 1 + a ≤ 1027 := by omega
    have HK := Lib.hid (show (1 + (a : Int)) = ((1 + a : Nat) : Int) by omega)
    obtain ⟨K, hK⟩ : ∃ K, 1 + a = K := ⟨_, rfl⟩
    rw [hK] at hK1 hK2 HK
    have hMe := HME.out
    have ha2 := HA2.out
    have hb2 := HB2.out
    have hc2 := HC2.out
    go_enter Try.func11, Try.ntmps11
    go_upto_region 4 with (fail)
    rw [HK.out]
    clear ha2 hb2 hc2 wa wc wa2 wc2 wa3 wc3 ha hb hc hMe hd hK HK HME HA2 HB2 HC2 hbig
    go_wp2_with (fail)
    go_loopw [4, 5] (fun v i wr => MyRel w K v i wr) (fun _ i _ => K - (intOf i).toNat)
    case atStart => exact ⟨0, Nat.zero_le _, rfl, ownR_nil _ _, Below.refl _ _⟩
    case round =>
      obtain ⟨k, hk, rfl, ho, hb⟩ := hrel
      obtain ⟨A4, c4, hv⟩ := ho.shape
      rw [famK_len] at hv
      subst hv
      have hbs := hb.size
      by_cases hlt : k < K
      · have s2 : IntKind.i64.wrap (2 * (k : Int)) = 2 * (k : Int) := IntWalk.i64_in _ (by omega)
        have s3 : IntKind.i64.wrap ((k : Int) + 1) = (k : Int) + 1 := IntWalk.i64_in _ (by omega)
        obtain ⟨w1, hw1⟩ : ∃ w1, wr.alloc (.cells #[.int .i64 (2 * (k : Int)), .int .i64 (2 * (k : Int))] 60) = w1 := ⟨_, rfl⟩
        obtain ⟨w2, hw2⟩ : ∃ w2, w1.alloc (.cells #[.slice (some ⟨wr.heap.size, 0, none⟩) 1 1] 25) = w2 := ⟨_, rfl⟩
        have hs1 : w1.heap.size = wr.heap.size + 1 := by rw [← hw1]; simp
        have hs2 : w2.heap.size = wr.heap.size + 1 + 1 := by rw [← hw2]; simp [hs1]
        have b1 : Below wr.heap.size wr w1 := by rw [← hw1]; exact (Below.refl _ _).alloc (Nat.le_refl _) _
        have b2 : Below w1.heap.size w1 w2 := by rw [← hw2]; exact (Below.refl _ _).alloc (Nat.le_refl _) _
        have r1 : RS w1 w1.heap.size (some ⟨wr.heap.size, 0, none⟩) 1 [(2 * (k : Int), 2 * (k : Int))] := by rw [hs1, ← hw1]; exact rs_two _ _ _
        have r2 : RS w2 w2.heap.size (some ⟨wr.heap.size, 0, none⟩) 1 [(2 * (k : Int), 2 * (k : Int))] := r1.belowM b2
        have hnb : (Value.slice A4 k c4).ownBlock ≠ some wr.heap.size := fun e => by
          obtain ⟨_, q1, _⟩ := ho
          have := (World.ownsRow.lt q1 _ e).2
          omega
        have hge : ∀ q, (Value.slice A4 k c4).ownBlock = some q → w.heap.size ≤ q := fun q e => by
          obtain ⟨_, q1, _⟩ := ho
          exact (World.ownsRow.lt q1 _ e).1
        obtain ⟨vs, o1, o2⟩ := (ho.below b1).below b2
        rw [famK_len] at o1
        have hcN : ∀ j u, [Value.slice (some ⟨wr.heap.size, 0, none⟩) 1 1][j]? = some u → w2.cell? ((⟨wr.heap.size + 1, 0, none⟩ : Addr).add j) = some u := by rw [← hw2, ← hs1]; exact cell_one_new _ _ _
        have HO2 := Lib.hid o2
        have HR2 := Lib.hid r2
        have HB2 := Lib.hid (below_nextM hb (below_nextM b1 b2))
        clear o2 r1 r2 b1 b2 ho
        go_wp2_with (at_builtin; go_must (refine wpList_append_own_at _ rfl _ _ 27 rfl w.heap.size 25 i1 _ 1 24 Try.underlying27 hi1 hz0 hz1 hz2 rfl (by decide) (.slice A4 k c4) k vs rfl o1 ⟨wr.heap.size + 1, 0, none⟩ 1 1 [.slice (some ⟨wr.heap.size, 0, none⟩) 1 1] rfl rfl hcN ?c2 ?c3 ?c4 ?c5 ?_))
        case c2 => first | rfl | (intro q hq; simp at hq; subst hq; rfl)
        case c3 => simp only [maxLen]; omega
        case c4 => omega
        case c5 => omega
        intro v' w' hown hg _ hat
        have hN : OwnsR w' w.heap.size v' (famK (k + 1)) := by
          rw [famK_succ]
          refine OwnsR.more vs HO2.out (by rw [famK_len]; have := o1.1; omega) (A := some ⟨wr.heap.size, 0, none⟩) (c := 1) HR2.out (by simp) (fun q => by cases q) (fun _ b off e => ?_) hg (by rw [famK_len]; exact hown) ?_
          · injection e with e
            injection e with e _ _
            subst e
            exact ⟨hnb, by omega⟩
          · rcases hat with e | e
            · exact .inl e
            · exact .inr ⟨_, e, by omega⟩
        have HN := Lib.hid hN
        have HBN := Lib.hid (HB2.out.grown hg HB2.out.size hge)
        clear hN hown hg hat o1
        go_wp2_with (fail)
        go_roundw
        case rel => exact ⟨k + 1, by omega, by go_num, HN.out, HBN.out⟩
        case measure => simp [intOf]; omega
      · have hkK : k = K := by omega
        subst hkK
        have s2 : IntKind.i64.wrap (3 * (k : Int)) = 3 * (k : Int) := IntWalk.i64_in _ (by omega)
        have s3 : IntKind.i64.wrap ((k : Int) + 1) = (k : Int) + 1 := IntWalk.i64_in _ (by omega)
        obtain ⟨w1, hw1⟩ : ∃ w1, wr.alloc (.cells #[.int .i64 (-5), .int .i64 (3 * (k : Int))] 60) = w1 := ⟨_, rfl⟩
        have hs1 : w1.heap.size = wr.heap.size + 1 := by rw [← hw1]; simp
        have b1 : Below wr.heap.size wr w1 := by rw [← hw1]; exact (Below.refl _ _).alloc (Nat.le_refl _) _
        have r1 : RS w1 w1.heap.size (some ⟨wr.heap.size, 0, none⟩) 1 [(-5, 3 * (k : Int))] := by rw [hs1, ← hw1]; exact rs_two _ _ _
        have hrg := OwnsR.reads (famK_len k) (ho.below b1)
        have HSP := Lib.hid (split_any _ 1 [(-5, 3 * (k : Int))] A4 c4 (famK k) w1 r1 (by simp) hrg (by rw [famK_len]; omega) (fun l hl => by obtain ⟨i, _, rfl⟩ := List.mem_map.1 hl; simp))
        simp only [List.length_cons, List.length_nil, Nat.zero_add, famK_len] at HSP
        have HB1 := Lib.hid (below_nextM hb b1)
        clear r1 b1 hrg ho hb
        go_wp2_with (fail)
        refine HSP.out.mono ?_
        rintro e w5 ⟨v, L, hL, hor, hb5⟩
        obtain rfl : manyL k = L := (many_blocks hK1 (by omega)).unique hL
        have HB5 := Lib.hid (below_nextM HB1.out hb5)
        clear hL hb5
        rcases hor with ⟨rfl, hle, hoG⟩ | ⟨rfl, hbig⟩
        · rw [manyL_len] at hle
          have hd : decide ((1024 : Int) < (k : Int) + 1) = false := decide_eq_false (by omega)
          obtain ⟨A, c, rfl, hrg, _⟩ := hoG.reads
          obtain ⟨b, off, A0, c0, rfl, hbb, hc0, _, _, _⟩ := hrg.at_ (k := 0) (by rw [manyL_len]; omega)
          have hc0' : w5.cell? ⟨b, off, none⟩ = some (.slice A0 (k + 1) c0) := by
            have e : ((manyL k)[0]'(by rw [manyL_len]; omega)).length = k + 1 := restK_len hK1
            rw [e] at hc0
            exact hc0
          rw [manyL_len]
          clear hrg hoG hc0
          go_wp2_with (fail)
          refine (awake_any _).mono ?_
          rintro e w6 ⟨rfl, hb6⟩
          go_wp2_with (fail)
          go_ret
          exact ⟨rfl, below_nextM HB5.out hb6⟩
        · rw [manyL_len] at hbig
          have hd : decide ((1024 : Int) < (k : Int) + 1) = true := decide_eq_true (by omega)
          go_wp2_with (fail)
          refine (awake_any _).mono ?_
          rintro e w6 ⟨rfl, hb6⟩
          go_wp2_with (fail)
          go_ret
          exact ⟨rfl, below_nextM HB5.out hb6⟩
end Go.Proofs.Ytplpafoflibnlaa.Mi
