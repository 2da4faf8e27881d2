/- The walk of the reference's Put: a word laid into a rising list of words, at its place, unless it is there. -/
import Derived.Test.YtighbbaggpnfoaaLiBase
import Derived.IntWalk
import Derived.StillTailTactics
namespace Go.Proofs.Ytighbbaggpnfoaa.Wo
set_option maxRecDepth 100000
open Go Go.RowKit

def insK (L : List (List Int)) (x : List Int) (lo k : Nat) : List (List Int) := if k ≤ lo then L.take k else L.take lo ++ (x :: (L.take k).drop lo)
theorem insK_len {L : List (List Int)} {x : List Int} {lo k : Nat} : (insK L x lo k).length ≤ k + 1 := by
  unfold insK
  split
  · rw [List.length_take]; omega
  · rw [List.length_append, List.length_cons, List.length_drop, List.length_take, List.length_take]; omega
theorem insK_succ {L : List (List Int)} {x : List Int} {lo k : Nat} (hk : k < L.length) (h : k ≠ lo) : insK L x lo (k + 1) = insK L x lo k ++ [L[k]] := by
  unfold insK
  by_cases q : k < lo
  · rw [if_pos (by omega), if_pos (by omega), List.take_succ_eq_append_getElem hk]
  · rw [if_neg (by omega), if_neg (by omega), List.take_succ_eq_append_getElem hk, List.drop_append_of_le_length (by rw [List.length_take]; omega)]
    simp
theorem insK_at {L : List (List Int)} {x : List Int} {lo : Nat} (hk : lo < L.length) : insK L x lo (lo + 1) = insK L x lo lo ++ [x] ++ [L[lo]] := by
  unfold insK
  rw [if_neg (by omega), if_pos (Nat.le_refl _), List.take_succ_eq_append_getElem hk, List.drop_append_of_le_length (by rw [List.length_take]; omega), List.drop_of_length_le (by rw [List.length_take]; omega)]
  simp
def BsRel (L : List (List Int)) (x : List Int) (w : World) (lo hi : Value) (wr : World) : Prop :=
  ∃ a b : Nat, a ≤ b ∧ b ≤ L.length ∧ lo = .int .i64 a ∧ hi = .int .i64 b ∧ (∀ (j : Nat) (hj : j < L.length), j < a → cmpL L[j] x < 0) ∧ (∀ (j : Nat) (hj : j < L.length), b ≤ j → GE L[j] x) ∧ Below w.heap.size w wr
def P2Rel (L : List (List Int)) (x : List Int) (lo : Nat) (w : World) (v i : Value) (wr : World) : Prop := ∃ k : Nat, k ≤ L.length ∧ i = .int .i64 k ∧ OwnsW wr w.heap.size v (insK L x lo k) ∧ Below w.heap.size w wr
def PutW (L : List (List Int)) (x : List Int) (w : World) (e : Ending) (w' : World) : Prop := ∃ A c L', e = .returned (.slice A L'.length c) ∧ SL L' ∧ (∀ y, y ∈ L' ↔ y ∈ L ∨ y = x) ∧ L'.length ≤ L.length + 1 ∧ RWs w' A L'.length L' ∧ Below w.heap.size w w'
set_option maxHeartbeats 8000000 in
theorem put_any (A : Option Addr) (c : Nat) (L : List (List Int)) (Aw : Option Addr) (cw : Nat) (x : List Int) (w : World) (h : RWs w A L.length L) (hS : SL L) (hl : L.length ≤ 1000000) (hs : ∀ l ∈ L, l.length ≤ 1000000) (hx : RR w w.heap.size Aw x.length x) (hxc : x.length ≤ cw) (hxn : Aw = none → x = [] ∧ cw = 0) (hxl : x.length ≤ 1000000) :
    Calls Try.prog 5 #[.slice A L.length c, .slice Aw x.length cw] w (PutW L x w) := by
  obtain ⟨i1, hi1, hz0, hz1, hz2⟩ := info_parts infoWord
  have H := Lib.hid h
  have HSL0 := Lib.hid hS
  have HS := Lib.hid hs
  have HXW := Lib.hid (And.intro hx (And.intro hxc hxn))
  obtain ⟨nx, hnx⟩ : ∃ nx, x.length = nx := ⟨_, rfl⟩
  obtain ⟨n, hn⟩ : ∃ n, L.length = n := ⟨_, rfl⟩
  have HNX := Lib.hid hnx
  rw [hn] at hl ⊢
  rw [hnx] at hxl hxc ⊢
  clear h hS hs hx hxn hnx
  go_enter Try.func5, Try.ntmps5
  go_wp2_with (fail)
  go_loopw [5, 6] (fun lo hi wr => BsRel L x w lo hi wr) (fun lo hi _ => (intOf hi).toNat - (intOf lo).toNat)
  case atStart => exact ⟨0, n, Nat.zero_le _, by omega, rfl, rfl, fun j _ q => absurd q (by omega), fun j hj q => absurd hj (by omega), Below.refl _ _⟩
  case round =>
    obtain ⟨a, b, hab, hbn, rfl, rfl, hlo, hhi, hb⟩ := hrel
    have HLO := Lib.hid hlo
    have HHI := Lib.hid hhi
    have HB1 := Lib.hid hb
    clear hlo hhi hb
    by_cases hlt : a < b
    · obtain ⟨m, hm⟩ : ∃ m, (a + b) / 2 = m := ⟨_, rfl⟩
      have hma : a ≤ m := by omega
      have hmb : m < b := by omega
      have s1 : IntKind.i64.wrap ((a : Int) + (b : Int)) = (a : Int) + (b : Int) := IntWalk.i64_in _ (by omega)
      have t1 : ((a : Int) + (b : Int)).tdiv 2 = (m : Int) := by
        rw [Int.tdiv_eq_ediv_of_nonneg (by omega)]
        omega
      have s2 : IntKind.i64.wrap (m : Int) = (m : Int) := IntWalk.i64_in _ (by omega)
      have s3 : IntKind.i64.wrap ((m : Int) + 1) = (m : Int) + 1 := IntWalk.i64_in _ (by omega)
      obtain ⟨b0, off, Aj, cj, hA, hbB, hcj, hrj, hlj, hnj⟩ := (H.out.belowM HB1.out).at_ (k := m) (by omega)
      obtain ⟨lk, hlk⟩ : ∃ lk, L[m]'(by omega) = lk := ⟨_, rfl⟩
      have hsl := HS.out _ (List.getElem_mem (show m < L.length by omega))
      rw [hlk] at hcj hrj hlj hnj hsl
      have HLK := Lib.hid hlk
      have hxw := HNX.out
      have HC := Lib.hid (rcmp_any Aj Aw cj cw lk x wr hrj (HXW.out.1.belowM HB1.out) (by omega) (by omega))
      obtain ⟨nj, hnjl⟩ : ∃ nj, lk.length = nj := ⟨_, rfl⟩
      rw [hnjl] at hcj HC
      rw [hxw] at HC
      subst hA
      have i1' : (0 : Int) ≤ (m : Int) := Int.natCast_nonneg _
      have i2' : (m : Int) < (n : Int) := by omega
      clear hrj hlj hnj hlk hnjl hsl hxw hm
      have hrng := cmpL_rng lk x
      obtain ⟨r, hr⟩ : ∃ r, cmpL lk x = r := ⟨_, rfl⟩
      rw [hr] at HC hrng
      have HR := Lib.hid hr
      clear hr
      go_wp2_with (fail)
      refine HC.out.mono ?_
      rintro e w2 ⟨rfl, hb2⟩
      have HB2 := Lib.hid (below_nextW HB1.out hb2)
      clear hb2
      by_cases hneg : r < 0
      · have hd : decide (r < 0) = true := decide_eq_true hneg
        have HN := Lib.hid (show ∀ (j : Nat) (hj : j < L.length), j < m + 1 → cmpL L[j] x < 0 from fun j hj hjm => by
          by_cases e : j = m
          · subst e
            rw [HLK.out, HR.out]
            exact hneg
          · by_cases q : j < a
            · exact HLO.out j hj q
            · exact cmpL_trans (List.pairwise_iff_getElem.1 HSL0.out j m hj (by omega) (by omega)) (by rw [HLK.out, HR.out]; exact hneg))
        go_wp2_with (fail)
        go_roundw
        case rel => exact ⟨m + 1, b, by omega, by omega, by go_num, rfl, HN.out, HHI.out, HB2.out⟩
        case measure => simp [intOf]; omega
      · have hd : decide (r < 0) = false := decide_eq_false hneg
        have HN := Lib.hid (show ∀ (j : Nat) (hj : j < L.length), m ≤ j → GE L[j] x from fun j hj hjm q => by
          by_cases e : j = m
          · subst e
            rw [HLK.out, HR.out] at q
            exact hneg q
          · have := cmpL_trans (List.pairwise_iff_getElem.1 HSL0.out m j (by omega) hj (by omega)) q
            rw [HLK.out, HR.out] at this
            exact hneg this)
        go_wp2_with (fail)
        go_roundw
        case rel => exact ⟨a, m, hma, by omega, rfl, rfl, HLO.out, HN.out, HB2.out⟩
        case measure => simp [intOf]; omega
    · obtain rfl : a = b := by omega
      by_cases hfull : a < n
      · obtain ⟨b0, off, Aj, cj, hA, hbB, hcj, hrj, hlj, hnj⟩ := (H.out.belowM HB1.out).at_ (k := a) (by omega)
        obtain ⟨lk, hlk⟩ : ∃ lk, L[a]'(by omega) = lk := ⟨_, rfl⟩
        have hsl := HS.out _ (List.getElem_mem (show a < L.length by omega))
        rw [hlk] at hcj hrj hlj hnj hsl
        have HLK := Lib.hid hlk
        have hxw := HNX.out
        have HC := Lib.hid (rcmp_any Aj Aw cj cw lk x wr hrj (HXW.out.1.belowM HB1.out) (by omega) (by omega))
        obtain ⟨nj, hnjl⟩ : ∃ nj, lk.length = nj := ⟨_, rfl⟩
        rw [hnjl] at hcj HC
        rw [hxw] at HC
        subst hA
        have i1' : (0 : Int) ≤ (a : Int) := Int.natCast_nonneg _
        have i2' : (a : Int) < (n : Int) := by omega
        clear hrj hlj hnj hlk hnjl hsl hxw
        have hrng := cmpL_rng lk x
        have hge : ¬ cmpL lk x < 0 := by
          have h1 := HHI.out a (by omega) (Nat.le_refl _)
          rw [HLK.out] at h1
          exact h1
        rcases (show cmpL lk x = 0 ∨ cmpL lk x = 1 by omega) with hr | hr
        · rw [hr] at HC
          have HR := Lib.hid hr
          have HFI := Lib.hid (show ∀ y, y ∈ L ↔ y ∈ L ∨ y = x from fun y => ⟨.inl, fun q => q.elim id fun q => by
            have e : lk = x := cmpL_zero HR.out
            rw [q, ← e, ← HLK.out]
            exact List.getElem_mem _⟩)
          clear hr hrng hge
          go_wp2_with (fail)
          refine HC.out.mono ?_
          rintro e w2 ⟨rfl, hb2⟩
          have HB2 := Lib.hid (below_nextW HB1.out hb2)
          clear hb2
          go_wp2_with (fail)
          go_ret
          exact ⟨some ⟨b0, off, none⟩, c, L, by rw [hn]; rfl, HSL0.out, HFI.out, by omega, H.out.belowM HB2.out, HB2.out⟩
        · rw [hr] at HC
          have HR := Lib.hid hr
          clear hr hrng hge
          go_wp2_with (fail)
          refine HC.out.mono ?_
          rintro e w2 ⟨rfl, hb2⟩
          have HB2 := Lib.hid (below_nextW HB1.out hb2)
          clear hb2
          have hgt : ∀ (j : Nat) (hj : j < L.length), a ≤ j → cmpL x L[j] < 0 := fun j hj hja => by
            have h0 : cmpL x lk < 0 := by
              have h1 := HHI.out a (by omega) (Nat.le_refl _)
              rw [HLK.out] at h1
              rcases cmpL_nlt h1 with q | q
              · have h2 := HR.out
                rw [q, cmpL_self] at h2
                omega
              · exact q
            by_cases e : j = a
            · subst e
              rw [HLK.out]
              exact h0
            · exact cmpL_trans h0 (by rw [← HLK.out]; exact List.pairwise_iff_getElem.1 HSL0.out a j (by omega) hj (by omega))
          have HSL := Lib.hid (sl_put HSL0.out (by omega) HLO.out hgt)
          have HLN := Lib.hid (show (L.take a ++ (x :: L.drop a)).length ≤ L.length + 1 by rw [List.length_append, List.length_cons, List.length_take, List.length_drop]; omega)
          clear hgt HLO HHI HLK HR HC hcj HB1
          have HB1 := HB2
          go_wp2_with (fail)
          go_loopw [8, 9] (fun v i wr => P2Rel L x a w v i wr) (fun _ i _ => n - (intOf i).toNat)
          case atStart => exact ⟨0, Nat.zero_le _, rfl, by rw [show insK L x a 0 = [] from by unfold insK; rw [if_pos (Nat.zero_le _), List.take_zero]]; exact ownW_nil _ _, HB1.out⟩
          case round =>
            obtain ⟨k, hk, rfl, ho, hb⟩ := hrel
            have HB := Lib.hid hb
            obtain ⟨A8, c8, hv8⟩ := ho.shape
            obtain ⟨n8, hn8⟩ : ∃ n8, (insK L x a k).length = n8 := ⟨_, rfl⟩
            have hn8b : n8 ≤ k + 1 := by rw [← hn8]; exact insK_len
            rw [hn8] at hv8
            subst hv8
            have HX := Lib.hid hn8
            have HO := Lib.hid ho
            clear ho hn8 hb
            by_cases hlt : k < n
            · obtain ⟨b2, off2, Aj, cj, hA, hbB, hcj, hrj, hlj, hnj⟩ := H.out.at_ (k := k) (by omega)
              injection hA with hA
              injection hA with hA1 hA2 _
              subst hA1 hA2
              obtain ⟨lk, hlk⟩ : ∃ lk, L[k]'(by omega) = lk := ⟨_, rfl⟩
              rw [hlk] at hcj hrj hlj hnj
              have HLK := Lib.hid hlk
              have HRJ := Lib.hid (And.intro hrj (And.intro hlj hnj))
              obtain ⟨nj, hnjl⟩ : ∃ nj, lk.length = nj := ⟨_, rfl⟩
              rw [hnjl] at hcj hlj
              have hcr : wr.cell? ⟨b0, off + k, none⟩ = some (.slice Aj nj cj) := (HB.out.cell (p := ⟨b0, off + k, none⟩) hbB).trans hcj
              have i1' : (0 : Int) ≤ (k : Int) := Int.natCast_nonneg _
              have i2' : (k : Int) < (n : Int) := by omega
              have s3 : IntKind.i64.wrap ((k : Int) + 1) = (k : Int) + 1 := IntWalk.i64_in _ (by omega)
              have HNE := Lib.hid hnjl
              have HCJ := Lib.hid hcj
              clear hrj hnj hlk hnjl hcj hlj
              by_cases hkl0 : k = a
              · subst hkl0
                have hkl : decide ((k : Int) = (k : Int)) = true := decide_eq_true rfl
                have HIN := Lib.hid (insK_at (L := L) (x := x) (lo := k) (by omega))

                obtain ⟨wa5, hwa5⟩ : ∃ wa, wr.alloc (.cells #[.slice Aw nx cw] 24) = wa := ⟨_, rfl⟩
                have ba5 : Below wr.heap.size wr wa5 := by rw [← hwa5]; exact (Below.refl _ _).alloc (Nat.le_refl _) _
                have hsa5 : wa5.heap.size = wr.heap.size + 1 := by rw [← hwa5]; simp
                have hbsz5 := HB.out.size
                have hge5 : ∀ q, (Value.slice A8 n8 c8).ownBlock = some q → w.heap.size ≤ q := fun q e => (HO.out.block e).1
                obtain ⟨vs5, o15, o25⟩ := HO.out.below ba5
                rw [HX.out] at o15
                have hvl5 : vs5.length = (insK L x k k).length := by have := o15.1; rw [HX.out]; omega
                have hcN5 : ∀ j u, [Value.slice Aw nx cw][j]? = some u → wa5.cell? ((⟨wr.heap.size, 0, none⟩ : Addr).add j) = some u := by rw [← hwa5]; exact cell_one_new _ _ _
                have HO25 := Lib.hid o25
                have HBA5 := Lib.hid (HB.out.trans (ba5.mono HB.out.size))
                clear o25 ba5
                go_wp2_with (at_builtin; go_must (refine wpList_append_own_at _ rfl _ _ 22 rfl w.heap.size 24 i1 _ 1 24 Try.underlying22 hi1 hz0 hz1 hz2 rfl (by decide) (.slice A8 n8 c8) n8 vs5 rfl o15 ⟨wr.heap.size, 0, none⟩ 1 1 [.slice Aw nx cw] rfl rfl hcN5 ?c2 ?c3 ?c4 ?c5 ?_))
                case c2 => first | rfl | (intro q hq; simp at hq; subst hq; rfl)
                case c3 => simp only [maxLen]; omega
                case c4 => omega
                case c5 => omega
                intro v5 w5 hown5 hg5 _ hat5
                have HN5 := Lib.hid (show OwnsW w5 w.heap.size v5 (insK L x k k ++ [x]) from OwnsW.more vs5 HO25.out hvl5 (A := Aw) (c := cw) (HXW.out.1.belowM HBA5.out) HXW.out.2.1 HXW.out.2.2 (fun ne b off e => ⟨fun q => by have := hge5 _ q; have := rr_off HXW.out.1 ne e; omega, by have := rr_off HXW.out.1 ne e; omega⟩) hg5 (by rw [HX.out, HNX.out]; exact hown5) (by
                  rcases hat5 with e | e
                  · exact .inl e
                  · exact .inr ⟨_, e, by omega⟩))
                have HNB5 := Lib.hid (HBA5.out.grown hg5 HBA5.out.size hge5)
                clear hown5 hg5 hat5 o15 hcN5

                obtain ⟨A9, c9, hv9⟩ := HN5.out.shape
                obtain ⟨n9, hn9⟩ : ∃ n9, (insK L x k k ++ [x]).length = n9 := ⟨_, rfl⟩
                have hn9b : n9 ≤ k + 2 := by rw [← hn9, List.length_append, HX.out, List.length_singleton]; omega
                rw [hn9] at hv9
                subst hv9
                have HX9 := Lib.hid hn9
                have hcr5 : w5.cell? ⟨b0, off + k, none⟩ = some (.slice Aj nj cj) := (HNB5.out.cell (p := ⟨b0, off + k, none⟩) hbB).trans HCJ.out
                clear hn9 hcr

                obtain ⟨wa7, hwa7⟩ : ∃ wa, w5.alloc (.cells #[.slice Aj nj cj] 24) = wa := ⟨_, rfl⟩
                have ba7 : Below w5.heap.size w5 wa7 := by rw [← hwa7]; exact (Below.refl _ _).alloc (Nat.le_refl _) _
                have hsa7 : wa7.heap.size = w5.heap.size + 1 := by rw [← hwa7]; simp
                have hbsz7 := HNB5.out.size
                have hge7 : ∀ q, (Value.slice A9 n9 c9).ownBlock = some q → w.heap.size ≤ q := fun q e => (HN5.out.block e).1
                obtain ⟨vs7, o17, o27⟩ := HN5.out.below ba7
                rw [HX9.out] at o17
                have hvl7 : vs7.length = (insK L x k k ++ [x]).length := by have := o17.1; rw [HX9.out]; omega
                have hcN7 : ∀ j u, [Value.slice Aj nj cj][j]? = some u → wa7.cell? ((⟨w5.heap.size, 0, none⟩ : Addr).add j) = some u := by rw [← hwa7]; exact cell_one_new _ _ _
                have HO27 := Lib.hid o27
                have HBA7 := Lib.hid (HNB5.out.trans (ba7.mono HNB5.out.size))
                clear o27 ba7
                go_wp2_with (at_builtin; go_must (refine wpList_append_own_at _ rfl _ _ 22 rfl w.heap.size 24 i1 _ 1 24 Try.underlying22 hi1 hz0 hz1 hz2 rfl (by decide) (.slice A9 n9 c9) n9 vs7 rfl o17 ⟨w5.heap.size, 0, none⟩ 1 1 [.slice Aj nj cj] rfl rfl hcN7 ?c2 ?c3 ?c4 ?c5 ?_))
                case c2 => first | rfl | (intro q hq; simp at hq; subst hq; rfl)
                case c3 => simp only [maxLen]; omega
                case c4 => omega
                case c5 => omega
                intro v7 w7 hown7 hg7 _ hat7
                have HN7 := Lib.hid (show OwnsW w7 w.heap.size v7 (insK L x k k ++ [x] ++ [lk]) from OwnsW.more vs7 HO27.out hvl7 (A := Aj) (c := cj) (HRJ.out.1.belowM HBA7.out) HRJ.out.2.1 HRJ.out.2.2 (fun ne b off e => ⟨fun q => by have := hge7 _ q; have := rr_off HRJ.out.1 ne e; omega, by have := rr_off HRJ.out.1 ne e; omega⟩) hg7 (by rw [HX9.out, HNE.out]; exact hown7) (by
                  rcases hat7 with e | e
                  · exact .inl e
                  · exact .inr ⟨_, e, by omega⟩))
                have HNB7 := Lib.hid (HBA7.out.grown hg7 HBA7.out.size hge7)
                clear hown7 hg7 hat7 o17 hcN7

                go_wp2_with (fail)
                go_roundw
                case rel => first | exact ⟨k + 1, by omega, by go_num, by rw [HIN.out, HLK.out]; exact HN7.out, HNB7.out⟩ | ((repeat apply Exists.intro); exact ⟨⟨k + 1, by omega, by go_num, by rw [HIN.out, HLK.out]; exact HN7.out, HNB7.out⟩, rfl⟩)
                case measure => simp [intOf]; omega
              · have hkl : decide ((k : Int) = (a : Int)) = false := decide_eq_false (by omega)
                have HIN := Lib.hid (insK_succ (L := L) (x := x) (lo := a) (k := k) (by omega) (by omega))
                obtain ⟨wa3, hwa3⟩ : ∃ wa, wr.alloc (.cells #[.slice Aj nj cj] 24) = wa := ⟨_, rfl⟩
                have ba3 : Below wr.heap.size wr wa3 := by rw [← hwa3]; exact (Below.refl _ _).alloc (Nat.le_refl _) _
                have hsa3 : wa3.heap.size = wr.heap.size + 1 := by rw [← hwa3]; simp
                have hbsz3 := HB.out.size
                have hge3 : ∀ q, (Value.slice A8 n8 c8).ownBlock = some q → w.heap.size ≤ q := fun q e => (HO.out.block e).1
                obtain ⟨vs3, o13, o23⟩ := HO.out.below ba3
                rw [HX.out] at o13
                have hvl3 : vs3.length = (insK L x a k).length := by have := o13.1; rw [HX.out]; omega
                have hcN3 : ∀ j u, [Value.slice Aj nj cj][j]? = some u → wa3.cell? ((⟨wr.heap.size, 0, none⟩ : Addr).add j) = some u := by rw [← hwa3]; exact cell_one_new _ _ _
                have HO23 := Lib.hid o23
                have HBA3 := Lib.hid (HB.out.trans (ba3.mono HB.out.size))
                clear o23 ba3
                go_wp2_with (at_builtin; go_must (refine wpList_append_own_at _ rfl _ _ 22 rfl w.heap.size 24 i1 _ 1 24 Try.underlying22 hi1 hz0 hz1 hz2 rfl (by decide) (.slice A8 n8 c8) n8 vs3 rfl o13 ⟨wr.heap.size, 0, none⟩ 1 1 [.slice Aj nj cj] rfl rfl hcN3 ?c2 ?c3 ?c4 ?c5 ?_))
                case c2 => first | rfl | (intro q hq; simp at hq; subst hq; rfl)
                case c3 => simp only [maxLen]; omega
                case c4 => omega
                case c5 => omega
                intro v3 w3 hown3 hg3 _ hat3
                have HN3 := Lib.hid (show OwnsW w3 w.heap.size v3 (insK L x a k ++ [lk]) from OwnsW.more vs3 HO23.out hvl3 (A := Aj) (c := cj) (HRJ.out.1.belowM HBA3.out) HRJ.out.2.1 HRJ.out.2.2 (fun ne b off e => ⟨fun q => by have := hge3 _ q; have := rr_off HRJ.out.1 ne e; omega, by have := rr_off HRJ.out.1 ne e; omega⟩) hg3 (by rw [HX.out, HNE.out]; exact hown3) (by
                  rcases hat3 with e | e
                  · exact .inl e
                  · exact .inr ⟨_, e, by omega⟩))
                have HNB3 := Lib.hid (HBA3.out.grown hg3 HBA3.out.size hge3)
                clear hown3 hg3 hat3 o13 hcN3
                go_wp2_with (fail)
                go_roundw
                case rel => first | exact ⟨k + 1, by omega, by go_num, by rw [HIN.out, HLK.out]; exact HN3.out, HNB3.out⟩ | ((repeat apply Exists.intro); exact ⟨⟨k + 1, by omega, by go_num, by rw [HIN.out, HLK.out]; exact HN3.out, HNB3.out⟩, rfl⟩)
                case measure => simp [intOf]; omega
            · have hke : k = n := by omega
              subst hke
              have hkl : decide ((a : Int) = (k : Int)) = false := decide_eq_false (by omega)
              have HFI := Lib.hid (show insK L x a k = L.take a ++ (x :: L.drop a) from by
                unfold insK
                rw [if_neg (by omega), show L.take k = L from List.take_of_length_le (by omega)])
              have HN5 := Lib.hid HO.out
              have hn8' := HX.out
              rw [HFI.out] at HN5 hn8'
              subst hn8'
              go_wp2_with (fail)
              go_ret
              exact ⟨A8, c8, _, rfl, HSL.out, fun y => mem_put, HLN.out, OwnsW.reads rfl HN5.out, HB.out⟩
      · have hfe : a = n := by omega
        have hnl : decide ((a : Int) < (n : Int)) = false := decide_eq_false (by omega)
        have HSL := Lib.hid (sl_put (x := x) HSL0.out (lo := a) (by omega) HLO.out (fun j hj q => absurd hj (by omega)))
        have HLN := Lib.hid (show (L.take a ++ (x :: L.drop a)).length ≤ L.length + 1 by rw [List.length_append, List.length_cons, List.length_take, List.length_drop]; omega)
        clear HLO HHI hfe
        go_wp2_with (fail)
        go_loopw [8, 9] (fun v i wr => P2Rel L x a w v i wr) (fun _ i _ => n - (intOf i).toNat)
        case atStart => exact ⟨0, Nat.zero_le _, rfl, by rw [show insK L x a 0 = [] from by unfold insK; rw [if_pos (Nat.zero_le _), List.take_zero]]; exact ownW_nil _ _, HB1.out⟩
        case round =>
          obtain ⟨k, hk, rfl, ho, hb⟩ := hrel
          have HB := Lib.hid hb
          obtain ⟨A8, c8, hv8⟩ := ho.shape
          obtain ⟨n8, hn8⟩ : ∃ n8, (insK L x a k).length = n8 := ⟨_, rfl⟩
          have hn8b : n8 ≤ k + 1 := by rw [← hn8]; exact insK_len
          rw [hn8] at hv8
          subst hv8
          have HX := Lib.hid hn8
          have HO := Lib.hid ho
          clear ho hn8 hb
          by_cases hlt : k < n
          · obtain ⟨b, off, Aj, cj, hA, hbB, hcj, hrj, hlj, hnj⟩ := H.out.at_ (k := k) (by omega)
            obtain ⟨lk, hlk⟩ : ∃ lk, L[k]'(by omega) = lk := ⟨_, rfl⟩
            rw [hlk] at hcj hrj hlj hnj
            have HLK := Lib.hid hlk
            have HRJ := Lib.hid (And.intro hrj (And.intro hlj hnj))
            obtain ⟨nj, hnjl⟩ : ∃ nj, lk.length = nj := ⟨_, rfl⟩
            rw [hnjl] at hcj hlj
            have hcr : wr.cell? ⟨b, off + k, none⟩ = some (.slice Aj nj cj) := (HB.out.cell (p := ⟨b, off + k, none⟩) hbB).trans hcj
            subst hA
            have i1' : (0 : Int) ≤ (k : Int) := Int.natCast_nonneg _
            have i2' : (k : Int) < (n : Int) := by omega
            have s3 : IntKind.i64.wrap ((k : Int) + 1) = (k : Int) + 1 := IntWalk.i64_in _ (by omega)
            have HNE := Lib.hid hnjl
            clear hrj hnj hlk hnjl hcj hlj
            have hkl : decide ((k : Int) = (a : Int)) = false := decide_eq_false (by omega)
            have HIN := Lib.hid (insK_succ (L := L) (x := x) (lo := a) (k := k) (by omega) (by omega))
            obtain ⟨wa3, hwa3⟩ : ∃ wa, wr.alloc (.cells #[.slice Aj nj cj] 24) = wa := ⟨_, rfl⟩
            have ba3 : Below wr.heap.size wr wa3 := by rw [← hwa3]; exact (Below.refl _ _).alloc (Nat.le_refl _) _
            have hsa3 : wa3.heap.size = wr.heap.size + 1 := by rw [← hwa3]; simp
            have hbsz3 := HB.out.size
            have hge3 : ∀ q, (Value.slice A8 n8 c8).ownBlock = some q → w.heap.size ≤ q := fun q e => (HO.out.block e).1
            obtain ⟨vs3, o13, o23⟩ := HO.out.below ba3
            rw [HX.out] at o13
            have hvl3 : vs3.length = (insK L x a k).length := by have := o13.1; rw [HX.out]; omega
            have hcN3 : ∀ j u, [Value.slice Aj nj cj][j]? = some u → wa3.cell? ((⟨wr.heap.size, 0, none⟩ : Addr).add j) = some u := by rw [← hwa3]; exact cell_one_new _ _ _
            have HO23 := Lib.hid o23
            have HBA3 := Lib.hid (HB.out.trans (ba3.mono HB.out.size))
            clear o23 ba3
            go_wp2_with (at_builtin; go_must (refine wpList_append_own_at _ rfl _ _ 22 rfl w.heap.size 24 i1 _ 1 24 Try.underlying22 hi1 hz0 hz1 hz2 rfl (by decide) (.slice A8 n8 c8) n8 vs3 rfl o13 ⟨wr.heap.size, 0, none⟩ 1 1 [.slice Aj nj cj] rfl rfl hcN3 ?c2 ?c3 ?c4 ?c5 ?_))
            case c2 => first | rfl | (intro q hq; simp at hq; subst hq; rfl)
            case c3 => simp only [maxLen]; omega
            case c4 => omega
            case c5 => omega
            intro v3 w3 hown3 hg3 _ hat3
            have HN3 := Lib.hid (show OwnsW w3 w.heap.size v3 (insK L x a k ++ [lk]) from OwnsW.more vs3 HO23.out hvl3 (A := Aj) (c := cj) (HRJ.out.1.belowM HBA3.out) HRJ.out.2.1 HRJ.out.2.2 (fun ne b off e => ⟨fun q => by have := hge3 _ q; have := rr_off HRJ.out.1 ne e; omega, by have := rr_off HRJ.out.1 ne e; omega⟩) hg3 (by rw [HX.out, HNE.out]; exact hown3) (by
              rcases hat3 with e | e
              · exact .inl e
              · exact .inr ⟨_, e, by omega⟩))
            have HNB3 := Lib.hid (HBA3.out.grown hg3 HBA3.out.size hge3)
            clear hown3 hg3 hat3 o13 hcN3
            go_wp2_with (fail)
            go_roundw
            case rel => first | exact ⟨k + 1, by omega, by go_num, by rw [HIN.out, HLK.out]; exact HN3.out, HNB3.out⟩ | ((repeat apply Exists.intro); exact ⟨⟨k + 1, by omega, by go_num, by rw [HIN.out, HLK.out]; exact HN3.out, HNB3.out⟩, rfl⟩)
            case measure => simp [intOf]; omega
          · have hke : k = n := by omega
            subst hke
            have hkl : decide ((a : Int) = (k : Int)) = true := decide_eq_true (by omega)
            have HFI := Lib.hid (show insK L x a k ++ [x] = L.take a ++ (x :: L.drop a) from by
              have : a = k := by omega
              subst this
              unfold insK
              rw [if_pos (Nat.le_refl _), List.drop_of_length_le (by omega)])
            obtain ⟨wa5, hwa5⟩ : ∃ wa, wr.alloc (.cells #[.slice Aw nx cw] 24) = wa := ⟨_, rfl⟩
            have ba5 : Below wr.heap.size wr wa5 := by rw [← hwa5]; exact (Below.refl _ _).alloc (Nat.le_refl _) _
            have hsa5 : wa5.heap.size = wr.heap.size + 1 := by rw [← hwa5]; simp
            have hbsz5 := HB.out.size
            have hge5 : ∀ q, (Value.slice A8 n8 c8).ownBlock = some q → w.heap.size ≤ q := fun q e => (HO.out.block e).1
            obtain ⟨vs5, o15, o25⟩ := HO.out.below ba5
            rw [HX.out] at o15
            have hvl5 : vs5.length = (insK L x a k).length := by have := o15.1; rw [HX.out]; omega
            have hcN5 : ∀ j u, [Value.slice Aw nx cw][j]? = some u → wa5.cell? ((⟨wr.heap.size, 0, none⟩ : Addr).add j) = some u := by rw [← hwa5]; exact cell_one_new _ _ _
            have HO25 := Lib.hid o25
            have HBA5 := Lib.hid (HB.out.trans (ba5.mono HB.out.size))
            clear o25 ba5
            go_wp2_with (at_builtin; go_must (refine wpList_append_own_at _ rfl _ _ 22 rfl w.heap.size 24 i1 _ 1 24 Try.underlying22 hi1 hz0 hz1 hz2 rfl (by decide) (.slice A8 n8 c8) n8 vs5 rfl o15 ⟨wr.heap.size, 0, none⟩ 1 1 [.slice Aw nx cw] rfl rfl hcN5 ?c2 ?c3 ?c4 ?c5 ?_))
            case c2 => first | rfl | (intro q hq; simp at hq; subst hq; rfl)
            case c3 => simp only [maxLen]; omega
            case c4 => omega
            case c5 => omega
            intro v5 w5 hown5 hg5 _ hat5
            have HN5 := Lib.hid (show OwnsW w5 w.heap.size v5 (insK L x a k ++ [x]) from OwnsW.more vs5 HO25.out hvl5 (A := Aw) (c := cw) (HXW.out.1.belowM HBA5.out) HXW.out.2.1 HXW.out.2.2 (fun ne b off e => ⟨fun q => by have := hge5 _ q; have := rr_off HXW.out.1 ne e; omega, by have := rr_off HXW.out.1 ne e; omega⟩) hg5 (by rw [HX.out, HNX.out]; exact hown5) (by
              rcases hat5 with e | e
              · exact .inl e
              · exact .inr ⟨_, e, by omega⟩))
            have HNB5 := Lib.hid (HBA5.out.grown hg5 HBA5.out.size hge5)
            clear hown5 hg5 hat5 o15 hcN5
            go_wp2_with (fail)
            rw [HFI.out] at HN5
            obtain ⟨A9, c9, hv9⟩ := HN5.out.shape
            subst hv9
            go_ret
            exact ⟨A9, c9, _, rfl, HSL.out, fun y => mem_put, HLN.out, OwnsW.reads rfl HN5.out, HNB5.out⟩
end Go.Proofs.Ytighbbaggpnfoaa.Wo
