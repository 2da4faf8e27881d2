/- The walk of WordLists. -/
import Derived.Test.YtighbbaggpnfoaaLiWhole
import Derived.Test.YtighbbaggpnfoaaLiPut
import Derived.Test.YtighbbaggpnfoaaLiSame
import Derived.Test.YtighbbaggpnfoaaWoAwake
namespace Go.Proofs.Ytighbbaggpnfoaa.Wo
set_option maxRecDepth 100000
open Go Go.RowKit

def WlRel (L : List (List Int)) (w : World) (v i : Value) (wr : World) : Prop :=
  ∃ (k : Nat) (A' : Option Addr) (c' : Nat) (L' : List (List Int)), k ≤ L.length ∧ i = .int .i64 k ∧ v = .slice A' L'.length c' ∧ SL L' ∧ (∀ y, y ∈ L' ↔ y ∈ L.take k) ∧ L'.length ≤ k ∧ (∀ l ∈ L.take k, l.length ≤ 2000) ∧ RWs wr A' L'.length L' ∧ Below w.heap.size w wr
set_option maxHeartbeats 8000000 in
theorem walk_WordLists (A : Option Addr) (c : Nat) (L : List (List Int)) (w : World) (h : RWs w A L.length L) (_hl : L.length ≤ maxLen) (hs : ∀ l ∈ L, l.length ≤ maxLen) (hnil : A = none → L = [] ∧ c = 0) :
    Calls Try.prog 3 #[.slice A L.length c] w (RetB true w) := by
  by_cases ha : 100 < L.length
  · have hd : decide ((100 : Int) < (L.length : Int)) = true := decide_eq_true (by omega)
    clear h hs hnil
    go_enter Try.func3, Try.ntmps3
    go_wp2_with (fail)
    refine (awake_any _).mono ?_
    rintro e w2 ⟨rfl, hb2⟩
    go_wp2_with (fail)
    go_ret
    exact ⟨rfl, hb2⟩
  obtain ⟨n, hn⟩ : ∃ n, L.length = n := ⟨_, rfl⟩
  have HN := Lib.hid hn
  have H := Lib.hid h
  have HS := Lib.hid hs
  have HNIL := Lib.hid hnil
  rw [hn] at ha ⊢
  have hd : decide ((100 : Int) < (n : Int)) = false := decide_eq_false (by omega)
  clear h hs hnil _hl hn
  go_enter Try.func3, Try.ntmps3
  go_wp2_with (fail)
  go_loopw [3, 4] (fun v i wr => WlRel L w v i wr) (fun _ i _ => n - (intOf i).toNat)
  case atStart => exact ⟨0, none, 0, [], Nat.zero_le _, rfl, rfl, List.Pairwise.nil, fun y => by simp, Nat.le_refl _, fun l hl => by simp at hl, RWs.nil_ _ _, Below.refl _ _⟩
  case round =>
    obtain ⟨k, A', c', L', hk, rfl, rfl, hsl, hmem, hlen, hshort, hr, hb⟩ := hrel
    have HB := Lib.hid hb
    have HSL := Lib.hid hsl
    have HME := Lib.hid hmem
    have HSH := Lib.hid hshort
    have HR := Lib.hid hr
    obtain ⟨n', hn'⟩ : ∃ n', L'.length = n' := ⟨_, rfl⟩
    have HN' := Lib.hid hn'
    rw [hn'] at hlen
    rw [hn']
    clear hsl hmem hshort hr hn'
    have hnn := HN.out
    rw [hnn] at hk
    by_cases hlt : k < n
    · obtain ⟨b, off, Aj, cj, hA, hbB, hcj, hrj, hlj, hnj⟩ := H.out.at_ (k := k) (by omega)
      obtain ⟨lk, hlk⟩ : ∃ lk, L[k]'(by omega) = lk := ⟨_, rfl⟩
      have hml := HS.out _ (List.getElem_mem (show k < L.length by omega))
      rw [hlk] at hcj hrj hlj hnj hml
      have HLK := Lib.hid hlk
      obtain ⟨nj, hnjl⟩ : ∃ nj, lk.length = nj := ⟨_, rfl⟩
      have HNJ := Lib.hid hnjl
      have HRJ := Lib.hid (And.intro hrj (And.intro hlj hnj))
      rw [hnjl] at hcj hml
      have hcr : wr.cell? ⟨b, off + k, none⟩ = some (.slice Aj nj cj) := (HB.out.cell (p := ⟨b, off + k, none⟩) hbB).trans hcj
      subst hA
      have i1' : (0 : Int) ≤ (k : Int) := Int.natCast_nonneg _
      have i2' : (k : Int) < (n : Int) := by omega
      have s3 : IntKind.i64.wrap ((k : Int) + 1) = (k : Int) + 1 := IntWalk.i64_in _ (by omega)
      clear hrj hlj hnj hlk hnjl hcj hb
      by_cases hbig : 2000 < nj
      · have hd2 : decide ((2000 : Int) < (nj : Int)) = true := decide_eq_true (by omega)
        clear hbig
        go_wp2_with (fail)
        refine (awake_any _).mono ?_
        rintro e w2 ⟨rfl, hb2⟩
        have HB2 := Lib.hid (below_nextW HB.out hb2)
        clear hb2
        go_wp2_with (fail)
        go_ret
        exact ⟨rfl, HB2.out⟩
      · have hd2 : decide ((2000 : Int) < (nj : Int)) = false := decide_eq_false (by omega)
        have HP := Lib.hid (put_any A' c' L' Aj cj lk wr HR.out HSL.out (by have := HN'.out; omega) (fun l hl => by
          have := HSH.out l ((HME.out l).1 hl)
          omega) (HRJ.out.1.belowM HB.out) HRJ.out.2.1 HRJ.out.2.2 (by have := HNJ.out; omega))
        rw [HNJ.out, HN'.out] at HP
        have HBG := Lib.hid hbig
        clear hbig
        go_wp2_with (fail)
        refine HP.out.mono ?_
        rintro e w2 ⟨A2, c2, L2, rfl, hsl2, hmem2, hlen2, hr2, hb2⟩
        have HST := Lib.hid (show WlRel L w (.slice A2 L2.length c2) (.int .i64 ((k : Int) + 1)) w2 from ⟨k + 1, A2, c2, L2, by have := HN.out; omega, by go_num, rfl, hsl2, fun y => by
          rw [hmem2, HME.out, List.take_succ_eq_append_getElem (by have := HN.out; omega), List.mem_append, List.mem_singleton, HLK.out], by have := HN'.out; omega, fun l hl => by
          rw [List.take_succ_eq_append_getElem (by have := HN.out; omega), List.mem_append, List.mem_singleton, HLK.out] at hl
          rcases hl with q | rfl
          · exact HSH.out l q
          · have := HNJ.out
            have := HBG.out
            omega, hr2, below_nextW HB.out hb2⟩)
        clear hsl2 hmem2 hlen2 hr2 hb2
        go_wp2_with (fail)
        go_roundw
        case rel => exact HST.out
        case measure => simp [intOf]; omega
    · have hkn : k = n := by omega
      have htk : L.take k = L := List.take_of_length_le (by omega)
      have HSH2 := Lib.hid (show ∀ l ∈ L, l.length ≤ 2000 from fun l hl => HSH.out l (by rw [htk]; exact hl))
      have HME2 := Lib.hid (show ∀ y, y ∈ L' ↔ y ∈ L from fun y => by rw [HME.out y, htk])
      have HSO := Lib.hid (wsort_any A c L wr (H.out.belowM hb) (by omega) (fun l hl => by have := HSH2.out l hl; omega) HNIL.out)
      rw [HN.out] at HSO
      clear htk hb
      go_wp2_with (fail)
      refine HSO.out.mono ?_
      rintro e w2 ⟨A2, c2, L2, rfl, hsl2, hmem2, hlen2, hr2, hb2⟩
      have hL : L2 = L' := sl_ext L2 L' hsl2 HSL.out fun y => by rw [hmem2, HME2.out]
      subst hL
      have HR2 := Lib.hid (HR.out.belowM hb2)
      have HLS := Lib.hid (rlists_any A2 A' c2 c' L2 L2 w2 hr2 HR2.out (by have := HN.out; omega) (by have := HN.out; omega) (fun l hl => by have := HSH2.out l ((hmem2 l).1 hl); omega) (fun l hl => by have := HSH2.out l ((hmem2 l).1 hl); omega))
      rw [decide_eq_true rfl] at HLS
      have HB2 := Lib.hid (below_nextW HB.out hb2)
      rw [HN'.out] at HLS
      rw [HN'.out]
      clear hsl2 hmem2 hlen2 hr2 hb2
      go_wp2_with (fail)
      refine HLS.out.mono ?_
      rintro e w3 ⟨rfl, hb3⟩
      have HB3 := Lib.hid (below_nextW HB2.out hb3)
      clear hb3
      go_wp2_with (fail)
      refine (awake_any _).mono ?_
      rintro e w4 ⟨rfl, hb4⟩
      have HB4 := Lib.hid (below_nextW HB3.out hb4)
      clear hb4
      go_wp2_with (fail)
      go_ret
      exact ⟨rfl, HB4.out⟩
end Go.Proofs.Ytighbbaggpnfoaa.Wo
