/- The walk of MintermUnions. -/
import Derived.Test.YtgmkchkaceciiaaMiRows
import Derived.Test.YtgmkchkaceciiaaMiSame
import Derived.Test.YtgmkchkaceciiaaSpMeet
import Derived.Test.YtgmkchkaceciiaaSpUnion
import Derived.StillTailTactics
namespace Go.Proofs.Ytgmkchkaceciiaa.Mi
set_option maxRecDepth 100000
open Go Go.RowKit Go.Proofs.Ytgmkchkaceciiaa.Sp

theorem own_RS3 {w : World} {base : Nat} {v : Value} {out : List Span} (h : OwnsL w base v out) : ∃ A c, v = .slice A out.length c ∧ out.length ≤ c ∧ RS w w.heap.size A out.length out ∧ (A = none → out = [] ∧ c = 0) := by
  unfold OwnsL at h
  rcases h.2 with ⟨e, e2⟩ | ⟨g, cap, cur, e, _, _, hc, _⟩
  · have e3 : out = [] := List.length_eq_zero_iff.1 e2
    subst e3
    exact ⟨none, 0, e, Nat.le_refl _, RS.nil_ _ _ _, fun _ => ⟨rfl, rfl⟩⟩
  · subst e
    exact ⟨_, cap, rfl, hc, RS.of_own h, fun q => by cases q⟩
theorem rev_take {fam : List (List Span)} {m : Nat} (hm : m < fam.length) : fam.reverse.take (m + 1) = fam.reverse.take m ++ [fam[fam.length - 1 - m]] := by
  rw [List.take_succ_eq_append_getElem (by simpa using hm), List.getElem_reverse]
def TnRel (fam : List (List Span)) (w2 : World) (v i : Value) (wr : World) : Prop := ∃ m : Nat, m ≤ fam.length ∧ i = .int .i64 ((fam.length : Int) - 1 - m) ∧ OwnsR wr w2.heap.size v (fam.reverse.take m) ∧ Below w2.heap.size w2 wr
def UoRel (fam : List (List Span)) (w3 : World) (i : Value) (wr : World) : Prop := ∃ k : Nat, k ≤ fam.length ∧ i = .int .i64 k ∧ Below w3.heap.size w3 wr
def meetsP (l s : List Span) : Prop := ∃ x, mem l x ∧ mem s x
/-- What is joined so far. -/
def UiRel (L : List (List Span)) (s : List Span) (w3 : World) (v i : Value) (wr : World) : Prop :=
  ∃ (k : Nat) (out : List Span) (A : Option Addr) (c : Nat), k ≤ L.length ∧ i = .int .i64 k ∧ v = .slice A out.length c ∧ RS wr wr.heap.size A out.length out ∧ out.length ≤ c ∧ (A = none → out = [] ∧ c = 0) ∧ Plain out ∧ (∀ x, mem out x ↔ ∃ (j : Nat) (h : j < L.length), j < k ∧ mem L[j] x ∧ meetsP L[j] s) ∧ Below w3.heap.size w3 wr
theorem IsBlocks.joined {all s : List Span} {fam L : List (List Span)} (h : IsBlocks all fam L) (hs : s ∈ fam) (x : Int) : (∃ (j : Nat) (hj : j < L.length), j < L.length ∧ mem L[j] x ∧ meetsP L[j] s) ↔ (mem all x ∧ mem s x) := by
  constructor
  · rintro ⟨j, hj, _, hx, z, hz1, hz2⟩
    have := (h.alike _ (List.getElem_mem hj) _ (List.getElem_mem hj) x z hx hz1).1 rfl s hs
    exact ⟨(h.cover x).2 ⟨_, List.getElem_mem hj, hx⟩, this.2 hz2⟩
  · rintro ⟨h1, h2⟩
    obtain ⟨l, hl, hx⟩ := (h.cover x).1 h1
    obtain ⟨j, hj, rfl⟩ := List.getElem_of_mem hl
    exact ⟨j, hj, hj, hx, x, hx, h2⟩
theorem IsBlocks.rev {all : List Span} {fam L : List (List Span)} (h : IsBlocks all fam.reverse L) : IsBlocks all fam L :=
  h.congr (fun _ => Iff.rfl) fun _ _ => ⟨fun q s hs => q s (List.mem_reverse.2 hs), fun q s hs => q s (List.mem_reverse.1 hs)⟩
set_option maxHeartbeats 8000000 in
theorem walk_MintermUnions (As : Option Addr) (cs : Nat) (all : List Span) (A : Option Addr) (c : Nat) (fam : List (List Span)) (w : World) (hall : RS w w.heap.size As all.length all) (_hal : all.length ≤ maxLen) (hac : all.length ≤ cs) (h : RGs w A fam.length fam) (hl : fam.length ≤ maxLen) (hs : ∀ l ∈ fam, l.length ≤ maxLen) :
    Calls Try.prog 5 #[.slice As all.length cs, .slice A fam.length c] w (RetB true w) := by
  obtain ⟨i1, hi1, hz0, hz1, hz2⟩ := info_parts infoRow
  by_cases ha : 30 < all.length
  · have hd : decide ((30 : Int) < (all.length : Int)) = true := decide_eq_true (by omega)
    clear h hall
    go_enter Try.func5, Try.ntmps5
    go_wp2_with (fail)
    refine (awake_any _).mono ?_
    rintro e w2 ⟨rfl, hb2⟩
    go_wp2_with (fail)
    go_ret
    exact ⟨rfl, hb2⟩
  have hd : decide ((30 : Int) < (all.length : Int)) = false := decide_eq_false (by omega)
  by_cases hg : 30 < fam.length ∨ ∃ l ∈ fam, 30 < l.length
  · have HG := Lib.hid (mgreat_any A c fam true w h hl hs ⟨fun _ => hg, fun _ => rfl⟩)
    clear h hl hs hg hall
    go_enter Try.func5, Try.ntmps5
    go_wp2_with (fail)
    refine HG.out.mono ?_
    rintro e w1 ⟨rfl, hb1⟩
    go_wp2_with (fail)
    refine (awake_any _).mono ?_
    rintro e w2 ⟨rfl, hb2⟩
    go_wp2_with (fail)
    go_ret
    exact ⟨rfl, below_nextM hb1 hb2⟩
  have HG := Lib.hid (mgreat_any A c fam false w h hl hs ⟨fun q => (by cases q), fun q => absurd q hg⟩)
  have hl2 : fam.length ≤ 30 := by omega
  have hs2 : ∀ l ∈ fam, l.length ≤ 30 := fun l hm => by
    rcases Nat.lt_or_ge 30 l.length with q | q
    · exact absurd (.inr ⟨l, hm, q⟩) hg
    · exact q
  have HS := Lib.hid hs2
  have H := Lib.hid h
  have HA := Lib.hid hall
  clear h hs hg hs2 hl hall
  go_enter Try.func5, Try.ntmps5
  go_wp2_with (fail)
  refine HG.out.mono ?_
  rintro e w1 ⟨rfl, hb1⟩
  have HSP := Lib.hid (split_any As cs all A c fam w1 (HA.out.belowM hb1) (by omega) (H.out.belowM hb1) (by omega) (fun l hm => by have := HS.out l hm; omega))
  have HB1 := Lib.hid hb1
  clear hb1
  go_wp2_with (fail)
  refine HSP.out.mono ?_
  rintro e w2 ⟨v, L, hL, hor, hb2⟩
  have HB2 := Lib.hid (below_nextM HB1.out hb2)
  have HF2 := Lib.hid (H.out.belowM HB2.out)
  have HA2 := Lib.hid (HA.out.belowM HB2.out)
  have HL := Lib.hid hL
  clear hL hb2
  have s0 : IntKind.i64.wrap ((fam.length : Int) - 1) = (fam.length : Int) - 1 := IntWalk.i64_in _ (by omega)
  obtain ⟨AL, cL, LL, en, hret, hLg, hLL, hLs⟩ : ∃ (AL : Option Addr) (cL : Nat) (LL : List (List Span)) (en : Int), e = .returned (.tuple #[.slice AL LL.length cL, .int .i64 en]) ∧ RGs w2 AL LL.length LL ∧ ((en = 0 ∧ LL = L ∧ L.length ≤ 1024) ∨ (en = 4 ∧ LL = [] ∧ 1024 < L.length)) ∧ (∀ l ∈ LL, l.length ≤ 1073741825) := by
    rcases hor with ⟨he, hL1024, hoG⟩ | ⟨he, hbig⟩
    · obtain ⟨AL, cL, rfl, hrg, hlc⟩ := hoG.reads
      exact ⟨AL, cL, L, 0, he, hrg, .inl ⟨rfl, rfl, hL1024⟩, fun l hl => (HL.out.plain l hl).1.short⟩
    · exact ⟨none, 0, [], 4, he, RGs.nil_ _ _, .inr ⟨rfl, rfl, hbig⟩, fun l hl => by cases hl⟩
  subst hret
  have HLG := Lib.hid hLg
  have HLS := Lib.hid hLs
  have hLl : LL.length ≤ 1024 := by
    rcases hLL with ⟨_, rfl, q⟩ | ⟨_, rfl, _⟩
    · exact q
    · simp
  clear hor hLg hLs
  go_wp2_with (fail)
  go_loopw [7, 8] (fun v i wr => TnRel fam w2 v i wr) (fun _ i _ => (intOf i + 1).toNat)
  case atStart => exact ⟨0, Nat.zero_le _, by congr 1 <;> omega, ownR_nil _ _, Below.refl _ _⟩
  case round =>
    obtain ⟨m, hm, rfl, ho, hb⟩ := hrel
    obtain ⟨A4, c4, hv⟩ := ho.shape
    have htl : (fam.reverse.take m).length = m := by rw [List.length_take, List.length_reverse]; omega
    rw [htl] at hv
    subst hv
    have hbs := hb.size
    by_cases hlt : m < fam.length
    · obtain ⟨i, hi⟩ : ∃ i, fam.length - 1 - m = i := ⟨_, rfl⟩
      have hie : (fam.length : Int) - 1 - (m : Int) = (i : Int) := by omega
      have hil : i < fam.length := by omega
      obtain ⟨b, off, Aj, cj, hA, hbB, hcj, hrj, hlc, hnil⟩ := HF2.out.at_ hil
      have hcr : wr.cell? ⟨b, off + i, none⟩ = some (.slice Aj fam[i].length cj) := (hb.cell (p := ⟨b, off + i, none⟩) hbB).trans hcj
      obtain ⟨w3, hw3⟩ : ∃ w3, wr.alloc (.cells #[.slice Aj fam[i].length cj] 22) = w3 := ⟨_, rfl⟩
      have hs3 : w3.heap.size = wr.heap.size + 1 := by rw [← hw3]; simp
      have b3 : Below wr.heap.size wr w3 := by rw [← hw3]; exact (Below.refl _ _).alloc (Nat.le_refl _) _
      have hge : ∀ q, (Value.slice A4 m c4).ownBlock = some q → w2.heap.size ≤ q := fun q e => by
        obtain ⟨_, q1, _⟩ := ho
        exact (World.ownsRow.lt q1 _ e).1
      have hrj3 : RS w3 w3.heap.size Aj fam[i].length fam[i] := (hrj.belowM hb).belowM b3
      have hne : fam[i] ≠ [] → ∀ b off, Aj = some ⟨b, off, none⟩ → (Value.slice A4 m c4).ownBlock ≠ some b ∧ b < w3.heap.size := fun ne b' off' e => by
        obtain ⟨b2, off2, e2, hb2, _⟩ := hrj.2 (by cases hq : fam[i] with | nil => exact absurd hq ne | cons _ _ => simp)
        rw [e] at e2
        injection e2 with e2
        injection e2 with e2 _ _
        subst e2
        exact ⟨fun q => by have := hge _ q; omega, by omega⟩
      obtain ⟨vs, o1, o2⟩ := ho.below b3
      rw [htl] at o1
      have hcN : ∀ j u, [Value.slice Aj fam[i].length cj][j]? = some u → w3.cell? ((⟨wr.heap.size, 0, none⟩ : Addr).add j) = some u := by rw [← hw3]; exact cell_one_new _ _ _
      have HO2 := Lib.hid o2
      have HR3 := Lib.hid (And.intro hrj3 (And.intro hlc (And.intro hnil hne)))
      have HB3 := Lib.hid (hb.trans (b3.mono hb.size))
      have HTL := Lib.hid htl
      have HRT := Lib.hid (show fam.reverse.take (m + 1) = fam.reverse.take m ++ [fam[i]] by rw [rev_take hlt]; congr 2; simp only [hi])
      have s1 : IntKind.i64.wrap ((i : Int) - 1) = (i : Int) - 1 := IntWalk.i64_in _ (by omega)
      rw [hie, hA]
      clear o2 hrj hrj3 hlc hnil hne b3 ho hA hcj htl
      obtain ⟨li, hli⟩ : ∃ li, fam[i] = li := ⟨_, rfl⟩
      rw [hli] at HR3 HRT hcN hcr hw3
      obtain ⟨ni, hni⟩ : ∃ ni, li.length = ni := ⟨_, rfl⟩
      rw [hni] at HR3 hcN hcr hw3
      have HNI := Lib.hid hni
      clear hli hni
      go_wp2_with (at_builtin; go_must (refine wpList_append_own_at _ rfl _ _ 32 rfl w2.heap.size 22 i1 _ 1 24 Try.underlying32 hi1 hz0 hz1 hz2 rfl (by decide) (.slice A4 m c4) m vs rfl o1 ⟨wr.heap.size, 0, none⟩ 1 1 [.slice Aj ni cj] rfl rfl hcN ?c2 ?c3 ?c4 ?c5 ?_))
      case c2 => first | rfl | (intro q hq; simp at hq; subst hq; rfl)
      case c3 => simp only [maxLen]; omega
      case c4 => omega
      case c5 => omega
      intro v' w' hown hg _ hat
      have hN : OwnsR w' w2.heap.size v' (fam.reverse.take (m + 1)) := by
        rw [HRT.out]
        have hni := HNI.out
        subst hni
        refine OwnsR.more vs HO2.out (by rw [HTL.out]; have := o1.1; omega) HR3.out.1 HR3.out.2.1 HR3.out.2.2.1 HR3.out.2.2.2 hg (by rw [HTL.out]; exact hown) ?_
        rcases hat with e | e
        · exact .inl e
        · exact .inr ⟨_, e, by omega⟩
      have HN := Lib.hid hN
      have HBN := Lib.hid (HB3.out.grown hg HB3.out.size hge)
      clear hN hown hg hat o1
      go_wp2_with (fail)
      go_roundw
      case rel => exact ⟨m + 1, by omega, by congr 1 <;> omega, HN.out, HBN.out⟩
      case measure => simp [intOf] <;> omega
    · have hmn : m = fam.length := by omega
      subst hmn
      have hmi : (fam.length : Int) - 1 - (fam.length : Int) = -1 := by omega
      have HRV := Lib.hid (show fam.reverse.take fam.length = fam.reverse from List.take_of_length_le (Nat.le_of_eq List.length_reverse))
      have hor2 := ho
      rw [HRV.out] at hor2
      have hrg := OwnsR.reads List.length_reverse hor2
      have HSP2 := Lib.hid (split_any As cs all A4 c4 fam.reverse wr (HA2.out.belowM hb) (by omega) hrg (by rw [List.length_reverse]; omega) (fun l hm => by have := HS.out l (List.mem_reverse.1 hm); omega))
      rw [List.length_reverse] at HSP2
      have HBW := Lib.hid hb
      have HB2W := Lib.hid (below_nextM HB2.out hb)
      rw [hmi]
      clear hor2 hrg ho hb htl hmi hlt hm
      go_wp2_with (fail)
      refine HSP2.out.mono ?_
      rintro e w5 ⟨v2, L2, hL2, hor2, hb5⟩
      obtain rfl : L = L2 := HL.out.unique hL2.rev
      have HB5 := Lib.hid (below_nextM HB2W.out hb5)
      have HB25 := Lib.hid (below_nextM HBW.out hb5)
      clear hL2
      obtain ⟨AM, cM, hret, hMg⟩ : ∃ (AM : Option Addr) (cM : Nat), e = .returned (.tuple #[.slice AM LL.length cM, .int .i64 en]) ∧ RGs w5 AM LL.length LL := by
        rcases hLL with ⟨rfl, rfl, q⟩ | ⟨rfl, rfl, q⟩
        · rcases hor2 with ⟨he, _, hoG⟩ | ⟨_, hbig⟩
          · obtain ⟨AM, cM, rfl, hrg, hlc⟩ := hoG.reads
            exact ⟨AM, cM, he, hrg⟩
          · omega
        · rcases hor2 with ⟨_, hsm, _⟩ | ⟨he, _⟩
          · omega
          · exact ⟨none, 0, he, RGs.nil_ _ _⟩
      subst hret
      have HSM := Lib.hid (rsame_any AL AM cL cM LL LL w5 (HLG.out.belowM HB25.out) hMg (by omega) (by omega) (fun l hl => by have := HLS.out l hl; omega) (fun l hl => by have := HLS.out l hl; omega))
      rw [decide_eq_true (rfl : LL = LL)] at HSM
      have hen : decide (en = en) = true := decide_eq_true rfl
      clear hor2 hb5 hMg
      go_wp2_with (fail)
      refine HSM.out.mono ?_
      rintro e w6 ⟨rfl, hb6⟩
      have HB6 := Lib.hid (below_nextM HB5.out hb6)
      have HB26 := Lib.hid (below_nextM HB25.out hb6)
      clear hb6
      rcases hLL with ⟨rfl, rfl, hq⟩ | ⟨rfl, rfl, hq⟩
      · have HAL := Lib.hid (HLG.out.belowM HB26.out)
        have HAF := Lib.hid (HF2.out.belowM HB26.out)
        have HAA := Lib.hid (HA2.out.belowM HB26.out)
        clear HSM
        go_wp2_with (fail)
        go_loopw [11] (fun i wr => UoRel fam w6 i wr) (fun i _ => fam.length - (intOf i).toNat)
        case atStart => exact ⟨0, Nat.zero_le _, rfl, Below.refl _ _⟩
        case round =>
          obtain ⟨k, hk, rfl, hb⟩ := hrel
          have HBK := Lib.hid hb
          clear hb
          by_cases hlt : k < fam.length
          · go_wp2_with (fail)
            go_loopw [12, 13] (fun v i wr => UiRel LL fam[k] w6 v i wr) (fun _ i _ => LL.length - (intOf i).toNat)
            case atStart => exact ⟨0, [], none, 0, Nat.zero_le _, rfl, rfl, RS.nil_ _ _ _, Nat.le_refl _, fun _ => ⟨rfl, rfl⟩, Plain.nil, fun x => ⟨fun q => absurd q (mem_nil x), fun ⟨j, _, q, _⟩ => absurd q (by omega)⟩, HBK.out⟩
            case round =>
              obtain ⟨j, out, Ao, co, hj, rfl, rfl, hro, hco, hno, hpo, hmo, hb⟩ := hrel
              have hsl := hpo.short
              have HBJ := Lib.hid hb
              obtain ⟨b2, off2, Af, cf, hAf, hbf, hcf, hrf, hlf, hnf⟩ := (HAF.out.belowM hb).at_ hlt
              have hsf := HS.out _ (List.getElem_mem hlt)
              by_cases hjl : j < LL.length
              · obtain ⟨b1, off1, Aj, cj, hAj, hbj, hcj, hrj, hlj, hnj⟩ := (HAL.out.belowM hb).at_ hjl
                have hslj := HLS.out _ (List.getElem_mem hjl)
                have hdr : Below wr.heap.size wr wr.drew := (Below.refl _ _).drew
                obtain ⟨lj, hlje⟩ : ∃ lj, LL[j] = lj := ⟨_, rfl⟩
                obtain ⟨fk, hfke⟩ : ∃ fk, fam[k] = fk := ⟨_, rfl⟩
                rw [hlje] at hcj hrj hlj hnj hslj
                rw [hfke] at hcf hrf hlf hsf hmo ⊢
                have hstep : ∀ x, (∃ (i : Nat) (h : i < LL.length), i < j + 1 ∧ mem LL[i] x ∧ meetsP LL[i] fk) ↔ (∃ (i : Nat) (h : i < LL.length), i < j ∧ mem LL[i] x ∧ meetsP LL[i] fk) ∨ (mem lj x ∧ meetsP lj fk) := fun x => by
                  constructor
                  · rintro ⟨i, hi, hij, h1, h2⟩
                    by_cases e : i = j
                    · subst e
                      rw [hlje] at h1 h2
                      exact .inr ⟨h1, h2⟩
                    · exact .inl ⟨i, hi, by omega, h1, h2⟩
                  · rintro (⟨i, hi, hij, h1, h2⟩ | ⟨h1, h2⟩)
                    · exact ⟨i, hi, by omega, h1, h2⟩
                    · exact ⟨j, hjl, by omega, by rw [hlje]; exact h1, by rw [hlje]; exact h2⟩
                have HST := Lib.hid hstep
                have HMO := Lib.hid hmo
                have HPO := Lib.hid hpo
                have i1' : (0 : Int) ≤ (j : Int) := Int.natCast_nonneg _
                have i2 : (j : Int) < (LL.length : Int) := by omega
                have i3 : (0 : Int) ≤ (k : Int) := Int.natCast_nonneg _
                have i4 : (k : Int) < (fam.length : Int) := by omega
                by_cases hmt : meetsP lj fk
                · have HME := Lib.hid (meets_any Aj Af lj.length fk.length cj cf lj fk true wr.drew (hrj.belowM hdr) (hrf.belowM hdr) (by omega) (by omega) hlj hlf ⟨fun q => (by cases q), fun q => absurd hmt (fun ⟨x, hx⟩ => q x hx)⟩)
                  have HUN := Lib.hid (fun W (hW : Below wr.heap.size wr W) => union_any Ao Aj co cj out lj W (hro.belowM hW) (hrj.belowM hW) (by omega) (by omega) hno hnj)
                  have hcJ : ∀ W, Below wr.heap.size wr W → W.cell? ⟨b1, off1 + j, none⟩ = some (.slice Aj lj.length cj) := fun W hW => (hW.cell (p := ⟨b1, off1 + j, none⟩) hbj).trans hcj
                  obtain ⟨nj, hnje⟩ : ∃ nj, lj.length = nj := ⟨_, rfl⟩
                  obtain ⟨nf, hnfe⟩ : ∃ nf, fk.length = nf := ⟨_, rfl⟩
                  obtain ⟨no, hnoe⟩ : ∃ no, out.length = no := ⟨_, rfl⟩
                  rw [hnje] at HME HUN hcj hcJ
                  rw [hnfe] at HME hcf
                  rw [hnoe] at HUN ⊢
                  have HCJ := Lib.hid hcJ
                  have HMT := Lib.hid hmt
                  rw [hAj, hAf]
                  clear hlje hfke hrj hlj hnj hrf hlf hnf hro hno hpo hmo hb hstep hcJ hmt hnje hnfe hnoe hAj hAf hco
                  go_wp2_with (fail)
                  go_still_tail 8, (by kernel_rfl)
                  change wpList _ _ _ _ _ wr.drew
                  go_wp2_with (fail)
                  refine HME.out.mono ?_
                  rintro e w7 ⟨rfl, hb7⟩
                  have hb7' : Below wr.heap.size wr w7 := below_nextM ((Below.refl _ _).drew) hb7
                  have hcj7 := HCJ.out w7 hb7'
                  go_wp2_with (fail)
                  refine (HUN.out w7 hb7').mono ?_
                  rintro e w8 ⟨v8, out8, rfl, his8, ho8, hb8⟩
                  obtain ⟨A8, c8, hv8, hc8, hr8, hn8⟩ := own_RS3 ho8
                  subst hv8
                  have HX := Lib.hid (show UiRel LL fk w6 (.slice A8 out8.length c8) (.int .i64 ((j + 1 : Nat) : Int)) w8 from ⟨j + 1, out8, A8, c8, by omega, rfl, rfl, hr8, hc8, hn8, his8.1, fun x => by
                    refine (his8.2 x).trans ?_
                    show (mem out x ∨ mem lj x) ↔ _
                    rw [HST.out x, HMO.out x]
                    exact ⟨fun q => q.imp id fun q => ⟨q, HMT.out⟩, fun q => q.imp id fun q => q.1⟩, below_nextM HBJ.out (below_nextM hb7' hb8)⟩)
                  clear his8 ho8 hb8 hb7 hb7' hr8 hn8 hc8
                  go_wp2_with (fail)
                  go_roundw
                  case rel => exact HX.out
                  case measure => simp [intOf]; omega
                · have HME := Lib.hid (meets_any Aj Af lj.length fk.length cj cf lj fk false wr.drew (hrj.belowM hdr) (hrf.belowM hdr) (by omega) (by omega) hlj hlf ⟨fun _ x hx => hmt ⟨x, hx⟩, fun _ => rfl⟩)
                  have HRO := Lib.hid (And.intro hro (And.intro hco hno))
                  have HMT := Lib.hid hmt
                  obtain ⟨nj, hnje⟩ : ∃ nj, lj.length = nj := ⟨_, rfl⟩
                  obtain ⟨nf, hnfe⟩ : ∃ nf, fk.length = nf := ⟨_, rfl⟩
                  rw [hnje] at HME hcj
                  rw [hnfe] at HME hcf
                  rw [hAj, hAf]
                  clear hlje hfke hrj hlj hnj hrf hlf hnf hro hno hpo hmo hb hstep hmt hnje hnfe hAj hAf hco
                  go_wp2_with (fail)
                  go_still_tail 8, (by kernel_rfl)
                  change wpList _ _ _ _ _ wr.drew
                  go_wp2_with (fail)
                  refine HME.out.mono ?_
                  rintro e w7 ⟨rfl, hb7⟩
                  have hb7' : Below wr.heap.size wr w7 := below_nextM ((Below.refl _ _).drew) hb7
                  have HX := Lib.hid (show UiRel LL fk w6 (.slice Ao out.length co) (.int .i64 ((j + 1 : Nat) : Int)) w7 from ⟨j + 1, out, Ao, co, by omega, rfl, rfl, HRO.out.1.belowM hb7', HRO.out.2.1, HRO.out.2.2, HPO.out, fun x => by
                    rw [HST.out x, HMO.out x]
                    exact ⟨fun q => .inl q, fun q => q.resolve_right fun q => HMT.out q.2⟩, below_nextM HBJ.out hb7'⟩)
                  clear hb7 hb7'
                  go_wp2_with (fail)
                  go_roundw
                  case rel => exact HX.out
                  case measure => simp [intOf]; omega
              · have hjn : j = LL.length := by omega
                have HIS := Lib.hid (show Is out (fun x => mem all x ∧ mem fam[k] x) from ⟨hpo, fun x => by
                  refine (hmo x).trans (Iff.trans ?_ (HL.out.joined (List.getElem_mem hlt) x))
                  exact ⟨fun ⟨i, hi, _, h1, h2⟩ => ⟨i, hi, hi, h1, h2⟩, fun ⟨i, hi, _, h1, h2⟩ => ⟨i, hi, by omega, h1, h2⟩⟩⟩)
                have HME := Lib.hid (meet_any As Af all.length fam[k].length cs cf all fam[k] wr (HAA.out.belowM hb) hrf (by omega) (by omega) hac hlf)
                have HSA := Lib.hid (fun W (hW : Below wr.heap.size wr W) A3 c3 => fun (o3 : List Span) (h3 : RS W W.heap.size A3 o3.length o3) (hl3 : o3.length ≤ 1099511627776) => same_any Ao A3 out.length o3.length co c3 out o3 W (hro.belowM hW) h3 (by omega) hl3)
                obtain ⟨nf, hnfe⟩ : ∃ nf, fam[k].length = nf := ⟨_, rfl⟩
                obtain ⟨no, hnoe⟩ : ∃ no, out.length = no := ⟨_, rfl⟩
                rw [hnfe] at HME hcf
                rw [hnoe] at HSA ⊢
                subst hAf
                clear hrf hlf hnf hro hno hpo hmo hb hnfe hnoe hco
                go_wp2_with (fail)
                refine HME.out.mono ?_
                rintro e w7 ⟨v7, out7, rfl, his7, ho7, hb7⟩
                obtain ⟨A7, c7, hv7, hc7, hr7, hn7⟩ := own_RS3 ho7
                subst hv7
                obtain rfl : out = out7 := HIS.out.eq his7 fun _ => Iff.rfl
                have hs7 := his7.1.short
                have HS7 := Lib.hid (HSA.out w7 hb7 A7 c7 out hr7 (by omega))
                rw [decide_eq_true (rfl : out = out)] at HS7
                have HB7 := Lib.hid (below_nextM HBJ.out hb7)
                clear his7 ho7 hb7 hr7 hn7 hc7
                go_wp2_with (fail)
                refine HS7.out.mono ?_
                rintro e w8 ⟨rfl, hb8⟩
                have HB8 := Lib.hid (below_nextM HB7.out hb8)
                clear hb8
                go_wp2_with (fail)
                go_roundw
                case rel => exact ⟨k + 1, by omega, by go_num, HB8.out⟩
                case measure => simp [intOf]; omega
          · go_wp2_with (fail)
            refine (awake_any _).mono ?_
            rintro e w9 ⟨rfl, hb9⟩
            go_wp2_with (fail)
            go_ret
            exact ⟨rfl, below_nextM HB6.out (below_nextM HBK.out hb9)⟩
      · clear HSM
        go_wp2_with (fail)
        go_loopw [11] (fun i wr => i = .int .i64 0 ∧ w6 = wr) (fun _ _ => 0)
        case atStart => exact ⟨rfl, rfl⟩
        case round =>
          obtain ⟨rfl, rfl⟩ := hrel
          by_cases hlt : 0 < fam.length
          · have hd4 : decide ((0 : Int) < (fam.length : Int)) = true := decide_eq_true (by omega)
            go_wp2_with (fail)
            refine (awake_any _).mono ?_
            rintro e w9 ⟨rfl, hb9⟩
            go_wp2_with (fail)
            go_ret
            exact ⟨rfl, below_nextM HB6.out hb9⟩
          · have hd4 : decide ((0 : Int) < (fam.length : Int)) = false := decide_eq_false (by omega)
            go_wp2_with (fail)
            refine (awake_any _).mono ?_
            rintro e w9 ⟨rfl, hb9⟩
            go_wp2_with (fail)
            go_ret
            exact ⟨rfl, below_nextM HB6.out hb9⟩
end Go.Proofs.Ytgmkchkaceciiaa.Mi
