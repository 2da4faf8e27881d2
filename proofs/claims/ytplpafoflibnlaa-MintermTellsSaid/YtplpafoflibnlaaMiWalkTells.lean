/- The walk of MintermTells. -/
import Derived.Test.YtplpafoflibnlaaMiAwake
import Derived.Deep.RegionHeld3
namespace Go.Proofs.Ytplpafoflibnlaa.Mi
set_option maxRecDepth 100000
open Go Go.RowKit Go.Proofs.Ytplpafoflibnlaa.Sp

theorem count_one {α : Type} (p : α → Bool) : ∀ L : List α, (∀ (i j : Nat) (hi : i < L.length) (hj : j < L.length), p L[i] = true → p L[j] = true → i = j) → L.countP p = if L.any p then 1 else 0 := by
  intro L
  induction L with
  | nil => intro _; rfl
  | cons a L ih =>
    intro h
    by_cases ha : p a = true
    · have h0 : L.countP p = 0 := by
        rw [List.countP_eq_zero]
        intro l hl hp
        obtain ⟨j, hj, rfl⟩ := List.getElem_of_mem hl
        have := h 0 (j + 1) (by simp) (by simpa using hj) ha hp
        omega
      simp [ha, h0]
    · have hf : p a = false := by simpa using ha
      have := ih fun i j hi hj h1 h2 => by
        have := h (i + 1) (j + 1) (by simpa using hi) (by simpa using hj) h1 h2
        omega
      simp [hf, this]
theorem IsBlocks.one {all : List Span} {fam L : List (List Span)} (h : IsBlocks all fam L) {x : Int} {i j : Nat} (hi : i < L.length) (hj : j < L.length) (hx : mem L[i] x) (hy : mem L[j] x) : i = j := by
  have e := (h.alike _ (List.getElem_mem hi) _ (List.getElem_mem hj) x x hx hy).2 fun _ _ => Iff.rfl
  rcases Nat.lt_trichotomy i j with q | q | q
  · have := List.pairwise_iff_getElem.1 h.order i j hi hj q
    rw [e] at this
    omega
  · exact q
  · have := List.pairwise_iff_getElem.1 h.order j i hj hi q
    rw [e] at this
    omega
noncomputable def cN (L : List (List Span)) (x : Int) (k : Nat) : Nat := (L.take k).countP fun l => memB l x
theorem cN_le (L : List (List Span)) (x : Int) (k : Nat) (hk : k ≤ L.length) : cN L x k ≤ k := by
  unfold cN
  have := List.countP_le_length (p := fun l => memB l x) (l := L.take k)
  rw [List.length_take] at this
  omega
theorem cN_succ {L : List (List Span)} {x : Int} {k : Nat} (hk : k < L.length) : cN L x (k + 1) = cN L x k + (if memB L[k] x then 1 else 0) := by
  unfold cN
  rw [List.take_succ_eq_append_getElem hk, List.countP_append, List.countP_singleton]
theorem IsBlocks.count {all : List Span} {fam L : List (List Span)} (h : IsBlocks all fam L) (x : Int) : (mem all x → cN L x L.length = 1) ∧ (¬ mem all x → cN L x L.length = 0) := by
  have h1 : cN L x L.length = if L.any (fun l => memB l x) then 1 else 0 := by
    unfold cN
    rw [List.take_length]
    exact count_one _ L fun i j hi hj h1 h2 => h.one hi hj (memB_iff.1 h1) (memB_iff.1 h2)
  refine ⟨fun hm => ?_, fun hm => ?_⟩
  · obtain ⟨l, hl, hlx⟩ := (h.cover x).1 hm
    rw [h1, if_pos (List.any_eq_true.2 ⟨l, hl, memB_t hlx⟩)]
  · rw [h1, if_neg]
    intro q
    obtain ⟨l, hl, hlx⟩ := List.any_eq_true.1 q
    exact hm ((h.cover x).2 ⟨l, hl, memB_iff.1 hlx⟩)
def alikeTo (fam : List (List Span)) (x y : Int) (k : Nat) : Prop := ∀ (j : Nat) (hj : j < fam.length), j < k → (mem fam[j] x ↔ mem fam[j] y)
theorem alikeTo_succ {fam : List (List Span)} {x y : Int} {k : Nat} (hk : k < fam.length) : alikeTo fam x y (k + 1) ↔ alikeTo fam x y k ∧ (mem fam[k] x ↔ mem fam[k] y) :=
  ⟨fun h => ⟨fun j hj hjk => h j hj (by omega), h k hk (by omega)⟩, fun h j hj hjk => by
    by_cases e : j = k
    · subst e; exact h.2
    · exact h.1 j hj (by omega)⟩
def togTo (L : List (List Span)) (x y : Int) (k : Nat) : Prop := ∃ (j : Nat) (hj : j < L.length), j < k ∧ mem L[j] x ∧ mem L[j] y
def T1Rel (fam : List (List Span)) (x y : Int) (w2 : World) (a i : Value) (wr : World) : Prop := ∃ (k : Nat) (b : Bool), k ≤ fam.length ∧ i = .int .i64 k ∧ a = .bool b ∧ (b = true ↔ alikeTo fam x y k) ∧ Below w2.heap.size w2 wr
def T2Rel (L : List (List Span)) (x y : Int) (w2 : World) (n t g i : Value) (wr : World) : Prop := ∃ (k : Nat) (b : Bool), k ≤ L.length ∧ i = .int .i64 k ∧ n = .int .i64 (cN L x k) ∧ t = .int .i64 (cN L y k) ∧ g = .bool b ∧ (b = true ↔ togTo L x y k) ∧ Below w2.heap.size w2 wr
theorem beq_mem {l : List Span} {x y : Int} : (memB l x == memB l y) = true ↔ (mem l x ↔ mem l y) := by
  rw [← memB_iff (x := x), ← memB_iff (x := y)]
  cases memB l x <;> cases memB l y <;> simp
set_option maxHeartbeats 8000000 in
theorem walk_MintermTells (As : Option Addr) (cs : Nat) (all : List Span) (A : Option Addr) (c : Nat) (fam : List (List Span)) (x y : Int) (w : World) (hall : RS w w.heap.size As all.length all) (_hal : all.length ≤ maxLen) (_hac : all.length ≤ cs) (h : RGs w A fam.length fam) (hl : fam.length ≤ maxLen) (hs : ∀ l ∈ fam, l.length ≤ maxLen) :
    Calls Try.prog 9 #[.slice As all.length cs, .slice A fam.length c, .int .i64 x, .int .i64 y] w (RetB true w) := by
  by_cases ha : 30 < all.length
  · have hd : decide ((30 : Int) < (all.length : Int)) = true := decide_eq_true (by omega)
    clear h hall
    go_enter Try.func9, Try.ntmps9
    go_wp2_with (fail)
    refine (awake_any _).mono ?_
    rintro e w2 ⟨rfl, hb2⟩
    go_wp2_with (fail)
    go_ret
    exact ⟨rfl, hb2⟩
  have hd : decide ((30 : Int) < (all.length : Int)) = false := decide_eq_false (by omega)
  by_cases hg : 30 < fam.length ∨ ∃ l ∈ fam, 30 < l.length
  · have HG := Lib.hid (mgreat_any A c fam true w h hl hs ⟨fun _ => hg, fun _ => rfl⟩)
    clear h hl hs hg hall
    go_enter Try.func9, Try.ntmps9
    go_wp2_with (fail)
    refine HG.out.mono ?_
    rintro e w1 ⟨rfl, hb1⟩
    go_wp2_with (fail)
    refine (awake_any _).mono ?_
    rintro e w2 ⟨rfl, hb2⟩
    go_wp2_with (fail)
    go_ret
    exact ⟨rfl, below_nextM hb1 hb2⟩
  have HG := Lib.hid (mgreat_any A c fam false w h hl hs ⟨fun q => (by cases q), fun q => absurd q hg⟩)
  have hl2 : fam.length ≤ 30 := by omega
  have hs2 : ∀ l ∈ fam, l.length ≤ 30 := fun l hm => by
    rcases Nat.lt_or_ge 30 l.length with q | q
    · exact absurd (.inr ⟨l, hm, q⟩) hg
    · exact q
  have HS := Lib.hid hs2
  have H := Lib.hid h
  have HA := Lib.hid hall
  clear h hs hg hs2 hl hall
  go_enter Try.func9, Try.ntmps9
  go_wp2_with (fail)
  refine HG.out.mono ?_
  rintro e w1 ⟨rfl, hb1⟩
  have HSP := Lib.hid (split_any As cs all A c fam w1 (HA.out.belowM hb1) (by omega) (H.out.belowM hb1) (by omega) (fun l hm => by have := HS.out l hm; omega))
  have HB1 := Lib.hid hb1
  clear hb1
  go_wp2_with (fail)
  refine HSP.out.mono ?_
  rintro e w2 ⟨v, L, hL, hor, hb2⟩
  have HB2 := Lib.hid (below_nextM HB1.out hb2)
  have HF2 := Lib.hid (H.out.belowM HB2.out)
  have HA2 := Lib.hid (HA.out.belowM HB2.out)
  have HL := Lib.hid hL
  clear hL hb2
  rcases hor with ⟨rfl, hL1024, hoG⟩ | ⟨rfl, hbig⟩
  · obtain ⟨AL, cL, rfl, hrg, hlc⟩ := hoG.reads
    have HRG := Lib.hid hrg
    have HLS := Lib.hid (show ∀ l ∈ L, l.length ≤ 1073741825 from fun l hl => (HL.out.plain l hl).1.short)
    clear hoG hrg
    go_wp2_with (fail)
    go_loopw [13, 14] (fun a i wr => T1Rel fam x y w2 a i wr) (fun _ i _ => fam.length - (intOf i).toNat)
    case atStart => exact ⟨0, true, Nat.zero_le _, rfl, rfl, ⟨fun _ j _ hj => absurd hj (by omega), fun _ => rfl⟩, Below.refl _ _⟩
    case round =>
      obtain ⟨k, bb, hk, rfl, rfl, hb, hbw⟩ := hrel
      have HBB := Lib.hid hb
      clear hb
      by_cases hlt : k < fam.length
      · obtain ⟨b, off, Aj, cj, hA, hbB, hcj, hrj, hlcj, _⟩ := (HF2.out.belowM hbw).at_ hlt
        have hlj := HS.out _ (List.getElem_mem hlt)
        have HX := Lib.hid (fun W (hW : Below wr.heap.size wr W) => has_any Aj fam[k].length cj fam[k] x W (hrj.belowM hW) (by omega))
        have HY := Lib.hid (fun W (hW : Below wr.heap.size wr W) => has_any Aj fam[k].length cj fam[k] y W (hrj.belowM hW) (by omega))
        have HAS := Lib.hid (alikeTo_succ (x := x) (y := y) hlt)
        have HEQ := Lib.hid (beq_mem (l := fam[k]) (x := x) (y := y))
        obtain ⟨bx, hbx⟩ : ∃ bx, memB fam[k] x = bx := ⟨_, rfl⟩
        obtain ⟨by_, hby⟩ : ∃ by_, memB fam[k] y = by_ := ⟨_, rfl⟩
        rw [hbx] at HX HEQ
        rw [hby] at HY HEQ
        obtain ⟨nk, hnk⟩ : ∃ nk, fam[k].length = nk := ⟨_, rfl⟩
        rw [hnk] at hcj HX HY hlj
        rw [hA]
        have HBW := Lib.hid hbw
        clear hA hrj hlcj hbx hby hnk hbw
        have i1 : (0 : Int) ≤ (k : Int) := Int.natCast_nonneg _
        have i2 : (k : Int) < (fam.length : Int) := by omega
        cases bb with
        | false =>
          go_wp2_with (fail)
          go_quiet (fail)
          go_wp2_with (fail)
          go_roundw
          case rel => exact ⟨k + 1, false, by omega, by go_num, rfl, ⟨fun q => (by cases q), fun q => HBB.out.2 (HAS.out.1 q).1⟩, below_drewN HBW.out _⟩
          case measure => simp [intOf]; omega
        | true =>
          go_wp2_with (fail)
          go_region_held3 (fun w' => w'.cell? ⟨b, off + k, none⟩ = some (.slice Aj nk cj))
            (first
              | go_keep
              | exact (hb4.cell (p := ⟨b, off + k, none⟩) (Nat.lt_of_lt_of_le (show b < wr.drew.heap.size from hbB) hb3.size)).trans (by assumption)
              | (rw [hb3.cell (by simp; omega)]; assumption))
            (first
              | (go_at_call 22; (with_reducible refine (HX.out _ ((Below.refl _ _).drew)).mono ?_); rintro e w3 ⟨rfl, hb3⟩)
              | (go_at_call 22; (with_reducible refine (HY.out _ (below_nextM ((Below.refl _ _).drew) hb3)).mono ?_); rintro e w4 ⟨rfl, hb4⟩))
          have HB4 := Lib.hid (below_nextM HBW.out (below_nextM (below_nextM ((Below.refl _ _).drew) hb3) hb4))
          clear hb3 hb4 hcj
          go_wp2_with (fail)
          go_roundw
          case rel => exact ⟨k + 1, _, by omega, by go_num, rfl, HEQ.out.trans ⟨fun q => HAS.out.2 ⟨HBB.out.1 trivial, q⟩, fun q => (HAS.out.1 q).2⟩, HB4.out⟩
          case measure => simp [intOf]; omega
      · have hkl : k = fam.length := by omega
        subst hkl
        have HBW := Lib.hid hbw
        have HAL := Lib.hid (show bb = true ↔ ∀ s ∈ fam, mem s x ↔ mem s y from HBB.out.trans ⟨fun q s hs => by
          obtain ⟨j, hj, rfl⟩ := List.getElem_of_mem hs
          exact q j hj hj, fun q j hj _ => q _ (List.getElem_mem hj)⟩)
        clear HBB hbw
        go_wp2_with (fail)
        go_loopw [11, 12, 15, 16] (fun n t g i wr => T2Rel L x y w2 n t g i wr) (fun _ _ _ i _ => L.length - (intOf i).toNat)
        case atStart => exact ⟨0, false, Nat.zero_le _, rfl, by simp [cN], by simp [cN], rfl, ⟨fun q => (by cases q), fun ⟨j, _, hj, _⟩ => absurd hj (by omega)⟩, HBW.out⟩
        case round =>
          obtain ⟨k, tb, hk, rfl, rfl, rfl, rfl, htb, hbw⟩ := hrel
          have HTB := Lib.hid htb
          clear htb
          by_cases hlt : k < L.length
          · obtain ⟨b, off, Aj, cj, hA, hbB, hcj, hrj, hlcj, _⟩ := (HRG.out.belowM hbw).at_ hlt
            have hlj := HLS.out _ (List.getElem_mem hlt)
            have HX := Lib.hid (fun W (hW : Below wr.heap.size wr W) => has_any Aj L[k].length cj L[k] x W (hrj.belowM hW) (by omega))
            have HY := Lib.hid (fun W (hW : Below wr.heap.size wr W) => has_any Aj L[k].length cj L[k] y W (hrj.belowM hW) (by omega))
            have HNX := Lib.hid (cN_succ (x := x) hlt)
            have HNY := Lib.hid (cN_succ (x := y) hlt)
            have hcx := cN_le L x k hk
            have hcy := cN_le L y k hk
            have HTG := Lib.hid (show togTo L x y (k + 1) ↔ togTo L x y k ∨ (mem L[k] x ∧ mem L[k] y) from ⟨fun ⟨j, hj, hjk, h1, h2⟩ => by
              by_cases e : j = k
              · subst e; exact .inr ⟨h1, h2⟩
              · exact .inl ⟨j, hj, by omega, h1, h2⟩, fun q => by
              rcases q with ⟨j, hj, hjk, h1, h2⟩ | ⟨h1, h2⟩
              · exact ⟨j, hj, by omega, h1, h2⟩
              · exact ⟨k, hlt, by omega, h1, h2⟩⟩)
            have HNT := Lib.hid (show mem L[k] x → ¬ togTo L x y k from fun hm ⟨j, hj, hjk, h1, _⟩ => by have := HL.out.one hj hlt h1 hm; omega)
            have hcA : ∀ W, Below wr.heap.size wr W → W.cell? ⟨b, off + k, none⟩ = some (.slice Aj L[k].length cj) := fun W hW => (hW.cell (p := ⟨b, off + k, none⟩) hbB).trans hcj
            obtain ⟨nk, hnk⟩ : ∃ nk, L[k].length = nk := ⟨_, rfl⟩
            rw [hnk] at hcj HX HY hlj hcA
            obtain ⟨nx, hnx⟩ : ∃ nx, cN L x k = nx := ⟨_, rfl⟩
            obtain ⟨ny, hny⟩ : ∃ ny, cN L y k = ny := ⟨_, rfl⟩
            rw [hnx] at HNX hcx ⊢
            rw [hny] at HNY hcy ⊢
            have sx : IntKind.i64.wrap ((nx : Int) + 1) = (nx : Int) + 1 := IntWalk.i64_in _ (by omega)
            have sy : IntKind.i64.wrap ((ny : Int) + 1) = (ny : Int) + 1 := IntWalk.i64_in _ (by omega)
            have HBW := Lib.hid hbw
            have HCA := Lib.hid hcA
            rw [hA]
            clear hA hrj hlcj hbw hnx hny hcA
            by_cases hmx : mem L[k] x
            · rw [memB_t hmx] at HX HNX
              have HNT2 := Lib.hid (HNT.out hmx)
              by_cases hmy : mem L[k] y
              · rw [memB_t hmy] at HY HNY
                have HR := Lib.hid (show true = true ↔ togTo L x y (k + 1) from ⟨fun _ => HTG.out.2 (.inr ⟨hmx, hmy⟩), fun _ => rfl⟩)
                simp only [if_true] at HNX HNY
                clear hmx hmy
                go_wp2_with (fail)
                refine (HX.out _ (Below.refl _ _)).mono ?_
                rintro e w3 ⟨rfl, hb3⟩
                have q3 := HCA.out w3 hb3
                go_wp2_with (fail)
                refine (HY.out _ hb3).mono ?_
                rintro e w4 ⟨rfl, hb4⟩
                have hb34 := below_nextM hb3 hb4
                have q4 := HCA.out w4 hb34
                go_wp2_with (fail)
                refine (HY.out _ hb34).mono ?_
                rintro e w5 ⟨rfl, hb5⟩
                have HB5 := Lib.hid (below_nextM HBW.out (below_nextM hb34 hb5))
                clear hb3 hb4 hb34 hb5 q3 q4
                go_wp2_with (fail)
                go_roundw
                case rel => exact ⟨k + 1, true, by omega, by go_num, by rw [HNX.out]; rfl, by rw [HNY.out]; rfl, rfl, ⟨fun _ => HR.out.1 trivial, fun _ => rfl⟩, HB5.out⟩
                case measure => simp [intOf]; omega
              · rw [memB_f hmy] at HY HNY
                have HR := Lib.hid (show false = true ↔ togTo L x y (k + 1) from ⟨fun q => (by cases q), fun q => by
                  rcases HTG.out.1 q with q | q
                  · exact absurd q HNT2.out
                  · exact absurd q.2 hmy⟩)
                simp only [if_true, Bool.false_eq_true, if_false, Nat.add_zero] at HNX HNY
                clear hmx hmy
                go_wp2_with (fail)
                refine (HX.out _ (Below.refl _ _)).mono ?_
                rintro e w3 ⟨rfl, hb3⟩
                have q3 := HCA.out w3 hb3
                go_wp2_with (fail)
                refine (HY.out _ hb3).mono ?_
                rintro e w4 ⟨rfl, hb4⟩
                have hb34 := below_nextM hb3 hb4
                have q4 := HCA.out w4 hb34
                go_wp2_with (fail)
                refine (HY.out _ hb34).mono ?_
                rintro e w5 ⟨rfl, hb5⟩
                have HB5 := Lib.hid (below_nextM HBW.out (below_nextM hb34 hb5))
                clear hb3 hb4 hb34 hb5 q3 q4
                go_wp2_with (fail)
                go_roundw
                case rel => exact ⟨k + 1, false, by omega, by go_num, by rw [HNX.out]; rfl, by rw [HNY.out], rfl, HR.out, HB5.out⟩
                case measure => simp [intOf]; omega
            · rw [memB_f hmx] at HX HNX
              have HR := Lib.hid (show tb = true ↔ togTo L x y (k + 1) from HTB.out.trans ⟨fun q => HTG.out.2 (.inl q), fun q => by
                rcases HTG.out.1 q with q | q
                · exact q
                · exact absurd q.1 hmx⟩)
              by_cases hmy : mem L[k] y
              · rw [memB_t hmy] at HY HNY
                simp only [if_true, Bool.false_eq_true, if_false, Nat.add_zero] at HNX HNY
                clear hmx hmy
                go_wp2_with (fail)
                refine (HX.out _ (Below.refl _ _)).mono ?_
                rintro e w3 ⟨rfl, hb3⟩
                have q3 := HCA.out w3 hb3
                go_wp2_with (fail)
                refine (HY.out _ hb3).mono ?_
                rintro e w4 ⟨rfl, hb4⟩
                have HB5 := Lib.hid (below_nextM HBW.out (below_nextM hb3 hb4))
                clear hb3 hb4 q3
                go_wp2_with (fail)
                go_roundw
                case rel => exact ⟨k + 1, tb, by omega, by go_num, by rw [HNX.out], by rw [HNY.out]; rfl, rfl, HR.out, HB5.out⟩
                case measure => simp [intOf]; omega
              · rw [memB_f hmy] at HY HNY
                simp only [Bool.false_eq_true, if_false, Nat.add_zero] at HNX HNY
                clear hmx hmy
                go_wp2_with (fail)
                refine (HX.out _ (Below.refl _ _)).mono ?_
                rintro e w3 ⟨rfl, hb3⟩
                have q3 := HCA.out w3 hb3
                go_wp2_with (fail)
                refine (HY.out _ hb3).mono ?_
                rintro e w4 ⟨rfl, hb4⟩
                have HB5 := Lib.hid (below_nextM HBW.out (below_nextM hb3 hb4))
                clear hb3 hb4 q3
                go_wp2_with (fail)
                go_roundw
                case rel => exact ⟨k + 1, tb, by omega, by go_num, by rw [HNX.out], by rw [HNY.out], rfl, HR.out, HB5.out⟩
                case measure => simp [intOf]; omega
          · have hkl : k = L.length := by omega
            subst hkl
            obtain ⟨hx1, hx0⟩ := HL.out.count x
            obtain ⟨hy1, hy0⟩ := HL.out.count y
            have HTF := Lib.hid (show mem all x → mem all y → (tb = bb) from fun h1 h2 => by
              obtain ⟨lx, hlx, hmx⟩ := (HL.out.cover x).1 h1
              obtain ⟨ly, hly, hmy⟩ := (HL.out.cover y).1 h2
              have e := HL.out.alike lx hlx ly hly x y hmx hmy
              obtain ⟨i, hi, rfl⟩ := List.getElem_of_mem hlx
              obtain ⟨j, hj, rfl⟩ := List.getElem_of_mem hly
              have h3 : togTo L x y L.length ↔ L[i] = L[j] := ⟨fun ⟨n, hn, _, a, b⟩ => by
                obtain rfl := HL.out.one hn hi a hmx
                obtain rfl := HL.out.one hn hj b hmy
                rfl, fun q => ⟨i, hi, hi, hmx, by rw [q]; exact hmy⟩⟩
              have h4 : tb = true ↔ bb = true := HTB.out.trans (h3.trans (e.trans HAL.out.symm))
              cases tb <;> cases bb <;> simp_all)
            have HAX := Lib.hid (fun W (hW : Below w2.heap.size w2 W) => has_any As all.length cs all x W (HA2.out.belowM hW) (by omega))
            have HBW2 := Lib.hid hbw
            clear hbw HTB HAL
            by_cases hmx : mem all x
            · rw [memB_t hmx] at HAX
              rw [hx1 hmx]
              by_cases hmy : mem all y
              · rw [hy1 hmy]
                obtain rfl := HTF.out hmx hmy
                have hbb : (tb == tb) = true := by cases tb <;> rfl
                clear hx1 hx0 hy1 hy0 hmx hmy
                go_wp2_with (fail)
                refine (HAX.out _ HBW2.out).mono ?_
                rintro e w3 ⟨rfl, hb3⟩
                go_wp2_with (fail)
                refine (awake_any _).mono ?_
                rintro e w4 ⟨rfl, hb4⟩
                go_wp2_with (fail)
                go_ret
                exact ⟨rfl, below_nextM HB2.out (below_nextM HBW2.out (below_nextM hb3 hb4))⟩
              · rw [hy0 hmy]
                clear hx1 hx0 hy1 hy0 hmx hmy
                go_wp2_with (fail)
                refine (HAX.out _ HBW2.out).mono ?_
                rintro e w3 ⟨rfl, hb3⟩
                go_wp2_with (fail)
                refine (awake_any _).mono ?_
                rintro e w4 ⟨rfl, hb4⟩
                go_wp2_with (fail)
                go_ret
                exact ⟨rfl, below_nextM HB2.out (below_nextM HBW2.out (below_nextM hb3 hb4))⟩
            · rw [memB_f hmx] at HAX
              rw [hx0 hmx]
              have hyle : cN L y L.length = 0 ∨ cN L y L.length = 1 := by
                by_cases hmy : mem all y
                · exact .inr (hy1 hmy)
                · exact .inl (hy0 hmy)
              clear hx1 hx0 hy1 hy0 hmx
              rcases hyle with e | e
              · rw [e]
                go_wp2_with (fail)
                refine (HAX.out _ HBW2.out).mono ?_
                rintro e w3 ⟨rfl, hb3⟩
                go_wp2_with (fail)
                refine (awake_any _).mono ?_
                rintro e w4 ⟨rfl, hb4⟩
                go_wp2_with (fail)
                go_ret
                exact ⟨rfl, below_nextM HB2.out (below_nextM HBW2.out (below_nextM hb3 hb4))⟩
              · rw [e]
                go_wp2_with (fail)
                refine (HAX.out _ HBW2.out).mono ?_
                rintro e w3 ⟨rfl, hb3⟩
                go_wp2_with (fail)
                refine (awake_any _).mono ?_
                rintro e w4 ⟨rfl, hb4⟩
                go_wp2_with (fail)
                go_ret
                exact ⟨rfl, below_nextM HB2.out (below_nextM HBW2.out (below_nextM hb3 hb4))⟩
  · go_wp2_with (fail)
    refine (awake_any _).mono ?_
    rintro e w3 ⟨rfl, hb3⟩
    go_wp2_with (fail)
    go_ret
    exact ⟨rfl, below_nextM HB2.out hb3⟩
end Go.Proofs.Ytplpafoflibnlaa.Mi
