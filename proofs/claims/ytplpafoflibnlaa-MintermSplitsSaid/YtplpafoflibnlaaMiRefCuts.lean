/- The walk of the reference's Split: its borders, then its cells. -/
import Derived.Test.YtplpafoflibnlaaMiRefMath
import Derived.Test.YtplpafoflibnlaaMiRefPair
import Derived.Test.YtplpafoflibnlaaSpHelp
import Derived.Test.YtplpafoflibnlaaMiRefPut
import Derived.Deep.RegionLaw
namespace Go.Proofs.Ytplpafoflibnlaa.Mi
set_option maxRecDepth 100000
open Go Go.RowKit Go.Proofs.Ytplpafoflibnlaa.Sp

def cut2 (q : List Span) : List Span := q.flatMap fun p => [(p.1, p.1), (p.2 + 1, p.2 + 1)]
theorem cut2_next {q : List Span} {k : Nat} {lo hi : Int} (hk : ∃ hl : k < q.length, q[k] = (lo, hi)) : cut2 (q.take (k + 1)) = cut2 (q.take k) ++ [(lo, lo), (hi + 1, hi + 1)] := by
  obtain ⟨hl, e⟩ := hk
  unfold cut2
  rw [List.take_succ_eq_append_getElem hl, List.flatMap_append, e]
  rfl
theorem cut2_len (q : List Span) : (cut2 q).length = 2 * q.length := by
  unfold cut2
  induction q with
  | nil => rfl
  | cons p q ih => rw [List.flatMap_cons, List.length_append, ih]; simp only [List.length_cons, List.length_nil]; omega
noncomputable def cutsTo (fam : List (List Span)) : List Span := fam.flatMap fun s => cut2 (plainOf s)
theorem cutsTo_succ {fam : List (List Span)} {i : Nat} (hi : i < fam.length) : cutsTo (fam.take (i + 1)) = cutsTo (fam.take i) ++ cut2 (plainOf fam[i]) := by
  unfold cutsTo
  rw [List.take_succ_eq_append_getElem hi, List.flatMap_append]
  simp
theorem cutsTo_len (fam : List (List Span)) (h : ∀ s ∈ fam, s.length ≤ 1000) : (cutsTo fam).length ≤ fam.length * 2000 := by
  unfold cutsTo
  induction fam with
  | nil => simp
  | cons s fam ih =>
    have h1 := spans_few (plainOf s) s (plainOf_is s).1 (fun x hx => ((plainOf_is s).2 x |>.1 hx).2) (fun p hp x y z a1 a2 a3 a4 hx hz => ((plainOf_is s).2 y).2 ⟨by have := hx.1; have := hz.1; unfold Rng at *; omega, p, hp, by omega, by omega⟩)
    have h2 := h s (List.mem_cons_self ..)
    have h3 := ih fun t ht => h t (List.mem_cons_of_mem _ ht)
    rw [List.flatMap_cons, List.length_append, cut2_len]
    simp only [List.length_cons]
    omega
theorem cutsTo_mem (fam : List (List Span)) (c : Int) : mem (cutsTo fam) c ↔ CutS fam c := by
  unfold mem CutS cutsTo cut2
  simp only [List.mem_flatMap, List.mem_cons, List.not_mem_nil, or_false]
  constructor
  · rintro ⟨hr, p, ⟨s, hs, q, hq, rfl | rfl⟩, h1, h2⟩
    · exact ⟨hr, s, hs, q, hq, .inl (by simp only at h1 h2; omega)⟩
    · exact ⟨hr, s, hs, q, hq, .inr (by simp only at h1 h2; omega)⟩
  · rintro ⟨hr, s, hs, q, hq, rfl | rfl⟩
    · exact ⟨hr, _, ⟨s, hs, q, hq, .inl rfl⟩, Int.le_refl _, Int.le_refl _⟩
    · exact ⟨hr, _, ⟨s, hs, q, hq, .inr rfl⟩, Int.le_refl _, Int.le_refl _⟩
def C1Rel (fam : List (List Span)) (w1 : World) (v i : Value) (wr : World) : Prop := ∃ k : Nat, k ≤ fam.length ∧ i = .int .i64 k ∧ OwnsL wr w1.heap.size v (cutsTo (fam.take k)) ∧ Below w1.heap.size w1 wr
def C2Rel (pre q : List Span) (A2 : Option Addr) (w1 : World) (v i : Value) (wr : World) : Prop := ∃ k : Nat, k ≤ q.length ∧ i = .int .i64 k ∧ OwnsL wr w1.heap.size v (pre ++ cut2 (q.take k)) ∧ Below w1.heap.size w1 wr ∧ RS wr wr.heap.size A2 q.length q ∧ (∀ b off, A2 = some ⟨b, off, none⟩ → some b ≠ v.ownBlock)
theorem ownL_below {w w' : World} {base : Nat} {v : Value} {l : List Span} (h : OwnsL w base v l) (hb : Below w.heap.size w w') : OwnsL w' base v l := by
  have hlt := World.ownsRow.lt h
  obtain ⟨h1, h2⟩ := h
  refine ⟨h1, ?_⟩
  rcases h2 with h2 | ⟨g, cap, cur, hv, hg, hr, hrest⟩
  · exact .inl h2
  · subst hv
    exact .inr ⟨g, cap, cur, rfl, hg, (hb.block g (hlt g rfl).2).trans hr, hrest⟩
theorem own_two4 {w : World} {base : Nat} {v : Value} {l : List Span} {n : Nat} {a b c d : Int} (hn : l.length = n) (h : w.ownsRow base 60 2 v (n + 2) (flat l ++ [.int .i64 a, .int .i64 b, .int .i64 c, .int .i64 d])) : OwnsL w base v (l ++ [(a, b), (c, d)]) := by
  subst hn
  unfold OwnsL
  rw [flat_append, List.length_append]
  exact h
theorem rise_few (L : List (List Span)) : ∀ lo : Int, (L.Pairwise fun a b => headLo a < headLo b) → (∀ l ∈ L, lo ≤ headLo l ∧ headLo l ≤ 1073741824) → lo ≤ 1073741825 → (L.length : Int) ≤ 1073741825 - lo := by
  induction L with
  | nil => intro lo _ _ h; simp only [List.length_nil]; omega
  | cons l L ih =>
    intro lo hp hm _
    obtain ⟨h1, h2⟩ := List.pairwise_cons.1 hp
    have hl := hm l (List.mem_cons_self ..)
    have := ih (headLo l + 1) h2 (fun r hr => ⟨by have := h1 r hr; omega, (hm r (List.mem_cons_of_mem _ hr)).2⟩) (by omega)
    simp only [List.length_cons]
    omega
theorem RefInv.few {fam : List (List Span)} {P : Int → Prop} {keys : List (List UInt8)} {outs : List (List Span)} (h : RefInv fam P keys outs) : outs.length ≤ 2147483649 ∧ keys.length ≤ 2147483649 := by
  have h1 := rise_few outs (-1073741824) h.order (fun l hl => by
    obtain ⟨k, hk, rfl⟩ := List.getElem_of_mem hl
    have hi := h.is_ k hk (by rw [h.len]; exact hk)
    have := (mem_head hi.1 (h.ne _ hl)).1
    unfold Rng at this
    exact this) (by omega)
  have := h.len
  omega
/-- What the loop over the set's spans keeps. -/
def S1Rel (fam : List (List Span)) (q0 : List Span) (w3 : World) (vo vs i : Value) (wr : World) : Prop :=
  ∃ (k : Nat) (keys : List (List UInt8)) (outs : List (List Span)), k ≤ q0.length ∧ i = .int .i64 k ∧ RefInv fam (mem (q0.take k)) keys outs ∧ OwnsK wr w3.heap.size vs keys ∧ OwnsA wr w3.heap.size vo outs vs ∧ Below w3.heap.size w3 wr
/-- What the loop over a span's cells keeps. -/
def S2Rel (fam : List (List Span)) (pre : List Span) (lo hi : Int) (w3 : World) (vo vs f : Value) (wr : World) : Prop :=
  ∃ (a : Int) (keys : List (List UInt8)) (outs : List (List Span)), lo ≤ a ∧ a ≤ hi + 1 ∧ f = .int .i64 a ∧ RefInv fam (fun x => mem pre x ∨ (lo ≤ x ∧ x < a)) keys outs ∧ OwnsK wr w3.heap.size vs keys ∧ OwnsA wr w3.heap.size vo outs vs ∧ Below w3.heap.size w3 wr
def LkRel (keys : List (List UInt8)) (s : List UInt8) (w4 : World) (i : Value) (wr : World) : Prop := ∃ j : Nat, j ≤ keys.length ∧ i = .int .i64 j ∧ (∀ (m : Nat) (h : m < keys.length), m < j → keys[m] ≠ s) ∧ w4 = wr
theorem bytes_eq {a b : ByteArray} : a = b ↔ a.data.toList = b.data.toList := by
  refine ⟨fun h => by rw [h], fun h => ?_⟩
  cases a with | mk x => cases b with | mk y =>
  simp only at h
  rw [Array.toList_inj.1 h]
theorem infoStr : (Try.prog.info? 9).map (fun i => (i.zero, i.size, i.bytes)) = some (some (.string ⟨#[]⟩), 1, 16) := by kernel_rfl
theorem infoRw : (Try.prog.info? 25).map (fun i => (i.zero, i.size, i.bytes)) = some (some (.slice none 0 0), 1, 24) := by kernel_rfl
def RSplitOut (all : List Span) (fam : List (List Span)) (w : World) (e : Ending) (w' : World) : Prop := ∃ A c L, e = .returned (.slice A L.length c) ∧ IsBlocks all fam L ∧ RGs w' A L.length L ∧ Below w.heap.size w w'
set_option maxHeartbeats 8000000 in
theorem rsplit_any (As : Option Addr) (cs : Nat) (all : List Span) (A : Option Addr) (c : Nat) (fam : List (List Span)) (w : World) (hall : RS w w.heap.size As all.length all) (hal : all.length ≤ 1000) (h : RGs w A fam.length fam) (hl : fam.length ≤ 1000) (hs : ∀ l ∈ fam, l.length ≤ 1000) :
    Calls Try.prog 26 #[.slice As all.length cs, .slice A fam.length c] w (RSplitOut all fam w) := by
  obtain ⟨i0, hi0, hz0, hz1, hz2⟩ := info_parts infoSpan
  obtain ⟨i1, hi1, hy0, hy1, hy2⟩ := info_parts infoStr
  obtain ⟨i2, hi2, hx0, hx1, hx2⟩ := info_parts infoRw
  have HN := Lib.hid (rnorm_any As all.length cs all w hall (by omega))
  have H := Lib.hid h
  have HS := Lib.hid hs
  clear hall h hs
  go_enter Try.func26, Try.ntmps26
  go_wp2_with (fail)
  refine HN.out.mono ?_
  rintro e w1 ⟨vL, p0, rfl, his0, ho0, hb0⟩
  obtain rfl : plainOf all = p0 := (plainOf_is all).eq his0 fun _ => Iff.rfl
  obtain ⟨AL, cL, hvL, hcL, hrL⟩ := own_RS ho0
  subst hvL
  have HRL := Lib.hid hrL
  have HB0 := Lib.hid hb0
  have HF1 := Lib.hid (H.out.belowM hb0)
  clear his0 ho0 hrL hb0
  go_wp2_with (fail)
  go_loopw [6, 7] (fun v i wr => C1Rel fam w1 v i wr) (fun _ i _ => fam.length - (intOf i).toNat)
  case atStart => exact ⟨0, Nat.zero_le _, rfl, World.ownsRow_nil _ _ _ _, Below.refl _ _⟩
  case round =>
    obtain ⟨k, hk, rfl, ho, hb⟩ := hrel
    have HO := Lib.hid ho
    have HB := Lib.hid hb
    by_cases hlt : k < fam.length
    · obtain ⟨b, off, Aj, cj, hA, hbB, hcj, hrj, hlj, _⟩ := (HF1.out.belowM hb).at_ hlt
      subst hA
      have hsl := HS.out _ (List.getElem_mem hlt)
      have HNJ := Lib.hid (rnorm_any Aj fam[k].length cj fam[k] wr hrj (by omega))
      obtain ⟨nk, hnk⟩ : ∃ nk, fam[k].length = nk := ⟨_, rfl⟩
      rw [hnk] at hcj HNJ
      clear hrj hlj hnk
      have hvlt : ∀ q, u6.ownBlock = some q → q < wr.heap.size := fun q e => (World.ownsRow.lt ho q e).2
      clear ho hb
      go_wp2_with (fail)
      refine HNJ.out.mono ?_
      rintro e w2 ⟨v2, q, rfl, his2, ho2, hb2⟩
      obtain rfl : plainOf fam[k] = q := (plainOf_is fam[k]).eq his2 fun _ => Iff.rfl
      obtain ⟨A2, c2, rfl, hr2, hge2⟩ := own_RSg ho2
      have HPQ := Lib.hid his2.1
      have hqs := his2.1.short
      have HST := Lib.hid (show C2Rel (cutsTo (fam.take k)) (plainOf fam[k]) A2 w1 u6 (.int .i64 0) w2 from ⟨0, Nat.zero_le _, rfl, by rw [List.take_zero, show cut2 [] = [] from rfl, List.append_nil]; exact ownL_below HO.out hb2, below_nextM HB.out hb2, hr2, fun b off e q => by have h1 := hvlt b q.symm; have h2 := hge2 b off e; omega⟩)
      have HCN := Lib.hid (cutsTo_succ hlt)
      obtain ⟨Q, hQ⟩ : ∃ Q, plainOf fam[k] = Q := ⟨_, rfl⟩
      have hpre : (cutsTo (fam.take k)).length ≤ 2000000 := by
        have h1 := cutsTo_len (fam.take k) (fun s hs => HS.out s (List.mem_of_mem_take hs))
        have h2 : (fam.take k).length ≤ 1000 := by rw [List.length_take]; omega
        omega
      rw [hQ] at HST HCN hqs HPQ hr2 ⊢
      clear his2 ho2 hb2 hr2 hge2 hvlt hQ
      go_wp2_with (fail)
      go_loopw [6, 9] (fun v i wr => C2Rel (cutsTo (fam.take k)) Q A2 w1 v i wr) (fun _ i _ => Q.length - (intOf i).toNat)
      case atStart => exact HST.out
      case round =>
        obtain ⟨m, hm, rfl, ho3, hb3, hr3, hap3⟩ := hrel
        obtain ⟨A6, c6, hv6⟩ := own_shape ho3
        have hXl : (cutsTo (fam.take k) ++ cut2 (Q.take m)).length ≤ 2000000 + 2147483650 := by
          rw [List.length_append, cut2_len, List.length_take]
          omega
        obtain ⟨X, hX⟩ : ∃ X, cutsTo (fam.take k) ++ cut2 (Q.take m) = X := ⟨_, rfl⟩
        have HX := Lib.hid hX
        rw [hX] at ho3 hv6 hXl
        obtain ⟨n6, hn6⟩ : ∃ n6, X.length = n6 := ⟨_, rfl⟩
        rw [hn6] at hv6 hXl
        subst hv6
        have HO3 := Lib.hid ho3
        have HB3 := Lib.hid hb3
        have HR3 := Lib.hid hr3
        have HAP := Lib.hid hap3
        have HN6 := Lib.hid hn6
        clear ho3 hap3 hX hn6
        by_cases hmt : m < Q.length
        · obtain ⟨b1, off1, lo, hi, hA1, hb1B, hlk, f1, f2⟩ := hr3.at_ hmt
          have hok : lo ≤ hi ∧ -1073741824 ≤ lo ∧ hi ≤ 1073741824 := by
            obtain ⟨hl, e⟩ := hlk
            have := HPQ.out.2 _ (List.getElem_mem hl)
            rw [e] at this
            exact this
          have HNX := Lib.hid (cut2_next hlk)
          have s1 : IntKind.i64.wrap (hi + 1) = hi + 1 := IntWalk.i64_in _ (by omega)
          have j1 : (0 : Int) ≤ (m : Int) := Int.natCast_nonneg _
          have j2 : (m : Int) < (Q.length : Int) := by omega
          have hown0 : wr.ownsRow w1.heap.size 60 2 (.slice A6 n6 c6) n6 (flat X) := by
            have := HO3.out
            unfold OwnsL at this
            rw [HN6.out] at this
            exact this
          have hbs := hb3.size
          subst hA1
          clear hlk hr3 hb3
          go_wp2_with (fail)
          have hag : (Value.slice A6 n6 c6).ownBlock ≠ some b1 := fun e => HAP.out b1 off1 rfl e.symm
          go_region_held3 (fun w' => w'.cell? ⟨b1, off1 + m * 2, none⟩ = some (.int .i64 lo) ∧ w'.cell? ⟨b1, off1 + m * 2 + 1, none⟩ = some (.int .i64 hi))
            (first
              | go_keep
              | (go_split_ands
                 refine ⟨?_, ?_⟩
                 · (rw [hgrow.cell_far _ (by simp; omega) (Ne.symm hag)]; assumption)
                 · (rw [hgrow.cell_far _ (by simp; omega) (Ne.symm hag)]; assumption)))
            ((refine step_append_lies _ (by rfl) _ _ _ (by rfl) w1.heap.size 60 i0 _ 2 16 Try.underlying25 hi0 hz0 hz1 hz2 rfl (by omega) (.slice A6 n6 c6) n6 (flat X) (by rfl) ((World.ownsRow.alloc hown0 _).drew) ⟨wr.heap.size, 0, none⟩ 2 2 [.int .i64 lo, .int .i64 lo, .int .i64 (hi + 1), .int .i64 (hi + 1)] (by rfl) (by rfl) (World.news_of_block (cs := #[.int .i64 lo, .int .i64 lo, .int .i64 (hi + 1), .int .i64 (hi + 1)]) (t := 60) (fr := (0, 0)) (heap_alloc_new wr _)) (by simp [Value.oneCell']) (by omega) (by simp only [maxLen]; omega) (by omega) (by simp; omega) (wr.heap.size + 1) (by simp) ?_; intro gg capg w4 hown1 hgrow hat hltg))
          have hb' : ∀ q, (Value.slice A6 n6 c6).ownBlock = some q → w1.heap.size ≤ q ∧ q < wr.heap.size := fun q e => World.ownsRow.lt hown0 q e
          have HFIN := Lib.hid (fun gg capg w4 (h1 : w4.ownsRow w1.heap.size 60 2 (.slice (some ⟨gg, 0, none⟩) (n6 + 2) capg) (n6 + 2) (flat X ++ [.int .i64 lo, .int .i64 lo, .int .i64 (hi + 1), .int .i64 (hi + 1)])) (h2 : (wr.alloc (.cells #[.int .i64 lo, .int .i64 lo, .int .i64 (hi + 1), .int .i64 (hi + 1)] 60)).drew.grownBy w4 (Value.slice A6 n6 c6).ownBlock) (h3 : (Value.slice A6 n6 c6).ownBlock = some gg ∨ gg = wr.heap.size + 1) =>
            show C2Rel (cutsTo (fam.take k)) Q (some ⟨b1, off1, none⟩) w1 (.slice (some ⟨gg, 0, none⟩) (n6 + 2) capg) (.int .i64 ((m + 1 : Nat) : Int)) w4 from
            ⟨m + 1, by omega, rfl, by rw [HNX.out, ← List.append_assoc, HX.out]; exact own_two4 HN6.out h1, (((HB3.out.alloc hbs _).drew).grown h2 (by simp; omega) (fun q e => (hb' q e).1)),
              rs_grownE (HR3.out.belowM ((Below.refl _ _).alloc (Nat.le_refl _) (.cells #[.int .i64 lo, .int .i64 lo, .int .i64 (hi + 1), .int .i64 (hi + 1)] 60)).drew) h2 (fun b off e => HAP.out b off e), fun b off e q => by
                have hq : b = gg := by simpa [Value.ownBlock] using q
                have e2 : b1 = b := by injection e with e; injection e
                have hlt1 : b1 < wr.heap.size := hb1B
                rcases h3 with h3 | h3
                · exact HAP.out b off e (by rw [h3, hq])
                · omega⟩)
          have HSF := Lib.hid (HFIN.out gg capg w4 hown1 hgrow hat)
          clear hown1 hgrow hat hltg f1 f2
          go_wp2_with (fail)
          go_roundw
          case rel => exact HSF.out
          case measure => simp [intOf]; omega
        · have hmq : m = Q.length := by omega
          subst hmq
          have HFI := Lib.hid (show OwnsL wr w1.heap.size (.slice A6 n6 c6) (cutsTo (fam.take (k + 1))) by
            have := HO3.out
            rw [← HX.out, List.take_length] at this
            rw [HCN.out]
            exact this)
          clear hr3 hb3
          go_wp2_with (fail)
          go_roundw
          case rel => exact ⟨k + 1, by omega, by go_num, HFI.out, HB3.out⟩
          case measure => simp [intOf]; omega
    · have hkl : k = fam.length := by omega
      subst hkl
      rw [List.take_length] at ho
      obtain ⟨A6, c6, hv6, hc6, hr6⟩ := own_RS ho
      have hcl := cutsTo_len fam HS.out
      subst hv6
      have HNC := Lib.hid (rnorm_any A6 (cutsTo fam).length c6 (cutsTo fam) wr hr6 (by omega))
      clear ho hr6 HO
      go_wp2_with (fail)
      refine HNC.out.mono ?_
      rintro e w3 ⟨v3, at_, rfl, his3, ho3, hb3⟩
      have HAT := Lib.hid (show Is at_ (CutS fam) from his3.congr fun x => cutsTo_mem fam x)
      obtain ⟨A3, c3, hv3, hc3, hr3⟩ := own_RS ho3
      subst hv3
      have B13 := below_nextM HB.out hb3
      have HR3 := Lib.hid hr3
      have HL3 := Lib.hid (HRL.out.belowM B13)
      have HF3 := Lib.hid (HF1.out.belowM B13)
      have HB3 := Lib.hid (below_nextM HB0.out B13)
      have HPL := Lib.hid (plainOf_is all)
      have hq0s := (plainOf_is all).1.short
      obtain ⟨q0, hq0⟩ : ∃ q0, plainOf all = q0 := ⟨_, rfl⟩
      rw [hq0] at HL3 HPL hq0s ⊢
      have has := HAT.out.1.short
      have HPA := Lib.hid (show ∀ (k : Nat) (hk : k < q0.length) (lo hi : Int), q0[k] = (lo, hi) → ∀ a, lo ≤ a → ∀ x, (mem (q0.take k) x ∨ (lo ≤ x ∧ x < a)) → x < a from fun k hk lo hi e a ha x hx => by
        rcases hx with ⟨_, p, hp, _, h2⟩ | hx
        · obtain ⟨j, hj, rfl⟩ := List.getElem_of_mem hp
          rw [List.length_take] at hj
          rw [List.getElem_take] at h2
          have := List.pairwise_iff_getElem.1 HPL.out.1.1 j k (by omega) hk (by omega)
          rw [e] at this
          simp only at this
          omega
        · exact hx.2)
      clear his3 ho3 hb3 hr3 B13 hq0 hb HNC
      go_wp2_with (fail)
      go_loopw [11, 12, 13] (fun vo vs i wr => S1Rel fam q0 w3 vo vs i wr) (fun _ _ i _ => q0.length - (intOf i).toNat)
      case atStart => exact ⟨0, [], [], Nat.zero_le _, rfl, (RefInv.start fam).congr (fun x => ⟨False.elim, fun q => absurd q (by rw [List.take_zero]; exact mem_nil x)⟩), ownK_nil _ _, ownA_nil _ _ _, Below.refl _ _⟩
      case round =>
        obtain ⟨k, keys, outs, hk, rfl, hinv, hK, hA, hb⟩ := hrel
        by_cases hlt : k < q0.length
        · obtain ⟨b, off, lo, hi, hA0, hbB, ⟨_, hlk⟩, f1, f2⟩ := (HL3.out.belowM hb).at_ hlt
          subst hA0
          have hok : lo ≤ hi ∧ -1073741824 ≤ lo ∧ hi ≤ 1073741824 := by
            have := HPL.out.1.2 _ (List.getElem_mem hlt)
            rw [hlk] at this
            exact this
          have HST := Lib.hid (show S2Rel fam (q0.take k) lo hi w3 u11 u12 (.int .i64 lo) wr from ⟨lo, keys, outs, Int.le_refl _, by omega, rfl, hinv.congr (fun x => ⟨.inl, fun q => q.resolve_right (by omega)⟩), hK, hA, hb⟩)
          clear hinv hK hA hb
          go_wp2_with (fail)
          go_loopw [11, 12, 14] (fun vo vs f wr => S2Rel fam (q0.take k) lo hi w3 vo vs f wr) (fun _ _ f _ => (hi + 1 - intOf f).toNat)
          case atStart => exact HST.out
          case round =>
            obtain ⟨a, keys, outs, ha1, ha2, rfl, hinv, hK, hA, hb⟩ := hrel
            have g2 : wr.cell? ⟨b, off + k * 2 + 1, none⟩ = some (.int .i64 hi) := by
              obtain ⟨b', off', lo', hi', hA0, _, ⟨_, hlk'⟩, _, g2⟩ := (HL3.out.belowM hb).at_ hlt
              injection hA0 with hA0
              injection hA0 with e1 e2 _
              subst e1 e2
              rw [hlk] at hlk'
              injection hlk' with _ e
              subst e
              exact g2
            have i1' : (0 : Int) ≤ (k : Int) := Int.natCast_nonneg _
            have i2' : (k : Int) < (q0.length : Int) := by omega
            by_cases hah : a ≤ hi
            · have hd1 : decide (a ≤ hi) = true := decide_eq_true hah
              have HNX := Lib.hid (next_any A3 c3 at_ a hi wr (HR3.out.belowM hb) HAT.out.1 hah (by omega) (by omega))
              have HSG := Lib.hid (sign_any A c fam a wr (HF3.out.belowM hb) (by omega) (fun l hl => by have := HS.out l hl; omega))
              have HIV := Lib.hid hinv
              have hPa : ∀ x, (mem (q0.take k) x ∨ (lo ≤ x ∧ x < a)) → x < a := HPA.out k hlt lo hi hlk a ha1
              have hinvlen := hinv.few.2
              have HK := Lib.hid hK
              have HA := Lib.hid hA
              have HBW := Lib.hid hb
              clear hinv hK hA hb
              go_wp2_with (fail)
              refine HNX.out.mono ?_
              rintro e w4 ⟨r, rfl, hnv, rfl⟩
              have HNV := Lib.hid hnv
              clear hnv
              go_wp2_with (fail)
              refine HSG.out.mono ?_
              rintro e w4 ⟨sg, rfl, hsg, rfl⟩
              have HSI := Lib.hid hsg
              clear hsg
              have hkl := hinvlen
              obtain ⟨Ak, ck, hvk⟩ : ∃ Ak ck, u12 = .slice Ak keys.length ck := by
                obtain ⟨_, _, q⟩ := HK.out
                exact own_shape q
              subst hvk
              go_wp2_with (fail)
              go_loopw [17] (fun i wr' => LkRel keys (signL fam a) wr i wr') (fun i _ => keys.length - (intOf i).toNat)
              case atStart => exact ⟨0, Nat.zero_le _, rfl, fun m _ q => absurd q (by omega), rfl⟩
              case round =>
                obtain ⟨j, hj, rfl, hno, rfl⟩ := hrel
                have HNO := Lib.hid hno
                clear hno
                by_cases hjt : j < keys.length
                · obtain ⟨gk, bk, hAk, hgk, hck, hbk⟩ := OwnsK.at_ rfl HK.out hjt
                  subst hAk
                  have HBK := Lib.hid hbk
                  clear hbk
                  by_cases hq : bk = sg
                  · have hq2 : (bk.toList == sg.toList) = true := by rw [hq]; simp
                    have hjk : decide ((j : Int) = (keys.length : Int)) = false := decide_eq_false (by omega)
                    have hkj : keys[j] = signL fam a := by rw [← HBK.out, ← HSI.out, hq]
                    have HCT := Lib.hid (cut_known (a := a) (r := r) HIV.out (fun x hx => hPa x hx) hjt (fun x h1 h2 => by rw [hkj]; exact sign_const HAT.out HNV.out (by omega) (by omega) h1 h2) (Nat.le_trans HIV.out.few.1 (by omega)) HK.out HA.out HBW.out)
                    clear HBK HNO hkj
                    go_upto_if 112 with (fail)
                    go_cut [11, 12, 17] (fun vo vs vk wx => CutR fam (fun x => mem (q0.take k) x ∨ (lo ≤ x ∧ x < a)) a r w3 vo vs vk wx)
                    case first =>
                      go_wp2_with (fail)
                      go_meet
                      case rel => exact HCT.out
                    case rest =>
                      obtain ⟨keys', outs', jj, hj', rfl, hfew', hpl, hnx, hK', hA', hb'⟩ := hcut
                      have hAo := hA'
                      obtain ⟨h0', vs, l1, l2⟩ := hA'
                      have hvl : vs.length = outs'.length := by have := l1.1; omega
                      obtain ⟨g, cap, hu, hgb, hgs⟩ := World.ownsRow.form l1 (by omega)
                      subst hu
                      have hcg := World.ownsRow.cellAt l1 jj (by omega)
                      have hfg := World.ownsRow.frozenAt l1 jj
                      obtain ⟨Aj, cj, q1, q2, q3, q4, q5⟩ := l2 jj hj'
                      rw [q1] at hcg
                      have hpls := hpl.short
                      have HAO := Lib.hid hAo
                      have HKO := Lib.hid hK'
                      have HBO := Lib.hid hb'
                      have HNXO := Lib.hid hnx
                      have HPL := Lib.hid hpl
                      obtain ⟨nj, hnj⟩ : ∃ nj, (outs'[jj]).length = nj := ⟨_, rfl⟩
                      have HNJ := Lib.hid hnj
                      rw [hnj] at hcg hpls q2
                      clear h0' l1 l2 q1 q3 q4 q5 hvl hAo hK' hb' hnx hpl hnj
                      have k1 : (0 : Int) ≤ (jj : Int) := Int.natCast_nonneg _
                      have k2 : (jj : Int) < (outs'.length : Int) := by omega
                      obtain ⟨w4, hw4⟩ : ∃ w4, wc.alloc (.cells #[.int .i64 a, .int .i64 r] 60) = w4 := ⟨_, rfl⟩
                      have b4 : Below wc.heap.size wc w4 := by rw [← hw4]; exact (Below.refl _ _).alloc (Nat.le_refl _) _
                      have hs4 : w4.heap.size = wc.heap.size + 1 := by rw [← hw4]; simp
                      have r4 : RS w4 w4.heap.size (some ⟨wc.heap.size, 0, none⟩) 1 [(a, r)] := by
                        rw [hs4, ← hw4]
                        exact rs_two _ _ _
                      have hcg4 : w4.cell? ⟨g, jj, none⟩ = some (.slice Aj nj cj) := (b4.cell hgs).trans hcg
                      have HMK := Lib.hid (rmake0 Aj (some ⟨wc.heap.size, 0, none⟩) nj 1 cj 1 outs'[jj] [(a, r)] w4 (q2.belowM b4) r4 (by omega) (by omega))
                      have HR4 := Lib.hid (And.intro b4 (And.intro hfg (And.intro hgs q2)))
                      clear b4 r4 q2
                      go_wp2_with (fail)
                      refine HMK.out.mono ?_
                      rintro e w5 ⟨v, o, rfl, his, ho, hb5⟩
                      obtain ⟨Av, cv, hv⟩ := own_shape ho
                      subst hv
                      have hcg5 : w5.cell? ⟨g, jj, none⟩ = some (.slice Aj nj cj) := (hb5.cell (by show g < w4.heap.size; omega)).trans hcg4
                      have hfg5 : w5.frozen? ⟨g, jj, none⟩ = false := (World.frozen?_of_block ((hb5.block g (by omega)).trans (HR4.out.1.block g hgs))).trans HR4.out.2.1
                      have har := HNV.out.1
                      have hrh := HNV.out.2.1
                      have HF := Lib.hid (cut_put (a := a) (r := r) hj' HNXO.out HKO.out HAO.out HBO.out har (by omega) (by omega) HR4.out.1 his ho hb5)
                      have s9 : IntKind.i64.wrap (r + 1) = r + 1 := IntWalk.i64_in _ (by omega)
                      clear his ho hb5 hcg4 hcg hfg
                      go_wp2_with (fail)
                      go_roundw
                      case rel =>
                        obtain ⟨keys2, outs2, hl2, inv, K2, A2, B2⟩ := HF.out
                        exact ⟨r + 1, keys2, outs2, by omega, by omega, rfl, inv.congr (fun x => by constructor <;> (intro q; first | (rcases q with (q | q) | q; exact .inl q; exact .inr (by omega); exact .inr (by omega)) | (rcases q with q | q; exact .inl (.inl q); by_cases h : x < a; exact .inl (.inr (by omega)); exact .inr (by omega)))), K2, A2, B2⟩
                      case measure => simp [intOf]; omega

                  · have hq1 : decide (bk = sg) = false := decide_eq_false hq
                    have hq2 : (bk.toList == sg.toList) = false := by
                      rw [ByteArray.toList_eq, ByteArray.toList_eq]
                      exact beq_eq_false_iff_ne.2 fun q => hq (bytes_eq.2 q)
                    have HN2 := Lib.hid (show ∀ (m : Nat) (h : m < keys.length), m < j + 1 → keys[m] ≠ signL fam a from fun m hm hmj => by
                      by_cases e : m = j
                      · subst e
                        rw [← HBK.out, ← HSI.out]
                        exact fun q => hq (bytes_eq.2 q)
                      · exact HNO.out m hm (by omega))
                    go_wp2_with (fail)
                    go_roundw
                    case rel => exact ⟨j + 1, by omega, by go_num, HN2.out, rfl⟩
                    case measure => simp [intOf]; omega
                · have hje : j = keys.length := by omega
                  subst hje
                  have hnk : signL fam a ∉ keys := fun q => by
                    obtain ⟨m, hm, e⟩ := List.getElem_of_mem q
                    exact HNO.out m hm hm e
                  have hjk : decide ((keys.length : Int) = (keys.length : Int)) = true := by simp
                  clear HNO
                  go_upto_if 112 with (fail)
                  go_cut [11, 12, 17] (fun vo vs vk wx => CutR fam (fun x => mem (q0.take k) x ∨ (lo ≤ x ∧ x < a)) a r w3 vo vs vk wx)
                  case first =>
                    obtain ⟨bs, o0, o1⟩ := HK.out
                    obtain ⟨n, hn⟩ : ∃ n, keys.length = n := ⟨_, rfl⟩
                    have hno : outs.length = n := by rw [← HIV.out.len, hn]
                    have hfw := HIV.out.few
                    have HNN := Lib.hid (And.intro hn hno)
                    rw [hn] at o1 hfw ⊢
                    have hsz : n ≤ 2147483649 := by omega
                    obtain ⟨w5, hw5⟩ : ∃ w5, wr.alloc (.cells #[.string sg] 9) = w5 := ⟨_, rfl⟩
                    have b5 : Below wr.heap.size wr w5 := by rw [← hw5]; exact (Below.refl _ _).alloc (Nat.le_refl _) _
                    have hs5 : w5.heap.size = wr.heap.size + 1 := by rw [← hw5]; simp
                    have hK5 := (show OwnsK wr w3.heap.size (.slice Ak n ck) keys from by have := HK.out; rwa [HNN.out.1] at this).below b5
                    have hA5 := HA.out.below b5
                    rw [HNN.out.1] at hA5
                    obtain ⟨bs, o0, o1⟩ := hK5
                    rw [HNN.out.1] at o1
                    have hcN : ∀ j u, [Value.string sg][j]? = some u → w5.cell? ((⟨wr.heap.size, 0, none⟩ : Addr).add j) = some u := by rw [← hw5]; exact cell_one_new _ _ _
                    have hKb : ∀ b, (Value.slice Ak n ck).ownBlock = some b → w3.heap.size ≤ b ∧ b < wr.heap.size := fun b e => by
                      have := HK.out
                      rw [HNN.out.1] at this
                      exact this.block e
                    have HO5 := Lib.hid (And.intro o0 hA5)
                    have hwz := HBW.out.size
                    clear hA5 b5 o0 hfw hn hno
                    go_wp2_with (at_builtin; go_must (refine wpList_append_own_at _ rfl _ _ 86 rfl w3.heap.size 9 i1 _ 1 16 Try.underlying86 hi1 hy0 hy1 hy2 rfl (by decide) (.slice Ak n ck) n (bs.map Value.string) rfl o1 ⟨wr.heap.size, 0, none⟩ 1 1 [.string sg] rfl rfl hcN ?c2 ?c3 ?c4 ?c5 ?_))
                    case c2 => first | rfl | (intro q hq; simp at hq; subst hq; rfl)
                    case c3 => simp only [maxLen]; omega
                    case c4 => omega
                    case c5 => omega
                    intro v6 w6 hown6 hg6 _ hat6
                    have hat6' : v6.ownBlock = (Value.slice Ak n ck).ownBlock ∨ ∃ g, v6.ownBlock = some g ∧ w5.heap.size ≤ g := by
                      rcases hat6 with e | e
                      · exact .inl e
                      · exact .inr ⟨_, e, by omega⟩
                    have hge6 : ∀ k, (Value.slice Ak n ck).ownBlock = some k → w3.heap.size ≤ k := fun k e => (hKb k e).1
                    have b36 : Below w3.heap.size w3 w6 := (below_nextM HBW.out ((show Below wr.heap.size wr w5 by rw [← hw5]; exact (Below.refl _ _).alloc (Nat.le_refl _) _))).grown hg6 (by omega) hge6
                    have hA6 : OwnsA w6 w3.heap.size u11 outs v6 := HO5.out.2.aside hg6 hat6'
                    have hK6 : OwnsK w6 w3.heap.size v6 (keys ++ [signL fam a]) := by
                      rw [← HSI.out]
                      exact OwnsK.more HNN.out.1 HO5.out.1 hown6
                    have hs6 := hg6.size
                    obtain ⟨w7, hw7⟩ : ∃ w7, w6.alloc (.cells #[.slice none 0 0] 25) = w7 := ⟨_, rfl⟩
                    have b7 : Below w6.heap.size w6 w7 := by rw [← hw7]; exact (Below.refl _ _).alloc (Nat.le_refl _) _
                    have hs7 : w7.heap.size = w6.heap.size + 1 := by rw [← hw7]; simp
                    have hA7 := hA6.below b7
                    have hK7 := hK6.below b7
                    have hAb : ∀ b, u11.ownBlock = some b → w3.heap.size ≤ b ∧ b < w6.heap.size := fun b e => hA6.block e
                    have hKb7 : ∀ b, v6.ownBlock = some b → u11.ownBlock ≠ some b ∧ b < w7.heap.size := fun b e => ⟨hA7.1 b e, (hK7.block e).2⟩
                    obtain ⟨h07, vs7, l17, l27⟩ := hA7
                    rw [HNN.out.2] at l17
                    obtain ⟨A11, c11, hu11⟩ := own_shape l17
                    subst hu11
                    have hvl7 : vs7.length = outs.length := by have := l17.1; have := HNN.out.2; omega
                    have hcN7 : ∀ j u, [Value.slice none 0 0][j]? = some u → w7.cell? ((⟨w6.heap.size, 0, none⟩ : Addr).add j) = some u := by rw [← hw7]; exact cell_one_new _ _ _
                    have HV7 := Lib.hid (And.intro l27 (And.intro hK7 (And.intro (below_nextM b36 b7) hvl7)))
                    have hs37 := b36.size
                    have _hs36 := (below_nextM b36 b7).size
                    clear l27 hK7 b7 hK6 hA6 hown6 hg6 hat6 hat6' b36 hge6 hKb hvl7 h07
                    go_wp2_with (at_builtin; go_must (refine wpList_append_own_at _ rfl _ _ 27 rfl w3.heap.size 25 i2 _ 1 24 Try.underlying27 hi2 hx0 hx1 hx2 rfl (by decide) (.slice A11 n c11) n vs7 rfl l17 ⟨w6.heap.size, 0, none⟩ 1 1 [.slice none 0 0] rfl rfl hcN7 ?c2 ?c3 ?c4 ?c5 ?_))
                    case c2 => first | rfl | (intro q hq; simp at hq; subst hq; rfl)
                    case c3 => simp only [maxLen]; omega
                    case c4 => omega
                    case c5 => omega
                    intro v8 w8 hown8 hg8 _ hat8
                    have HCT := Lib.hid (show CutR fam (fun x => mem (q0.take k) x ∨ (lo ≤ x ∧ x < a)) a r w3 v8 v6 (.int .i64 (n : Int)) w8 from by
                      rw [← HNN.out.1]
                      refine cut_fresh HIV.out HNV.out.1 (fun x hx => hPa x hx) (fun x h1 h2 => sign_const HAT.out HNV.out (by omega) (by omega) h1 h2) hnk HIV.out.few.1 (HV7.out.2.1.kept hg8 ?_) (OwnsA.more vs7 hKb7 HV7.out.1 HV7.out.2.2.2 hg8 (by rw [HNN.out.2]; exact hown8) ?_) (HV7.out.2.2.1.grown hg8 HV7.out.2.2.1.size (fun k e => (hAb k e).1))
                      · cases hv6 : v6.ownBlock with
                        | none => exact .inl rfl
                        | some b => exact .inr fun q => (hKb7 b hv6).1 q.symm
                      · rcases hat8 with e | e
                        · exact .inl e
                        · exact .inr ⟨_, e, by omega⟩)
                    clear hown8 hg8 hat8 l17 hcN7 hcN o1
                    go_wp2_with (fail)
                    go_meet
                    case rel => exact HCT.out

                  case rest =>
                    obtain ⟨keys', outs', jj, hj', rfl, hfew', hpl, hnx, hK', hA', hb'⟩ := hcut
                    have hAo := hA'
                    obtain ⟨h0', vs, l1, l2⟩ := hA'
                    have hvl : vs.length = outs'.length := by have := l1.1; omega
                    obtain ⟨g, cap, hu, hgb, hgs⟩ := World.ownsRow.form l1 (by omega)
                    subst hu
                    have hcg := World.ownsRow.cellAt l1 jj (by omega)
                    have hfg := World.ownsRow.frozenAt l1 jj
                    obtain ⟨Aj, cj, q1, q2, q3, q4, q5⟩ := l2 jj hj'
                    rw [q1] at hcg
                    have hpls := hpl.short
                    have HAO := Lib.hid hAo
                    have HKO := Lib.hid hK'
                    have HBO := Lib.hid hb'
                    have HNXO := Lib.hid hnx
                    have HPL := Lib.hid hpl
                    obtain ⟨nj, hnj⟩ : ∃ nj, (outs'[jj]).length = nj := ⟨_, rfl⟩
                    have HNJ := Lib.hid hnj
                    rw [hnj] at hcg hpls q2
                    clear h0' l1 l2 q1 q3 q4 q5 hvl hAo hK' hb' hnx hpl hnj
                    have k1 : (0 : Int) ≤ (jj : Int) := Int.natCast_nonneg _
                    have k2 : (jj : Int) < (outs'.length : Int) := by omega
                    obtain ⟨w4, hw4⟩ : ∃ w4, wc.alloc (.cells #[.int .i64 a, .int .i64 r] 60) = w4 := ⟨_, rfl⟩
                    have b4 : Below wc.heap.size wc w4 := by rw [← hw4]; exact (Below.refl _ _).alloc (Nat.le_refl _) _
                    have hs4 : w4.heap.size = wc.heap.size + 1 := by rw [← hw4]; simp
                    have r4 : RS w4 w4.heap.size (some ⟨wc.heap.size, 0, none⟩) 1 [(a, r)] := by
                      rw [hs4, ← hw4]
                      exact rs_two _ _ _
                    have hcg4 : w4.cell? ⟨g, jj, none⟩ = some (.slice Aj nj cj) := (b4.cell hgs).trans hcg
                    have HMK := Lib.hid (rmake0 Aj (some ⟨wc.heap.size, 0, none⟩) nj 1 cj 1 outs'[jj] [(a, r)] w4 (q2.belowM b4) r4 (by omega) (by omega))
                    have HR4 := Lib.hid (And.intro b4 (And.intro hfg (And.intro hgs q2)))
                    clear b4 r4 q2
                    go_wp2_with (fail)
                    refine HMK.out.mono ?_
                    rintro e w5 ⟨v, o, rfl, his, ho, hb5⟩
                    obtain ⟨Av, cv, hv⟩ := own_shape ho
                    subst hv
                    have hcg5 : w5.cell? ⟨g, jj, none⟩ = some (.slice Aj nj cj) := (hb5.cell (by show g < w4.heap.size; omega)).trans hcg4
                    have hfg5 : w5.frozen? ⟨g, jj, none⟩ = false := (World.frozen?_of_block ((hb5.block g (by omega)).trans (HR4.out.1.block g hgs))).trans HR4.out.2.1
                    have har := HNV.out.1
                    have hrh := HNV.out.2.1
                    have HF := Lib.hid (cut_put (a := a) (r := r) hj' HNXO.out HKO.out HAO.out HBO.out har (by omega) (by omega) HR4.out.1 his ho hb5)
                    have s9 : IntKind.i64.wrap (r + 1) = r + 1 := IntWalk.i64_in _ (by omega)
                    clear his ho hb5 hcg4 hcg hfg
                    go_wp2_with (fail)
                    go_roundw
                    case rel =>
                      obtain ⟨keys2, outs2, hl2, inv, K2, A2, B2⟩ := HF.out
                      exact ⟨r + 1, keys2, outs2, by omega, by omega, rfl, inv.congr (fun x => by constructor <;> (intro q; first | (rcases q with (q | q) | q; exact .inl q; exact .inr (by omega); exact .inr (by omega)) | (rcases q with q | q; exact .inl (.inl q); by_cases h : x < a; exact .inl (.inr (by omega)); exact .inr (by omega)))), K2, A2, B2⟩
                    case measure => simp [intOf]; omega

            · have hd1 : decide (a ≤ hi) = false := decide_eq_false hah
              have hae : a = hi + 1 := by omega
              have HFI := Lib.hid (show RefInv fam (mem (q0.take (k + 1))) keys outs from hinv.congr fun x => by
                rw [mem_take_succ hlt, hlk]
                have hr : lo ≤ x ∧ x < a → Rng x := fun q => ⟨by omega, by omega⟩
                constructor
                · rintro (q | q)
                  · exact .inl q
                  · exact .inr ⟨hr q, q.1, by simp only; omega⟩
                · rintro (q | ⟨_, q1, q2⟩)
                  · exact .inl q
                  · exact .inr ⟨q1, by simp only at q2; omega⟩)
              have HK := Lib.hid hK
              have HA := Lib.hid hA
              have HBW := Lib.hid hb
              clear hinv hK hA hb
              go_wp2_with (fail)
              go_roundw
              case rel => exact ⟨k + 1, keys, outs, by omega, by go_num, HFI.out, HK.out, HA.out, HBW.out⟩
              case measure => simp [intOf]; omega
        · have hkl : k = q0.length := by omega
          subst hkl
          obtain ⟨Ao, co, hvo⟩ := hA.own.shape
          subst hvo
          have HFI := Lib.hid (And.intro (RefInv.blocks (all := all) (hinv.congr fun x => by rw [List.take_length]; exact HPL.out.2 x)) (And.intro (OwnsR.reads rfl hA.own) (below_nextM HB3.out hb)))
          clear hinv hK hA hb
          go_wp2_with (fail)
          go_ret
          exact ⟨Ao, co, outs, rfl, HFI.out.1, HFI.out.2.1, HFI.out.2.2⟩
end Go.Proofs.Ytplpafoflibnlaa.Mi
