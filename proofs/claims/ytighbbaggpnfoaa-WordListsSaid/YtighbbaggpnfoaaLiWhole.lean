/- The walks of slices.Concat of one list of words, and of word.Sort. -/
import Derived.Test.YtighbbaggpnfoaaLiSort
import Derived.StillTailTactics
import Derived.Laws.AppendOwnNone
namespace Go.Proofs.Ytighbbaggpnfoaa.Wo
set_option maxRecDepth 100000
open Go Go.RowKit Go.Shelf Go.Lib Go.Sort

/-- What the loop over the sorted words keeps. -/
structure DInv (D : List (List Int)) (k : Nat) (out : List (List Int)) : Prop where
  sl : SL out
  mem : ∀ y, y ∈ out ↔ y ∈ D.take k
  len : out.length ≤ k
  top : ∀ (h : k - 1 < D.length), 0 < k → ∀ y ∈ out, ¬ cmpL D[k - 1] y < 0
theorem DInv.start (D : List (List Int)) : DInv D 0 [] := ⟨List.Pairwise.nil, fun y => by simp, Nat.le_refl _, fun _ h => absurd h (by omega)⟩
theorem DInv.fresh {D out : List (List Int)} {k : Nat} (h : DInv D k out) (hD : D.Pairwise fun a b => GE b a) (hk : k < D.length) (hn : ∀ h0 : 0 < k, cmpL (D[k - 1]'(by omega)) D[k] ≠ 0) : DInv D (k + 1) (out ++ [D[k]]) := by
  have hlt : ∀ y ∈ out, cmpL y D[k] < 0 := fun y hy => by
    have h0 : 0 < k := by
      rcases Nat.eq_zero_or_pos k with q | q
      · have := (h.mem y).1 hy
        rw [q] at this
        simp at this
      · exact q
    have h1 := h.top (by omega) h0 y hy
    have h2 := hn h0
    have h3 := List.pairwise_iff_getElem.1 hD (k - 1) k (by omega) hk (by omega)
    have h4 : cmpL (D[k - 1]'(by omega)) D[k] < 0 := by
      rcases cmpL_nlt h3 with q | q
      · rw [q, cmpL_self] at h2
        exact absurd rfl h2
      · exact q
    rcases cmpL_nlt h1 with q | q
    · rw [← q]; exact h4
    · exact cmpL_trans q h4
  refine ⟨List.pairwise_append.2 ⟨h.sl, List.pairwise_singleton _ _, fun a ha b hb => ?_⟩, fun y => ?_, by rw [List.length_append, List.length_singleton]; have := h.len; omega, fun hl h0 y hy => ?_⟩
  · obtain rfl := List.mem_singleton.1 hb
    exact hlt a ha
  · rw [List.mem_append, List.mem_singleton, h.mem, List.take_succ_eq_append_getElem hk, List.mem_append, List.mem_singleton]
  · have e : D[k + 1 - 1] = D[k] := by simp
    rw [e]
    rcases List.mem_append.1 hy with q | q
    · intro q2
      have := cmpL_trans (hlt y q) q2
      rw [cmpL_self] at this
      omega
    · obtain rfl := List.mem_singleton.1 q
      rw [cmpL_self]
      omega
theorem DInv.again {D out : List (List Int)} {k : Nat} (h : DInv D k out) (hk : k < D.length) (h0 : 0 < k) (hz : cmpL (D[k - 1]'(by omega)) D[k] = 0) : DInv D (k + 1) out := by
  have e := cmpL_zero hz
  refine ⟨h.sl, fun y => ?_, by have := h.len; omega, fun hl _ y hy => ?_⟩
  · rw [h.mem, List.take_succ_eq_append_getElem hk, List.mem_append, List.mem_singleton, ← e]
    constructor
    · exact .inl
    · rintro (q | rfl)
      · exact q
      · have : (D.take k)[k - 1]'(by rw [List.length_take]; omega) = D[k - 1]'(by omega) := by rw [List.getElem_take]
        rw [← this]
        exact List.getElem_mem _
  · have e2 : D[k + 1 - 1] = D[k - 1]'(by omega) := by rw [e]; simp
    rw [e2]
    exact h.top (by omega) h0 y hy
def ConcatW {w0 : World} (d : List (WordAt w0)) (w : World) (e : Ending) (w' : World) : Prop := ∃ v, e = .returned v ∧ w'.ownsRow w.heap.size 24 1 v d.length (d.map encW) ∧ Below w.heap.size w w'
def SzRel (n : Nat) (s i : Value) : Prop := (i = .int .i64 0 ∧ s = .int .i64 0) ∨ (i = .int .i64 1 ∧ s = .int .i64 n)
def CcRel {w0 : World} (d : List (WordAt w0)) (w : World) (v i : Value) (wr : World) : Prop := ((i = .int .i64 0 ∧ wr.ownsRow w.heap.size 24 1 v 0 []) ∨ (i = .int .i64 1 ∧ wr.ownsRow w.heap.size 24 1 v d.length (d.map encW))) ∧ Below w.heap.size w wr
set_option maxHeartbeats 2000000 in
theorem concat_oneW {w0 : World} (g : Nat) (A : Option Addr) (c : Nat) (d : List (WordAt w0)) (w : World) (hg0 : w.cell? ⟨g, 0, none⟩ = some (.slice A d.length c)) (hgs : g < w.heap.size) (hn : d.length ≤ 1000000) (hnil : A = none → d = [] ∧ c = 0)
    (hnew : 0 < d.length → ∃ b off, A = some ⟨b, off, none⟩ ∧ b < w.heap.size ∧ ∀ j u, (d.map encW)[j]? = some u → w.cell? ⟨b, off + j, none⟩ = some u) :
    Calls Try.prog 13 #[.slice (some ⟨g, 0, none⟩) 1 1] w (ConcatW d w) := by
  obtain ⟨i1, hi1, hz0, hz1, hz2⟩ := info_parts infoWord
  obtain ⟨n, hnn⟩ : ∃ n, d.length = n := ⟨_, rfl⟩
  have HNN := Lib.hid hnn
  have HNIL := Lib.hid hnil
  have HNEW := Lib.hid hnew
  rw [hnn] at hg0 hn
  clear hnil hnew hnn
  have s0 : IntKind.i64.wrap ((0 : Int) + (n : Int)) = (n : Int) := by rw [Int.zero_add]; exact IntWalk.i64_in _ (by omega)
  go_enter Try.func13, Try.ntmps13
  go_wp2_with (fail)
  go_loop [3, 11] (fun s i => SzRel n s i) (fun _ i => 1 - (intOf i).toNat)
  case atStart => exact .inl ⟨rfl, rfl⟩
  case round =>
    rcases hrel with ⟨rfl, rfl⟩ | ⟨rfl, rfl⟩
    · go_wp2_with (fail)
      go_round
      case rel => exact .inr ⟨rfl, rfl⟩
      case measure => simp [intOf]
    · go_wp2_with (fail)
      refine (grow_anyW _ _ (by omega) (by omega)).mono ?_
      rintro e w2 ⟨v2, rfl, ho2, hb2⟩
      have hz2' := hb2.size
      have hg0' : w2.cell? ⟨g, 0, none⟩ = some (.slice A n c) := (hb2.cell hgs).trans hg0
      go_wp2_with (fail)
      clear hg0'
      go_loopw [6, 27] (fun v i wr => CcRel d w v i wr) (fun _ i _ => 1 - (intOf i).toNat)
      case atStart => exact ⟨.inl ⟨rfl, ho2⟩, hb2⟩
      case round =>
        obtain ⟨hcase, hb⟩ := hrel
        have hzz := hb.size
        rcases hcase with ⟨rfl, ho⟩ | ⟨rfl, ho⟩
        · have HO := Lib.hid ho
          have hge : ∀ q, u6.ownBlock = some q → w.heap.size ≤ q := fun q e => (World.ownsRow.lt ho q e).1
          clear ho
          have hcell : wr.cell? ⟨g, 0, none⟩ = some (.slice A n c) := (hb.cell hgs).trans hg0
          have HB := Lib.hid hb
          rcases A with _ | ad
          · have hd0 := (HNIL.out rfl).1
            have hn0 : n = 0 := by rw [← HNN.out, hd0]; rfl
            have E0 := Lib.hid hd0
            subst hn0
            rw [(HNIL.out rfl).2] at hcell
            clear hd0
            go_wp2_with (at_builtin; go_must (refine wpList_append_own_none rfl _ _ 22 rfl w.heap.size 24 i1 1 Try.underlying22 hi1 _ 0 [] rfl HO.out rfl ?_))
            go_roundw
            case rel => exact ⟨_, _, _, ⟨.inr ⟨rfl, by rw [E0.out]; exact HO.out⟩, HB.out⟩, rfl, rfl, rfl⟩
            case measure => simp [intOf]
          · have HNW := Lib.hid (show ∀ j u, (d.map encW)[j]? = some u → wr.cell? (ad.add j) = some u from fun j u hu => by
              have h0 : 0 < d.length := by
                rcases Nat.eq_zero_or_pos d.length with q | q
                · rw [List.eq_nil_of_length_eq_zero q] at hu
                  simp at hu
                · exact q
              obtain ⟨b, off, e, hbb, hc⟩ := HNEW.out h0
              injection e with e
              subst e
              rw [show ((⟨b, off, none⟩ : Addr).add j) = ⟨b, off + j, none⟩ from by simp [Addr.add]]
              exact (HB.out.cell hbb).trans (hc j u hu))
            go_wp2_with (at_builtin; go_must (refine wpList_append_own_at _ rfl _ _ 22 rfl w.heap.size 24 i1 _ 1 24 Try.underlying22 hi1 hz0 hz1 hz2 rfl (by decide) _ 0 [] rfl HO.out ad n c (d.map encW) rfl (by rw [List.length_map, HNN.out, Nat.mul_one]) HNW.out ?c2 ?c3 ?c4 ?c5 ?_))
            case c2 => intro q hq; obtain ⟨x, _, rfl⟩ := List.mem_map.1 hq; rfl
            case c3 => simp only [maxLen]; omega
            case c4 => omega
            case c5 => omega
            intro v5 w5 hown5 hg5 _ _
            have HO5 := Lib.hid (show w5.ownsRow w.heap.size 24 1 v5 d.length (d.map encW) from by rw [HNN.out]; simpa using hown5)
            have HG5 := Lib.hid (HB.out.grown hg5 hzz hge)
            clear hown5 hg5
            go_wp2_with (fail)
            go_roundw
            case rel => exact ⟨.inr ⟨rfl, HO5.out⟩, HG5.out⟩
            case measure => simp [intOf]
        · have HO := Lib.hid (And.intro ho hb)
          clear ho hb
          go_wp2_with (fail)
          go_ret
          exact ⟨_, rfl, HO.out.1, HO.out.2⟩
/-- The sort, of whatever length. -/
def SortAllW {w0 : World} (w : World) (base : Nat) (v : Value) (d : List (WordAt w0)) (e : Ending) (w' : World) : Prop :=
  e = .returned (.tuple #[]) ∧ ∃ d' : List (WordAt w0), d'.Perm d ∧ (d'.Pairwise fun a b => ¬ cmpL b.l a.l < 0) ∧ w'.ownsRow base 24 1 v d'.length (d'.map encW) ∧ Below base w w'
theorem sort_allW {w0 : World} (base : Nat) (v : Value) (d : List (WordAt w0)) (w : World) (hown : w.ownsRow base 24 1 v d.length (d.map encW)) (hb : Below w0.heap.size w0 w) (hb0 : w0.heap.size ≤ base) (hbase : base ≤ w.heap.size) (hlen : d.length ≤ 1099511627776) :
    Calls Try.prog 14 #[v, .func (.func 9) #[] #[]] w (SortAllW w base v d) := by
  rcases Nat.eq_zero_or_pos d.length with h0 | h0
  · have hd : d = [] := List.eq_nil_of_length_eq_zero h0
    subst hd
    obtain ⟨A, c, hv⟩ := own_shapeW hown
    subst hv
    have hcon := AnyF.slices_SortFunc_none (P := Try.prog) { sortWo with } A c (.func (.func 9) #[] #[]) w
    change Calls Try.prog 14 _ _ _ at hcon
    refine hcon.mono ?_
    rintro e w' ⟨he, rfl⟩
    exact ⟨he, [], List.Perm.refl _, List.Pairwise.nil, hown, Below.refl _ _⟩
  · obtain ⟨g, cap, hv, hbg, hgs⟩ := World.ownsRow.form hown h0
    subst hv
    refine (sort_anyW base g cap d w hown hb hb0 hbase hlen).mono ?_
    rintro e w' ⟨he, d', hp, hs, ho, hbb⟩
    refine ⟨he, d', hp, hs, ?_, hbb⟩
    rw [hp.length_eq] at ho ⊢
    exact ho
def SoRel {w0 : World} (d' : List (WordAt w0)) (w3 : World) (v i : Value) (wr : World) : Prop := ∃ (k : Nat) (out : List (List Int)), k ≤ d'.length ∧ i = .int .i64 k ∧ OwnsW wr w3.heap.size v out ∧ DInv (d'.map (·.l)) k out ∧ Below w3.heap.size w3 wr
def SortW (L : List (List Int)) (w : World) (e : Ending) (w' : World) : Prop := ∃ A c L', e = .returned (.slice A L'.length c) ∧ SL L' ∧ (∀ y, y ∈ L' ↔ y ∈ L) ∧ L'.length ≤ L.length ∧ RWs w' A L'.length L' ∧ Below w.heap.size w w'
set_option maxHeartbeats 8000000 in
theorem wsort_any (A : Option Addr) (c : Nat) (L : List (List Int)) (w : World) (h : RWs w A L.length L) (hl : L.length ≤ 1000000) (hs : ∀ l ∈ L, l.length ≤ 1000000) (hnil : A = none → L = [] ∧ c = 0) :
    Calls Try.prog 7 #[.slice A L.length c] w (SortW L w) := by
  obtain ⟨i1, hi1, hz0, hz1, hz2⟩ := info_parts infoWord
  obtain ⟨d, hd, hnew⟩ := words_of h hs
  have hdl : d.length = L.length := by rw [← hd, List.length_map]
  obtain ⟨n, hn⟩ : ∃ n, L.length = n := ⟨_, rfl⟩
  have HD := Lib.hid (And.intro hd (And.intro hdl hn))
  rw [hn] at hl hdl ⊢
  obtain ⟨w1, hw1⟩ : ∃ w1, w.alloc (.cells #[.slice A n c] 22) = w1 := ⟨_, rfl⟩
  have b1 : Below w.heap.size w w1 := by rw [← hw1]; exact (Below.refl _ _).alloc (Nat.le_refl _) _
  have hs1 : w1.heap.size = w.heap.size + 1 := by rw [← hw1]; simp
  have hc1 : w1.cell? ⟨w.heap.size, 0, none⟩ = some (.slice A d.length c) := by rw [← hw1, hdl]; simp
  have HCC := Lib.hid (concat_oneW w.heap.size A c d w1 hc1 (by omega) (by omega) (fun q => by
    obtain ⟨q1, q2⟩ := hnil q
    refine ⟨List.eq_nil_of_length_eq_zero ?_, q2⟩
    rw [hdl, ← hn, q1]
    rfl) (fun q => by
    obtain ⟨b, off, e, hbb, hc⟩ := hnew (by omega)
    exact ⟨b, off, e, by omega, fun j u hu => (b1.cell hbb).trans (hc j u hu)⟩))
  have HB1 := Lib.hid b1
  clear h hs hnil hnew hd hc1 b1 hn
  go_enter Try.func7, Try.ntmps7
  go_wp2_with (fail)
  refine HCC.out.mono ?_
  rintro e w2 ⟨v, rfl, ho2, hb2⟩
  have hbs2 := hb2.size
  have HB2 := Lib.hid (below_nextW HB1.out hb2)
  have HSO := Lib.hid (sort_allW w1.heap.size v d w2 ho2 HB2.out (by omega) hbs2 (by omega))
  obtain ⟨Av, cv, hv⟩ := own_shapeW ho2
  subst hv
  rw [hdl] at HSO
  clear ho2 hb2 HCC
  obtain ⟨dl, hdl2⟩ : ∃ dl, d.length = dl := ⟨_, rfl⟩
  rw [hdl] at hdl2
  clear hdl2
  go_wp2_with (fail)
  refine HSO.out.mono ?_
  rintro e w3 ⟨rfl, d', hp, hsd, ho3, hb3⟩
  have hdl' : d'.length = n := by rw [hp.length_eq]; exact hdl
  have HB3' := Lib.hid (HB2.out.trans (hb3.mono (by omega)))
  have HO3 := Lib.hid ho3
  have HSD := Lib.hid (show (d'.map (·.l)).Pairwise fun a b => GE b a from by rw [List.pairwise_map]; exact hsd)
  have HPM := Lib.hid (show ∀ y, y ∈ d'.map (·.l) ↔ y ∈ L from fun y => by
    rw [← HD.out.1]
    exact (hp.map _).mem_iff)
  clear ho3 hb3 hsd hp HSO
  go_wp2_with (fail)
  go_loopw [4, 14] (fun v i wr => SoRel d' w3 v i wr) (fun _ i _ => n - (intOf i).toNat)
  case atStart => exact ⟨0, [], Nat.zero_le _, rfl, ownW_nil _ _, DInv.start _, Below.refl _ _⟩
  case round =>
    obtain ⟨k, out, hk, rfl, ho, hinv, hb⟩ := hrel
    have HO := Lib.hid ho
    have HIV := Lib.hid hinv
    have HB3 := Lib.hid hb
    have HBW := Lib.hid (below_nextW HB3'.out hb)
    have hol := hinv.len
    obtain ⟨Ao, co, hvo⟩ := ho.shape
    obtain ⟨no, hno⟩ : ∃ no, out.length = no := ⟨_, rfl⟩
    have HNO := Lib.hid hno
    rw [hno] at hvo hol
    subst hvo
    clear ho hinv hno
    by_cases hlt : k < n
    · obtain ⟨g, cap, hv, hbg, hgs⟩ := World.ownsRow.form HO3.out (by omega)
      injection hv with hv1 hlen hv2
      clear hlen
      subst hv1 hv2
      have hcell : ∀ (j : Nat) (hj : j < d'.length), wr.cell? ⟨g, j, none⟩ = some (encW (d'[j]'hj)) := fun j hj => by
        have h3 := HO3.out
        rw [hdl'] at h3
        have h1 := World.ownsRow.cellAt h3 j (by omega)
        rw [List.getElem?_map, List.getElem?_eq_getElem hj] at h1
        exact (HB3.out.cell (p := ⟨g, j, none⟩) hgs).trans h1
      have hck := hcell k (by omega)
      obtain ⟨x, hx⟩ : ∃ x, d'[k]'(by omega) = x := ⟨_, rfl⟩
      rw [hx] at hck
      have HDK := Lib.hid hx
      clear hx
      unfold encW at hck
      obtain ⟨Ak, hAk⟩ : ∃ Ak, x.A = Ak := ⟨_, rfl⟩
      obtain ⟨ck, hckc⟩ : ∃ ck, x.c = ck := ⟨_, rfl⟩
      obtain ⟨nk, hnk⟩ : ∃ nk, x.l.length = nk := ⟨_, rfl⟩
      have hnkl := x.hl
      rw [hAk, hckc, hnk] at hck
      rw [hnk] at hnkl
      have HAK := Lib.hid hAk
      have HCK := Lib.hid hckc
      have HLK2 := Lib.hid hnk
      have j1 : (0 : Int) ≤ (k : Int) := Int.natCast_nonneg _
      have j2 : (k : Int) < (n : Int) := by omega
      clear hAk hckc hnk hb
      by_cases hk0 : k = 0
      · subst hk0
        have HST := Lib.hid (show DInv (d'.map (·.l)) (0 + 1) (out ++ [(d'[0]'(by omega)).l]) from by
          have := HIV.out.fresh HSD.out (k := 0) (by rw [List.length_map]; omega) (fun q => absurd q (by omega))
          rwa [List.getElem_map] at this)
        clear hcell
        have HFR := Lib.hid (fresh_any x.A x.c x.l nk HLK2.out wr (x.rr.belowM HBW.out) x.hl)
        rw [HAK.out, HCK.out] at HFR
        go_wp2_with (fail)
        refine HFR.out.mono ?_
        rintro e w4 ⟨Af, cf, rfl, hcf, hrf, hnf, hbf, hb4⟩
        have HB4 := Lib.hid hb4
        have hs4 := hb4.size
        have HRF := Lib.hid (And.intro hrf (And.intro hnf hbf))
        clear hrf hnf hbf hb4
        obtain ⟨w5, hw5⟩ : ∃ w5, w4.alloc (.cells #[.slice Af nk cf] 24) = w5 := ⟨_, rfl⟩
        have b5 : Below w4.heap.size w4 w5 := by rw [← hw5]; exact (Below.refl _ _).alloc (Nat.le_refl _) _
        have hs5 : w5.heap.size = w4.heap.size + 1 := by rw [← hw5]; simp
        have hblk : ∀ q, (Value.slice Ao no co).ownBlock = some q → w3.heap.size ≤ q ∧ q < wr.heap.size := fun q e => HO.out.block e
        have hO5 := (HO.out.below HB4.out).below b5
        obtain ⟨vs, o1, o2⟩ := hO5
        rw [HNO.out] at o1
        have hvl : vs.length = out.length := by have := o1.1; have := HNO.out; omega
        have hcN : ∀ j u, [Value.slice Af nk cf][j]? = some u → w5.cell? ((⟨w4.heap.size, 0, none⟩ : Addr).add j) = some u := by rw [← hw5]; exact cell_one_new _ _ _
        have HO2 := Lib.hid o2
        have hs3 := HB3.out.size
        have HB5 := Lib.hid (below_nextW (below_nextW HB3.out HB4.out) b5)
        have HRF5 := Lib.hid (HRF.out.1.belowM b5)
        clear o2 b5
        go_wp2_with (at_builtin; go_must (refine wpList_append_own_at _ rfl _ _ 22 rfl w3.heap.size 24 i1 _ 1 24 Try.underlying22 hi1 hz0 hz1 hz2 rfl (by decide) (.slice Ao no co) no vs rfl o1 ⟨w4.heap.size, 0, none⟩ 1 1 [.slice Af nk cf] rfl rfl hcN ?c2 ?c3 ?c4 ?c5 ?_))
        case c2 => first | rfl | (intro q hq; simp at hq; subst hq; rfl)
        case c3 => simp only [maxLen]; omega
        case c4 => omega
        case c5 => omega
        intro v6 w6 hown6 hg6 _ hat6
        have HN6 := Lib.hid (show OwnsW w6 w3.heap.size v6 (out ++ [(d'[0]'(by omega)).l]) from OwnsW.more vs HO2.out hvl (A := Af) (c := cf) (by rw [HDK.out]; exact HRF5.out) (by rw [HDK.out, HLK2.out]; exact hcf) (by rw [HDK.out]; exact HRF.out.2.1) (fun ne b off e => ⟨fun q => by have := hblk _ q; have := HRF.out.2.2 b off e; omega, by have := rr_off HRF.out.1 (by rw [HDK.out] at ne; exact ne) e; omega⟩) hg6 (by rw [HNO.out, HDK.out, HLK2.out]; exact hown6) (by
          rcases hat6 with e | e
          · exact .inl e
          · exact .inr ⟨_, e, by omega⟩))
        have HNB6 := Lib.hid (HB5.out.grown hg6 HB5.out.size (fun q e => (hblk q e).1))
        clear hown6 hg6 hat6 o1 hcN
        go_wp2_with (fail)
        go_roundw
        case rel => exact ⟨0 + 1, _, by omega, by go_num, HN6.out, HST.out, HNB6.out⟩
        case measure => simp [intOf]; omega
      · have hd0 : decide ((k : Int) = 0) = false := decide_eq_false (by omega)
        have hcp := hcell (k - 1) (by omega)
        have s1 : IntKind.i64.wrap ((k : Int) - 1) = ((k - 1 : Nat) : Int) := by rw [IntWalk.i64_in _ (by omega)]; omega
        have j3 : (0 : Int) ≤ ((k - 1 : Nat) : Int) := Int.natCast_nonneg _
        have j4 : ((k - 1 : Nat) : Int) < (n : Int) := by omega
        obtain ⟨y, hy⟩ : ∃ y, d'[k - 1]'(by omega) = y := ⟨_, rfl⟩
        rw [hy] at hcp
        have HDP := Lib.hid hy
        clear hy
        unfold encW at hcp
        have HCM := Lib.hid (wcmp_any y.A x.A y.c x.c y.l x.l wr (y.rr.belowM HBW.out) (x.rr.belowM HBW.out) (by have := y.hl; omega) (by have := x.hl; omega))
        rw [HAK.out, HCK.out, HLK2.out] at HCM
        obtain ⟨Ap, hAp⟩ : ∃ Ap, y.A = Ap := ⟨_, rfl⟩
        obtain ⟨cp, hcpc⟩ : ∃ cp, y.c = cp := ⟨_, rfl⟩
        obtain ⟨np, hnp⟩ : ∃ np, y.l.length = np := ⟨_, rfl⟩
        rw [hAp, hcpc, hnp] at hcp HCM
        clear hAp hcpc hnp hcell
        obtain ⟨m, hm⟩ : ∃ m, k - 1 = m := ⟨_, rfl⟩
        have HM := Lib.hid hm
        rw [hm] at hcp s1 j3 j4
        clear hm
        by_cases hz : cmpL y.l x.l = 0
        · have HST := Lib.hid (show DInv (d'.map (·.l)) (k + 1) out from HIV.out.again (by rw [List.length_map]; omega) (by omega) (by rw [List.getElem_map, List.getElem_map, HDK.out, HDP.out]; exact hz))
          rw [hz] at HCM
          clear hz
          go_wp2_with (fail)
          refine HCM.out.mono ?_
          rintro e w4 ⟨rfl, rfl⟩
          go_wp2_with (fail)
          go_roundw
          case rel => exact ⟨k + 1, out, by omega, by go_num, HO.out, HST.out, HB3.out⟩
          case measure => simp [intOf]; omega
        · have HST := Lib.hid (show DInv (d'.map (·.l)) (k + 1) (out ++ [(d'[k]'(by omega)).l]) from by
            have := HIV.out.fresh HSD.out (k := k) (by rw [List.length_map]; omega) (fun _ => by rw [List.getElem_map, List.getElem_map, HDK.out, HDP.out]; exact hz)
            rwa [List.getElem_map] at this)
          have hrng := cmpL_rng y.l x.l
          obtain ⟨r, hr⟩ : ∃ r, cmpL y.l x.l = r := ⟨_, rfl⟩
          rw [hr] at HCM hz hrng
          clear hr
          rcases (show r = -1 ∨ r = 1 by omega) with rfl | rfl
          · clear hz hrng
            go_wp2_with (fail)
            refine HCM.out.mono ?_
            rintro e w4 ⟨rfl, rfl⟩
            have HFR := Lib.hid (fresh_any x.A x.c x.l nk HLK2.out wr (x.rr.belowM HBW.out) x.hl)
            rw [HAK.out, HCK.out] at HFR
            go_wp2_with (fail)
            refine HFR.out.mono ?_
            rintro e w4 ⟨Af, cf, rfl, hcf, hrf, hnf, hbf, hb4⟩
            have HB4 := Lib.hid hb4
            have hs4 := hb4.size
            have HRF := Lib.hid (And.intro hrf (And.intro hnf hbf))
            clear hrf hnf hbf hb4
            obtain ⟨w5, hw5⟩ : ∃ w5, w4.alloc (.cells #[.slice Af nk cf] 24) = w5 := ⟨_, rfl⟩
            have b5 : Below w4.heap.size w4 w5 := by rw [← hw5]; exact (Below.refl _ _).alloc (Nat.le_refl _) _
            have hs5 : w5.heap.size = w4.heap.size + 1 := by rw [← hw5]; simp
            have hblk : ∀ q, (Value.slice Ao no co).ownBlock = some q → w3.heap.size ≤ q ∧ q < wr.heap.size := fun q e => HO.out.block e
            have hO5 := (HO.out.below HB4.out).below b5
            obtain ⟨vs, o1, o2⟩ := hO5
            rw [HNO.out] at o1
            have hvl : vs.length = out.length := by have := o1.1; have := HNO.out; omega
            have hcN : ∀ j u, [Value.slice Af nk cf][j]? = some u → w5.cell? ((⟨w4.heap.size, 0, none⟩ : Addr).add j) = some u := by rw [← hw5]; exact cell_one_new _ _ _
            have HO2 := Lib.hid o2
            have hs3 := HB3.out.size
            have HB5 := Lib.hid (below_nextW (below_nextW HB3.out HB4.out) b5)
            have HRF5 := Lib.hid (HRF.out.1.belowM b5)
            clear o2 b5
            go_wp2_with (at_builtin; go_must (refine wpList_append_own_at _ rfl _ _ 22 rfl w3.heap.size 24 i1 _ 1 24 Try.underlying22 hi1 hz0 hz1 hz2 rfl (by decide) (.slice Ao no co) no vs rfl o1 ⟨w4.heap.size, 0, none⟩ 1 1 [.slice Af nk cf] rfl rfl hcN ?c2 ?c3 ?c4 ?c5 ?_))
            case c2 => first | rfl | (intro q hq; simp at hq; subst hq; rfl)
            case c3 => simp only [maxLen]; omega
            case c4 => omega
            case c5 => omega
            intro v6 w6 hown6 hg6 _ hat6
            have HN6 := Lib.hid (show OwnsW w6 w3.heap.size v6 (out ++ [(d'[k]'(by omega)).l]) from OwnsW.more vs HO2.out hvl (A := Af) (c := cf) (by rw [HDK.out]; exact HRF5.out) (by rw [HDK.out, HLK2.out]; exact hcf) (by rw [HDK.out]; exact HRF.out.2.1) (fun ne b off e => ⟨fun q => by have := hblk _ q; have := HRF.out.2.2 b off e; omega, by have := rr_off HRF.out.1 (by rw [HDK.out] at ne; exact ne) e; omega⟩) hg6 (by rw [HNO.out, HDK.out, HLK2.out]; exact hown6) (by
              rcases hat6 with e | e
              · exact .inl e
              · exact .inr ⟨_, e, by omega⟩))
            have HNB6 := Lib.hid (HB5.out.grown hg6 HB5.out.size (fun q e => (hblk q e).1))
            clear hown6 hg6 hat6 o1 hcN
            go_wp2_with (fail)
            go_roundw
            case rel => exact ⟨k + 1, _, by omega, by go_num, HN6.out, HST.out, HNB6.out⟩
            case measure => simp [intOf]; omega
          · clear hz hrng
            go_wp2_with (fail)
            refine HCM.out.mono ?_
            rintro e w4 ⟨rfl, rfl⟩
            have HFR := Lib.hid (fresh_any x.A x.c x.l nk HLK2.out wr (x.rr.belowM HBW.out) x.hl)
            rw [HAK.out, HCK.out] at HFR
            go_wp2_with (fail)
            refine HFR.out.mono ?_
            rintro e w4 ⟨Af, cf, rfl, hcf, hrf, hnf, hbf, hb4⟩
            have HB4 := Lib.hid hb4
            have hs4 := hb4.size
            have HRF := Lib.hid (And.intro hrf (And.intro hnf hbf))
            clear hrf hnf hbf hb4
            obtain ⟨w5, hw5⟩ : ∃ w5, w4.alloc (.cells #[.slice Af nk cf] 24) = w5 := ⟨_, rfl⟩
            have b5 : Below w4.heap.size w4 w5 := by rw [← hw5]; exact (Below.refl _ _).alloc (Nat.le_refl _) _
            have hs5 : w5.heap.size = w4.heap.size + 1 := by rw [← hw5]; simp
            have hblk : ∀ q, (Value.slice Ao no co).ownBlock = some q → w3.heap.size ≤ q ∧ q < wr.heap.size := fun q e => HO.out.block e
            have hO5 := (HO.out.below HB4.out).below b5
            obtain ⟨vs, o1, o2⟩ := hO5
            rw [HNO.out] at o1
            have hvl : vs.length = out.length := by have := o1.1; have := HNO.out; omega
            have hcN : ∀ j u, [Value.slice Af nk cf][j]? = some u → w5.cell? ((⟨w4.heap.size, 0, none⟩ : Addr).add j) = some u := by rw [← hw5]; exact cell_one_new _ _ _
            have HO2 := Lib.hid o2
            have hs3 := HB3.out.size
            have HB5 := Lib.hid (below_nextW (below_nextW HB3.out HB4.out) b5)
            have HRF5 := Lib.hid (HRF.out.1.belowM b5)
            clear o2 b5
            go_wp2_with (at_builtin; go_must (refine wpList_append_own_at _ rfl _ _ 22 rfl w3.heap.size 24 i1 _ 1 24 Try.underlying22 hi1 hz0 hz1 hz2 rfl (by decide) (.slice Ao no co) no vs rfl o1 ⟨w4.heap.size, 0, none⟩ 1 1 [.slice Af nk cf] rfl rfl hcN ?c2 ?c3 ?c4 ?c5 ?_))
            case c2 => first | rfl | (intro q hq; simp at hq; subst hq; rfl)
            case c3 => simp only [maxLen]; omega
            case c4 => omega
            case c5 => omega
            intro v6 w6 hown6 hg6 _ hat6
            have HN6 := Lib.hid (show OwnsW w6 w3.heap.size v6 (out ++ [(d'[k]'(by omega)).l]) from OwnsW.more vs HO2.out hvl (A := Af) (c := cf) (by rw [HDK.out]; exact HRF5.out) (by rw [HDK.out, HLK2.out]; exact hcf) (by rw [HDK.out]; exact HRF.out.2.1) (fun ne b off e => ⟨fun q => by have := hblk _ q; have := HRF.out.2.2 b off e; omega, by have := rr_off HRF.out.1 (by rw [HDK.out] at ne; exact ne) e; omega⟩) hg6 (by rw [HNO.out, HDK.out, HLK2.out]; exact hown6) (by
              rcases hat6 with e | e
              · exact .inl e
              · exact .inr ⟨_, e, by omega⟩))
            have HNB6 := Lib.hid (HB5.out.grown hg6 HB5.out.size (fun q e => (hblk q e).1))
            clear hown6 hg6 hat6 o1 hcN
            go_wp2_with (fail)
            go_roundw
            case rel => exact ⟨k + 1, _, by omega, by go_num, HN6.out, HST.out, HNB6.out⟩
            case measure => simp [intOf]; omega
    · have hkn : k = n := by omega
      have HFI := Lib.hid (show SL out ∧ (∀ y, y ∈ out ↔ y ∈ L) ∧ out.length ≤ L.length ∧ RWs wr Ao out.length out from ⟨HIV.out.sl, fun y => by
        rw [HIV.out.mem, List.take_of_length_le (by rw [List.length_map]; omega)]
        exact HPM.out y, by have := HNO.out; have := HD.out.2.2; omega, OwnsW.reads HNO.out HO.out⟩)
      have hno := HNO.out
      subst hno
      clear hb hol
      go_wp2_with (fail)
      go_ret
      exact ⟨Ao, co, out, rfl, HFI.out.1, HFI.out.2.1, HFI.out.2.2.1, HFI.out.2.2.2, HBW.out⟩
end Go.Proofs.Ytighbbaggpnfoaa.Wo
