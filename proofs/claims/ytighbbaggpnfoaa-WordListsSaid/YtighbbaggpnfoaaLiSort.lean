/- word.Sort's helpers: the sort of slices of symbols, by the shelf's contract; slices.Grow and slices.Concat of one list; word.fresh. -/
import Derived.Test.YtighbbaggpnfoaaLiBase
import Derived.Test.YtighbbaggpnfoaaLiShelf
import Derived.Test.YtighbbaggpnfoaaLiShelfG
import Derived.Laws.CopyOwn
import Derived.Laws.OwnMore
import Derived.IntWalk
namespace Go.Proofs.Ytighbbaggpnfoaa.Wo
set_option maxRecDepth 100000
open Go Go.RowKit Go.Shelf Go.Lib Go.Sort

/-- A word that lies in a world. -/
structure WordAt (w0 : World) where
  A : Option Addr
  c : Nat
  l : List Int
  rr : RR w0 w0.heap.size A l.length l
  hc : l.length ≤ c
  hn : A = none → l = [] ∧ c = 0
  hl : l.length ≤ 1000000
instance (w0 : World) : Inhabited (WordAt w0) := ⟨⟨none, 0, [], RR.nil_ _ _ _, Nat.le_refl _, fun _ => ⟨rfl, rfl⟩, Nat.zero_le _⟩⟩
def encW {w0 : World} (x : WordAt w0) : Value := .slice x.A x.l.length x.c
theorem encW_one (w0 : World) : OneCell (encW (w0 := w0)) := fun _ => rfl
def cfW {w0 : World} (x y : WordAt w0) : Int := cmpL x.l y.l
theorem ltW {w0 : World} (x y : WordAt w0) : ltOf cfW x y = decide (cmpL x.l y.l < 0) := rfl
theorem swoW (w0 : World) : SWO (ltOf (cfW (w0 := w0))) where
  irrefl x := by rw [ltW, cmpL_self]; rfl
  trans x y z h1 h2 := by
    rw [ltW] at *
    simp only [decide_eq_true_eq] at *
    exact cmpL_trans h1 h2
  ntrans x y z h1 h2 := by
    rw [ltW] at *
    simp only [decide_eq_false_iff_not] at *
    intro q
    rcases cmpL_nlt h1 with e | k
    · rw [e] at q
      exact h2 q
    · exact h2 (cmpL_trans k q)
theorem own_sortedW {w0 w : World} {base g cap m : Nat} {os : Array Obj} {d d' : List (WordAt w0)} (h : w.ownsRow base 24 1 (.slice (some ⟨g, 0, none⟩) d.length cap) d.length (d.map encW)) (hl : d'.length = d.length) :
    (sortWorld encW w g 0 m d'.toArray os).ownsRow base 24 1 (.slice (some ⟨g, 0, none⟩) d'.length cap) d'.length (d'.map encW) ∧ w.grownBy (sortWorld encW w g 0 m d'.toArray os) (some g) := by
  rcases h.2 with ⟨h0, _⟩ | ⟨g', cap', cur, hv, hb, hg, hn, hc, hs, ht⟩
  · cases h0
  · injection hv with hv _ hcap
    injection hv with hv
    injection hv with hv
    subst hv hcap
    have hgl : g < w.heap.size := (Array.getElem?_eq_some_iff.1 hg).1
    have hh : (sortWorld encW w g 0 m d'.toArray os).heap[g]? = some (.cells (putCells encW 0 d'.toArray cur) 24 (0, 0)) := by
      unfold sortWorld
      rw [heap_grow_old _ _ (by simpa [putRow, mapBlock] using hgl)]
      simp [putRow, mapBlock, Sort.ahead, Array.getElem?_modify, hg, onCells]
    refine ⟨⟨by simp, .inr ⟨g, cap, _, rfl, hb, hh, by omega, hc, by simp [putCells, hs], ?_⟩⟩, ⟨rfl, rfl, rfl, by simp [sortWorld, putRow, mapBlock], fun k hk hne => ?_⟩⟩
    · apply List.ext_getElem?
      intro j
      by_cases hj : j < d'.length
      · rw [List.getElem?_take_of_lt (by omega), Array.getElem?_toList]
        simp only [putCells, Array.getElem?_mapIdx]
        rw [Array.getElem?_eq_getElem (show j < cur.size by omega)]
        simp only [Option.map_some, Nat.zero_le, true_and, Nat.zero_add, Nat.sub_zero]
        rw [if_pos (by simpa using hj), getElem!_pos _ j (by simpa using hj)]
        simp [hj]
      · rw [List.getElem?_take_eq_none (by omega), List.getElem?_eq_none (by simp; omega)]
    · unfold sortWorld
      rw [heap_grow_old _ _ (by simpa [putRow, mapBlock] using hk)]
      have : g ≠ k := fun e => hne (by rw [e])
      simp [putRow, mapBlock, Sort.ahead, Array.getElem?_modify, this]
theorem holds_ownW {w0 w : World} {base g cap : Nat} {d : List (WordAt w0)} (h : w.ownsRow base 24 1 (.slice (some ⟨g, 0, none⟩) d.length cap) d.length (d.map encW)) : Holds encW w g 0 d.toArray := by
  intro j hj
  have hj' : j < d.length := by simpa using hj
  refine ⟨?_, World.ownsRow.frozenAt h _⟩
  rw [Nat.zero_add, World.ownsRow.cellAt h _ (by omega), getElem!_pos _ j hj]
  simp [hj']
theorem cmpLaysW {w0 w : World} {base g cap : Nat} {d : List (WordAt w0)} (h : w.ownsRow base 24 1 (.slice (some ⟨g, 0, none⟩) d.length cap) d.length (d.map encW)) (hb : Below w0.heap.size w0 w) (hbase : w0.heap.size ≤ base) : CmpLays1 Try.prog 9 #[] (encW (w0 := w0)) cfW g 0 d.toArray.size w := by
  intro m os dk hdk x y
  have hd : dk.toList.length = d.length := by simpa using hdk
  have hg := (own_sortedW (m := m) (os := os) (d' := dk.toList) h hd).2
  have hgl := (World.ownsRow.lt h g rfl).1
  have e : dk.toList.toArray = dk := by simp
  rw [e] at hg
  have hbb : Below w0.heap.size w0 (sortWorld encW w g 0 m dk os) := hb.grown hg hb.size (fun k hk => by cases hk; omega)
  have := wcmp_any x.A y.A x.c y.c x.l y.l (sortWorld encW w g 0 m dk os) (x.rr.belowM hbb) (y.rr.belowM hbb) (by have := x.hl; omega) (by have := y.hl; omega)
  refine this.mono ?_
  rintro e w' ⟨rfl, rfl⟩
  exact ⟨rfl, 0, #[], by rw [grow_empty]; rfl⟩
def SortOutW {w0 : World} (w : World) (base g cap : Nat) (d : List (WordAt w0)) (e : Ending) (w' : World) : Prop :=
  e = .returned (.tuple #[]) ∧ ∃ d' : List (WordAt w0), d'.Perm d ∧ (d'.Pairwise fun a b => ¬ cmpL b.l a.l < 0) ∧ w'.ownsRow base 24 1 (.slice (some ⟨g, 0, none⟩) d'.length cap) d'.length (d'.map encW) ∧ Below base w w'
theorem sort_anyW {w0 : World} (base g cap : Nat) (d : List (WordAt w0)) (w : World) (hown : w.ownsRow base 24 1 (.slice (some ⟨g, 0, none⟩) d.length cap) d.length (d.map encW)) (hb : Below w0.heap.size w0 w) (hb0 : w0.heap.size ≤ base) (hbase : base ≤ w.heap.size) (hlen : d.length ≤ 1099511627776) :
    Calls Try.prog 14 #[.slice (some ⟨g, 0, none⟩) d.length cap, .func (.func 9) #[] #[]] w (SortOutW w base g cap d) := by
  have eg : ∀ args w, (callFunc 9 args).run Try.prog w = .ok (.enter 9 args) w := enters_of Try.func9 (by kernel_rfl) rfl
  have hgl := World.ownsRow.lt hown g rfl
  have hcon := Any.slices_SortFunc sortWo (encW (w0 := w0)) (encW_one w0) cfW (swoW w0) 9 #[] g 0 cap d.toArray w eg (cmpLaysW hown hb hb0) (holds_ownW hown) hgl.2 (by simp; omega)
  change Calls Try.prog 14 _ _ _ at hcon
  refine hcon.mono ?_
  rintro e w' ⟨he, d', m, os, hp, hs, hw⟩
  obtain ⟨d'⟩ := d'
  have hpl : d'.Perm d := by
    have h2 := hp.2.2
    have h3 : d'.length = d.length := by simpa using hp.1
    simp only [List.size_toArray, List.extract_toArray, List.extract_eq_take_drop, Nat.sub_zero, List.drop_zero] at h2
    rwa [List.take_of_length_le (by omega), List.take_of_length_le (Nat.le_refl _)] at h2
  have hso := own_sortedW (m := m) (os := os) hown hpl.length_eq
  refine ⟨he, d', hpl, ?_, by rw [hw]; exact hso.1, by rw [hw]; exact (Below.refl base w).grown hso.2 hbase (fun k hk => by cases hk; exact hgl.1)⟩
  refine List.pairwise_iff_getElem.2 fun i j hi hj hij => ?_
  have h1 := hs i j (Nat.zero_le _) hij (by have := hpl.length_eq; simp; omega)
  rw [ltW] at h1
  simp only [decide_eq_false_iff_not] at h1
  rw [getElem!_pos _ i (by simpa using hi), getElem!_pos _ j (by simpa using hj)] at h1
  exact h1
/-- A list of words that is read lies as words do. -/
theorem words_of {w : World} {A : Option Addr} {L : List (List Int)} (h : RWs w A L.length L) (hl : ∀ l ∈ L, l.length ≤ 1000000) : ∃ d : List (WordAt w), d.map (·.l) = L ∧ (0 < L.length → ∃ b off, A = some ⟨b, off, none⟩ ∧ b < w.heap.size ∧ ∀ j u, (d.map encW)[j]? = some u → w.cell? ⟨b, off + j, none⟩ = some u) := by
  by_cases h0 : 0 < L.length
  · obtain ⟨b, off, e, hb, hc⟩ := h.2 h0
    have key : ∀ j : Nat, ∃ x : WordAt w, ∀ h : j < L.length, x.l = L[j] ∧ w.cell? ⟨b, off + j, none⟩ = some (encW x) := fun j => by
      by_cases hj : j < L.length
      · obtain ⟨Aj, cj, q1, q2, q3, q4⟩ := hc j hj
        exact ⟨⟨Aj, cj, L[j], q2, q3, q4, hl _ (List.getElem_mem hj)⟩, fun _ => ⟨rfl, q1⟩⟩
      · exact ⟨default, fun q => absurd q hj⟩
    obtain ⟨F, hF⟩ := Classical.axiomOfChoice key
    refine ⟨(List.range L.length).map F, List.ext_getElem (by simp) fun j h1 h2 => ?_, fun _ => ⟨b, off, e, hb, fun j u hu => ?_⟩⟩
    · simp only [List.getElem_map, List.getElem_range]
      exact (hF j h2).1
    · have hj : j < L.length := by
        rcases Nat.lt_or_ge j L.length with q | q
        · exact q
        · rw [List.getElem?_eq_none (by simpa using q)] at hu
          cases hu
      have hu' : u = encW (F j) := by
        have : ((List.range L.length).map F |>.map encW)[j]? = some (encW (F j)) := by simp [hj]
        rw [this] at hu
        injection hu with hu
        exact hu.symm
      rw [hu']
      exact (hF j hj).2
  · have : L = [] := List.eq_nil_of_length_eq_zero (by omega)
    subst this
    exact ⟨[], rfl, fun q => absurd q (by simp)⟩
def GrowOutW (w : World) (e : Ending) (w' : World) : Prop := ∃ v, e = .returned v ∧ w'.ownsRow w.heap.size 24 1 v 0 [] ∧ Below w.heap.size w w'
theorem zero_sizeW (n : Nat) : (Builtin.zeroCells #[.slice none 0 0] n).size = n := by
  simp [Builtin.zeroCells]
theorem grow_anyW (m : Int) (w : World) (h0 : 0 ≤ m) (h1 : m ≤ 1099511627776) : Calls Try.prog 18 #[.slice none 0 0, .int .i64 m] w (GrowOutW w) := by
  obtain ⟨n, rfl⟩ := Int.eq_ofNat_of_zero_le h0
  rcases Nat.eq_zero_or_pos n with rfl | hp
  · have hcon := Any8.slices_Grow_room growWo none 0 0 0 w (Nat.le_refl _) (by omega) (by omega) (Nat.le_refl _)
    change Calls Try.prog 18 _ _ _ at hcon
    exact hcon.mono fun e w' ⟨he, hw⟩ => by
      subst hw
      exact ⟨_, he, World.ownsRow_nil _ _ _ _, Below.refl _ _⟩
  · obtain ⟨i0, hi0, hz0, hz1, hz2⟩ := info_parts infoWord
    have hcon := Any8.slices_Grow_grow growWo i0 _ hi0 hz0 (by omega) none 0 0 n [] w (Nat.le_refl _) (by omega) (by rw [hz2]; omega) (by omega) (by simp) (fun _ => rfl) (fun _ h => by cases h)
    change Calls Try.prog 18 _ _ _ at hcon
    refine hcon.mono fun e w' ⟨he, hw⟩ => ⟨_, he, ?_, ?_⟩
    · have hge := grownCap_ge w (0 + n) 0 24
      have hle := grownCap_le_maxLen w (0 + n) 0 24 (by unfold maxLen; omega)
      rw [hw]
      refine ⟨rfl, .inr ⟨w.heap.size, _, _, rfl, Nat.le_refl _, heap_alloc_new w.drew _, Nat.zero_le _, hle, ?_, by simp⟩⟩
      have e1 : (Value.slice none 0 0).cells = #[.slice none 0 0] := rfl
      rw [e1]
      simp only [Array.size_append, zero_sizeW, List.size_toArray, List.length_nil]
      change 0 + (0 + n - 0) + (grownCap w (0 + n) 0 24 - (0 + n)) = grownCap w (0 + n) 0 24 * 1
      omega
    · rw [hw]
      exact (Below.refl _ _).drew.alloc (Nat.le_refl _) _
def FreshOut (l : List Int) (n : Nat) (w : World) (e : Ending) (w' : World) : Prop := ∃ A c, e = .returned (.slice A n c) ∧ n ≤ c ∧ RR w' w'.heap.size A l.length l ∧ (A = none → l = [] ∧ c = 0) ∧ (∀ b off, A = some ⟨b, off, none⟩ → w.heap.size ≤ b) ∧ Below w.heap.size w w'
set_option maxHeartbeats 2000000 in
theorem fresh_any (A : Option Addr) (c : Nat) (l : List Int) (n : Nat) (hnl : l.length = n) (w : World) (h : RR w w.heap.size A l.length l) (hn : l.length ≤ 1000000) :
    Calls Try.prog 15 #[.slice A n c] w (FreshOut l n w) := by
  obtain ⟨i0, hi0, hz0, hz1, hz2⟩ := info_parts infoRune
  have HNL := Lib.hid hnl
  have H := Lib.hid h
  rw [hnl] at hn
  clear h hnl
  obtain ⟨w1, hrun, hown, hg1⟩ := run_make_full (P := Try.prog) w w.heap.size 24 21 i0 (.int .i32 0) 1 Try.underlying24 hi0 hz0 hz1 .i64 .i64 n (by rw [hz2]; omega) (by simp only [maxLen]; omega) (Nat.le_refl _)
  have hb1 : Below w.heap.size w w1 := (Below.refl _ _).grown hg1 (Nat.le_refl _) (fun k hk => by cases hk)
  obtain ⟨g, hg⟩ : ∃ g, w.heap.size = g := ⟨_, rfl⟩
  rw [hg] at hrun hown
  rcases hown.2 with ⟨h0, _⟩ | ⟨g', cap', cur, hv, hbg, hgc, hnn, hc, hs, ht⟩
  · cases h0
  · injection hv with hv _ hcap
    injection hv with hv
    injection hv with hv
    subst hv hcap
    have hR1 := H.out.belowM hb1
    have HF := Lib.hid (fun (w' : World) (hh : w'.heap[g]? = some (.cells (splice cur.toList 0 (l.map (Value.int .i32))).toArray 21 (0, 0))) (hb : Below w.heap.size w w') => show FreshOut l n w (.returned (.slice (some ⟨g, 0, none⟩) n n)) w' from by
      have hl0 := HNL.out
      have ho : OwnsR w' w.heap.size (.slice (some ⟨g, 0, none⟩) l.length n) l := by
        refine ⟨by simp, .inr ⟨g, n, _, rfl, by omega, hh, by omega, by simp only [maxLen]; omega, ?_, ?_⟩⟩
        · simp only [List.size_toArray]
          rw [length_splice _ _ _ (by simp; omega)]
          simp; omega
        · unfold splice
          simp only [List.take_zero, List.nil_append]
          rw [List.take_append_of_le_length (by simp)]
          rw [List.take_of_length_le (by simp)]
      obtain ⟨A', c', hv, q1, q2, q3⟩ := own_RR ho
      injection hv with hv1 _ hv2
      subst hv1 hv2
      exact ⟨_, n, rfl, Nat.le_refl _, q2, q3, fun b off e => by injection e with e; injection e with e _ _; omega, hb⟩)
    have HS := Lib.hid hs
    have HGC := Lib.hid hgc
    have HB := Lib.hid hb1
    have HR := Lib.hid hR1
    have hcurl : cur.toList.length = n := by simp; omega
    clear hown ht hgc hs hb1 hR1
    go_enter Try.func15, Try.ntmps15
    go_wp2_with (with_reducible refine wpList_copy_splice rfl (.tmp 7) (.tmp 8) 24 24 rfl 21 Try.underlying24 (by kernel_rfl) (some ⟨g, 0, none⟩) A n n n c rfl rfl g 0 cur.toList 21 (by simpa using HGC.out) (l.map (Value.int .i32)) (by simp [HNL.out]) ?c1 ?c2 ?c3 w.heap.size w HB.out (by omega) ?_)
    case c1 =>
      intro hp
      have hl0 := HNL.out
      obtain ⟨b, off, e, hbb, hcell⟩ := HR.out.2 (by simpa using hp)
      subst e
      first
        | refine ⟨rfl, ⟨b, off, none⟩, rfl, fun j v hv => ?_⟩
        | refine ⟨⟨b, off, none⟩, rfl, fun j v hv => ?_⟩
      obtain ⟨hj, e⟩ := List.getElem?_eq_some_iff.1 hv
      rw [← e]
      rw [show ((⟨b, off, none⟩ : Addr).add j) = ⟨b, off + j, none⟩ from by simp [Addr.add]]
      exact hcell j hj
    case c2 => first | (simp [HNL.out]; done) | (simp [HNL.out]; omega)
    case c3 =>
      first
        | (intro v hv; rfl)
        | (intro v hv; obtain ⟨x, _, rfl⟩ := List.mem_map.1 hv; rfl)
    intro w2 hh hb2
    have HFI := Lib.hid (HF.out w2 hh.out (by rw [hg]; exact hb2))
    clear hh hb2
    go_wp2_with (fail)
    go_ret
    exact HFI.out
end Go.Proofs.Ytighbbaggpnfoaa.Wo
