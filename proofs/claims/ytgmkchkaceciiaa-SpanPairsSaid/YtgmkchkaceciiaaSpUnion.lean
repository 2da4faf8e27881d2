/- The walks of slices.Concat at spans, and of span.Union. -/
import Derived.Test.YtgmkchkaceciiaaSpGrow
import Derived.Test.YtgmkchkaceciiaaSpHelp
namespace Go.Proofs.Ytgmkchkaceciiaa.Sp
set_option maxRecDepth 100000
open Go Go.RowKit Go.Shelf

theorem own_nil {w : World} {base n c : Nat} {A : Option Addr} {o : List Span} (h : OwnsL w base (.slice A n c) o) : A = none → o = [] ∧ c = 0 := by
  intro hA
  subst hA
  obtain ⟨_, h2⟩ := h
  rcases h2 with ⟨hv, hn⟩ | ⟨g, cap, cur, hv, _⟩
  · injection hv with _ _ hc
    exact ⟨List.eq_nil_of_length_eq_zero hn, hc⟩
  · injection hv with hA
    cases hA
def ConcatOut (w : World) (xs : List Span) (e : Ending) (w' : World) : Prop := ∃ v, e = .returned v ∧ OwnsL w' w.heap.size v xs ∧ Below w.heap.size w w'
def SumRel (n n' : Nat) (s i : Value) : Prop := (i = .int .i64 0 ∧ s = .int .i64 0) ∨ (i = .int .i64 1 ∧ s = .int .i64 n) ∨ (i = .int .i64 2 ∧ s = .int .i64 (n + n'))
def CatRel (l r : List Span) (w : World) (v i : Value) (wr : World) : Prop :=
  ((i = .int .i64 0 ∧ OwnsL wr w.heap.size v []) ∨ (i = .int .i64 1 ∧ OwnsL wr w.heap.size v l) ∨ (i = .int .i64 2 ∧ OwnsL wr w.heap.size v (l ++ r))) ∧ Below w.heap.size w wr
theorem own_app {w : World} {base : Nat} {v : Value} {xs ys : List Span} (h : w.ownsRow base 61 2 v (xs.length + ys.length) (flat xs ++ flat ys)) : OwnsL w base v (xs ++ ys) := by
  unfold OwnsL
  rw [flat_append, List.length_append]
  exact h
set_option maxHeartbeats 2000000 in
theorem concat_any (g c c1 c2 : Nat) (A A' : Option Addr) (l r : List Span) (w : World) (hg0 : w.cell? ⟨g, 0, none⟩ = some (.slice A l.length c1)) (hg1 : w.cell? ⟨g, 1, none⟩ = some (.slice A' r.length c2)) (hgs : g < w.heap.size)
    (h : RS w w.heap.size A l.length l) (h' : RS w w.heap.size A' r.length r) (hn : l.length ≤ 68719476736) (hn' : r.length ≤ 68719476736) (hnil : A = none → l = [] ∧ c1 = 0) (hnil' : A' = none → r = [] ∧ c2 = 0) :
    Calls Try.prog 41 #[.slice (some ⟨g, 0, none⟩) 2 c] w (ConcatOut w (l ++ r)) := by
  obtain ⟨i0, hi0, hz0, hz1, hz2⟩ := info_parts infoSpan
  have HNIL := Lib.hid hnil
  have HNIL' := Lib.hid hnil'
  clear hnil hnil'
  go_enter Try.func41, Try.ntmps41
  go_wp2_with (fail)
  go_loop [3, 11] (fun s i => SumRel l.length r.length s i) (fun _ i => 2 - (intOf i).toNat)
  case atStart => exact .inl ⟨rfl, rfl⟩
  case round =>
    rcases hrel with ⟨rfl, rfl⟩ | ⟨rfl, rfl⟩ | ⟨rfl, rfl⟩
    · go_wp2_with (fail)
      go_round
      case rel => exact .inr (.inl ⟨rfl, rfl⟩)
      case measure => simp [intOf]
    · go_wp2_with (fail)
      go_round
      case rel => exact .inr (.inr ⟨rfl, rfl⟩)
      case measure => simp [intOf]
    · go_wp2_with (fail)
      refine (grow_any _ _ (by omega) (by omega)).mono ?_
      rintro e w2 ⟨v2, rfl, ho2, hb2⟩
      have hz2' := hb2.size
      have hg0' : w2.cell? ⟨g, 0, none⟩ = some (.slice A l.length c1) := (hb2.cell hgs).trans hg0
      have hg1' : w2.cell? ⟨g, 1, none⟩ = some (.slice A' r.length c2) := (hb2.cell hgs).trans hg1
      go_wp2_with (fail)
      clear hg0' hg1'
      go_loopw [6, 27] (fun v i wr => CatRel l r w v i wr) (fun _ i _ => 2 - (intOf i).toNat)
      case atStart => exact ⟨.inl ⟨rfl, ho2⟩, hb2⟩
      case round =>
        obtain ⟨hcase, hb⟩ := hrel
        have hzz := hb.size
        rcases hcase with ⟨rfl, ho⟩ | ⟨rfl, ho⟩ | ⟨rfl, ho⟩
        · have HO := Lib.hid ho; clear ho
          have hcell : wr.cell? ⟨g, 0, none⟩ = some (.slice A l.length c1) := (hb.cell hgs).trans hg0
          have HB := Lib.hid hb
          rcases A with _ | ad
          · have E0 := Lib.hid (HNIL.out rfl).1
            rw [(HNIL.out rfl).1, (HNIL.out rfl).2] at hcell
            simp only [List.length_nil] at hcell
            go_wp2_with (at_builtin; go_must (refine wpList_append_own_none rfl _ _ 22 rfl w.heap.size 61 i0 2 Try.underlying22 hi0 _ ([]).length (flat ([])) rfl HO.out rfl ?_))
            go_roundw
            case rel => exact ⟨.inr (.inl ⟨rfl, by rw [E0.out]; exact HO.out⟩), HB.out⟩
            case measure => simp [intOf]
          · have HR := Lib.hid (h.below hb)
            go_wp2_with (at_builtin; go_must (refine wpList_append_own _ rfl _ _ 22 rfl w.heap.size 61 i0 _ 2 16 Try.underlying22 hi0 hz0 hz1 hz2 rfl (by decide) _ ([]).length (flat ([])) rfl HO.out ad l.length c1 (flat l) rfl (flat_length l) (RS_news HR.out) (flat_one l) ?c3 ?c4 ?c5 ?_))
            case c3 => simp only [maxLen, List.length_nil]; omega
            case c4 => simp only [List.length_nil]; omega
            case c5 => omega
            intro v5 w5 hown5 hg5 _
            have HO5 := Lib.hid (show OwnsL w5 w.heap.size v5 l from hown5)
            have HG5 := Lib.hid (HB.out.grown hg5 hzz (own_ge HO.out))
            clear hown5 hg5
            go_wp2_with (fail)
            go_roundw
            case rel => exact ⟨.inr (.inl ⟨rfl, HO5.out⟩), HG5.out⟩
            case measure => simp [intOf]
        · have HO := Lib.hid ho; clear ho
          have hcell : wr.cell? ⟨g, 1, none⟩ = some (.slice A' r.length c2) := (hb.cell hgs).trans hg1
          have HB := Lib.hid hb
          rcases A' with _ | ad
          · have E0 := Lib.hid (HNIL'.out rfl).1
            rw [(HNIL'.out rfl).1, (HNIL'.out rfl).2] at hcell
            simp only [List.length_nil] at hcell
            go_wp2_with (at_builtin; go_must (refine wpList_append_own_none rfl _ _ 22 rfl w.heap.size 61 i0 2 Try.underlying22 hi0 _ (l).length (flat (l)) rfl HO.out rfl ?_))
            go_roundw
            case rel => exact ⟨.inr (.inr ⟨rfl, by rw [E0.out, List.append_nil]; exact HO.out⟩), HB.out⟩
            case measure => simp [intOf]
          · have HR := Lib.hid (h'.below hb)
            go_wp2_with (at_builtin; go_must (refine wpList_append_own _ rfl _ _ 22 rfl w.heap.size 61 i0 _ 2 16 Try.underlying22 hi0 hz0 hz1 hz2 rfl (by decide) _ (l).length (flat (l)) rfl HO.out ad r.length c2 (flat r) rfl (flat_length r) (RS_news HR.out) (flat_one r) ?c3 ?c4 ?c5 ?_))
            case c3 => simp only [maxLen]; omega
            case c4 => omega
            case c5 => omega
            intro v5 w5 hown5 hg5 _
            have HO5 := Lib.hid (own_app hown5)
            have HG5 := Lib.hid (HB.out.grown hg5 hzz (own_ge HO.out))
            clear hown5 hg5
            go_wp2_with (fail)
            go_roundw
            case rel => exact ⟨.inr (.inr ⟨rfl, HO5.out⟩), HG5.out⟩
            case measure => simp [intOf]
        · have HO := Lib.hid ho; clear ho
          go_wp2_with (fail)
          go_ret
          exact ⟨_, rfl, HO.out, hb⟩

theorem mem_cat (l r : List Span) (x : Int) : mem (l ++ r) x ↔ mem l x ∨ mem r x := mem_append
set_option maxHeartbeats 1000000 in
theorem union_any (A A' : Option Addr) (c1 c2 : Nat) (l r : List Span) (w : World) (h : RS w w.heap.size A l.length l) (h' : RS w w.heap.size A' r.length r) (hn : l.length ≤ 68719476736) (hn' : r.length ≤ 68719476736) (hnil : A = none → l = [] ∧ c1 = 0) (hnil' : A' = none → r = [] ∧ c2 = 0) :
    Calls Try.prog 16 #[.slice A l.length c1, .slice A' r.length c2] w (SetOut (fun x => mem l x ∨ mem r x) w) := by
  have hal : Below w.heap.size w (w.alloc (.cells #[.slice A l.length c1, .slice A' r.length c2] 22)) := (Below.refl _ _).alloc (Nat.le_refl _) _
  have H := Lib.hid (concat_any w.heap.size 2 c1 c2 A A' l r (w.alloc (.cells #[.slice A l.length c1, .slice A' r.length c2] 22)) (by simp) (by simp) (by simp) (h.belowM hal) (h'.belowM hal) hn hn' hnil hnil')
  have HB := Lib.hid hal
  clear h h' hnil hnil' hal
  go_enter Try.func16, Try.ntmps16
  go_wp2_with (fail)
  refine H.out.mono ?_
  rintro e w2 ⟨v2, rfl, ho2, hb2⟩
  obtain ⟨A2, c2', hv2, hc2, hr2⟩ := own_RS ho2
  subst hv2
  have HB2 := Lib.hid (HB.out.trans (hb2.mono HB.out.size))
  rw [List.length_append] at hr2
  have HN := Lib.hid (norm_any A2 (l.length + r.length) c2' (l ++ r) w2 hr2 (by omega))
  rw [List.length_append]
  clear ho2 hr2 hb2
  go_wp2_with (fail)
  refine HN.out.mono ?_
  rintro e w3 ⟨v3, o3, rfl, his3, ho3, hb3⟩
  have HI := Lib.hid (his3.congr (mem_cat l r)); clear his3
  go_wp2_with (fail)
  go_ret
  exact ⟨v3, o3, rfl, HI.out, own_mono ho3 HB2.out.size, HB2.out.trans (hb3.mono HB2.out.size)⟩
end Go.Proofs.Ytgmkchkaceciiaa.Sp
