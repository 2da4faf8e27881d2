/- shape.Places of one part: a map that leads from its place to it. -/
import Derived.Test.YtjeogfaiamhhjaaGreatDoorJ17
import Derived.Maps.OwnSet
import Derived.Maps.Views
import Derived.Deep.RegionLaw
import Derived.Deep.AppendLies
namespace Go.Proofs.YtjeogfaiamhhjaaGreatDoor.Sh
set_option maxRecDepth 100000
open Go Go.RowKit Go.Maps Go.Proofs.YtjeogfaiamhhjaaGreatDoor.Sp Go.Proofs.YtjeogfaiamhhjaaGreatDoor.Pa Go.Proofs.YtjeogfaiamhhjaaGreatDoor.Te

/-- An element of the map reads as itself. -/
def RH (v : Value) : Option (DataW Value × List MemPlace) := some (.held v, [])
theorem lawI : Keyed Tryz.prog 3 := int_keyed Tryz.underlying3
theorem zeroP (w : World) : (zeroValue 22).run Tryz.prog w = .ok (.slice none 0 0) w := by kernel_rfl
theorem keyI {a : Int} (h1 : -9223372036854775808 ≤ a) (h2 : a ≤ 9223372036854775807) : keyOf Tryz.prog 3 (.int .i64 a) = some (.int .i64 a) :=
  keyOf_int_mk Tryz.underlying3 (by simp [Lit.wf, IntKind.min, IntKind.max, IntKind.signed, IntKind.bits]; omega)
theorem look_at {W : World} {g n : Nat} {D : DataW Value} (h : W.ownsMap Tryz.prog 3 RH g n D) {a : Int} (h1 : -9223372036854775808 ≤ a) (h2 : a ≤ 9223372036854775807) {v : Value} (hv : D.atKey (.int .i64 a) (.held (.slice none 0 0)) = .held v) :
    (Instr.lookup 127 (.map (some g)) (.int .i64 a) false).run Tryz.prog W = .ok v W := by
  obtain ⟨v', ps, hr, hR⟩ := h.lookup lawI Tryz.underlying127 (zeroP W) (zd := .held (.slice none 0 0)) (zp := []) rfl (keyI h1 h2)
  rw [hv] at hR
  unfold RH at hR
  injection hR with hR
  injection hR with hR _
  injection hR with hR
  rw [hR] at hr
  exact hr
def PlRel (p : PT) (gM : Nat) (w : World) (i : Value) (wr : World) : Prop :=
  (i = .int .i64 0 ∧ wr.ownsMap Tryz.prog 3 RH gM 0 (.map []) ∧ gM < wr.heap.size ∧ Below w.heap.size w wr) ∨
  (i = .int .i64 1 ∧ ∃ D A' c', wr.ownsMap Tryz.prog 3 RH gM 1 D ∧ D.atKey (.int .i64 p.1) (.held (.slice none 0 0)) = .held (.slice A' 1 c') ∧ RP wr wr.heap.size A' 1 [p] ∧ 1 ≤ c' ∧ Below w.heap.size w wr)
def PlacesOut (p : PT) (w : World) (e : Ending) (w' : World) : Prop := ∃ gM D A' c', e = .returned (.map (some gM)) ∧ w'.ownsMap Tryz.prog 3 RH gM 1 D ∧ D.atKey (.int .i64 p.1) (.held (.slice none 0 0)) = .held (.slice A' 1 c') ∧ RP w' w'.heap.size A' 1 [p] ∧ 1 ≤ c' ∧ Below w.heap.size w w'
set_option maxHeartbeats 4000000 in
theorem places_one (A : Option Addr) (c : Nat) (a d t u : Int) (w : World) (h : RP w w.heap.size A 1 [(a, d, t, u)]) (h1 : -9223372036854775808 ≤ a) (h2 : a ≤ 9223372036854775807) :
    Calls Tryz.prog 110 #[.slice A 1 c] w (PlacesOut (a, d, t, u) w) := by
  obtain ⟨i0, hi0, hz0, hz1, hz2⟩ := info_parts infoPart
  have hmm := @run_makeMap Tryz.prog
  have H := Lib.hid h
  clear h
  go_enter Tryz.func110, Tryz.ntmps110
  obtain ⟨gM, hgM⟩ : ∃ gM, w.heap.size = gM := ⟨_, rfl⟩
  obtain ⟨w1, hw1⟩ : ∃ w1, w.alloc (.map #[] 0) = w1 := ⟨_, rfl⟩
  have hb1 : Below w.heap.size w w1 := by rw [← hw1]; exact (Below.refl _ _).alloc (Nat.le_refl _) _
  have hm1 : w1.ownsMap Tryz.prog 3 RH gM 0 (.map []) := by rw [← hw1, ← hgM]; exact World.ownsMap_made _ _ _ _
  have hs1 : w1.heap.size = gM + 1 := by rw [← hw1]; simp [hgM]
  have HST := Lib.hid (show PlRel (a, d, t, u) gM w (.int .i64 0) w1 from .inl ⟨rfl, hm1, by omega, hb1⟩)
  clear hm1 hb1
  go_wp2_with (fail)
  go_loopw [9] (fun i wr => PlRel (a, d, t, u) gM w i wr) (fun i _ => 1 - (intOf i).toNat)
  case atStart => exact HST.out
  case round =>
    rcases hrel with ⟨rfl, hm, hgl, hb⟩ | ⟨rfl, D, A', c', hm, hat, hr, hc, hb⟩
    · obtain ⟨b, off, a0, d0, t0, u0, hA, hbB, ⟨_, e0⟩, f0, f1, f2, f3⟩ := (H.out.belowM hb).at_ (k := 0) (by omega)
      simp only [List.getElem_cons_zero, Prod.mk.injEq] at e0
      obtain ⟨rfl, rfl, rfl, rfl⟩ := e0
      subst hA
      simp only [Nat.zero_mul, Nat.add_zero] at f0 f1 f2 f3
      obtain ⟨B5, hB5⟩ : ∃ B5, wr.heap.size = B5 := ⟨_, rfl⟩
      obtain ⟨w2, hw2⟩ : ∃ w2, wr.alloc (.cells #[.int .i64 a, .int .i64 d, .int .i64 t, .int .i64 u] 57) = w2 := ⟨_, rfl⟩
      have b2 : Below wr.heap.size wr w2 := by rw [← hw2]; exact (Below.refl _ _).alloc (Nat.le_refl _) _
      have hs2 : w2.heap.size = B5 + 1 := by rw [← hw2]; simp [hB5]
      have hm2 : w2.ownsMap Tryz.prog 3 RH gM 0 (.map []) := by rw [← hw2]; exact hm.alloc _
      have g0 : w2.cell? ⟨B5, 0, none⟩ = some (.int .i64 a) := by rw [← hw2, ← hB5]; simp
      have g1 : w2.cell? ⟨B5, 1, none⟩ = some (.int .i64 d) := by rw [← hw2, ← hB5]; simp
      have g2 : w2.cell? ⟨B5, 2, none⟩ = some (.int .i64 t) := by rw [← hw2, ← hB5]; simp
      have g3 : w2.cell? ⟨B5, 3, none⟩ = some (.int .i64 u) := by rw [← hw2, ← hB5]; simp
      have hr1 : (Instr.lookup 127 (.map (some gM)) (.int .i64 a) false).run Tryz.prog w2.drew = .ok (.slice none 0 0) w2.drew := look_at (W := w2.drew) (D := .map []) hm2.drew h1 h2 rfl
      have hr2 : (Instr.lookup 127 (.map (some gM)) (.int .i64 a) false).run Tryz.prog (w2.alloc (.cells #[.int .i64 a, .int .i64 d, .int .i64 t, .int .i64 u] 57)).drew = .ok (.slice none 0 0) (w2.alloc (.cells #[.int .i64 a, .int .i64 d, .int .i64 t, .int .i64 u] 57)).drew := look_at (W := (w2.alloc (.cells #[.int .i64 a, .int .i64 d, .int .i64 t, .int .i64 u] 57)).drew) (D := .map []) (hm2.alloc _).drew h1 h2 rfl
      have HB := Lib.hid hb
      have HM2 := Lib.hid hm2
      clear hm hm2 hb hbB
      have hnews : ∀ jj v, [Value.int .i64 a, .int .i64 d, .int .i64 t, .int .i64 u][jj]? = some v → ((w2.alloc (.cells #[.int .i64 a, .int .i64 d, .int .i64 t, .int .i64 u] 57)).drew).cell? ((⟨B5 + 1, 0, none⟩ : Addr).add jj) = some v := by
        rw [← hs2]
        exact World.news_of_block (w := (w2.alloc (.cells #[.int .i64 a, .int .i64 d, .int .i64 t, .int .i64 u] 57)).drew) (cs := #[.int .i64 a, .int .i64 d, .int .i64 t, .int .i64 u]) (t := 57) (fr := (0, 0)) (heap_alloc_new w2 _)
      have HFIN := Lib.hid (fun (gg capg : Nat) (w4 w5 : World) (hown1 : w4.ownsRow w.heap.size 57 4 (.slice (some ⟨gg, 0, none⟩) 1 capg) 1 [.int .i64 a, .int .i64 d, .int .i64 t, .int .i64 u]) (hgrow : ((w2.alloc (.cells #[.int .i64 a, .int .i64 d, .int .i64 t, .int .i64 u] 57)).drew).grownBy w4 none) (hgg : gg = B5 + 1 + 1) (hm5 : w5.ownsMap Tryz.prog 3 RH gM 1 ((DataW.map []).put (.int .i64 a) (.held (.slice (some ⟨gg, 0, none⟩) 1 capg)))) (hg5 : w4.grownBy w5 (some gM)) => show PlRel (a, d, t, u) gM w (.int .i64 1) w5 from by
        have hx : OwnsP w5 w.heap.size (.slice (some ⟨gg, 0, none⟩) 1 capg) [(a, d, t, u)] := World.ownsRow.kept (show w4.ownsRow w.heap.size 57 4 (.slice (some ⟨gg, 0, none⟩) 1 capg) 1 (flatP [(a, d, t, u)]) from hown1) hg5 (.inr fun q => absurd (show gg = gM by simpa [Value.ownBlock] using q) (by omega))
        obtain ⟨A', c', hv, hr, hc, _⟩ := own_RP hx
        injection hv with hv1 _ hv2
        subst hv1 hv2
        exact .inr ⟨rfl, _, _, _, hm5, atKey_put_same ⟨_, rfl⟩ (lawI.key (keyI h1 h2)) _ _, hr, hc, ((((HB.out.trans (b2.mono HB.out.size)).alloc (by have := HB.out.size; omega) _).drew).grown hgrow (by have := HB.out.size; simp; omega) (fun k hk => by cases hk)).grown hg5 (by have := HB.out.size; have := hgrow.size; simp at this; omega) (fun k hk => by injection hk with hk; omega)⟩)
      clear b2
      go_wp2_with (fail)
      go_region_law ((refine step_append_lies _ (by rfl) _ _ _ (by rfl) w.heap.size 57 i0 _ 4 32 Tryz.underlying22 hi0 hz0 hz1 hz2 rfl (by omega) (.slice none 0 0) 0 [] (by rfl) (World.ownsRow_nil _ _ _ _) ⟨B5 + 1, 0, none⟩ 1 1 [.int .i64 a, .int .i64 d, .int .i64 t, .int .i64 u] (by rfl) (by rfl) hnews (by simp [Value.oneCell']) (by omega) (by simp only [maxLen]; omega) (by omega) (by simp; omega) (B5 + 1 + 1) (by simp [hs2]) ?_; intro gg capg w4 hown1 hgrow hat hltg; have hg04 : w4.cell? ⟨B5, 0, none⟩ = some (.int .i64 a) := hgrow.cell ((World.grownBy_alloc w2 (.cells #[.int .i64 a, .int .i64 d, .int .i64 t, .int .i64 u] 57) none).cell g0 (by simp)) (by simp [Value.ownBlock]); obtain ⟨w5, hr5, hm5, hg5⟩ := (World.ownsMap.kept ((HM2.out.alloc (.cells #[.int .i64 a, .int .i64 d, .int .i64 t, .int .i64 u] 57)).drew) hgrow (by simp [Value.ownBlock])).update lawI Tryz.underlying127 (by unfold maxLen; omega) (keyI h1 h2) (show RH (.slice (some ⟨gg, 0, none⟩) 1 capg) = some (.held (.slice (some ⟨gg, 0, none⟩) 1 capg), []) from rfl)))
      all_goals have HS := Lib.hid (HFIN.out gg capg w4 w5 hown1 hgrow (by rcases hat with q | q; (simp [Value.ownBlock] at q); exact q) hm5 hg5)
      all_goals clear hown1 hgrow hat hltg hm5 hg5 hg04
      all_goals go_wp2_with (fail)
      all_goals go_roundw
      all_goals first
        | exact HS.out
        | (simp [intOf]; done)
        | (simp [intOf]; omega)
    · have HFI := Lib.hid (show PlacesOut (a, d, t, u) w (.returned (.map (some gM))) wr from ⟨gM, D, A', c', rfl, hm, hat, hr, hc, hb⟩)
      clear hm hat hr hc hb
      go_wp2_with (fail)
      go_ret
      exact HFI.out
end Go.Proofs.YtjeogfaiamhhjaaGreatDoor.Sh
