/- The walk of utf.Valid: a range over utf.each that may stop. -/
import Derived.Test.YtjhgboncipnkeaaDoorUtRepair
namespace Go.Proofs.YtjhgboncipnkeaaDoor.Ut
set_option maxRecDepth 100000
open Go Go.RowKit Go.Shelf Go.Proofs.YtjhgboncipnkeaaDoor.Wo
attribute [local go_sem] Oper.semAt_some

theorem ok_prefix {l : List Int} {pre : List (Int × Bool)} (h : pre <+: evL l) (hp : pre.all Prod.snd = false) : okL l = false := by
  obtain ⟨t, e⟩ := h
  rw [← ev_ok, ← e, List.all_append, hp, Bool.false_and]
set_option maxHeartbeats 4000000 in
theorem valid_any (A : Option Addr) (m c : Nat) (l : List Int) (w : World) (h : RY w w.heap.size A m l) (hl : ByteL l) (hm : m ≤ 1099511627776) (hmc : m ≤ c) (hT : Tabs w) :
    Calls Tryd.prog 18 #[.slice A m c] w (RetB (okL l) w) := by
  have HL := Lib.hid hl
  have bO := Boxed.new w 4 (.bool false)
  have hb1 := (Below.refl w.heap.size w).alloc (Nat.le_refl _) (.cells #[.bool false] 4)
  have hsz1 : (w.alloc (.cells #[.bool false] 4)).heap.size = w.heap.size + 1 := by simp
  have HH := Lib.hid h
  have HT := Lib.hid hT
  clear h hl hT
  refine (callsIn_wide (n := 4)).1 ?_
  refine callsIn_of_wp_marks Tryd.func18 rfl trivial ?_ rfl
  simp only [Tryd.ntmps18, List.size_toArray, List.length_cons, List.length_nil, Nat.reduceAdd, Nat.reduceSub, Array.replicate_succ, Array.replicate_zero, List.push_toArray, List.append_toArray, List.nil_append, List.cons_append]
  gi_wp2_with (fail)
  refine ⟨trivial, ?_⟩
  generalize (w.alloc (.cells #[.bool false] 4)) = w1 at *
  refine (callsIn_wide.2 (each_any A m c w1)).mono ?_
  rintro e w2 ⟨rfl, hbx, hb2, hsz2⟩
  have hbW : Below w.heap.size w w2 := hb1.trans (hb2.mono (by omega))
  have bO2 := boxed_below bO hb2 (by omega)
  have hcs := hbx.cell
  rw [hsz1] at hcs
  have hst := each_stopsK 3 (by omega) (w.heap.size + 1) A m c l HL.out hm hmc (keeperP w.heap.size) w2
    (fun W hW => ⟨by have := hW.size; omega, fun g hg => by rw [ptr_boxed (boxed_below bO2 hW (by omega))] at hg; cases hg⟩)
    (fun W k hW e => ⟨by
      rcases e with rfl | rfl | rfl | ⟨hm0, off, e⟩
      · omega
      · have := HT.out.2.2; omega
      · have := HT.out.2.2; omega
      · subst e
        obtain ⟨b', off', e', hb', _⟩ := HH.out.2 hm0
        injection e' with e'
        injection e' with e'
        omega, fun hg => by rw [ptr_boxed (boxed_below bO2 hW (by omega))] at hg; cases hg⟩) hcs ((HH.out.belowM hbW)) (HT.out.below hbW HT.out.2.2)
  rw [hsz1]
  gi_wp2_with (fail)
  have HB1 := Lib.hid hb1
  have HBW := Lib.hid hbW
  clear hcs hb2 hb1 bO hbx
  refine wpIn_rangeFunc_ownF (F := Fence.wide) rfl (by omega) (gf := 37) (lb := #[.pointer (some ⟨w.heap.size + 1, 0, none⟩)]) rfl trivial (enters_of Tryd.func37 (by kernel_rfl) rfl)
    hst (fun h k => (keeperP _).trans h k) (fun W l o o' hl ho hc _ => keepP_put (by omega) ho hc) (Below.refl _ _) (fun _ => rfl)
    (fun pre W => (pre.all Prod.snd = true ∧ Boxed W w.heap.size 4 (.bool false)) ∧ Below w.heap.size w W)
    (fun cd pre W => (cd = .ret ∧ pre.all Prod.snd = false ∧ Boxed W w.heap.size 4 (.bool false)) ∧ Below w.heap.size w W)
    (OwnFrom.and (Own.from (fun s A B row hs hg hr => ⟨hs.1, boxed_kept hs.2 hg hr⟩) _) (ownFrom_below (Nat.le_refl _) (by omega)))
    (fun cd => OwnFrom.and (Own.from (fun s A B row hs hg hr => ⟨hs.1, hs.2.1, boxed_kept hs.2.2 hg hr⟩) _) (ownFrom_below (Nat.le_refl _) (by omega)))
    ⟨⟨rfl, bO2⟩, hbW⟩
    (fun x => { tmps := #[.slice A m c, undef, .pointer (some ⟨w.heap.size, 0, none⟩), undef, .bool x.2, .slice A m c, .func (.func 37) #[] #[.pointer (some ⟨w.heap.size + 1, 0, none⟩)], .int .i32 x.1, .bool x.2, undef, undef], defers := [] }) ?assign ?body ?done ?stop
  case assign =>
    intro l x W K hK
    gi_wp2
    exact hK
  case body =>
    rintro lp pre x W ⟨⟨hall, hv⟩, hB⟩ hlt
    have hc := hv.cell
    have hf := hv.frozen
    have HV := Lib.hid hv
    have HBB := Lib.hid hB
    have HA := Lib.hid hall
    obtain ⟨x1, x2⟩ := x
    clear hst hv hB hlt hbW bO2 hall
    cases x2
    · gi_wp2_with (fail)
      exact ⟨KeepsOthers.setCell _ _ _, ⟨rfl, by rw [List.all_append]; simp, HV.out.set _⟩, HBB.out.setCell (p := ⟨w.heap.size, 0, none⟩) (Nat.le_refl _) _⟩
    · gi_wp2_with (fail)
      exact ⟨KeepsOthers.refl _, (keeperP _).refl _, ⟨by rw [List.all_append, HA.out]; rfl, HV.out⟩, HBB.out⟩
  case done =>
    rintro D ys W hD rfl ⟨⟨hall, hv⟩, hB⟩ hK
    have hc := hv.cell
    have hf := hv.frozen
    rw [ev_ok] at hall
    have hc2 : (W.setCell ⟨w.heap.size, 0, none⟩ (.bool true)).cell? ⟨w.heap.size, 0, none⟩ = some (.bool true) := (hv.set (.bool true)).cell
    have HA := Lib.hid hall
    have hlt := hv.lt
    have hne : D ≠ w.heap.size := by omega
    have hK2 : (W.setCell ⟨w.heap.size, 0, none⟩ (.bool true)).heap[D]? = some (.deferred (some [])) := by
      rw [setCell_other W ⟨w.heap.size, 0, none⟩ D (.bool true) hne]
      exact hK
    have HK2 := Lib.hid hK2
    have HBF := Lib.hid (hB.setCell (p := ⟨w.heap.size, 0, none⟩) (Nat.le_refl _) (.bool true))
    have HC6 := Lib.hid hc2
    clear hst hB hbW bO2 hall hK2 hc2
    gi_wp2_with (fail)
    refine ⟨by simp, .inl ⟨_, _, rfl, run_takeDeferred HK2.out, ?_⟩⟩
    have hc5 := cell_kept HC6.out (grownBy_putObj' _ D (.deferred none)) (fun r e => by cases e; exact ⟨_, HK2.out, rfl⟩)
    refine ⟨.bool true, ?_, by rw [HA.out], HBF.out.trans (belowK_b (w := w) (Nat.le_refl _) _ D _ _ (by omega) HK2.out rfl rfl)⟩
    simp [results, Tryd.f18, go_sem, hc5]
  case stop =>
    rintro D cd pre W hD hpre ⟨⟨rfl, hall, hv⟩, hB⟩ hK
    have hok := ok_prefix hpre hall
    have hc := hv.cell
    have HOK := Lib.hid hok
    have HC6 := Lib.hid hc
    have HB := Lib.hid hB
    clear hst hB hbW bO2 hall hok hc
    gi_wp2_with (fail)
    refine ⟨by simp, .inl ⟨_, _, rfl, run_takeDeferred hK, ?_⟩⟩
    have hc5 := cell_kept HC6.out (grownBy_putObj' _ D (.deferred none)) (fun r e => by cases e; exact ⟨_, hK, rfl⟩)
    refine ⟨.bool false, ?_, by rw [HOK.out], HB.out.trans (belowK_b (w := w) (Nat.le_refl _) _ D _ _ (by omega) hK rfl rfl)⟩
    simp [results, Tryd.f18, go_sem, hc5]
end Go.Proofs.YtjhgboncipnkeaaDoor.Ut
