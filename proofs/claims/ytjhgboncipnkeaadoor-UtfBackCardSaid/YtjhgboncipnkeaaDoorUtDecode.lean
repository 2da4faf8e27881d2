/- The walk of utf.Decode: a range over utf.each that collects and may stop. -/
import Derived.Test.YtjhgboncipnkeaaDoorUtValid
namespace Go.Proofs.YtjhgboncipnkeaaDoor.Ut
set_option maxRecDepth 100000
open Go Go.RowKit Go.Shelf Go.Proofs.YtjhgboncipnkeaaDoor.Wo
attribute [local go_sem] Oper.semAt_some

def decL (l : List Int) : List Int := if okL l = true then repL l else []
def DecOut (l : List Int) (w : World) (e : Ending) (w' : World) : Prop := ∃ v, e = .returned (.tuple #[v, .bool (okL l)]) ∧ RunesOut (decL l) w v w'
theorem own_shape {w : World} {base e size n : Nat} {v : Value} {xs : List Value} (h : w.ownsRow base e size v n xs) : ∃ A c, v = .slice A n c := by
  rcases h.2 with ⟨rfl, hn⟩ | ⟨g, cap, cur, rfl, _⟩
  · subst hn; exact ⟨none, 0, rfl⟩
  · exact ⟨_, cap, rfl⟩
theorem runes_out' {w w' : World} {base : Nat} {l : List Int} {v : Value} (hbase : w.heap.size ≤ base) (h : w'.ownsRow base 21 1 v l.length (runesV l)) (hb : Below w.heap.size w w') : RunesOut l w v w' := by
  rcases h.2 with ⟨rfl, hn⟩ | ⟨g, cap, cur, rfl, hg, hr⟩
  · obtain rfl := List.eq_nil_of_length_eq_zero hn
    exact ⟨none, 0, rfl, ⟨rfl, fun h => absurd h (by simp)⟩, Nat.le_refl _, (fun _ _ e => by cases e), hb⟩
  · refine ⟨some ⟨g, 0, none⟩, cap, rfl, ⟨rfl, fun _ => ⟨g, 0, rfl, (h.lt g rfl).2, fun j hj => ?_⟩⟩, hr.2.1, (fun b off e => by injection e with e; injection e with e; omega), hb⟩
    rw [Nat.zero_add]
    exact row_cell h j _ (by simp [runesV, hj])
theorem runes_nil {w w' : World} (hb : Below w.heap.size w w') : RunesOut [] w (.slice none 0 0) w' := ⟨none, 0, rfl, ⟨rfl, fun h => absurd h (by simp)⟩, Nat.le_refl _, (fun _ _ e => by cases e), hb⟩
set_option maxHeartbeats 4000000 in
theorem decode_any (A : Option Addr) (m c : Nat) (l : List Int) (w : World) (h : RY w w.heap.size A m l) (hl : ByteL l) (hm : m ≤ 1099511627776) (hmc : m ≤ c) (hT : Tabs w) :
    Calls Tryd.prog 17 #[.slice A m c] w (DecOut l w) := by
  have hlen := h.1
  have hel := evL_len l hl
  have HL := Lib.hid hl
  have HEL := Lib.hid hel
  have HLEN := Lib.hid hlen
  obtain ⟨i0, hi, hz0, hz1, hz2⟩ := info_parts infoRune
  have b1 := Boxed.new w 31 (.slice none 0 0)
  have b2 := Boxed.new (w.alloc (.cells #[.slice none 0 0] 31)) 4 (.bool false)
  have b3 := Boxed.new ((w.alloc (.cells #[.slice none 0 0] 31)).alloc (.cells #[.bool false] 4)) 31 (.slice none 0 0)
  simp only [World.size_alloc] at b2 b3
  have k1 := (b1.alloc (.cells #[.bool false] 4)).alloc (.cells #[.slice none 0 0] 31)
  have k2 := b2.alloc (.cells #[.slice none 0 0] 31)
  have hb1 := (((Below.refl w.heap.size w).alloc (Nat.le_refl _) (.cells #[.slice none 0 0] 31)).alloc (by simp) (.cells #[.bool false] 4)).alloc (by simp; omega) (.cells #[.slice none 0 0] 31)
  have hsz1 : (((w.alloc (.cells #[.slice none 0 0] 31)).alloc (.cells #[.bool false] 4)).alloc (.cells #[.slice none 0 0] 31)).heap.size = w.heap.size + 1 + 1 + 1 := by simp
  have HH := Lib.hid h
  have HT := Lib.hid hT
  clear h hl hel hlen hT b1 b2
  refine (callsIn_wide (n := 4)).1 ?_
  refine callsIn_of_wp_marks Tryd.func17 rfl trivial ?_ rfl
  simp only [Tryd.ntmps17, List.size_toArray, List.length_cons, List.length_nil, Nat.reduceAdd, Nat.reduceSub, Array.replicate_succ, Array.replicate_zero, List.push_toArray, List.append_toArray, List.nil_append, List.cons_append]
  gi_wp2_with (fail)
  refine ⟨trivial, ?_⟩
  generalize (((w.alloc (.cells #[.slice none 0 0] 31)).alloc (.cells #[.bool false] 4)).alloc (.cells #[.slice none 0 0] 31)) = w1 at *
  refine (callsIn_wide.2 (each_any A m c w1)).mono ?_
  rintro e w2 ⟨rfl, hbx, hb2, hsz2⟩
  have hbW : Below w.heap.size w w2 := hb1.trans (hb2.mono (by omega))
  have q1 := boxed_below k1 hb2 (by omega)
  have q2 := boxed_below k2 hb2 (by omega)
  have bO2 := boxed_below b3 hb2 (by omega)
  have hcs := hbx.cell
  rw [hsz1] at hcs
  have hst := each_stopsK 3 (by omega) (w.heap.size + 1 + 1 + 1) A m c l HL.out hm hmc (keeperP (w.heap.size + 1 + 1)) w2
    (fun W hW => ⟨by have := hW.size; omega, fun g hg => by rw [ptr_boxed (boxed_below bO2 hW (by omega))] at hg; cases hg⟩)
    (fun W k hW e => ⟨by
      rcases e with rfl | rfl | rfl | ⟨hm0, off, e⟩
      · omega
      · have := HT.out.2.2; omega
      · have := HT.out.2.2; omega
      · subst e
        obtain ⟨b', off', e', hb', _⟩ := HH.out.2 hm0
        injection e' with e'
        injection e' with e'
        omega, fun hg => by rw [ptr_boxed (boxed_below bO2 hW (by omega))] at hg; cases hg⟩) hcs ((HH.out.belowM hbW)) (HT.out.below hbW HT.out.2.2)
  rw [hsz1]
  gi_wp2_with (fail)
  have HB1 := Lib.hid hb1
  have HBW := Lib.hid hbW
  have hbI : Below (w.heap.size + 1 + 1) w2 w2 := Below.refl _ _
  clear hcs hb2 hb1 b3 hbx k1 k2
  refine wpIn_rangeFunc_ownF (F := Fence.wide) rfl (by omega) (gf := 37) (lb := #[.pointer (some ⟨w.heap.size + 1 + 1 + 1, 0, none⟩)]) rfl trivial (enters_of Tryd.func37 (by kernel_rfl) rfl)
    hst (fun h k => (keeperP _).trans h k) (fun W l o o' hl ho hc _ => keepP_put (by omega) ho hc) (Below.refl _ _) (fun _ => rfl)
    (fun pre W => ((∃ v, Boxed W (w.heap.size + 1 + 1) 31 v ∧ W.ownsRow (w.heap.size + 1 + 1) 21 1 v (pre.map Prod.fst).length (runesV (pre.map Prod.fst)) ∧ True) ∧ (pre.all Prod.snd = true ∧ Boxed W w.heap.size 31 (.slice none 0 0) ∧ Boxed W (w.heap.size + 1) 4 (.bool false))) ∧ Below (w.heap.size + 1 + 1) w2 W)
    (fun cd pre W => (cd = .ret ∧ pre.all Prod.snd = false ∧ Boxed W w.heap.size 31 (.slice none 0 0) ∧ Boxed W (w.heap.size + 1) 4 (.bool false)) ∧ Below w.heap.size w2 W)
    (OwnFrom.and (OwnFrom.and (Own.from (holdsRow_own (w.heap.size + 1 + 1) (w.heap.size + 1 + 1) 31 21 1 (fun pre : List (Int × Bool) => (pre.map Prod.fst).length) (fun pre => runesV (pre.map Prod.fst)) (fun _ _ => True)) _) (Own.from (fun s A B row hs hg hr => ⟨hs.1, boxed_kept hs.2.1 hg hr, boxed_kept hs.2.2 hg hr⟩) _)) (ownFrom_below (by omega) (by omega)))
    (fun cd => OwnFrom.and (Own.from (fun s A B row hs hg hr => ⟨hs.1, hs.2.1, boxed_kept hs.2.2.1 hg hr, boxed_kept hs.2.2.2 hg hr⟩) _) (ownFrom_below (by omega) (by omega)))
    ⟨⟨⟨_, bO2, World.ownsRow_nil _ _ _ _, trivial⟩, rfl, q1, q2⟩, hbI⟩
    (fun x => { tmps := #[.slice A m c, undef, .pointer (some ⟨w.heap.size, 0, none⟩), .pointer (some ⟨w.heap.size + 1, 0, none⟩), .pointer (some ⟨w.heap.size + 1 + 1, 0, none⟩), .int .i32 x.1, .bool x.2, .slice A m c, .func (.func 37) #[] #[.pointer (some ⟨w.heap.size + 1 + 1 + 1, 0, none⟩)], .int .i32 x.1, .bool x.2, undef, undef, undef, undef, undef, undef, undef], defers := [] }) ?assign ?body ?done ?stop
  case assign =>
    intro l x W K hK
    gi_wp2
    exact hK
  case body =>
    rintro lp pre x W ⟨⟨⟨v, hv, hrow, -⟩, hall, r1, r2⟩, hB⟩ hlt
    have hc := hv.cell
    have hf := hv.frozen
    have hBl := hv.lt
    have hWs := hB.size
    have HV := Lib.hid hv
    have HROW := Lib.hid hrow
    have HBB := Lib.hid hB
    have HA := Lib.hid hall
    have c1 := r1.cell
    have f1 := r1.frozen
    have c2 := r2.cell
    have f2 := r2.frozen
    have R1 := Lib.hid r1
    have R2 := Lib.hid r2
    have hpl : pre.length ≤ 1099511627776 := by have := HEL.out; have := HLEN.out; omega
    obtain ⟨x1, x2⟩ := x
    clear hst hrow hv hB hlt hbW bO2 hall r1 r2 q1 q2 hbI
    cases x2
    · gi_wp2_with (fail)
      exact ⟨(KeepsOthers.setCell _ _ _).trans (KeepsOthers.setCell _ _ _), ⟨rfl, by rw [List.all_append]; simp, boxed_far _ (R1.out.set _) (by simp), (boxed_far _ R2.out (by simp)).set _⟩, ((HBB.out.mono (by omega : w.heap.size ≤ w.heap.size + 1 + 1)).setCell (p := ⟨w.heap.size, 0, none⟩) (Nat.le_refl _) _).setCell (p := ⟨w.heap.size + 1, 0, none⟩) (by simp) _⟩
    · have hpl2 : (pre.map Prod.fst).length = pre.length := List.length_map _
      gi_wp2_with (gi_at_builtin; go_must (refine wpListIn_append_own_at _ rfl _ _ 31 rfl (w.heap.size + 1 + 1) 21 i0 _ 1 4 Tryd.underlying31 hi hz0 hz1 hz2 rfl (by decide) v (pre.map Prod.fst).length (runesV (pre.map Prod.fst)) rfl (HROW.out.alloc _) ⟨W.heap.size, 0, none⟩ 1 1 [.int .i32 x1] rfl rfl ?c1 ?c2 ?c3 ?c4 ?c5 ?_))
      case c1 => exact World.news_of_block (cs := #[.int .i32 x1]) (t := 21) (fr := (0, 0)) (heap_alloc_new W _)
      case c2 => simp [Value.oneCell']
      case c3 => simp only [maxLen]; omega
      case c4 => omega
      case c5 => simp; omega
      intro v9 w9 hown9 hg9 _ hat9
      obtain ⟨g9, c9, rfl⟩ := ownsRow_succ hown9
      obtain ⟨hv1, hv2, hr2, hk2, hb2⟩ := HV.out.appended (by decide) HROW.out (by omega) (by omega) hown9 hg9
      have hlt9 : g9 < w9.heap.size := (hown9.lt g9 rfl).2
      have hkp := keepP_append (g := g9) (n := pre.length + 1) (cap := c9) HV.out hv1 (by have := hg9.size; simp at this; omega) (fun k hk hne => by rw [hg9.block k (by simp; omega) hne]; exact Below.heap_alloc W _ k hk) (hat9.imp (fun e => e.symm) (fun e => by have e2 : g9 = W.heap.size + 1 := Option.some.inj e; omega)) hlt9
      have hc9 := hv1.cell
      have hf9 := hv1.frozen
      have r1' := boxed_below R1.out hb2 (by omega)
      have r2' := boxed_below R2.out hb2 (by omega)
      have HKP := Lib.hid hkp
      have HB9 := Lib.hid (HBB.out.trans hb2)
      have HV2 := Lib.hid hv2
      have HR2 := Lib.hid hr2
      have HK2 := Lib.hid hk2
      have HPL := Lib.hid hpl2
      have S1 := Lib.hid r1'
      have S2 := Lib.hid r2'
      clear hg9 hown9 hat9 hb2 hv1 hkp hv2 hr2 hk2 hpl2 r1' r2' c1 f1 c2 f2
      gi_wp2_with (fail)
      have e1 : (pre ++ [(x1, true)]).map Prod.fst = pre.map Prod.fst ++ [x1] := by simp
      have e2 : runesV (pre.map Prod.fst ++ [x1]) = runesV (pre.map Prod.fst) ++ [.int .i32 x1] := by simp [runesV]
      refine ⟨HK2.out, HKP.out, ⟨⟨⟨_, HV2.out, ?_⟩, by rw [List.all_append, HA.out]; rfl, S1.out, S2.out⟩, HB9.out⟩⟩
      first
      | (rw [e1, e2, List.length_append, List.length_map]; exact ⟨HR2.out, trivial⟩)
      | (rw [e1, e2]; simpa using HR2.out)
  case done =>
    rintro D ys W hD rfl ⟨⟨⟨v, hv, hrow, -⟩, hall, r1, r2⟩, hB⟩ hK
    rw [ev_rep] at hrow
    rw [ev_ok] at hall
    obtain ⟨A9, c9, rfl⟩ := own_shape hrow
    have hc := hv.cell
    have c1 := r1.cell
    have f1 := r1.frozen
    have c2 := r2.cell
    have f2 := r2.frozen
    have hWs := hB.size
    have s1 := r1.set (.slice A9 (repL l).length c9)
    have t1 := boxed_far (.slice A9 (repL l).length c9) r2 (C := w.heap.size) (by omega)
    have s2 := boxed_far (.bool true) s1 (C := w.heap.size + 1) (by omega)
    have t2 := t1.set (.bool true)
    have hrow2 : (((W.setCell ⟨w.heap.size, 0, none⟩ (.slice A9 (repL l).length c9)).setCell ⟨w.heap.size + 1, 0, none⟩ (.bool true)).putObj D (.deferred none)).ownsRow (w.heap.size + 1 + 1) 21 1 (.slice A9 (repL l).length c9) (repL l).length (runesV (repL l)) := by
      refine ownsRow_putObj ((hrow.kept (grownBy_setCell' W w.heap.size _) ?_).kept (grownBy_setCell' _ (w.heap.size + 1) _) ?_) _ (o := .deferred (some [])) ?_ rfl
      · exact .inr (fun e => by have := (hrow.lt _ e).1; omega)
      · exact .inr (fun e => by have := (hrow.lt _ e).1; omega)
      · rw [setCell_other _ ⟨w.heap.size + 1, 0, none⟩ D _ (by simp; omega), setCell_other W ⟨w.heap.size, 0, none⟩ D _ (by simp; omega)]
        exact hK
    have hK2 : ((W.setCell ⟨w.heap.size, 0, none⟩ (.slice A9 (repL l).length c9)).setCell ⟨w.heap.size + 1, 0, none⟩ (.bool true)).heap[D]? = some (.deferred (some [])) := by
      rw [setCell_other _ ⟨w.heap.size + 1, 0, none⟩ D _ (by simp; omega), setCell_other W ⟨w.heap.size, 0, none⟩ D _ (by simp; omega)]
      exact hK
    have HK2 := Lib.hid hK2
    have HBF := Lib.hid (HBW.out.trans (((hB.mono (by omega : w.heap.size ≤ w.heap.size + 1 + 1)).setCell (p := ⟨w.heap.size, 0, none⟩) (Nat.le_refl _) (.slice A9 (repL l).length c9)).setCell (p := ⟨w.heap.size + 1, 0, none⟩) (by simp) (.bool true)))
    have HC1 := Lib.hid s2.cell
    have HC2 := Lib.hid t2.cell
    have HRW := Lib.hid hrow2
    have HA := Lib.hid hall
    clear hst hB hbW bO2 hall hK2 hrow hrow2 s1 t1 s2 t2 hv r1 r2 q1 q2 hbI
    gi_wp2_with (fail)
    refine ⟨by simp, .inl ⟨_, _, rfl, run_takeDeferred HK2.out, ?_⟩⟩
    have hc5 := cell_kept HC1.out (grownBy_putObj' _ D (.deferred none)) (fun r e => by cases e; exact ⟨_, HK2.out, rfl⟩)
    have hc6 := cell_kept HC2.out (grownBy_putObj' _ D (.deferred none)) (fun r e => by cases e; exact ⟨_, HK2.out, rfl⟩)
    refine ⟨.tuple #[.slice A9 (repL l).length c9, .bool true], ?_, _, by rw [HA.out], ?_⟩
    · simp [results, Tryd.f17, go_sem, hc5, hc6]
    · unfold decL
      rw [if_pos HA.out]
      exact runes_out' (base := w.heap.size + 1 + 1) (by omega) HRW.out (HBF.out.trans (belowK_b (w := w) (Nat.le_refl _) _ D _ _ (by omega) HK2.out rfl rfl))
  case stop =>
    rintro D cd pre W hD hpre ⟨⟨rfl, hall, r1, r2⟩, hB⟩ hK
    have hok := ok_prefix hpre hall
    have HOK := Lib.hid hok
    have HC1 := Lib.hid r1.cell
    have HC2 := Lib.hid r2.cell
    have HBF := Lib.hid (HBW.out.trans hB)
    clear hst hB hbW bO2 hall hok r1 r2 q1 q2 hbI
    gi_wp2_with (fail)
    refine ⟨by simp, .inl ⟨_, _, rfl, run_takeDeferred hK, ?_⟩⟩
    have hc5 := cell_kept HC1.out (grownBy_putObj' _ D (.deferred none)) (fun r e => by cases e; exact ⟨_, hK, rfl⟩)
    have hc6 := cell_kept HC2.out (grownBy_putObj' _ D (.deferred none)) (fun r e => by cases e; exact ⟨_, hK, rfl⟩)
    refine ⟨.tuple #[.slice none 0 0, .bool false], ?_, _, by rw [HOK.out], ?_⟩
    · simp [results, Tryd.f17, go_sem, hc5, hc6]
    · unfold decL
      rw [if_neg (by rw [HOK.out]; exact Bool.false_ne_true)]
      exact runes_nil (HBF.out.trans (belowK_b (w := w) (Nat.le_refl _) _ D _ _ (by omega) hK rfl rfl))
end Go.Proofs.YtjhgboncipnkeaaDoor.Ut
