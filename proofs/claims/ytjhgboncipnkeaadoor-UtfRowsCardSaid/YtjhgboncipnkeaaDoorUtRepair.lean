/- The walks of utf.Repair, utf.Valid and utf.Decode: ranges over utf.each. -/
import Derived.Test.YtjhgboncipnkeaaDoorUtEach
import Derived.Maps.OwnIn
namespace Go.Proofs.YtjhgboncipnkeaaDoor.Ut
set_option maxRecDepth 100000
open Go Go.RowKit Go.Shelf Go.Proofs.YtjhgboncipnkeaaDoor.Wo
attribute [local go_sem] Oper.semAt_some

/-- A slice that was made in the call reads as a list of runes. -/
def RunesOut (l : List Int) (w : World) (v : Value) (w' : World) : Prop := ∃ A c, v = .slice A l.length c ∧ RR w' w'.heap.size A l.length l ∧ l.length ≤ c ∧ ((∀ b off, A = some ⟨b, off, none⟩ → w.heap.size ≤ b) ∧ (A = none → c = 0)) ∧ Below w.heap.size w w'
def RepOut (l : List Int) (w : World) (e : Ending) (w' : World) : Prop := ∃ v, e = .returned v ∧ RunesOut l w v w'
def runesV (l : List Int) : List Value := l.map (Value.int .i32)
theorem runes_out {w w' : World} {l : List Int} {v : Value} (h : w'.ownsRow w.heap.size 21 1 v l.length (runesV l)) (hb : Below w.heap.size w w') : RunesOut l w v w' := by
  rcases h.2 with ⟨rfl, hn⟩ | ⟨g, cap, cur, rfl, hg, hr⟩
  · obtain rfl := List.eq_nil_of_length_eq_zero hn
    exact ⟨none, 0, rfl, ⟨rfl, fun h => absurd h (by simp)⟩, Nat.le_refl _, ⟨(fun _ _ e => by cases e), fun _ => rfl⟩, hb⟩
  · refine ⟨some ⟨g, 0, none⟩, cap, rfl, ⟨rfl, fun _ => ⟨g, 0, rfl, (h.lt g rfl).2, fun j hj => ?_⟩⟩, hr.2.1, ⟨(fun b off e => by injection e with e; injection e with e; omega), fun e => by cases e⟩, hb⟩
    rw [Nat.zero_add]
    exact row_cell h j _ (by simp [runesV, hj])
set_option maxHeartbeats 4000000 in
theorem repair_any (A : Option Addr) (m c : Nat) (l : List Int) (w : World) (h : RY w w.heap.size A m l) (hl : ByteL l) (hm : m ≤ 1099511627776) (hmc : m ≤ c) (hT : Tabs w) :
    Calls Tryd.prog 20 #[.slice A m c] w (RepOut (repL l) w) := by
  have hlen := h.1
  have hel := evL_len l hl
  have HL := Lib.hid hl
  have HEL := Lib.hid hel
  have HLEN := Lib.hid hlen
  obtain ⟨i0, hi, hz0, hz1, hz2⟩ := info_parts infoRune
  have bO := Boxed.new w 31 (.slice none 0 0)
  have hb1 := (Below.refl w.heap.size w).alloc (Nat.le_refl _) (.cells #[.slice none 0 0] 31)
  have hsz1 : (w.alloc (.cells #[.slice none 0 0] 31)).heap.size = w.heap.size + 1 := by simp
  have HH := Lib.hid h
  have HT := Lib.hid hT
  clear h hl hel hlen hT
  refine (callsIn_wide (n := 4)).1 ?_
  refine callsIn_of_wp_marks Tryd.func20 rfl trivial ?_ rfl
  simp only [Tryd.ntmps20, List.size_toArray, List.length_cons, List.length_nil, Nat.reduceAdd, Nat.reduceSub, Array.replicate_succ, Array.replicate_zero, List.push_toArray, List.append_toArray, List.nil_append, List.cons_append]
  gi_wp2_with (fail)
  refine ⟨trivial, ?_⟩
  generalize (w.alloc (.cells #[.slice none 0 0] 31)) = w1 at *
  refine (callsIn_wide.2 (each_any A m c w1)).mono ?_
  rintro e w2 ⟨rfl, hbx, hb2, hsz2⟩
  have hbW : Below w.heap.size w w2 := hb1.trans (hb2.mono (by omega))
  have bO2 := boxed_below bO hb2 (by omega)
  have hcs := hbx.cell
  rw [hsz1] at hcs
  have hst := each_stopsK 3 (by omega) (w.heap.size + 1) A m c l HL.out hm hmc (keeperP w.heap.size) w2
    (fun W hW => ⟨by have := hW.size; omega, fun g hg => by rw [ptr_boxed (boxed_below bO2 hW (by omega))] at hg; cases hg⟩)
    (fun W k hW e => ⟨by
      rcases e with rfl | rfl | rfl | ⟨hm0, off, e⟩
      · omega
      · have := HT.out.2.2; omega
      · have := HT.out.2.2; omega
      · subst e
        obtain ⟨b', off', e', hb', _⟩ := HH.out.2 hm0
        injection e' with e'
        injection e' with e'
        omega, fun hg => by rw [ptr_boxed (boxed_below bO2 hW (by omega))] at hg; cases hg⟩) hcs ((HH.out.belowM hbW)) (HT.out.below hbW HT.out.2.2)
  rw [hsz1]
  gi_wp2_with (fail)
  have HB1 := Lib.hid hb1
  have HBW := Lib.hid hbW
  clear hcs hb2 hb1 bO hbx
  refine wpIn_rangeFunc_ownF (F := Fence.wide) rfl (by omega) (gf := 37) (lb := #[.pointer (some ⟨w.heap.size + 1, 0, none⟩)]) rfl trivial (enters_of Tryd.func37 (by kernel_rfl) rfl)
    hst (fun h k => (keeperP _).trans h k) (fun W l o o' hl ho hc _ => keepP_put (by omega) ho hc) (Below.refl _ _) (fun _ => rfl)
    (fun pre W => (∃ v, Boxed W w.heap.size 31 v ∧ W.ownsRow w.heap.size 21 1 v (pre.map Prod.fst).length (runesV (pre.map Prod.fst)) ∧ True) ∧ Below w.heap.size w W)
    (fun _ _ _ => False)
    (OwnFrom.and (Own.from (holdsRow_own w.heap.size w.heap.size 31 21 1 (fun pre : List (Int × Bool) => (pre.map Prod.fst).length) (fun pre => runesV (pre.map Prod.fst)) (fun _ _ => True)) _) (ownFrom_below (Nat.le_refl _) (by omega)))
    (fun _ _ _ _ _ hs _ _ => hs)
    ⟨⟨_, bO2, World.ownsRow_nil _ _ _ _, trivial⟩, hbW⟩
    (fun x => { tmps := #[.slice A m c, undef, .slice none 0 0, .pointer (some ⟨w.heap.size, 0, none⟩), .int .i32 x.1, .slice A m c, .func (.func 37) #[] #[.pointer (some ⟨w.heap.size + 1, 0, none⟩)], .int .i32 x.1, .bool x.2, undef, undef, undef, undef, undef], defers := [] }) ?assign ?body ?done ?stop
  case assign =>
    intro l x W K hK
    gi_wp2
    exact hK
  case body =>
    rintro lp pre x W ⟨⟨v, hv, hrow, -⟩, hB⟩ hlt
    have hc := hv.cell
    have hf := hv.frozen
    have hBl := hv.lt
    have hWs := hB.size
    have HV := Lib.hid hv
    have HROW := Lib.hid hrow
    have HBB := Lib.hid hB
    have hcN : (W.alloc (.cells #[.int .i32 x.1] 21)).cell? ⟨W.heap.size, 0, none⟩ = some (.int .i32 x.1) := by simp
    have hpl : pre.length ≤ 1099511627776 := by have := HEL.out; have := HLEN.out; omega
    clear hst hrow hv hB hlt hbW bO2
    have hpl2 : (pre.map Prod.fst).length = pre.length := List.length_map _
    gi_wp2_with (gi_at_builtin; go_must (refine wpListIn_append_own_at _ rfl _ _ 31 rfl w.heap.size 21 i0 _ 1 4 Tryd.underlying31 hi hz0 hz1 hz2 rfl (by decide) v (pre.map Prod.fst).length (runesV (pre.map Prod.fst)) rfl (HROW.out.alloc _) ⟨W.heap.size, 0, none⟩ 1 1 [.int .i32 x.1] rfl rfl ?c1 ?c2 ?c3 ?c4 ?c5 ?_))
    case c1 => exact World.news_of_block (cs := #[.int .i32 x.1]) (t := 21) (fr := (0, 0)) (heap_alloc_new W _)
    case c2 => simp [Value.oneCell']
    case c3 => simp only [maxLen]; omega
    case c4 => omega
    case c5 => simp; omega
    intro v9 w9 hown9 hg9 _ hat9
    obtain ⟨g9, c9, rfl⟩ := ownsRow_succ hown9
    obtain ⟨hv1, hv2, hr2, hk2, hb2⟩ := HV.out.appended (by decide) HROW.out (by omega) (by omega) hown9 hg9
    have hlt9 : g9 < w9.heap.size := (hown9.lt g9 rfl).2
    have hkp := keepP_append (g := g9) (n := pre.length + 1) (cap := c9) HV.out hv1 (by have := hg9.size; simp at this; omega) (fun k hk hne => by rw [hg9.block k (by simp; omega) hne]; exact Below.heap_alloc W _ k hk) (hat9.imp (fun e => e.symm) (fun e => by have e2 : g9 = W.heap.size + 1 := Option.some.inj e; omega)) hlt9
    have hc1 := hv1.cell
    have hf1 := hv1.frozen
    have HKP := Lib.hid hkp
    have HB9 := Lib.hid (HBB.out.trans hb2)
    have HV2 := Lib.hid hv2
    have HR2 := Lib.hid hr2
    have HK2 := Lib.hid hk2
    have HPL := Lib.hid hpl2
    clear hg9 hown9 hat9 hb2 hv1 hkp hv2 hr2 hk2 hpl2
    gi_wp2_with (fail)
    have e1 : (pre ++ [x]).map Prod.fst = pre.map Prod.fst ++ [x.1] := by simp
    have e2 : runesV (pre.map Prod.fst ++ [x.1]) = runesV (pre.map Prod.fst) ++ [.int .i32 x.1] := by simp [runesV]
    refine ⟨HK2.out, HKP.out, ⟨⟨_, HV2.out, ?_⟩, HB9.out⟩⟩
    first
    | (rw [e1, e2, List.length_append, List.length_map]; exact ⟨HR2.out, trivial⟩)
    | (rw [e1, e2]; simpa using HR2.out)
  case done =>
    rintro D ys W hD rfl ⟨⟨v, hv, hrow, -⟩, hB⟩ hK
    have hc := hv.cell
    rw [ev_rep] at hrow
    have hlr : (repL l).length ≤ 1099511627776 := by have := HEL.out; rw [← ev_rep, List.length_map]; have := HLEN.out; omega
    have HO := Lib.hid (ownsRow_putObj hrow (.deferred none) hK rfl)
    have HBF := Lib.hid (hB.trans (belowK_b (w := w) (Nat.le_refl _) W D _ (.deferred none) (by omega) hK rfl rfl))
    clear hst hrow hv hB hbW bO2 hlr
    gi_wp2_with (fail)
    refine ⟨by simp, .inl ⟨_, _, rfl, run_takeDeferred hK, ?_⟩⟩
    exact ⟨_, results_tmp rfl _ _ _, v, rfl, runes_out HO.out HBF.out⟩
  case stop =>
    rintro D cd pre W hD hpre h hK
    exact h.elim
end Go.Proofs.YtjhgboncipnkeaaDoor.Ut
