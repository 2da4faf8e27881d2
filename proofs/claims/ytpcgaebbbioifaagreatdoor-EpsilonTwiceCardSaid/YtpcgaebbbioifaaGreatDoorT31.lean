import Derived.Test.YtpcgaebbbioifaaGreatDoorT0
import Derived.Test.YtpcgaebbbioifaaGreatDoorT21
import Derived.Test.YtpcgaebbbioifaaGreatDoorT29
import Derived.Test.YtpcgaebbbioifaaGreatDoorT30
set_option maxRecDepth 100000
namespace Go.Proofs.YtpcgaebbbioifaaGreatDoor.Pa
set_option maxHeartbeats 64000000
open Go Go.RowKit Go.Shelf Sp
open Go.Lib (hid)
attribute [local go_sem] Oper.semAt_some
def rsF (U x : Int) : Span := (IntKind.i64.wrap (x * U), IntKind.i64.wrap (x * U))
def raisL (u : Int) (p : List Span) : List Span := if u = 0 then p else (numsL p).map (rsF (pw u))
theorem map_snoc {f : Int → Span} (pre : List Int) (x : Int) : (pre ++ [x]).map f = pre.map f ++ [f x] := by simp
attribute [local go_sem] pw_fold
theorem raise_any (a d t u : Int) (base : Nat) (v : Value) (p : List Span) (w : World) (hown : OwnsL w base v p) (hbase : base ≤ w.heap.size) (hp : Plain p) (hu01 : p ≠ [] → 0 ≤ u ∧ u ≤ 20) :
    Calls Tryz.prog 118 #[prt a d t u, v] w (PutOut w base (raisL u p)) := by
  obtain ⟨A, c, hv, hr, hge, hlc⟩ := own_slice hown
  subst hv
  by_cases hu : u = 0
  · subst hu
    have HO := hid hown
    clear hown hr hge
    go_enter Tryz.func118, Tryz.ntmps118
    go_wp2_with (fail)
    go_ret
    exact ⟨_, rfl, (show OwnsL _ base _ p from World.ownsRow.alloc HO.out _), (Below.refl _ _).alloc hbase _⟩
  have hub : (u == 0) = false := by simpa using hu
  have HR := hid (show raisL u p = (numsL p).map (rsF (pw u)) from if_neg hu)
  have hs := hp.short
  have hpos := pw_pos u
  have hcl := cnt_le hp
  have hnl := numsL_length p hp
  have hlen : (numsL p).length ≤ 2147483650 := by omega
  have HP := hid hp
  have HNL := hid hlen
  obtain ⟨i0, hi, hz0, hz1, hz2⟩ := info_parts infoSpan
  have HU := hid hu01
  clear hu hcl hnl hlen hown hge hu01
  obtain ⟨w0, hw0⟩ : ∃ w0, w.alloc (.cells #[.int .i64 a, .int .i64 d, .int .i64 t, .int .i64 u] 94) = w0 := ⟨_, rfl⟩
  have hbw : Below w.heap.size w w0 := by rw [← hw0]; exact (Below.refl _ w).alloc (Nat.le_refl _) _
  have hsz : w0.heap.size = w.heap.size + 1 := by rw [← hw0]; simp
  have q0 := boxed4 (w := w) (w1 := w0) (by rw [hw0]; exact Below.refl _ _)
  have q3 : w0.cell? ⟨w.heap.size, 3, none⟩ = some (.int .i64 u) := q0.2.2.2
  refine (callsIn_wide (n := 4)).1 ?_
  refine callsIn_of_wp_marks Tryz.func118 rfl trivial ?_ rfl
  simp only [Tryz.ntmps118, List.size_toArray, List.length_cons, List.length_nil, Nat.reduceAdd, Nat.reduceSub, Array.replicate_succ, Array.replicate_zero, List.push_toArray, List.append_toArray, List.nil_append, List.cons_append]
  gi_wp2_with (fail)
  have bO := Boxed.new w0 48 (.slice none 0 0)
  rw [hsz] at bO
  have hb1 : Below w0.heap.size w0 (w0.alloc (.cells #[.slice none 0 0] 48)) := (Below.refl _ _).alloc (Nat.le_refl _) _
  have hsz1 : (w0.alloc (.cells #[.slice none 0 0] 48)).heap.size = w.heap.size + 2 := by simp [hsz]
  have hr1 := (hr.belowM hbw).belowM hb1
  generalize (w0.alloc (.cells #[.slice none 0 0] 48)) = w1 at *
  refine ⟨trivial, ?_⟩
  refine (callsIn_wide.2 (each_any A p.length c p p w1 hr1 (by omega) (Is.self HP.out))).mono ?_
  rintro e w2 ⟨Bs, A2, c2, rfl, hcs, hge, hge2, hr2, hb2⟩
  have hsz2 := hb2.size
  have bO2 := boxed_below bO hb2 (by omega)
  have hbW : Below w0.heap.size w0 w2 := hb1.trans (hb2.mono (by omega))
  have HQ3 := hid q3
  have hst := each_stopsK 3 (by omega) Bs A2 c2 p HP.out (keeperP (w.heap.size + 1)) w2
    (fun W hW => ⟨by have := hW.size; omega, fun g hg => by rw [ptr_boxed (boxed_below bO2 hW (by omega))] at hg; cases hg⟩)
    (fun W b off hW e => ⟨by have := hge2 b off e; omega, fun hg => by rw [ptr_boxed (boxed_below bO2 hW (by omega))] at hg; cases hg⟩) hcs hr2
  have HBW0 := hid hbw
  have HH1 := hid hb1
  clear hcs hge hge2 hr2 hb2 hr1 hr hb1 bO q0 q3 hbw hw0
  gi_wp2_with (fail)
  refine wpIn_rangeFunc_ownF (F := Fence.wide) rfl (by omega) (gf := 141) (lb := #[.pointer (some ⟨Bs, 0, none⟩)]) rfl trivial (enters_of Tryz.func141 (by kernel_rfl) rfl)
    hst (fun h k => (keeperP _).trans h k) (fun W l o o' hl ho hc _ => keepP_put (by omega) ho hc) (Below.refl _ _) (fun _ => rfl)
    (fun pre W => (∃ v, Boxed W (w.heap.size + 1) 48 v ∧ W.ownsRow w0.heap.size 47 2 v (pre.map (rsF (pw u))).length (flat (pre.map (rsF (pw u)))) ∧ True) ∧ Below w0.heap.size w0 W)
    (fun _ _ _ => False)
    (OwnFrom.and (Own.from (holdsRow_own w0.heap.size (w.heap.size + 1) 48 47 2 (fun pre : List Int => (pre.map (rsF (pw u))).length) (fun pre => flat (pre.map (rsF (pw u)))) (fun _ _ => True)) _) (ownFrom_below (Nat.le_refl _) (by omega)))
    (fun _ _ _ _ _ hs _ _ => hs)
    ⟨⟨_, bO2, World.ownsRow_nil _ _ _ _, trivial⟩, hbW⟩
    (fun x => { tmps := #[prt a d t u, .slice A p.length c, .pointer (some ⟨w.heap.size, 0, none⟩), undef, .slice none 0 0, .pointer (some ⟨w.heap.size + 1, 0, none⟩), .int .i64 x, .pointer (some ⟨w.heap.size, 3, none⟩), .int .i64 u, .bool false, undef, .slice A p.length c, .func (.func 141) #[] #[.pointer (some ⟨Bs, 0, none⟩)], .int .i64 x, undef, undef, undef, undef, undef, undef, undef, undef, undef, undef, undef, undef, undef], defers := [] }) ?assign ?body ?done ?stop
  case assign =>
    intro l x W K hK
    gi_wp2
    exact hK
  case body =>
    rintro lp pre x W ⟨⟨v, hv, hrow, -⟩, hB⟩ hlt
    have hc := hv.cell
    have hf := hv.frozen
    have hWs := hB.size
    have q3 : W.cell? ⟨w.heap.size, 3, none⟩ = some (.int .i64 u) := (hB.cell (p := ⟨w.heap.size, 3, none⟩) (by simp; omega)).trans HQ3.out
    have hBl := hv.lt
    obtain ⟨hu0, hu1⟩ := HU.out (fun e => by rw [e] at hlt; simp [numsL] at hlt)
    have c1 : u ≤ 64 := by omega
    have HV := hid hv
    have HROW := hid hrow
    have HBB := hid hB
    have hne : some (w.heap.size + 1) ≠ v.ownBlock := hv.not_row (by decide) hrow
    have hne3 : v.ownBlock ≠ some w.heap.size := fun e => by have := (hrow.lt _ e).1; omega
    clear hst hrow hv hB
    gi_wp2_with (fail)
    refine Ro.wpIn_round (S := (fun w' => w'.cell? ⟨w.heap.size, 3, none⟩ = some (.int .i64 u))) (by kernel_rfl) (Ro.nodefer (by kernel_rfl)) ?hq q3 (fun hHeld => ?_)
    case hq =>
      rintro ⟨a', w', h'⟩
      exact h'
    refine wpAnyH_take (i := 1) (oi := ⟨some 15, .move (.tmp 6), _, _, _, none⟩) (v := ?_) rfl (by kernel_rfl) (by kernel_rfl) (by kernel_rfl) (fun _ _ _ h => h) (Or.inl ⟨by rfl, ?_⟩) (by assumption) ?_
    rotate_left
    · intro w' hSw
      (try dsimp only at hSw)
      go_simp
      all_goals with_reducible rfl
    try simp only [Act.put, sA, sB, sC]
    refine wpAnyH_take (i := 2) (oi := ⟨some 16, .fieldAddr 94 (.tmp 2) 3, _, _, _, none⟩) (v := ?_) rfl (by kernel_rfl) (by kernel_rfl) (by kernel_rfl) (fun _ _ _ h => h) (Or.inl ⟨by rfl, ?_⟩) (by assumption) ?_
    rotate_left
    · intro w' hSw
      (try dsimp only at hSw)
      go_simp
      all_goals with_reducible rfl
    try simp only [Act.put, sA, sB, sC]
    refine wpAnyH_take (i := 3) (oi := ⟨some 17, .load 3 (.tmp 16), _, _, _, none⟩) (v := ?_) rfl (by kernel_rfl) (by kernel_rfl) (by kernel_rfl) (fun _ _ _ h => h) (Or.inl ⟨by rfl, ?_⟩) (by assumption) ?_
    rotate_left
    · intro w' hSw
      (try dsimp only at hSw)
      go_simp
      all_goals with_reducible rfl
    try simp only [Act.put, sA, sB, sC]
    refine wpAnyH_take (i := 4) (oi := ⟨some 18, .binOp .shl 3 (.tmp 15) (.tmp 17) 3, _, _, _, none⟩) (v := ?_) rfl (by kernel_rfl) (by kernel_rfl) (by kernel_rfl) (fun _ _ _ h => h) (Or.inl ⟨by rfl, ?_⟩) (by assumption) ?_
    rotate_left
    · intro w' hSw
      (try dsimp only at hSw)
      go_simp
      all_goals with_reducible rfl
    try simp only [Act.put, sA, sB, sC]
    refine wpAnyH_take (i := 5) (oi := ⟨some 19, .move (.tmp 6), _, _, _, none⟩) (v := ?_) rfl (by kernel_rfl) (by kernel_rfl) (by kernel_rfl) (fun _ _ _ h => h) (Or.inl ⟨by rfl, ?_⟩) (by assumption) ?_
    rotate_left
    · intro w' hSw
      (try dsimp only at hSw)
      go_simp
      all_goals with_reducible rfl
    try simp only [Act.put, sA, sB, sC]
    refine wpAnyH_take (i := 6) (oi := ⟨some 20, .fieldAddr 94 (.tmp 2) 3, _, _, _, none⟩) (v := ?_) rfl (by kernel_rfl) (by kernel_rfl) (by kernel_rfl) (fun _ _ _ h => h) (Or.inl ⟨by rfl, ?_⟩) (by assumption) ?_
    rotate_left
    · intro w' hSw
      (try dsimp only at hSw)
      go_simp
      all_goals with_reducible rfl
    try simp only [Act.put, sA, sB, sC]
    refine wpAnyH_take (i := 7) (oi := ⟨some 21, .load 3 (.tmp 20), _, _, _, none⟩) (v := ?_) rfl (by kernel_rfl) (by kernel_rfl) (by kernel_rfl) (fun _ _ _ h => h) (Or.inl ⟨by rfl, ?_⟩) (by assumption) ?_
    rotate_left
    · intro w' hSw
      (try dsimp only at hSw)
      go_simp
      all_goals with_reducible rfl
    try simp only [Act.put, sA, sB, sC]
    refine wpAnyH_take (i := 8) (oi := ⟨some 22, .binOp .shl 3 (.tmp 19) (.tmp 21) 3, _, _, _, none⟩) (v := ?_) rfl (by kernel_rfl) (by kernel_rfl) (by kernel_rfl) (fun _ _ _ h => h) (Or.inl ⟨by rfl, ?_⟩) (by assumption) ?_
    rotate_left
    · intro w' hSw
      (try dsimp only at hSw)
      go_simp
      all_goals with_reducible rfl
    try simp only [Act.put, sA, sB, sC]
    refine wpAnyH_take (i := 9) (oi := ⟨some 23, .build 47 #[(0, .tmp 18), (1, .tmp 22)], _, _, _, none⟩) (v := ?_) rfl (by kernel_rfl) (by kernel_rfl) (by kernel_rfl) (fun _ _ _ h => h) (Or.inl ⟨by rfl, ?_⟩) (by assumption) ?_
    rotate_left
    · intro w' hSw
      (try dsimp only at hSw)
      go_simp
      all_goals with_reducible rfl
    try simp only [Act.put, sA, sB, sC]
    refine wpAnyH_ready (rs := [0, 10]) (by kernel_rfl) (by simp) ?_
    refine AllReadyH.cons (o := ⟨some 14, .load 48 (.tmp 5), _, _, _, none⟩) rfl (fun K hK => ?_) (AllReadyH.cons (o := ⟨some 24, .buildSlice 48 1 #[(0, .tmp 23)], _, _, _, none⟩) rfl (fun K hK => ?_) AllReadyH.nil)
    · go_simp
      refine hK.out _ _ ?_ (fun hHeld => ?_)
      · first | go_keep | simp [*]
      clear hK K
      try simp only [Act.put, sA, sB, sC]
      refine wpAnyH_ready (rs := [10]) (by kernel_rfl) (by simp) ?_
      refine AllReadyH.cons (o := ⟨some 24, .buildSlice 48 1 #[(0, .tmp 23)], _, _, _, none⟩) rfl (fun K hK => ?_) AllReadyH.nil
      go_simp
      refine hK.out _ _ ?_ (fun hHeld => ?_)
      · first | go_keep | simp [*]
      clear hK K
      try simp only [Act.put, sA, sB, sC]
      refine wpAnyH_ready (rs := [11]) (by kernel_rfl) (by simp) ?_
      refine AllReadyH.cons (o := ⟨some 25, .call { callee := .builtin .append, args := #[.tmp 14, .tmp 24], argTypes := #[48, 48] }, _, _, _, none⟩) rfl (fun K hK => ?_) AllReadyH.nil
      refine step_append_lies _ (by rfl) _ _ _ (by rfl) w0.heap.size 47 i0 _ 2 16 Tryz.underlying48 hi hz0 hz1 hz2 rfl (by omega) v (pre.map (rsF (pw u))).length (flat (pre.map (rsF (pw u)))) (by rfl) ((HROW.out.alloc _).drew)
              ⟨W.heap.size, 0, none⟩ 1 1 [.int .i64 (IntKind.i64.wrap (x * pw u)), .int .i64 (IntKind.i64.wrap (x * pw u))] (by rfl) (by rfl) (World.news_of_block (cs := #[.int .i64 (IntKind.i64.wrap (x * pw u)), .int .i64 (IntKind.i64.wrap (x * pw u))]) (t := 47) (fr := (0, 0)) (heap_alloc_new W _)) (by simp [Value.oneCell'])
              (by omega) (by rw [List.length_map]; have := HNL.out; simp only [maxLen]; omega) (by rw [List.length_map]; have := HNL.out; omega) (by simp; omega) (W.heap.size + 1) (by simp) ?_
      intro gg cap w4 hown1 hgrow hat hlt4
      refine hK.out _ _ ?_ (fun hHeld => ?_)
      · (rw [hgrow.cell_far _ (by simp; omega) (Ne.symm hne3)]; assumption)
      clear hK K
      try simp only [Act.put, sA, sB, sC]
      have hgrow' : (W.alloc (.cells #[.int .i64 (IntKind.i64.wrap (x * pw u)), .int .i64 (IntKind.i64.wrap (x * pw u))] 47)).grownBy w4 v.ownBlock := ⟨hgrow.os, hgrow.tape, hgrow.output, hgrow.size, hgrow.block⟩
      obtain ⟨hv1, hv2, hr2, hk2, hb2⟩ := HV.out.appended (by decide) HROW.out (by omega) (by omega) hown1 hgrow'
      have hkp := keepP_append (n := (pre.map (rsF (pw u))).length + 1) (cap := cap) HV.out hv1 (by have := hgrow'.size; simp at this; omega) (fun k hk hne => by rw [hgrow'.block k (by simp; omega) hne]; exact Below.heap_alloc W _ k hk) (hat.imp id (fun e => by omega)) hlt4
      have hc1 := hv1.cell
      have hf1 := hv1.frozen
      rw [List.length_map] at hv2 hr2 hk2 hb2 hkp
      refine wpAnyH_ready (rs := [12]) (by kernel_rfl) (by simp) ?_
      refine AllReadyH.cons (o := ⟨none, .store 48 (.tmp 5) (.tmp 25), _, _, _, none⟩) rfl (fun K hK => ?_) AllReadyH.nil
      go_simp
      refine hK.out _ _ ?_ (fun hHeld => ?_)
      · first | go_keep | simp [*]
      clear hK K
      try simp only [Act.put, sA, sB, sC]
      refine wpAnyH_done (by kernel_rfl) ?_ _
      gi_wp2_with (fail)
      exact ⟨hk2, hkp, ⟨⟨_, hv2, by rw [map_snoc, flat_append, List.length_append, List.length_map]; exact hr2, trivial⟩, HBB.out.trans hb2⟩⟩
    · go_simp
      refine hK.out _ _ ?_ (fun hHeld => ?_)
      · first | go_keep | simp [*]
      clear hK K
      try simp only [Act.put, sA, sB, sC]
      refine wpAnyH_ready (rs := [0]) (by kernel_rfl) (by simp) ?_
      refine AllReadyH.cons (o := ⟨some 14, .load 48 (.tmp 5), _, _, _, none⟩) rfl (fun K hK => ?_) AllReadyH.nil
      go_simp
      refine hK.out _ _ ?_ (fun hHeld => ?_)
      · first | go_keep | simp [*]
      clear hK K
      try simp only [Act.put, sA, sB, sC]
      refine wpAnyH_ready (rs := [11]) (by kernel_rfl) (by simp) ?_
      refine AllReadyH.cons (o := ⟨some 25, .call { callee := .builtin .append, args := #[.tmp 14, .tmp 24], argTypes := #[48, 48] }, _, _, _, none⟩) rfl (fun K hK => ?_) AllReadyH.nil
      refine step_append_lies _ (by rfl) _ _ _ (by rfl) w0.heap.size 47 i0 _ 2 16 Tryz.underlying48 hi hz0 hz1 hz2 rfl (by omega) v (pre.map (rsF (pw u))).length (flat (pre.map (rsF (pw u)))) (by rfl) ((HROW.out.alloc _).drew)
              ⟨W.heap.size, 0, none⟩ 1 1 [.int .i64 (IntKind.i64.wrap (x * pw u)), .int .i64 (IntKind.i64.wrap (x * pw u))] (by rfl) (by rfl) (World.news_of_block (cs := #[.int .i64 (IntKind.i64.wrap (x * pw u)), .int .i64 (IntKind.i64.wrap (x * pw u))]) (t := 47) (fr := (0, 0)) (heap_alloc_new W _)) (by simp [Value.oneCell'])
              (by omega) (by rw [List.length_map]; have := HNL.out; simp only [maxLen]; omega) (by rw [List.length_map]; have := HNL.out; omega) (by simp; omega) (W.heap.size + 1) (by simp) ?_
      intro gg cap w4 hown1 hgrow hat hlt4
      refine hK.out _ _ ?_ (fun hHeld => ?_)
      · (rw [hgrow.cell_far _ (by simp; omega) (Ne.symm hne3)]; assumption)
      clear hK K
      try simp only [Act.put, sA, sB, sC]
      have hgrow' : (W.alloc (.cells #[.int .i64 (IntKind.i64.wrap (x * pw u)), .int .i64 (IntKind.i64.wrap (x * pw u))] 47)).grownBy w4 v.ownBlock := ⟨hgrow.os, hgrow.tape, hgrow.output, hgrow.size, hgrow.block⟩
      obtain ⟨hv1, hv2, hr2, hk2, hb2⟩ := HV.out.appended (by decide) HROW.out (by omega) (by omega) hown1 hgrow'
      have hkp := keepP_append (n := (pre.map (rsF (pw u))).length + 1) (cap := cap) HV.out hv1 (by have := hgrow'.size; simp at this; omega) (fun k hk hne => by rw [hgrow'.block k (by simp; omega) hne]; exact Below.heap_alloc W _ k hk) (hat.imp id (fun e => by omega)) hlt4
      have hc1 := hv1.cell
      have hf1 := hv1.frozen
      rw [List.length_map] at hv2 hr2 hk2 hb2 hkp
      refine wpAnyH_ready (rs := [12]) (by kernel_rfl) (by simp) ?_
      refine AllReadyH.cons (o := ⟨none, .store 48 (.tmp 5) (.tmp 25), _, _, _, none⟩) rfl (fun K hK => ?_) AllReadyH.nil
      go_simp
      refine hK.out _ _ ?_ (fun hHeld => ?_)
      · first | go_keep | simp [*]
      clear hK K
      try simp only [Act.put, sA, sB, sC]
      refine wpAnyH_done (by kernel_rfl) ?_ _
      gi_wp2_with (fail)
      exact ⟨hk2, hkp, ⟨⟨_, hv2, by rw [map_snoc, flat_append, List.length_append, List.length_map]; exact hr2, trivial⟩, HBB.out.trans hb2⟩⟩
  case done =>
    rintro D ys W hD rfl ⟨⟨v, hv, hrow, -⟩, hB⟩ hK
    have hc := hv.cell
    have HO := hid (show OwnsL (W.putObj D (.deferred none)) base v ((numsL p).map (rsF (pw u))) from own_mono (ownsRow_putObj hrow _ hK rfl) (by omega))
    have HBF := hid ((HBW0.out.mono hbase).trans ((hB.trans (belowK_b (w := w0) (Nat.le_refl _) W D _ (.deferred none) (by omega) hK rfl rfl)).mono (by omega)))
    clear hst hrow hv hB hbW bO2
    gi_wp2_with (fail)
    refine ⟨by simp, .inl ⟨_, _, rfl, run_takeDeferred hK, ?_⟩⟩
    exact ⟨_, results_tmp rfl _ _ _, v, rfl, by rw [HR.out]; exact HO.out, HBF.out⟩
  case stop =>
    rintro D cd pre W hD hpre h hK
    exact h.elim
end Go.Proofs.YtpcgaebbbioifaaGreatDoor.Pa
namespace Go.Proofs.YtpcgaebbbioifaaGreatDoor.Pa
open Go Sp
def ImgS (d t u : Int) (s : List Span) (y : Int) : Prop:=∃ x,DomS d t u s x∧valI d t u x = y
def takL (d t : Int) (p : List Span) : List Span:=p.flatMap fun q=>takeP d t q.1 q.2
theorem takL_next {d t : Int} {p : List Span} {k : Nat} {lo hi : Int} (hk : ∃ hl : k < p.length,p[k] = (lo,hi)) : takL d t (p.take (k + 1)) = takL d t (p.take k) ++ takeP d t lo hi:=by
 obtain ⟨hl,e⟩:=hk
 rw [List.take_succ_eq_append_getElem hl,takL,List.flatMap_append,e]
 simp [takL]
theorem takL_len (d t : Int) (p : List Span) : (takL d t p).length≤2 * p.length:=by
 induction p with
 | nil=>simp [takL]
 | cons q p ih=>
  have : takL d t (q :: p) = takeP d t q.1 q.2 ++ takL d t p:=rfl
  rw [this,List.length_append,List.length_cons]
  have:=takeP_len d t q.1 q.2
  omega
theorem takL_mem {d t : Int} (ht : t≤21) {p : List Span} (hp : Low p) (y : Int) : mem (takL d t p) y↔∃ x,mem p x∧x / pw d % pw t = y:=by
 induction p with
 | nil=>
  constructor
  ·intro h;exact absurd h (mem_nil y)
  ·rintro ⟨x,h,_⟩;exact absurd h (mem_nil x)
 | cons q p ih=>
  have hq:=hp q (by simp)
  have ih:=ih (fun r hr=>hp r (by simp [hr]))
  have e : takL d t (q :: p) = takeP d t q.1 q.2 ++ takL d t p:=rfl
  rw [e,mem_append,ih,takeP_mem hq.2.1 ht]
  constructor
  ·rintro (⟨x,a,b,c⟩ | ⟨x,a,b⟩)
   ·exact ⟨x,mem_cons.2 (.inl ⟨by unfold Rng;omega,a,b⟩),c⟩
   ·exact ⟨x,mem_cons.2 (.inr a),b⟩
  ·rintro ⟨x,a,c⟩
   rcases mem_cons.1 a with ⟨_,a1,a2⟩ | a
   ·exact .inl ⟨x,a1,a2,c⟩
   ·exact .inr ⟨x,a,c⟩
theorem seg_mem : ∀ (n : Nat) (lo x : Int),x∈seg lo n↔lo≤x∧x < lo + n:=by
 intro n
 induction n with
 | zero=>intro lo x;simp [seg] <;> omega
 | succ n ih=>intro lo x;rw [seg,List.mem_cons,ih];omega
theorem seg_sorted : ∀ (n : Nat) (lo : Int),(seg lo n).Pairwise (· < ·):=by
 intro n
 induction n with
 | zero=>intro lo;exact List.Pairwise.nil
 | succ n ih=>intro lo;rw [seg];exact List.Pairwise.cons (fun x hx=>by have:=(seg_mem n (lo + 1) x).1 hx;omega) (ih _)
theorem numsL_mem : ∀ (p : List Span),Plain p→∀ x,x∈numsL p↔mem p x:=by
 intro p
 induction p with
 | nil=>intro _ x;simp [numsL,mem_nil]
 | cons q p ih=>
  intro h x
  have hc:=h.cons
  have ho:=hc.1
  unfold Ok at ho
  rw [numsL,List.mem_append,seg_mem,ih hc.2.1 x,mem_cons]
  unfold Rng
  constructor
  all_goals
   rintro (a | a)
   ·exact .inl (by omega)
   ·exact .inr a
theorem numsL_sorted : ∀ (p : List Span),Plain p→(numsL p).Pairwise (· < ·):=by
 intro p
 induction p with
 | nil=>intro _;exact List.Pairwise.nil
 | cons q p ih=>
  intro h
  have hc:=h.cons
  have ho:=hc.1
  unfold Ok at ho
  rw [numsL]
  refine List.pairwise_append.2 ⟨seg_sorted _ _,ih hc.2.1,fun a ha b hb=>?_⟩
  have h1:=(seg_mem _ _ a).1 ha
  obtain ⟨_,r,hr,h2,h3⟩:=(numsL_mem p hc.2.1 b).1 hb
  have:=hc.2.2 r hr
  omega
theorem rais_is {p : List Span} {u : Int} (hp : Plain p) (hl : ∀ y,mem p y→0≤y∧y≤63) (hu1 : 1≤u) (hu2 : u≤20) : Is ((numsL p).map (rsF (pw u))) fun v=>∃ y,mem p y∧y * pw u = v:=by
 have h2:=pw_two hu1
 have h20:=pw_le hu2 pw20
 have hb : ∀ y,mem p y→0≤y * pw u∧y * pw u≤66060288:=fun y hy=>mul_bound (A:=63) (B:=1048576) (hl y hy).1 (hl y hy).2 (by omega) h20
 have hf : ∀ y,mem p y→rsF (pw u) y = (y * pw u,y * pw u):=fun y hy=>by
  have:=hb y hy
  unfold rsF
  rw [IntWalk.i64_in _ (by omega)]
 refine ⟨⟨?_,?_⟩,fun v=>?_⟩
 ·rw [List.pairwise_map]
  refine (numsL_sorted p hp).imp_of_mem fun {a b} ha hb' hab=>?_
  rw [hf a ((numsL_mem p hp a).1 ha),hf b ((numsL_mem p hp b).1 hb')]
  simp only
  have:=Int.mul_le_mul_of_nonneg_right (show a + 1≤b by omega) (show 0≤pw u by omega)
  rw [Int.add_mul,Int.one_mul] at this
  omega
 ·intro q hq
  obtain ⟨y,hy,rfl⟩:=List.mem_map.1 hq
  have hy:=(numsL_mem p hp y).1 hy
  rw [hf y hy]
  have:=hb y hy
  unfold Ok
  simp only
  omega
 ·unfold mem
  constructor
  ·rintro ⟨_,q,hq,a,b⟩
   obtain ⟨y,hy,rfl⟩:=List.mem_map.1 hq
   have hy:=(numsL_mem p hp y).1 hy
   rw [hf y hy] at a b
   simp only at a b
   exact ⟨y,hy,by omega⟩
  ·rintro ⟨y,hy,rfl⟩
   have:=hb y hy
   refine ⟨by unfold Rng;omega,rsF (pw u) y,List.mem_map.2 ⟨y,(numsL_mem p hp y).2 hy,rfl⟩,?_⟩
   rw [hf y hy]
   exact ⟨Int.le_refl _,Int.le_refl _⟩
theorem img_is {d t u : Int} {s own tk : List Span} (hown : Is own (DomS d t u s)) (htk : Is tk (mem (takL d t own))) : Is (raisL u tk) (ImgS d t u s):=by
 by_cases hb : Bits d t u
 ·have hlow : Low own:=low_of hown.1 fun x hx=>((hown.2 x).1 hx).2.2
  have hk : ∀ y,mem tk y↔∃ x,DomS d t u s x∧x / pw d % pw t = y:=fun y=>by
   rw [htk.2,takL_mem hb.2.2.2.1 hlow]
   constructor
   ·rintro ⟨x,a,b⟩;exact ⟨x,(hown.2 x).1 a,b⟩
   ·rintro ⟨x,a,b⟩;exact ⟨x,(hown.2 x).2 a,b⟩
  obtain ⟨b1,b2,b3,b4,b5,b6,b7⟩:=hb
  by_cases hu : u = 0
  ·subst hu
   rw [raisL,if_pos rfl]
   refine ⟨htk.1,fun y=>?_⟩
   rw [hk]
   unfold ImgS valI
   rw [pw_zero]
   simp only [Int.mul_one]
  ·rw [raisL,if_neg hu]
   refine (rais_is htk.1 (fun y hy=>?_) (by omega) b6).congr fun v=>?_
   ·obtain ⟨x,_,rfl⟩:=(hk y).1 hy
    have:=mod_lt (x / pw d) t
    have:=pw_le (show t≤6 by omega) pw6
    omega
   ·constructor
    ·rintro ⟨y,hy,rfl⟩
     obtain ⟨x,a,rfl⟩:=(hk y).1 hy
     exact ⟨x,a,rfl⟩
    ·rintro ⟨x,a,rfl⟩
     exact ⟨_,(hk _).2 ⟨x,a,rfl⟩,rfl⟩
 ·have h1 : own = []:=hown.nil_iff.2 fun x hx=>hb hx.1
  subst h1
  have h2 : tk = []:=htk.nil_iff.2 fun x hx=>mem_nil x hx
  subst h2
  have e : raisL u [] = []:=by unfold raisL;split <;> rfl
  rw [e]
  exact ⟨Plain.nil,fun y=>⟨fun h=>absurd h (mem_nil y),fun ⟨x,hx,_⟩=>absurd hx.1 hb⟩⟩
theorem bits_up {d t u : Int} {s own tk : List Span} (hown : Is own (DomS d t u s)) (htk : Is tk (mem (takL d t own))) (hne : tk≠[]) : 0≤u∧u≤20:=by
 by_cases hb : Bits d t u
 ·exact ⟨hb.2.2.2.2.1,hb.2.2.2.2.2.1⟩
 ·have h1 : own = []:=hown.nil_iff.2 fun x hx=>hb hx.1
  subst h1
  exact absurd (htk.nil_iff.2 fun x hx=>mem_nil x hx) hne
end Go.Proofs.YtpcgaebbbioifaaGreatDoor.Pa
namespace Go.Proofs.YtpcgaebbbioifaaGreatDoor.Pa
set_option maxHeartbeats 64000000
open Go Go.RowKit Sp
open Go.Lib (hid)
def ImgRel (d t : Int) (p : List Span) (w2 : World) (v i : Value) (wr : World) : Prop:=∃ k : Nat,k≤p.length∧i = .int .i64 k∧OwnsL wr w2.heap.size v (takL d t (p.take k))∧Below w2.heap.size w2 wr
theorem image_any (a d t u : Int) (A : Option Addr) (n c : Nat) (s : List Span) (w : World) (h : RS w w.heap.size A n s) (hn : n≤1099511627776) (hc : n≤c) :
  Calls Tryz.prog 95 #[prt a d t u,.slice A n c] w (SetOut (ImgS d t u s) w):=by
 have HV:=hid (fun W (hW : RS W W.heap.size A n s)=>valued_any a d t u A n c s W hW hn hc)
 have H:=hid h
 obtain ⟨w0,hw0⟩ : ∃ w0,w.alloc (.cells #[.int .i64 a,.int .i64 d,.int .i64 t,.int .i64 u] 94) = w0:=⟨_,rfl⟩
 have hbw : Below w.heap.size w w0:=by rw [← hw0];exact (Below.refl _ w).alloc (Nat.le_refl _) _
 have hz0 : w0.heap.size = w.heap.size + 1:=by rw [← hw0];simp
 have q0 : ∀ (W : World),Below w0.heap.size w0 W→W.cell? ⟨w.heap.size,0,none⟩ = some (.int .i64 a)∧W.cell? ⟨w.heap.size,1,none⟩ = some (.int .i64 d)∧W.cell? ⟨w.heap.size,2,none⟩ = some (.int .i64 t)∧W.cell? ⟨w.heap.size,3,none⟩ = some (.int .i64 u):=by
  rw [← hw0];exact fun W hW=>boxed4 hW
 obtain ⟨q1,q2,q3,q4⟩:=q0 w0 (Below.refl _ _)
 have Q0:=hid q0
 have HW:=hid hbw
 clear h q0 hbw hn hc
 go_enter Tryz.func95,Tryz.ntmps95
 go_wp2_with (fail)
 refine (HV.out _ (H.out.belowM HW.out)).mono ?_
 rintro e w2 ⟨v2,p,rfl,his,ho,hb2⟩
 obtain ⟨A2,c2,hv2,hc2,hr2⟩:=own_RS ho
 subst hv2
 have hz2:=hb2.size
 have hs:=his.1.short
 have HI:=hid his
 have HR:=hid hr2
 have HB2:=hid hb2
 have hlow : p≠[]→Bits d t u∧Low p:=fun hp=>by
  have hl : Low p:=low_of his.1 fun x hx=>((his.2 x).1 hx).2.2
  obtain ⟨q,l,rfl⟩:=List.exists_cons_of_ne_nil hp
  obtain ⟨x1,x2,x3⟩:=his.1.2 q (by simp)
  exact ⟨((his.2 q.1).1 ⟨by unfold Rng;omega,q,by simp,Int.le_refl _,x1⟩).1,hl⟩
 have HL:=hid hlow
 clear q1 q2 q3 q4 hw0 his hr2 ho hb2 hlow HV
 go_wp2_with (fail)
 go_loopw [5,12] (fun v i wr=>ImgRel d t p w2 v i wr) (fun _ i _=>p.length - (intOf i).toNat)
 case atStart=>exact ⟨0,Nat.zero_le _,rfl,World.ownsRow_nil _ _ _ _,Below.refl _ _⟩
 case round=>
  obtain ⟨k,hk,rfl,ho,hb⟩:=hrel
  have hz:=hb.size
  have HO:=hid ho
  have HB:=hid hb
  by_cases hlt : k < p.length
  ·obtain ⟨b,off,lo,hi,hA,hbB,hlk,hc1,hc2'⟩:=(HR.out.below hb).at_ hlt
   have hbs : b < wr.heap.size:=by omega
   obtain ⟨hbits,hl⟩:=HL.out (fun e=>by rw [e] at hlt;simp at hlt)
   have hq:=hl p[k] (List.getElem_mem hlt)
   have hq0 : 0≤lo∧lo≤hi∧hi≤2097151:=by obtain ⟨hl1,e1⟩:=hlk;rw [e1] at hq;exact hq
   have HNX:=hid (takL_next (d:=d) (t:=t) hlk)
   have hlen:=takL_len d t (p.take k)
   rw [List.length_take] at hlen
   have HBI:=hid hbits
   obtain ⟨r0,r1,r2,r3⟩:=Q0.out wr (HB2.out.trans (hb.mono hz2))
   have hwz : w.heap.size < wr.heap.size:=by omega
   clear hlk hq hl hbits ho hb
   subst hA
   go_wp2_with (fail)
   refine (take_any w2.heap.size _ (takL d t (p.take k)) a d t u lo hi _ (show OwnsL _ _ _ _ from World.ownsRow.alloc HO.out _) (by simp;omega) (by omega) HBI.out hq0.1 hq0.2.1 hq0.2.2).mono ?_
   rintro e w3 ⟨v3,rfl,ho3,hb3⟩
   have HO3:=hid ho3
   have HB3:=hid ((HB.out.alloc hz _).trans hb3)
   clear ho3 hb3
   go_wp2_with (fail)
   go_roundw
   case rel=>exact ⟨k + 1,by omega,by go_num,by rw [HNX.out];exact HO3.out,HB3.out⟩
   case measure=>simp [intOf];omega
  ·have hT : p.take k = p:=List.take_of_length_le (by omega)
   rw [hT] at ho
   obtain ⟨A5,c5,hv5,hc5,hr5⟩:=own_RS ho
   subst hv5
   have hlen:=takL_len d t p
   have hbB : Below w0.heap.size w0 wr:=HB2.out.trans (hb.mono hz2)
   obtain ⟨r0,r1,r2,r3⟩:=Q0.out wr hbB
   have HR5:=hid hr5
   have HBB:=hid hbB
   have HWB:=hid (HW.out.trans (hbB.mono (by omega)))
   have hwz : w.heap.size < wr.heap.size:=by have:=hbB.size;omega
   clear hT ho hr5 hb HO hbB HB
   go_wp2_with (fail)
   go_region_held3 (fun w'=>w'.cell? ⟨w.heap.size,0,none⟩ = some (.int .i64 a)∧w'.cell? ⟨w.heap.size,1,none⟩ = some (.int .i64 d)∧w'.cell? ⟨w.heap.size,2,none⟩ = some (.int .i64 t)∧w'.cell? ⟨w.heap.size,3,none⟩ = some (.int .i64 u))
    (first
     | go_keep
     | (go_split_ands;refine ⟨?_,?_,?_,?_⟩;all_goals (rw [hb7.cell (by simp;omega)];assumption))
     | (go_split_ands;refine ⟨?_,?_,?_,?_⟩;all_goals (rw [hb6.cell (by simp;omega)];assumption)))
    (first
     | (go_at_call 100;refine (norm_any A5 (takL d t p).length c5 (takL d t p) _ (HR5.out.belowM (Below.refl _ wr).drew) (by omega)).mono ?_;rintro e w6 ⟨v6,tk,rfl,his6,ho6,hb6⟩;have hz6 : wr.heap.size≤w6.heap.size:=by (have:=hb6.size;simpa using this))
     | (go_at_call 118;refine (raise_any a d t u wr.heap.size v6 tk _ (own_mono ho6 (by simp)) hz6 his6.1 (fun hne=>?_)).mono ?_;(· exact bits_up HI.out his6 hne);rintro e w7 ⟨v7,rfl,ho7,hb7⟩))
   have HIM:=hid (img_is HI.out his6)
   have HO7:=hid (own_mono ho7 (Nat.le_of_lt hwz))
   have HB7:=hid ((HWB.out.drew.trans (hb6.mono (by simp;omega))).trans (hb7.mono (Nat.le_of_lt hwz)))
   clear ho7 hb7 ho6 hb6 his6
   go_wp2_with (fail)
   go_ret
   exact ⟨v7,_,rfl,HIM.out,HO7.out,HB7.out⟩
end Go.Proofs.YtpcgaebbbioifaaGreatDoor.Pa
