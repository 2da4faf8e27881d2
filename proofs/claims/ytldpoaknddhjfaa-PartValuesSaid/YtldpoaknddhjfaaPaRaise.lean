/- The walk of part.raise: a range over span.Each that collects. -/
import Derived.Test.YtldpoaknddhjfaaPaRounds
import Derived.Test.YtldpoaknddhjfaaSpGone
import Derived.Test.YtldpoaknddhjfaaRoHeld
import Derived.Test.YtldpoaknddhjfaaSpEachK
import Derived.Maps.AppendAt
namespace Go.Proofs.Ytldpoaknddhjfaa.Pa
set_option maxRecDepth 100000
open Go Go.RowKit Go.Shelf Go.Proofs.Ytldpoaknddhjfaa.Sp
attribute [local go_sem] Oper.semAt_some

def rsF (U x : Int) : Span := (IntKind.i64.wrap (x * U), IntKind.i64.wrap (x * U))
def raisL (u : Int) (p : List Span) : List Span := if u = 0 then p else (numsL p).map (rsF (pw u))
theorem map_snoc {f : Int → Span} (pre : List Int) (x : Int) : (pre ++ [x]).map f = pre.map f ++ [f x] := by simp

attribute [local go_sem] pw_fold
set_option maxHeartbeats 4000000 in
theorem raise_any (a d t u : Int) (base : Nat) (v : Value) (p : List Span) (w : World) (hown : OwnsL w base v p) (hbase : base ≤ w.heap.size) (hp : Plain p) (hu01 : p ≠ [] → 0 ≤ u ∧ u ≤ 20) :
    Calls Try.prog 19 #[prt a d t u, v] w (PutOut w base (raisL u p)) := by
  obtain ⟨A, c, hv, hr, hge, hlc⟩ := own_slice hown
  subst hv
  by_cases hu : u = 0
  · subst hu
    have HO := Lib.hid hown
    clear hown hr hge
    go_enter Try.func19, Try.ntmps19
    go_wp2_with (fail)
    go_ret
    exact ⟨_, rfl, (show OwnsL _ base _ p from World.ownsRow.alloc HO.out _), (Below.refl _ _).alloc hbase _⟩
  have hub : (u == 0) = false := by simpa using hu
  have HR := Lib.hid (show raisL u p = (numsL p).map (rsF (pw u)) from if_neg hu)
  have hs := hp.short
  have hpos := pw_pos u
  have hcl := cnt_le hp
  have hnl := numsL_length p hp
  have hlen : (numsL p).length ≤ 2147483650 := by omega
  have HP := Lib.hid hp
  have HNL := Lib.hid hlen
  obtain ⟨i0, hi, hz0, hz1, hz2⟩ := info_parts infoSpan
  have HU := Lib.hid hu01
  clear hu hcl hnl hlen hown hge hu01
  obtain ⟨w0, hw0⟩ : ∃ w0, w.alloc (.cells #[.int .i64 a, .int .i64 d, .int .i64 t, .int .i64 u] 23) = w0 := ⟨_, rfl⟩
  have hbw : Below w.heap.size w w0 := by rw [← hw0]; exact (Below.refl _ w).alloc (Nat.le_refl _) _
  have hsz : w0.heap.size = w.heap.size + 1 := by rw [← hw0]; simp
  have q0 := boxed4 (w := w) (w1 := w0) (by rw [hw0]; exact Below.refl _ _)
  have q3 : w0.cell? ⟨w.heap.size, 3, none⟩ = some (.int .i64 u) := q0.2.2.2
  refine (callsIn_wide (n := 4)).1 ?_
  refine callsIn_of_wp_marks Try.func19 rfl trivial ?_ rfl
  simp only [Try.ntmps19, List.size_toArray, List.length_cons, List.length_nil, Nat.reduceAdd, Nat.reduceSub, Array.replicate_succ, Array.replicate_zero, List.push_toArray, List.append_toArray, List.nil_append, List.cons_append]
  gi_wp2_with (fail)
  have bO := Boxed.new w0 35 (.slice none 0 0)
  rw [hsz] at bO
  have hb1 : Below w0.heap.size w0 (w0.alloc (.cells #[.slice none 0 0] 35)) := (Below.refl _ _).alloc (Nat.le_refl _) _
  have hsz1 : (w0.alloc (.cells #[.slice none 0 0] 35)).heap.size = w.heap.size + 2 := by simp [hsz]
  have hr1 := (hr.belowM hbw).belowM hb1
  generalize (w0.alloc (.cells #[.slice none 0 0] 35)) = w1 at *
  refine ⟨trivial, ?_⟩
  refine (callsIn_wide.2 (each_any A p.length c p p w1 hr1 (by omega) (Is.self HP.out))).mono ?_
  rintro e w2 ⟨Bs, A2, c2, rfl, hcs, hge, hge2, hr2, hb2⟩
  have hsz2 := hb2.size
  have bO2 := boxed_below bO hb2 (by omega)
  have hbW : Below w0.heap.size w0 w2 := hb1.trans (hb2.mono (by omega))
  have HQ3 := Lib.hid q3
  have hst := each_stopsK 3 (by omega) Bs A2 c2 p HP.out (keeperP (w.heap.size + 1)) w2
    (fun W hW => ⟨by have := hW.size; omega, fun g hg => by rw [ptr_boxed (boxed_below bO2 hW (by omega))] at hg; cases hg⟩)
    (fun W b off hW e => ⟨by have := hge2 b off e; omega, fun hg => by rw [ptr_boxed (boxed_below bO2 hW (by omega))] at hg; cases hg⟩) hcs hr2
  have HBW0 := Lib.hid hbw
  have HH1 := Lib.hid hb1
  clear hcs hge hge2 hr2 hb2 hr1 hr hb1 bO q0 q3 hbw hw0
  gi_wp2_with (fail)
  refine wpIn_rangeFunc_ownF (F := Fence.wide) rfl (by omega) (gf := 31) (lb := #[.pointer (some ⟨Bs, 0, none⟩)]) rfl trivial (enters_of Try.func31 (by kernel_rfl) rfl)
    hst (fun h k => (keeperP _).trans h k) (fun W l o o' hl ho hc _ => keepP_put (by omega) ho hc) (Below.refl _ _) (fun _ => rfl)
    (fun pre W => (∃ v, Boxed W (w.heap.size + 1) 35 v ∧ W.ownsRow w0.heap.size 38 2 v (pre.map (rsF (pw u))).length (flat (pre.map (rsF (pw u)))) ∧ True) ∧ Below w0.heap.size w0 W)
    (fun _ _ _ => False)
    (OwnFrom.and (Own.from (holdsRow_own w0.heap.size (w.heap.size + 1) 35 38 2 (fun pre : List Int => (pre.map (rsF (pw u))).length) (fun pre => flat (pre.map (rsF (pw u)))) (fun _ _ => True)) _) (ownFrom_below (Nat.le_refl _) (by omega)))
    (fun _ _ _ _ _ hs _ _ => hs)
    ⟨⟨_, bO2, World.ownsRow_nil _ _ _ _, trivial⟩, hbW⟩
    (fun x => { tmps := #[prt a d t u, .slice A p.length c, .pointer (some ⟨w.heap.size, 0, none⟩), undef, .slice none 0 0, .pointer (some ⟨w.heap.size + 1, 0, none⟩), .int .i64 x, .pointer (some ⟨w.heap.size, 3, none⟩), .int .i64 u, .bool false, undef, .slice A p.length c, .func (.func 31) #[] #[.pointer (some ⟨Bs, 0, none⟩)], .int .i64 x, undef, undef, undef, undef, undef, undef, undef, undef, undef, undef, undef, undef, undef], defers := [] }) ?assign ?body ?done ?stop
  case assign =>
    intro l x W K hK
    gi_wp2
    exact hK
  case body =>
    rintro lp pre x W ⟨⟨v, hv, hrow, -⟩, hB⟩ hlt
    have hc := hv.cell
    have hf := hv.frozen
    have hWs := hB.size
    have q3 : W.cell? ⟨w.heap.size, 3, none⟩ = some (.int .i64 u) := (hB.cell (p := ⟨w.heap.size, 3, none⟩) (by simp; omega)).trans HQ3.out
    have hBl := hv.lt
    obtain ⟨hu0, hu1⟩ := HU.out (fun e => by rw [e] at hlt; simp [numsL] at hlt)
    have c1 : u ≤ 64 := by omega
    have HV := Lib.hid hv
    have HROW := Lib.hid hrow
    have HBB := Lib.hid hB
    have hne : some (w.heap.size + 1) ≠ v.ownBlock := hv.not_row (by decide) hrow
    have hne3 : v.ownBlock ≠ some w.heap.size := fun e => by have := (hrow.lt _ e).1; omega
    clear hst hrow hv hB
    gi_wp2_with (fail)
    refine Ro.wpIn_round (S := (fun w' => w'.cell? ⟨w.heap.size, 3, none⟩ = some (.int .i64 u))) (by kernel_rfl) (Ro.nodefer (by kernel_rfl)) ?hq q3 (fun hHeld => ?_)
    case hq =>
      rintro ⟨a', w', h'⟩
      exact h'
    refine wpAnyH_take (i := 1) (oi := { dst := some 15, op := Go.Op.move (Go.Operand.tmp 6), type := 3, pos := "part.go:83", after := #[], guard := none }) (v := ?_) rfl (by kernel_rfl) (by kernel_rfl) (by kernel_rfl) (fun _ _ _ h => h) (Or.inl ⟨by rfl, ?_⟩) (by assumption) ?_
    rotate_left
    · intro w' hSw
      (try dsimp only at hSw)
      go_simp
      all_goals with_reducible rfl
    try simp only [Act.put, List.setIfInBounds_toArray, List.set_cons_zero, List.set_cons_succ]
    refine wpAnyH_take (i := 2) (oi := { dst := some 16, op := Go.Op.fieldAddr 23 (Go.Operand.tmp 2) 3, type := 0, pos := "part.go:83", after := #[], guard := none }) (v := ?_) rfl (by kernel_rfl) (by kernel_rfl) (by kernel_rfl) (fun _ _ _ h => h) (Or.inl ⟨by rfl, ?_⟩) (by assumption) ?_
    rotate_left
    · intro w' hSw
      (try dsimp only at hSw)
      go_simp
      all_goals with_reducible rfl
    try simp only [Act.put, List.setIfInBounds_toArray, List.set_cons_zero, List.set_cons_succ]
    refine wpAnyH_take (i := 3) (oi := { dst := some 17, op := Go.Op.load 3 (Go.Operand.tmp 16), type := 3, pos := "part.go:83", after := #[{ on := 2, ground := Go.Ground.data }], guard := none }) (v := ?_) rfl (by kernel_rfl) (by kernel_rfl) (by kernel_rfl) (fun _ _ _ h => h) (Or.inl ⟨by rfl, ?_⟩) (by assumption) ?_
    rotate_left
    · intro w' hSw
      (try dsimp only at hSw)
      go_simp
      all_goals with_reducible rfl
    try simp only [Act.put, List.setIfInBounds_toArray, List.set_cons_zero, List.set_cons_succ]
    refine wpAnyH_take (i := 4) (oi := { dst := some 18, op := Go.Op.binOp Go.BinOp.shl 3 (Go.Operand.tmp 15) (Go.Operand.tmp 17) 3, type := 3, pos := "part.go:83", after := #[{ on := 1, ground := Go.Ground.data }, { on := 3, ground := Go.Ground.data }], guard := none }) (v := ?_) rfl (by kernel_rfl) (by kernel_rfl) (by kernel_rfl) (fun _ _ _ h => h) (Or.inl ⟨by rfl, ?_⟩) (by assumption) ?_
    rotate_left
    · intro w' hSw
      (try dsimp only at hSw)
      go_simp
      all_goals with_reducible rfl
    try simp only [Act.put, List.setIfInBounds_toArray, List.set_cons_zero, List.set_cons_succ]
    refine wpAnyH_take (i := 5) (oi := { dst := some 19, op := Go.Op.move (Go.Operand.tmp 6), type := 3, pos := "part.go:83", after := #[], guard := none }) (v := ?_) rfl (by kernel_rfl) (by kernel_rfl) (by kernel_rfl) (fun _ _ _ h => h) (Or.inl ⟨by rfl, ?_⟩) (by assumption) ?_
    rotate_left
    · intro w' hSw
      (try dsimp only at hSw)
      go_simp
      all_goals with_reducible rfl
    try simp only [Act.put, List.setIfInBounds_toArray, List.set_cons_zero, List.set_cons_succ]
    refine wpAnyH_take (i := 6) (oi := { dst := some 20, op := Go.Op.fieldAddr 23 (Go.Operand.tmp 2) 3, type := 0, pos := "part.go:83", after := #[], guard := none }) (v := ?_) rfl (by kernel_rfl) (by kernel_rfl) (by kernel_rfl) (fun _ _ _ h => h) (Or.inl ⟨by rfl, ?_⟩) (by assumption) ?_
    rotate_left
    · intro w' hSw
      (try dsimp only at hSw)
      go_simp
      all_goals with_reducible rfl
    try simp only [Act.put, List.setIfInBounds_toArray, List.set_cons_zero, List.set_cons_succ]
    refine wpAnyH_take (i := 7) (oi := { dst := some 21, op := Go.Op.load 3 (Go.Operand.tmp 20), type := 3, pos := "part.go:83", after := #[{ on := 6, ground := Go.Ground.data }], guard := none }) (v := ?_) rfl (by kernel_rfl) (by kernel_rfl) (by kernel_rfl) (fun _ _ _ h => h) (Or.inl ⟨by rfl, ?_⟩) (by assumption) ?_
    rotate_left
    · intro w' hSw
      (try dsimp only at hSw)
      go_simp
      all_goals with_reducible rfl
    try simp only [Act.put, List.setIfInBounds_toArray, List.set_cons_zero, List.set_cons_succ]
    refine wpAnyH_take (i := 8) (oi := { dst := some 22, op := Go.Op.binOp Go.BinOp.shl 3 (Go.Operand.tmp 19) (Go.Operand.tmp 21) 3, type := 3, pos := "part.go:83", after := #[{ on := 5, ground := Go.Ground.data }, { on := 7, ground := Go.Ground.data }], guard := none }) (v := ?_) rfl (by kernel_rfl) (by kernel_rfl) (by kernel_rfl) (fun _ _ _ h => h) (Or.inl ⟨by rfl, ?_⟩) (by assumption) ?_
    rotate_left
    · intro w' hSw
      (try dsimp only at hSw)
      go_simp
      all_goals with_reducible rfl
    try simp only [Act.put, List.setIfInBounds_toArray, List.set_cons_zero, List.set_cons_succ]
    refine wpAnyH_take (i := 9) (oi := { dst := some 23, op := Go.Op.build 38 #[(0, Go.Operand.tmp 18), (1, Go.Operand.tmp 22)], type := 38, pos := "part.go:83", after := #[{ on := 4, ground := Go.Ground.data }, { on := 8, ground := Go.Ground.data }], guard := none }) (v := ?_) rfl (by kernel_rfl) (by kernel_rfl) (by kernel_rfl) (fun _ _ _ h => h) (Or.inl ⟨by rfl, ?_⟩) (by assumption) ?_
    rotate_left
    · intro w' hSw
      (try dsimp only at hSw)
      go_simp
      all_goals with_reducible rfl
    try simp only [Act.put, List.setIfInBounds_toArray, List.set_cons_zero, List.set_cons_succ]
    refine wpAnyH_ready (rs := [0, 10]) (by kernel_rfl) (by simp) ?_
    refine AllReadyH.cons (o := { dst := some 14, op := Go.Op.load 35 (Go.Operand.tmp 5), type := 35, pos := "part.go:83", after := #[], guard := none }) rfl (fun K hK => ?_) (AllReadyH.cons (o := { dst := some 24, op := Go.Op.buildSlice 35 1 #[(0, Go.Operand.tmp 23)], type := 35, pos := "part.go:83", after := #[{ on := 9, ground := Go.Ground.data }], guard := none }) rfl (fun K hK => ?_) AllReadyH.nil)
    · go_simp
      refine hK.out _ _ ?_ (fun hHeld => ?_)
      · first | go_keep | simp [*]
      clear hK K
      try simp only [Act.put, List.setIfInBounds_toArray, List.set_cons_zero, List.set_cons_succ]
      refine wpAnyH_ready (rs := [10]) (by kernel_rfl) (by simp) ?_
      refine AllReadyH.cons (o := { dst := some 24, op := Go.Op.buildSlice 35 1 #[(0, Go.Operand.tmp 23)], type := 35, pos := "part.go:83", after := #[{ on := 9, ground := Go.Ground.data }], guard := none }) rfl (fun K hK => ?_) AllReadyH.nil
      go_simp
      refine hK.out _ _ ?_ (fun hHeld => ?_)
      · first | go_keep | simp [*]
      clear hK K
      try simp only [Act.put, List.setIfInBounds_toArray, List.set_cons_zero, List.set_cons_succ]
      refine wpAnyH_ready (rs := [11]) (by kernel_rfl) (by simp) ?_
      refine AllReadyH.cons (o := { dst := some 25, op := Go.Op.call { callee := Go.Callee.builtin Go.Builtin.append, args := #[Go.Operand.tmp 14, Go.Operand.tmp 24], argTypes := #[35, 35] }, type := 35, pos := "part.go:83", after := #[{ on := 0, ground := Go.Ground.data }, { on := 10, ground := Go.Ground.data }], guard := none }) rfl (fun K hK => ?_) AllReadyH.nil
      refine step_append_lies _ (by rfl) _ _ _ (by rfl) w0.heap.size 38 i0 _ 2 16 Try.underlying35 hi hz0 hz1 hz2 rfl (by omega) v (pre.map (rsF (pw u))).length (flat (pre.map (rsF (pw u)))) (by rfl) ((HROW.out.alloc _).drew)
              ⟨W.heap.size, 0, none⟩ 1 1 [.int .i64 (IntKind.i64.wrap (x * pw u)), .int .i64 (IntKind.i64.wrap (x * pw u))] (by rfl) (by rfl) (World.news_of_block (cs := #[.int .i64 (IntKind.i64.wrap (x * pw u)), .int .i64 (IntKind.i64.wrap (x * pw u))]) (t := 38) (fr := (0, 0)) (heap_alloc_new W _)) (by simp [Value.oneCell'])
              (by omega) (by rw [List.length_map]; have := HNL.out; simp only [maxLen]; omega) (by rw [List.length_map]; have := HNL.out; omega) (by simp; omega) (W.heap.size + 1) (by simp) ?_
      intro gg cap w4 hown1 hgrow hat hlt4
      refine hK.out _ _ ?_ (fun hHeld => ?_)
      · (rw [hgrow.cell_far _ (by simp; omega) (Ne.symm hne3)]; assumption)
      clear hK K
      try simp only [Act.put, List.setIfInBounds_toArray, List.set_cons_zero, List.set_cons_succ]
      have hgrow' : (W.alloc (.cells #[.int .i64 (IntKind.i64.wrap (x * pw u)), .int .i64 (IntKind.i64.wrap (x * pw u))] 38)).grownBy w4 v.ownBlock := ⟨hgrow.os, hgrow.tape, hgrow.output, hgrow.size, hgrow.block⟩
      obtain ⟨hv1, hv2, hr2, hk2, hb2⟩ := HV.out.appended (by decide) HROW.out (by omega) (by omega) hown1 hgrow'
      have hkp := keepP_append (n := (pre.map (rsF (pw u))).length + 1) (cap := cap) HV.out hv1 (by have := hgrow'.size; simp at this; omega) (fun k hk hne => by rw [hgrow'.block k (by simp; omega) hne]; exact Below.heap_alloc W _ k hk) (hat.imp id (fun e => by omega)) hlt4
      have hc1 := hv1.cell
      have hf1 := hv1.frozen
      rw [List.length_map] at hv2 hr2 hk2 hb2 hkp
      refine wpAnyH_ready (rs := [12]) (by kernel_rfl) (by simp) ?_
      refine AllReadyH.cons (o := { dst := none, op := Go.Op.store 35 (Go.Operand.tmp 5) (Go.Operand.tmp 25), type := 0, pos := "part.go:83", after := #[{ on := 11, ground := Go.Ground.data }, { on := 11, ground := Go.Ground.chain }, { on := 0, ground := Go.Ground.phase }, { on := 1, ground := Go.Ground.phase }, { on := 2, ground := Go.Ground.phase }, { on := 3, ground := Go.Ground.phase }, { on := 4, ground := Go.Ground.phase }, { on := 5, ground := Go.Ground.phase }, { on := 6, ground := Go.Ground.phase }, { on := 7, ground := Go.Ground.phase }, { on := 8, ground := Go.Ground.phase }, { on := 9, ground := Go.Ground.phase }, { on := 10, ground := Go.Ground.phase }, { on := 11, ground := Go.Ground.phase }], guard := none }) rfl (fun K hK => ?_) AllReadyH.nil
      go_simp
      refine hK.out _ _ ?_ (fun hHeld => ?_)
      · first | go_keep | simp [*]
      clear hK K
      try simp only [Act.put, List.setIfInBounds_toArray, List.set_cons_zero, List.set_cons_succ]
      refine wpAnyH_done (by kernel_rfl) ?_ _
      gi_wp2_with (fail)
      exact ⟨hk2, hkp, ⟨⟨_, hv2, by rw [map_snoc, flat_append, List.length_append, List.length_map]; exact hr2, trivial⟩, HBB.out.trans hb2⟩⟩
    · go_simp
      refine hK.out _ _ ?_ (fun hHeld => ?_)
      · first | go_keep | simp [*]
      clear hK K
      try simp only [Act.put, List.setIfInBounds_toArray, List.set_cons_zero, List.set_cons_succ]
      refine wpAnyH_ready (rs := [0]) (by kernel_rfl) (by simp) ?_
      refine AllReadyH.cons (o := { dst := some 14, op := Go.Op.load 35 (Go.Operand.tmp 5), type := 35, pos := "part.go:83", after := #[], guard := none }) rfl (fun K hK => ?_) AllReadyH.nil
      go_simp
      refine hK.out _ _ ?_ (fun hHeld => ?_)
      · first | go_keep | simp [*]
      clear hK K
      try simp only [Act.put, List.setIfInBounds_toArray, List.set_cons_zero, List.set_cons_succ]
      refine wpAnyH_ready (rs := [11]) (by kernel_rfl) (by simp) ?_
      refine AllReadyH.cons (o := { dst := some 25, op := Go.Op.call { callee := Go.Callee.builtin Go.Builtin.append, args := #[Go.Operand.tmp 14, Go.Operand.tmp 24], argTypes := #[35, 35] }, type := 35, pos := "part.go:83", after := #[{ on := 0, ground := Go.Ground.data }, { on := 10, ground := Go.Ground.data }], guard := none }) rfl (fun K hK => ?_) AllReadyH.nil
      refine step_append_lies _ (by rfl) _ _ _ (by rfl) w0.heap.size 38 i0 _ 2 16 Try.underlying35 hi hz0 hz1 hz2 rfl (by omega) v (pre.map (rsF (pw u))).length (flat (pre.map (rsF (pw u)))) (by rfl) ((HROW.out.alloc _).drew)
              ⟨W.heap.size, 0, none⟩ 1 1 [.int .i64 (IntKind.i64.wrap (x * pw u)), .int .i64 (IntKind.i64.wrap (x * pw u))] (by rfl) (by rfl) (World.news_of_block (cs := #[.int .i64 (IntKind.i64.wrap (x * pw u)), .int .i64 (IntKind.i64.wrap (x * pw u))]) (t := 38) (fr := (0, 0)) (heap_alloc_new W _)) (by simp [Value.oneCell'])
              (by omega) (by rw [List.length_map]; have := HNL.out; simp only [maxLen]; omega) (by rw [List.length_map]; have := HNL.out; omega) (by simp; omega) (W.heap.size + 1) (by simp) ?_
      intro gg cap w4 hown1 hgrow hat hlt4
      refine hK.out _ _ ?_ (fun hHeld => ?_)
      · (rw [hgrow.cell_far _ (by simp; omega) (Ne.symm hne3)]; assumption)
      clear hK K
      try simp only [Act.put, List.setIfInBounds_toArray, List.set_cons_zero, List.set_cons_succ]
      have hgrow' : (W.alloc (.cells #[.int .i64 (IntKind.i64.wrap (x * pw u)), .int .i64 (IntKind.i64.wrap (x * pw u))] 38)).grownBy w4 v.ownBlock := ⟨hgrow.os, hgrow.tape, hgrow.output, hgrow.size, hgrow.block⟩
      obtain ⟨hv1, hv2, hr2, hk2, hb2⟩ := HV.out.appended (by decide) HROW.out (by omega) (by omega) hown1 hgrow'
      have hkp := keepP_append (n := (pre.map (rsF (pw u))).length + 1) (cap := cap) HV.out hv1 (by have := hgrow'.size; simp at this; omega) (fun k hk hne => by rw [hgrow'.block k (by simp; omega) hne]; exact Below.heap_alloc W _ k hk) (hat.imp id (fun e => by omega)) hlt4
      have hc1 := hv1.cell
      have hf1 := hv1.frozen
      rw [List.length_map] at hv2 hr2 hk2 hb2 hkp
      refine wpAnyH_ready (rs := [12]) (by kernel_rfl) (by simp) ?_
      refine AllReadyH.cons (o := { dst := none, op := Go.Op.store 35 (Go.Operand.tmp 5) (Go.Operand.tmp 25), type := 0, pos := "part.go:83", after := #[{ on := 11, ground := Go.Ground.data }, { on := 11, ground := Go.Ground.chain }, { on := 0, ground := Go.Ground.phase }, { on := 1, ground := Go.Ground.phase }, { on := 2, ground := Go.Ground.phase }, { on := 3, ground := Go.Ground.phase }, { on := 4, ground := Go.Ground.phase }, { on := 5, ground := Go.Ground.phase }, { on := 6, ground := Go.Ground.phase }, { on := 7, ground := Go.Ground.phase }, { on := 8, ground := Go.Ground.phase }, { on := 9, ground := Go.Ground.phase }, { on := 10, ground := Go.Ground.phase }, { on := 11, ground := Go.Ground.phase }], guard := none }) rfl (fun K hK => ?_) AllReadyH.nil
      go_simp
      refine hK.out _ _ ?_ (fun hHeld => ?_)
      · first | go_keep | simp [*]
      clear hK K
      try simp only [Act.put, List.setIfInBounds_toArray, List.set_cons_zero, List.set_cons_succ]
      refine wpAnyH_done (by kernel_rfl) ?_ _
      gi_wp2_with (fail)
      exact ⟨hk2, hkp, ⟨⟨_, hv2, by rw [map_snoc, flat_append, List.length_append, List.length_map]; exact hr2, trivial⟩, HBB.out.trans hb2⟩⟩
  case done =>
    rintro D ys W hD rfl ⟨⟨v, hv, hrow, -⟩, hB⟩ hK
    have hc := hv.cell
    have HO := Lib.hid (show OwnsL (W.putObj D (.deferred none)) base v ((numsL p).map (rsF (pw u))) from own_mono (ownsRow_putObj hrow _ hK rfl) (by omega))
    have HBF := Lib.hid ((HBW0.out.mono hbase).trans ((hB.trans (belowK_b (w := w0) (Nat.le_refl _) W D _ (.deferred none) (by omega) hK rfl rfl)).mono (by omega)))
    clear hst hrow hv hB hbW bO2
    gi_wp2_with (fail)
    refine ⟨by simp, .inl ⟨_, _, rfl, run_takeDeferred hK, ?_⟩⟩
    exact ⟨_, results_tmp rfl _ _ _, v, rfl, by rw [HR.out]; exact HO.out, HBF.out⟩
  case stop =>
    rintro D cd pre W hD hpre h hK
    exact h.elim
end Go.Proofs.Ytldpoaknddhjfaa.Pa
