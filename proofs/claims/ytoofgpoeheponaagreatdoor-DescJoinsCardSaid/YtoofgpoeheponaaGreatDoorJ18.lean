import Derived.Test.YtoofgpoeheponaaGreatDoorJ17
namespace Go.Proofs.YtoofgpoeheponaaGreatDoor.De
set_option maxRecDepth 100000
open Go Go.RowKit Sp Pa Te Mi Fi
open Go.Lib (hid)
def LayOut (bs x : Nat) (i o n s k0 : Int) (L rs : List RuL) (F fs : List FiL) (v vf : Value) (w : World) (e : Ending) (w' : World) : Prop :=
 e = .returned (.tuple #[]) ∧ ∃ v' vf', LayS bs x i o n s (L ++ rs.map (shR k0)) (F ++ fs.map (shF k0)) v' vf' w' ∧ KeepD x v vf w w' ∧ (∀ g, v'.ownBlock = some g → v.ownBlock = some g ∨ w.heap.size ≤ g) ∧ (∀ g, vf'.ownBlock = some g → vf.ownBlock = some g ∨ w.heap.size ≤ g) ∧ Below x w w'
set_option maxHeartbeats 16000000 in
theorem lay_any (bs x : Nat) (i o n s k0 : Int) (L : List RuL) (F : List FiL) (v vf : Value) (di d_o dn ds : Int) (A : Option Addr) (cr : Nat) (B : Option Addr) (cf : Nat) (rs : List RuL) (fs : List FiL) (w : World)
  (hL : LayS bs x i o n s L F v vf w) (hbs : bs ≤ w.heap.size) (hr : ∀ W, KeepD x v vf w W → RRu W A rs.length rs ∧ NilT W A rs.length 5 4) (hrl : rs.length ≤ 4096) (hf : ∀ W, KeepD x v vf w W → RFi W B fs.length fs ∧ NilT W B fs.length 3 2) (hfl : fs.length ≤ 4096) (hk0 : 0 ≤ k0 ∧ k0 ≤ 1000000)
  (hLl : L.length ≤ 100000) (hFl : F.length ≤ 100000)
  (hfrm : ∀ r ∈ rs, 0 ≤ r.frm ∧ r.frm ≤ 1024 ∧ 0 ≤ r.to_ ∧ r.to_ ≤ 1024 ∧ r.gs.length ≤ 1000000 ∧ (∀ g ∈ r.gs, g.length ≤ 68719476736) ∧ r.out.length ≤ 100000 ∧ ∀ t ∈ r.out, t.ps.length ≤ 20)
  (hffm : ∀ r ∈ fs, 0 ≤ r.frm ∧ r.frm ≤ 1024 ∧ r.gs.length ≤ 1000000 ∧ (∀ g ∈ r.gs, g.length ≤ 68719476736) ∧ r.out.length ≤ 100000 ∧ ∀ t ∈ r.out, t.ps.length ≤ 20) :
  Calls Tryz.prog 26 #[.pointer (some ⟨x, 0, none⟩), dsc di d_o dn ds A rs.length cr B fs.length cf, .int .i64 k0] w (LayOut bs x i o n s k0 L rs F fs v vf w) := by
 obtain ⟨w1, hw1⟩ : ∃ w1, w.alloc (.cells #[.int .i64 di, .int .i64 d_o, .int .i64 dn, .int .i64 ds, .slice A rs.length cr, .slice B fs.length cf] 26) = w1 := ⟨_, rfl⟩
 have hs1 : w1.heap.size = w.heap.size + 1 := by rw [← hw1]; simp
 have HB1 := hid (show Below w.heap.size w w1 by rw [← hw1]; exact (Below.refl _ _).alloc (Nat.le_refl _) _)
 have hd1 : DB w1 w.heap.size di d_o dn ds A rs.length cr B fs.length cf := by rw [← hw1]; exact DB.boxed
 have HD1 := hid hd1
 obtain ⟨p0, p1, p2, p3, p4, p5⟩ := hd1
 have HR := hid hr
 have HFI := hid hf
 have HBS := hid hbs
 have HXW := hid (show x < w.heap.size ∧ (v.ownBlock ≠ some w.heap.size) ∧ (vf.ownBlock ≠ some w.heap.size) from ⟨hL.box.lt, fun e => by
  obtain ⟨vs0, h0, _⟩ := hL.rules
  exact Nat.lt_irrefl _ (World.ownsRow.lt h0 _ e).2, fun e => by
  obtain ⟨vs0, h0, _⟩ := hL.finals
  exact Nat.lt_irrefl _ (World.ownsRow.lt h0 _ e).2⟩)
 have HST := hid (show LrRel bs x i o n s k0 L rs F v vf w1 (.int .i64 (0 : Nat)) w1 from ⟨0, v, Nat.zero_le _, rfl, by rw [List.take_zero, List.map_nil, List.append_nil]; exact hL.keep HB1.out, KeepD.below (Below.refl _ _), fun g e => .inl e, Below.refl _ _⟩)
 have HFRM := hid hfrm
 have HFFM := hid hffm
 have HKW := hid (fun W (h : KeepD x v vf w1 W) => show KeepD x v vf w W from ⟨by have := h.1; omega, fun b hb hx h1 h2 => (h.2 b (by omega) hx h1 h2).trans (HB1.out.block b hb)⟩)
 have HBS1 := hid (show bs ≤ w1.heap.size by omega)
 have HLL := hid hLl
 have HFL := hid hFl
 clear hr hf hL hfrm hffm hbs hLl hFl
 go_enter Tryz.func26, Tryz.ntmps26
 go_wp2_with (fail)
 go_loopw [13] (fun iv wr => LrRel bs x i o n s k0 L rs F v vf w1 iv wr) (fun iv _ => rs.length - (intOf iv).toNat)
 case atStart => exact HST.out
 case round =>
  obtain ⟨k, v', hk, rfl, hlay, hkd, hvv, hbl⟩ := hrel
  have HLAY := hid hlay
  have HKD := hid hkd
  have HVV := hid hvv
  have HBL := hid hbl
  by_cases hlt : k < rs.length
  ·obtain ⟨hru, hnt0⟩ := HR.out wr (HKW.out wr hkd)
   obtain ⟨b, off, A', c', A2, c2, hA, hbB, d0, d1, d2, d3, d4, ⟨hg, hgc, hgl, hgm⟩, ht, htc, htl, _⟩ := hru.at_ hlt
   have HNT := hid (fun e : A2 = none => hnt0 b off hA k hlt rs[k].out.length c2 (by rw [← e]; exact d4))
   obtain ⟨r, hrk⟩ : ∃ r, rs[k] = r := ⟨_, rfl⟩
   have HRK := hid hrk
   rw [hrk] at d0 d1 d2 d3 d4 hg hgc hgl hgm ht htc htl
   obtain ⟨f0, f1, f2, f3, f4, f5, f6, f7⟩ := HFRM.out r (by rw [← hrk]; exact List.getElem_mem hlt)
   have HGU0 := hid (fun W (h : RGs W A' r.gs.length r.gs) => guards_new A' c' r.gs W h f4 f5)
   have HTE0 := hid (fun W g (h : RTm W A2 r.out.length r.out) (hc : W.cell? ⟨g, 0, none⟩ = some (.slice A2 r.out.length c2)) (hlt : g < W.heap.size) => terms_new g 1 c2 A2 r.out W hc hlt h f6 f7 HNT.out)
   obtain ⟨ng, hng⟩ : ∃ ng, r.gs.length = ng := ⟨_, rfl⟩
   obtain ⟨nt, hnt⟩ : ∃ nt, r.out.length = nt := ⟨_, rfl⟩
   have HNN := hid (And.intro hng hnt)
   rw [hng] at d2 hgc hgl hg HGU0
   rw [hnt] at d4 htc htl ht HTE0
   have s1 : IntKind.i64.wrap (r.frm + k0) = r.frm + k0 := IntWalk.i64_in _ (by omega)
   have s2 : IntKind.i64.wrap (r.to_ + k0) = r.to_ + k0 := IntWalk.i64_in _ (by omega)
   have HG := hid hg
   have HT := hid ht
   have HK := hid hlt
   have hwr := hkd.1
   have HXR := hid (show x < wr.heap.size from hlay.box.lt)
   obtain ⟨nL, hnL⟩ : ∃ nL, (L ++ (rs.take k).map (shR k0)).length = nL := ⟨_, rfl⟩
   have HNL := hid hnL
   have hnLb : nL ≤ 200000 := by
    have := HLL.out
    rw [← hnL, List.length_append, List.length_map, List.length_take]
    omega
   obtain ⟨i0, hi0, hz0, hz1, hz2⟩ := info_parts infoRule
   subst hA
   clear hlay hkd hvv hbl hg ht hgm hrk hng hnt hru hnt0 f4 f5 f6 f7 hnL
   go_wp2_with (fail)
   obtain ⟨wb, hwb⟩ : ∃ wb, wr.alloc (.cells #[.int .i64 (r.frm + k0), .int .i64 (r.to_ + k0), .slice A' ng c', .int .i64 r.eat, .slice A2 nt c2] 50) = wb := ⟨_, rfl⟩
   rw [hwb]
   have hqb : Blk wb wr.heap.size 50 #[.int .i64 (r.frm + k0), .int .i64 (r.to_ + k0), .slice A' ng c', .int .i64 r.eat, .slice A2 nt c2] := by
    rw [← hwb]
    exact heap_alloc_new wr _
   have hsb : wb.heap.size = wr.heap.size + 1 := by rw [← hwb]; simp
   have HBR := hid (show Below wr.heap.size wr wb by rw [← hwb]; exact (Below.refl _ _).alloc (Nat.le_refl _) _)
   have HQ := hid hqb
   have HRB := hid (show wr.heap.size < wb.heap.size by omega)
   have HSZ := hid (show wr.heap.size ≤ wb.heap.size by omega)
   have HGU := hid (fun W (hb : Below wb.heap.size wb W) => HGU0.out W (by have := HG.out.belowM (HBR.out.trans (hb.mono HSZ.out)); exact this))
   have HTE := hid (fun W (hb : Below wb.heap.size wb W) g hc hlt => HTE0.out W g (HT.out.belowM (HBR.out.trans (hb.mono HSZ.out))) hc hlt)
   have HBSR := hid (show bs ≤ wr.heap.size by have := HBS.out; omega)
   clear hqb hwb
   go_upto_region 5 with (fail)
   go_cut [] (fun wx => ∃ AG cG AT cT, Blk wx wr.heap.size 50 #[.int .i64 (r.frm + k0), .int .i64 (r.to_ + k0), .slice AG ng cG, .int .i64 r.eat, .slice AT nt cT] ∧ NewGT wb.heap.size r.gs r.out AG cG AT cT wx ∧ Below wr.heap.size wr wx)
   case first =>
    have hBr : Below wr.heap.size wr wb.drew := HBR.out.drew
    have hBn : Below wb.heap.size wb wb.drew := (Below.refl _ _).drew
    obtain ⟨wd, hwd⟩ : ∃ wd, wb.drew = wd := ⟨_, rfl⟩
    refine wp_region_held_drew (S := fun W => Below wr.heap.size wr W) (by kernel_rfl) hBr (fun hHeld => ?_)
    rw [hwd] at hBr hBn hHeld ⊢
    refine wpAnyH_take (i := 0) (oi := { dst := some 27, op := Op.fieldAddr 50 (Operand.tmp 7) 2, type := 0, pos := "desc.go:193", after := #[], guard := none }) (v := ?_) rfl (by kernel_rfl) (by kernel_rfl) (by kernel_rfl) (fun _ _ _ h => h) (Or.inl ⟨by rfl, ?_⟩) (by assumption) ?_
    rotate_left
    ·intro w' hSw
     (try dsimp only at hSw)
     go_simp
     all_goals with_reducible rfl
    try simp only [Act.put, List.setIfInBounds_toArray, List.set_cons_zero, List.set_cons_succ]
    refine wpAnyH_take (i := 3) (oi := { dst := some 30, op := Op.fieldAddr 50 (Operand.tmp 7) 4, type := 0, pos := "desc.go:193", after := #[], guard := none }) (v := ?_) rfl (by kernel_rfl) (by kernel_rfl) (by kernel_rfl) (fun _ _ _ h => h) (Or.inl ⟨by rfl, ?_⟩) (by assumption) ?_
    rotate_left
    ·intro w' hSw
     (try dsimp only at hSw)
     go_simp
     all_goals with_reducible rfl
    try simp only [Act.put, List.setIfInBounds_toArray, List.set_cons_zero, List.set_cons_succ]
    refine wpAnyH_ready (rs := [1, 4]) (by kernel_rfl) (by simp) ?_
    refine (AllReadyH.cons (o := { dst := some 28, op := Op.load 42 (Operand.tmp 27), type := 42, pos := "desc.go:193", after := #[{ on := 0, ground := Ground.data }], guard := none }) rfl (fun K hK => ?_) (AllReadyH.cons (o := { dst := some 31, op := Op.load 43 (Operand.tmp 30), type := 43, pos := "desc.go:193", after := #[{ on := 3, ground := Ground.data }], guard := none }) rfl (fun K hK => ?_) AllReadyH.nil))
    focus
     have hcl : wd.cell? ⟨wr.heap.size, 2, none⟩ = some (.slice A' ng c') := (HQ.out.below hBn HRB.out).cell 2
     go_simp
     clear hcl
     refine hK.out _ _ ?_ (fun hHeld => ?_)
     ·exact hBr
     clear hK K
     try simp only [Act.put, List.setIfInBounds_toArray, List.set_cons_zero, List.set_cons_succ]
     refine wpAnyH_ready (rs := [2, 4]) (by kernel_rfl) (by simp) ?_
     refine (AllReadyH.cons (o := { dst := some 29, op := Op.call { callee := Callee.value (Operand.func 40), args := #[Operand.tmp 28], argTypes := #[42] }, type := 42, pos := "desc.go:193", after := #[{ on := 1, ground := Ground.data }], guard := none }) rfl (fun K hK => ?_) (AllReadyH.cons (o := { dst := some 31, op := Op.load 43 (Operand.tmp 30), type := 43, pos := "desc.go:193", after := #[{ on := 3, ground := Ground.data }], guard := none }) rfl (fun K hK => ?_) AllReadyH.nil))
     focus
      go_simp
      go_wp2_with (go_at_call 40; (with_reducible refine (HGU.out _ hBn).mono ?_); rintro eg wg ⟨vG, rfl, hrG, hbG⟩)
      have hszG := hBn.size
      have hBr := nextB hBr hbG (Nat.le_trans HSZ.out hBn.size)
      have hBn := nextB hBn hbG hBn.size
      obtain ⟨AG, cG, hvG, hgp, hgl, _⟩ := RowB.far hrG
      have hgp := rgp_keep hgp (Below.refl _ _) hszG
      rw [HNN.out.1] at hvG hgl
      subst hvG
      refine hK.out _ _ ?_ (fun hHeld => ?_)
      ·exact hBr
      clear hK K
      try simp only [Act.put, List.setIfInBounds_toArray, List.set_cons_zero, List.set_cons_succ]
      refine wpAnyH_ready (rs := [4]) (by kernel_rfl) (by simp) ?_
      refine (AllReadyH.cons (o := { dst := some 31, op := Op.load 43 (Operand.tmp 30), type := 43, pos := "desc.go:193", after := #[{ on := 3, ground := Ground.data }], guard := none }) rfl (fun K hK => ?_) AllReadyH.nil)
      have hcl : wg.cell? ⟨wr.heap.size, 4, none⟩ = some (.slice A2 nt c2) := (HQ.out.below hBn HRB.out).cell 4
      go_simp
      clear hcl
      refine hK.out _ _ ?_ (fun hHeld => ?_)
      ·exact hBr
      clear hK K
      try simp only [Act.put, List.setIfInBounds_toArray, List.set_cons_zero, List.set_cons_succ]
      refine wpAnyH_take (i := 7) (oi := { dst := some 34, op := Op.fieldAddr 50 (Operand.tmp 7) 2, type := 0, pos := "desc.go:193", after := #[{ on := 0, ground := Ground.phase }, { on := 1, ground := Ground.phase }, { on := 2, ground := Ground.phase }, { on := 3, ground := Ground.phase }, { on := 4, ground := Ground.phase }, { on := 5, ground := Ground.textOnly Go.Departure.lateStoresUnsure }, { on := 6, ground := Ground.textOnly Go.Departure.lateStoresUnsure }], guard := none }) (v := ?_) rfl (by kernel_rfl) (by kernel_rfl) (by kernel_rfl) (fun _ _ _ h => h) (Or.inl ⟨by rfl, ?_⟩) (by assumption) ?_
      rotate_left
      ·intro w' hSw
       (try dsimp only at hSw)
       go_simp
       all_goals with_reducible rfl
      try simp only [Act.put, List.setIfInBounds_toArray, List.set_cons_zero, List.set_cons_succ]
      refine wpAnyH_ready (rs := [5]) (by kernel_rfl) (by simp) ?_
      refine (AllReadyH.cons (o := { dst := some 32, op := Op.buildSlice 90 1 #[(0, Operand.tmp 31)], type := 90, pos := "desc.go:193", after := #[{ on := 4, ground := Ground.data }], guard := none }) rfl (fun K hK => ?_) AllReadyH.nil)
      obtain ⟨ws, hws, hqs, hls, hbS⟩ := new_cells wg #[.slice A2 nt c2] 43
      go_simp
      try rw [hws]
      have hBr := nextB hBr hbS (Nat.le_trans HSZ.out hBn.size)
      have hBn := nextB hBn hbS hBn.size
      have hgp := rgp_keep hgp hbS (Nat.le_refl _)
      refine hK.out _ _ ?_ (fun hHeld => ?_)
      ·exact hBr
      clear hK K
      try simp only [Act.put, List.setIfInBounds_toArray, List.set_cons_zero, List.set_cons_succ]
      refine wpAnyH_ready (rs := [6]) (by kernel_rfl) (by simp) ?_
      refine (AllReadyH.cons (o := { dst := some 33, op := Op.call { callee := Callee.value (Operand.func 41), args := #[Operand.tmp 32], argTypes := #[90] }, type := 43, pos := "desc.go:193", after := #[{ on := 5, ground := Ground.data }, { on := 2, ground := Ground.chain }], guard := none }) rfl (fun K hK => ?_) AllReadyH.nil)
      go_simp
      go_wp2_with (go_at_call 41; (with_reducible refine (HTE.out _ hBn _ (hqs.cell 0) hls).mono ?_); rintro et wt ⟨vT, rfl, hrT, hbT⟩)
      have hszT := hBn.size
      have hBr := nextB hBr hbT (Nat.le_trans HSZ.out hBn.size)
      have hBn := nextB hBn hbT hBn.size
      obtain ⟨AT, cT, hvT, htp, htl, _⟩ := RowT.far hrT
      have htp := rtp_keep htp (Below.refl _ _) hszT
      have hgp := rgp_keep hgp hbT (Nat.le_refl _)
      rw [HNN.out.2] at hvT htl
      subst hvT
      refine hK.out _ _ ?_ (fun hHeld => ?_)
      ·exact hBr
      clear hK K
      try simp only [Act.put, List.setIfInBounds_toArray, List.set_cons_zero, List.set_cons_succ]
      obtain ⟨wl, rfl⟩ : ∃ wl : World, wl = wt := ⟨_, rfl⟩
     rotate_left 1
     focus
      have hcl : wd.cell? ⟨wr.heap.size, 4, none⟩ = some (.slice A2 nt c2) := (HQ.out.below hBn HRB.out).cell 4
      go_simp
      clear hcl
      refine hK.out _ _ ?_ (fun hHeld => ?_)
      ·exact hBr
      clear hK K
      try simp only [Act.put, List.setIfInBounds_toArray, List.set_cons_zero, List.set_cons_succ]
      refine wpAnyH_ready (rs := [2, 5]) (by kernel_rfl) (by simp) ?_
      refine (AllReadyH.cons (o := { dst := some 29, op := Op.call { callee := Callee.value (Operand.func 40), args := #[Operand.tmp 28], argTypes := #[42] }, type := 42, pos := "desc.go:193", after := #[{ on := 1, ground := Ground.data }], guard := none }) rfl (fun K hK => ?_) (AllReadyH.cons (o := { dst := some 32, op := Op.buildSlice 90 1 #[(0, Operand.tmp 31)], type := 90, pos := "desc.go:193", after := #[{ on := 4, ground := Ground.data }], guard := none }) rfl (fun K hK => ?_) AllReadyH.nil))
      focus
       go_simp
       go_wp2_with (go_at_call 40; (with_reducible refine (HGU.out _ hBn).mono ?_); rintro eg wg ⟨vG, rfl, hrG, hbG⟩)
       have hszG := hBn.size
       have hBr := nextB hBr hbG (Nat.le_trans HSZ.out hBn.size)
       have hBn := nextB hBn hbG hBn.size
       obtain ⟨AG, cG, hvG, hgp, hgl, _⟩ := RowB.far hrG
       have hgp := rgp_keep hgp (Below.refl _ _) hszG
       rw [HNN.out.1] at hvG hgl
       subst hvG
       refine hK.out _ _ ?_ (fun hHeld => ?_)
       ·exact hBr
       clear hK K
       try simp only [Act.put, List.setIfInBounds_toArray, List.set_cons_zero, List.set_cons_succ]
       refine wpAnyH_take (i := 7) (oi := { dst := some 34, op := Op.fieldAddr 50 (Operand.tmp 7) 2, type := 0, pos := "desc.go:193", after := #[{ on := 0, ground := Ground.phase }, { on := 1, ground := Ground.phase }, { on := 2, ground := Ground.phase }, { on := 3, ground := Ground.phase }, { on := 4, ground := Ground.phase }, { on := 5, ground := Ground.textOnly Go.Departure.lateStoresUnsure }, { on := 6, ground := Ground.textOnly Go.Departure.lateStoresUnsure }], guard := none }) (v := ?_) rfl (by kernel_rfl) (by kernel_rfl) (by kernel_rfl) (fun _ _ _ h => h) (Or.inl ⟨by rfl, ?_⟩) (by assumption) ?_
       rotate_left
       ·intro w' hSw
        (try dsimp only at hSw)
        go_simp
        all_goals with_reducible rfl
       try simp only [Act.put, List.setIfInBounds_toArray, List.set_cons_zero, List.set_cons_succ]
       refine wpAnyH_ready (rs := [5]) (by kernel_rfl) (by simp) ?_
       refine (AllReadyH.cons (o := { dst := some 32, op := Op.buildSlice 90 1 #[(0, Operand.tmp 31)], type := 90, pos := "desc.go:193", after := #[{ on := 4, ground := Ground.data }], guard := none }) rfl (fun K hK => ?_) AllReadyH.nil)
       obtain ⟨ws, hws, hqs, hls, hbS⟩ := new_cells wg #[.slice A2 nt c2] 43
       go_simp
       try rw [hws]
       have hBr := nextB hBr hbS (Nat.le_trans HSZ.out hBn.size)
       have hBn := nextB hBn hbS hBn.size
       have hgp := rgp_keep hgp hbS (Nat.le_refl _)
       refine hK.out _ _ ?_ (fun hHeld => ?_)
       ·exact hBr
       clear hK K
       try simp only [Act.put, List.setIfInBounds_toArray, List.set_cons_zero, List.set_cons_succ]
       refine wpAnyH_ready (rs := [6]) (by kernel_rfl) (by simp) ?_
       refine (AllReadyH.cons (o := { dst := some 33, op := Op.call { callee := Callee.value (Operand.func 41), args := #[Operand.tmp 32], argTypes := #[90] }, type := 43, pos := "desc.go:193", after := #[{ on := 5, ground := Ground.data }, { on := 2, ground := Ground.chain }], guard := none }) rfl (fun K hK => ?_) AllReadyH.nil)
       go_simp
       go_wp2_with (go_at_call 41; (with_reducible refine (HTE.out _ hBn _ (hqs.cell 0) hls).mono ?_); rintro et wt ⟨vT, rfl, hrT, hbT⟩)
       have hszT := hBn.size
       have hBr := nextB hBr hbT (Nat.le_trans HSZ.out hBn.size)
       have hBn := nextB hBn hbT hBn.size
       obtain ⟨AT, cT, hvT, htp, htl, _⟩ := RowT.far hrT
       have htp := rtp_keep htp (Below.refl _ _) hszT
       have hgp := rgp_keep hgp hbT (Nat.le_refl _)
       rw [HNN.out.2] at hvT htl
       subst hvT
       refine hK.out _ _ ?_ (fun hHeld => ?_)
       ·exact hBr
       clear hK K
       try simp only [Act.put, List.setIfInBounds_toArray, List.set_cons_zero, List.set_cons_succ]
       obtain ⟨wl, rfl⟩ : ∃ wl : World, wl = wt := ⟨_, rfl⟩
      rotate_left 1
      focus
       obtain ⟨ws, hws, hqs, hls, hbS⟩ := new_cells wd #[.slice A2 nt c2] 43
       go_simp
       try rw [hws]
       have hBr := nextB hBr hbS (Nat.le_trans HSZ.out hBn.size)
       have hBn := nextB hBn hbS hBn.size
       refine hK.out _ _ ?_ (fun hHeld => ?_)
       ·exact hBr
       clear hK K
       try simp only [Act.put, List.setIfInBounds_toArray, List.set_cons_zero, List.set_cons_succ]
       refine wpAnyH_ready (rs := [2]) (by kernel_rfl) (by simp) ?_
       refine (AllReadyH.cons (o := { dst := some 29, op := Op.call { callee := Callee.value (Operand.func 40), args := #[Operand.tmp 28], argTypes := #[42] }, type := 42, pos := "desc.go:193", after := #[{ on := 1, ground := Ground.data }], guard := none }) rfl (fun K hK => ?_) AllReadyH.nil)
       go_simp
       go_wp2_with (go_at_call 40; (with_reducible refine (HGU.out _ hBn).mono ?_); rintro eg wg ⟨vG, rfl, hrG, hbG⟩)
       have hszG := hBn.size
       have hBr := nextB hBr hbG (Nat.le_trans HSZ.out hBn.size)
       have hBn := nextB hBn hbG hBn.size
       obtain ⟨AG, cG, hvG, hgp, hgl, _⟩ := RowB.far hrG
       have hgp := rgp_keep hgp (Below.refl _ _) hszG
       rw [HNN.out.1] at hvG hgl
       subst hvG
       have hqs := hqs.below hbG hls
       have hls := Nat.lt_of_lt_of_le hls hbG.size
       refine hK.out _ _ ?_ (fun hHeld => ?_)
       ·exact hBr
       clear hK K
       try simp only [Act.put, List.setIfInBounds_toArray, List.set_cons_zero, List.set_cons_succ]
       refine wpAnyH_take (i := 7) (oi := { dst := some 34, op := Op.fieldAddr 50 (Operand.tmp 7) 2, type := 0, pos := "desc.go:193", after := #[{ on := 0, ground := Ground.phase }, { on := 1, ground := Ground.phase }, { on := 2, ground := Ground.phase }, { on := 3, ground := Ground.phase }, { on := 4, ground := Ground.phase }, { on := 5, ground := Ground.textOnly Go.Departure.lateStoresUnsure }, { on := 6, ground := Ground.textOnly Go.Departure.lateStoresUnsure }], guard := none }) (v := ?_) rfl (by kernel_rfl) (by kernel_rfl) (by kernel_rfl) (fun _ _ _ h => h) (Or.inl ⟨by rfl, ?_⟩) (by assumption) ?_
       rotate_left
       ·intro w' hSw
        (try dsimp only at hSw)
        go_simp
        all_goals with_reducible rfl
       try simp only [Act.put, List.setIfInBounds_toArray, List.set_cons_zero, List.set_cons_succ]
       refine wpAnyH_ready (rs := [6]) (by kernel_rfl) (by simp) ?_
       refine (AllReadyH.cons (o := { dst := some 33, op := Op.call { callee := Callee.value (Operand.func 41), args := #[Operand.tmp 32], argTypes := #[90] }, type := 43, pos := "desc.go:193", after := #[{ on := 5, ground := Ground.data }, { on := 2, ground := Ground.chain }], guard := none }) rfl (fun K hK => ?_) AllReadyH.nil)
       go_simp
       go_wp2_with (go_at_call 41; (with_reducible refine (HTE.out _ hBn _ (hqs.cell 0) hls).mono ?_); rintro et wt ⟨vT, rfl, hrT, hbT⟩)
       have hszT := hBn.size
       have hBr := nextB hBr hbT (Nat.le_trans HSZ.out hBn.size)
       have hBn := nextB hBn hbT hBn.size
       obtain ⟨AT, cT, hvT, htp, htl, _⟩ := RowT.far hrT
       have htp := rtp_keep htp (Below.refl _ _) hszT
       have hgp := rgp_keep hgp hbT (Nat.le_refl _)
       rw [HNN.out.2] at hvT htl
       subst hvT
       refine hK.out _ _ ?_ (fun hHeld => ?_)
       ·exact hBr
       clear hK K
       try simp only [Act.put, List.setIfInBounds_toArray, List.set_cons_zero, List.set_cons_succ]
       obtain ⟨wl, rfl⟩ : ∃ wl : World, wl = wt := ⟨_, rfl⟩
    rotate_left 3
    focus
     have hcl : wd.cell? ⟨wr.heap.size, 4, none⟩ = some (.slice A2 nt c2) := (HQ.out.below hBn HRB.out).cell 4
     go_simp
     clear hcl
     refine hK.out _ _ ?_ (fun hHeld => ?_)
     ·exact hBr
     clear hK K
     try simp only [Act.put, List.setIfInBounds_toArray, List.set_cons_zero, List.set_cons_succ]
     refine wpAnyH_ready (rs := [1, 5]) (by kernel_rfl) (by simp) ?_
     refine (AllReadyH.cons (o := { dst := some 28, op := Op.load 42 (Operand.tmp 27), type := 42, pos := "desc.go:193", after := #[{ on := 0, ground := Ground.data }], guard := none }) rfl (fun K hK => ?_) (AllReadyH.cons (o := { dst := some 32, op := Op.buildSlice 90 1 #[(0, Operand.tmp 31)], type := 90, pos := "desc.go:193", after := #[{ on := 4, ground := Ground.data }], guard := none }) rfl (fun K hK => ?_) AllReadyH.nil))
     focus
      have hcl : wd.cell? ⟨wr.heap.size, 2, none⟩ = some (.slice A' ng c') := (HQ.out.below hBn HRB.out).cell 2
      go_simp
      clear hcl
      refine hK.out _ _ ?_ (fun hHeld => ?_)
      ·exact hBr
      clear hK K
      try simp only [Act.put, List.setIfInBounds_toArray, List.set_cons_zero, List.set_cons_succ]
      refine wpAnyH_ready (rs := [2, 5]) (by kernel_rfl) (by simp) ?_
      refine (AllReadyH.cons (o := { dst := some 29, op := Op.call { callee := Callee.value (Operand.func 40), args := #[Operand.tmp 28], argTypes := #[42] }, type := 42, pos := "desc.go:193", after := #[{ on := 1, ground := Ground.data }], guard := none }) rfl (fun K hK => ?_) (AllReadyH.cons (o := { dst := some 32, op := Op.buildSlice 90 1 #[(0, Operand.tmp 31)], type := 90, pos := "desc.go:193", after := #[{ on := 4, ground := Ground.data }], guard := none }) rfl (fun K hK => ?_) AllReadyH.nil))
      focus
       go_simp
       go_wp2_with (go_at_call 40; (with_reducible refine (HGU.out _ hBn).mono ?_); rintro eg wg ⟨vG, rfl, hrG, hbG⟩)
       have hszG := hBn.size
       have hBr := nextB hBr hbG (Nat.le_trans HSZ.out hBn.size)
       have hBn := nextB hBn hbG hBn.size
       obtain ⟨AG, cG, hvG, hgp, hgl, _⟩ := RowB.far hrG
       have hgp := rgp_keep hgp (Below.refl _ _) hszG
       rw [HNN.out.1] at hvG hgl
       subst hvG
       refine hK.out _ _ ?_ (fun hHeld => ?_)
       ·exact hBr
       clear hK K
       try simp only [Act.put, List.setIfInBounds_toArray, List.set_cons_zero, List.set_cons_succ]
       refine wpAnyH_take (i := 7) (oi := { dst := some 34, op := Op.fieldAddr 50 (Operand.tmp 7) 2, type := 0, pos := "desc.go:193", after := #[{ on := 0, ground := Ground.phase }, { on := 1, ground := Ground.phase }, { on := 2, ground := Ground.phase }, { on := 3, ground := Ground.phase }, { on := 4, ground := Ground.phase }, { on := 5, ground := Ground.textOnly Go.Departure.lateStoresUnsure }, { on := 6, ground := Ground.textOnly Go.Departure.lateStoresUnsure }], guard := none }) (v := ?_) rfl (by kernel_rfl) (by kernel_rfl) (by kernel_rfl) (fun _ _ _ h => h) (Or.inl ⟨by rfl, ?_⟩) (by assumption) ?_
       rotate_left
       ·intro w' hSw
        (try dsimp only at hSw)
        go_simp
        all_goals with_reducible rfl
       try simp only [Act.put, List.setIfInBounds_toArray, List.set_cons_zero, List.set_cons_succ]
       refine wpAnyH_ready (rs := [5]) (by kernel_rfl) (by simp) ?_
       refine (AllReadyH.cons (o := { dst := some 32, op := Op.buildSlice 90 1 #[(0, Operand.tmp 31)], type := 90, pos := "desc.go:193", after := #[{ on := 4, ground := Ground.data }], guard := none }) rfl (fun K hK => ?_) AllReadyH.nil)
       obtain ⟨ws, hws, hqs, hls, hbS⟩ := new_cells wg #[.slice A2 nt c2] 43
       go_simp
       try rw [hws]
       have hBr := nextB hBr hbS (Nat.le_trans HSZ.out hBn.size)
       have hBn := nextB hBn hbS hBn.size
       have hgp := rgp_keep hgp hbS (Nat.le_refl _)
       refine hK.out _ _ ?_ (fun hHeld => ?_)
       ·exact hBr
       clear hK K
       try simp only [Act.put, List.setIfInBounds_toArray, List.set_cons_zero, List.set_cons_succ]
       refine wpAnyH_ready (rs := [6]) (by kernel_rfl) (by simp) ?_
       refine (AllReadyH.cons (o := { dst := some 33, op := Op.call { callee := Callee.value (Operand.func 41), args := #[Operand.tmp 32], argTypes := #[90] }, type := 43, pos := "desc.go:193", after := #[{ on := 5, ground := Ground.data }, { on := 2, ground := Ground.chain }], guard := none }) rfl (fun K hK => ?_) AllReadyH.nil)
       go_simp
       go_wp2_with (go_at_call 41; (with_reducible refine (HTE.out _ hBn _ (hqs.cell 0) hls).mono ?_); rintro et wt ⟨vT, rfl, hrT, hbT⟩)
       have hszT := hBn.size
       have hBr := nextB hBr hbT (Nat.le_trans HSZ.out hBn.size)
       have hBn := nextB hBn hbT hBn.size
       obtain ⟨AT, cT, hvT, htp, htl, _⟩ := RowT.far hrT
       have htp := rtp_keep htp (Below.refl _ _) hszT
       have hgp := rgp_keep hgp hbT (Nat.le_refl _)
       rw [HNN.out.2] at hvT htl
       subst hvT
       refine hK.out _ _ ?_ (fun hHeld => ?_)
       ·exact hBr
       clear hK K
       try simp only [Act.put, List.setIfInBounds_toArray, List.set_cons_zero, List.set_cons_succ]
       obtain ⟨wl, rfl⟩ : ∃ wl : World, wl = wt := ⟨_, rfl⟩
      rotate_left 1
      focus
       obtain ⟨ws, hws, hqs, hls, hbS⟩ := new_cells wd #[.slice A2 nt c2] 43
       go_simp
       try rw [hws]
       have hBr := nextB hBr hbS (Nat.le_trans HSZ.out hBn.size)
       have hBn := nextB hBn hbS hBn.size
       refine hK.out _ _ ?_ (fun hHeld => ?_)
       ·exact hBr
       clear hK K
       try simp only [Act.put, List.setIfInBounds_toArray, List.set_cons_zero, List.set_cons_succ]
       refine wpAnyH_ready (rs := [2]) (by kernel_rfl) (by simp) ?_
       refine (AllReadyH.cons (o := { dst := some 29, op := Op.call { callee := Callee.value (Operand.func 40), args := #[Operand.tmp 28], argTypes := #[42] }, type := 42, pos := "desc.go:193", after := #[{ on := 1, ground := Ground.data }], guard := none }) rfl (fun K hK => ?_) AllReadyH.nil)
       go_simp
       go_wp2_with (go_at_call 40; (with_reducible refine (HGU.out _ hBn).mono ?_); rintro eg wg ⟨vG, rfl, hrG, hbG⟩)
       have hszG := hBn.size
       have hBr := nextB hBr hbG (Nat.le_trans HSZ.out hBn.size)
       have hBn := nextB hBn hbG hBn.size
       obtain ⟨AG, cG, hvG, hgp, hgl, _⟩ := RowB.far hrG
       have hgp := rgp_keep hgp (Below.refl _ _) hszG
       rw [HNN.out.1] at hvG hgl
       subst hvG
       have hqs := hqs.below hbG hls
       have hls := Nat.lt_of_lt_of_le hls hbG.size
       refine hK.out _ _ ?_ (fun hHeld => ?_)
       ·exact hBr
       clear hK K
       try simp only [Act.put, List.setIfInBounds_toArray, List.set_cons_zero, List.set_cons_succ]
       refine wpAnyH_take (i := 7) (oi := { dst := some 34, op := Op.fieldAddr 50 (Operand.tmp 7) 2, type := 0, pos := "desc.go:193", after := #[{ on := 0, ground := Ground.phase }, { on := 1, ground := Ground.phase }, { on := 2, ground := Ground.phase }, { on := 3, ground := Ground.phase }, { on := 4, ground := Ground.phase }, { on := 5, ground := Ground.textOnly Go.Departure.lateStoresUnsure }, { on := 6, ground := Ground.textOnly Go.Departure.lateStoresUnsure }], guard := none }) (v := ?_) rfl (by kernel_rfl) (by kernel_rfl) (by kernel_rfl) (fun _ _ _ h => h) (Or.inl ⟨by rfl, ?_⟩) (by assumption) ?_
       rotate_left
       ·intro w' hSw
        (try dsimp only at hSw)
        go_simp
        all_goals with_reducible rfl
       try simp only [Act.put, List.setIfInBounds_toArray, List.set_cons_zero, List.set_cons_succ]
       refine wpAnyH_ready (rs := [6]) (by kernel_rfl) (by simp) ?_
       refine (AllReadyH.cons (o := { dst := some 33, op := Op.call { callee := Callee.value (Operand.func 41), args := #[Operand.tmp 32], argTypes := #[90] }, type := 43, pos := "desc.go:193", after := #[{ on := 5, ground := Ground.data }, { on := 2, ground := Ground.chain }], guard := none }) rfl (fun K hK => ?_) AllReadyH.nil)
       go_simp
       go_wp2_with (go_at_call 41; (with_reducible refine (HTE.out _ hBn _ (hqs.cell 0) hls).mono ?_); rintro et wt ⟨vT, rfl, hrT, hbT⟩)
       have hszT := hBn.size
       have hBr := nextB hBr hbT (Nat.le_trans HSZ.out hBn.size)
       have hBn := nextB hBn hbT hBn.size
       obtain ⟨AT, cT, hvT, htp, htl, _⟩ := RowT.far hrT
       have htp := rtp_keep htp (Below.refl _ _) hszT
       have hgp := rgp_keep hgp hbT (Nat.le_refl _)
       rw [HNN.out.2] at hvT htl
       subst hvT
       refine hK.out _ _ ?_ (fun hHeld => ?_)
       ·exact hBr
       clear hK K
       try simp only [Act.put, List.setIfInBounds_toArray, List.set_cons_zero, List.set_cons_succ]
       obtain ⟨wl, rfl⟩ : ∃ wl : World, wl = wt := ⟨_, rfl⟩
     rotate_left 2
     focus
      obtain ⟨ws, hws, hqs, hls, hbS⟩ := new_cells wd #[.slice A2 nt c2] 43
      go_simp
      try rw [hws]
      have hBr := nextB hBr hbS (Nat.le_trans HSZ.out hBn.size)
      have hBn := nextB hBn hbS hBn.size
      refine hK.out _ _ ?_ (fun hHeld => ?_)
      ·exact hBr
      clear hK K
      try simp only [Act.put, List.setIfInBounds_toArray, List.set_cons_zero, List.set_cons_succ]
      refine wpAnyH_ready (rs := [1]) (by kernel_rfl) (by simp) ?_
      refine (AllReadyH.cons (o := { dst := some 28, op := Op.load 42 (Operand.tmp 27), type := 42, pos := "desc.go:193", after := #[{ on := 0, ground := Ground.data }], guard := none }) rfl (fun K hK => ?_) AllReadyH.nil)
      have hcl : ws.cell? ⟨wr.heap.size, 2, none⟩ = some (.slice A' ng c') := (HQ.out.below hBn HRB.out).cell 2
      go_simp
      clear hcl
      refine hK.out _ _ ?_ (fun hHeld => ?_)
      ·exact hBr
      clear hK K
      try simp only [Act.put, List.setIfInBounds_toArray, List.set_cons_zero, List.set_cons_succ]
      refine wpAnyH_ready (rs := [2]) (by kernel_rfl) (by simp) ?_
      refine (AllReadyH.cons (o := { dst := some 29, op := Op.call { callee := Callee.value (Operand.func 40), args := #[Operand.tmp 28], argTypes := #[42] }, type := 42, pos := "desc.go:193", after := #[{ on := 1, ground := Ground.data }], guard := none }) rfl (fun K hK => ?_) AllReadyH.nil)
      go_simp
      go_wp2_with (go_at_call 40; (with_reducible refine (HGU.out _ hBn).mono ?_); rintro eg wg ⟨vG, rfl, hrG, hbG⟩)
      have hszG := hBn.size
      have hBr := nextB hBr hbG (Nat.le_trans HSZ.out hBn.size)
      have hBn := nextB hBn hbG hBn.size
      obtain ⟨AG, cG, hvG, hgp, hgl, _⟩ := RowB.far hrG
      have hgp := rgp_keep hgp (Below.refl _ _) hszG
      rw [HNN.out.1] at hvG hgl
      subst hvG
      have hqs := hqs.below hbG hls
      have hls := Nat.lt_of_lt_of_le hls hbG.size
      refine hK.out _ _ ?_ (fun hHeld => ?_)
      ·exact hBr
      clear hK K
      try simp only [Act.put, List.setIfInBounds_toArray, List.set_cons_zero, List.set_cons_succ]
      refine wpAnyH_take (i := 7) (oi := { dst := some 34, op := Op.fieldAddr 50 (Operand.tmp 7) 2, type := 0, pos := "desc.go:193", after := #[{ on := 0, ground := Ground.phase }, { on := 1, ground := Ground.phase }, { on := 2, ground := Ground.phase }, { on := 3, ground := Ground.phase }, { on := 4, ground := Ground.phase }, { on := 5, ground := Ground.textOnly Go.Departure.lateStoresUnsure }, { on := 6, ground := Ground.textOnly Go.Departure.lateStoresUnsure }], guard := none }) (v := ?_) rfl (by kernel_rfl) (by kernel_rfl) (by kernel_rfl) (fun _ _ _ h => h) (Or.inl ⟨by rfl, ?_⟩) (by assumption) ?_
      rotate_left
      ·intro w' hSw
       (try dsimp only at hSw)
       go_simp
       all_goals with_reducible rfl
      try simp only [Act.put, List.setIfInBounds_toArray, List.set_cons_zero, List.set_cons_succ]
      refine wpAnyH_ready (rs := [6]) (by kernel_rfl) (by simp) ?_
      refine (AllReadyH.cons (o := { dst := some 33, op := Op.call { callee := Callee.value (Operand.func 41), args := #[Operand.tmp 32], argTypes := #[90] }, type := 43, pos := "desc.go:193", after := #[{ on := 5, ground := Ground.data }, { on := 2, ground := Ground.chain }], guard := none }) rfl (fun K hK => ?_) AllReadyH.nil)
      go_simp
      go_wp2_with (go_at_call 41; (with_reducible refine (HTE.out _ hBn _ (hqs.cell 0) hls).mono ?_); rintro et wt ⟨vT, rfl, hrT, hbT⟩)
      have hszT := hBn.size
      have hBr := nextB hBr hbT (Nat.le_trans HSZ.out hBn.size)
      have hBn := nextB hBn hbT hBn.size
      obtain ⟨AT, cT, hvT, htp, htl, _⟩ := RowT.far hrT
      have htp := rtp_keep htp (Below.refl _ _) hszT
      have hgp := rgp_keep hgp hbT (Nat.le_refl _)
      rw [HNN.out.2] at hvT htl
      subst hvT
      refine hK.out _ _ ?_ (fun hHeld => ?_)
      ·exact hBr
      clear hK K
      try simp only [Act.put, List.setIfInBounds_toArray, List.set_cons_zero, List.set_cons_succ]
      obtain ⟨wl, rfl⟩ : ∃ wl : World, wl = wt := ⟨_, rfl⟩
    all_goals
     have hq0 := HQ.out.below hBn HRB.out
     have hsz0 := hBn.size
     obtain ⟨wu, hwu⟩ : ∃ wu, wl.setCell ⟨wr.heap.size, 2, none⟩ (.slice AG ng cG) = wu := ⟨_, rfl⟩
     have hq1 : Blk wu wr.heap.size 50 #[.int .i64 (r.frm + k0), .int .i64 (r.to_ + k0), .slice AG ng cG, .int .i64 r.eat, .slice A2 nt c2] := by rw [← hwu]; exact hq0.set_ 2 _
     obtain ⟨wv, hwv⟩ : ∃ wv, wu.setCell ⟨wr.heap.size, 4, none⟩ (.slice AT nt cT) = wv := ⟨_, rfl⟩
     have hq2 : Blk wv wr.heap.size 50 #[.int .i64 (r.frm + k0), .int .i64 (r.to_ + k0), .slice AG ng cG, .int .i64 r.eat, .slice AT nt cT] := by rw [← hwv]; exact hq1.set_ 4 _
     have hBu : Below wr.heap.size wr wu := by rw [← hwu]; exact hBr.setCell (Nat.le_refl _) _
     have hBv : Below wr.heap.size wr wv := by rw [← hwv]; exact hBu.setCell (Nat.le_refl _) _
     have hngt : NewGT wb.heap.size r.gs r.out AG cG AT cT wv := NewGT.keep (w := wl) ⟨hgp, by rw [HNN.out.1]; exact hgl, htp, by rw [HNN.out.2]; exact htl⟩ (by rw [← hwv, ← hwu]; simp) (fun b hb _ => by
      have hne : b ≠ wr.heap.size := fun e => by have := HRB.out; omega
      rw [← hwv, heap_setCell_other wu ⟨wr.heap.size, 4, none⟩ b _ hne, ← hwu, heap_setCell_other wl ⟨wr.heap.size, 2, none⟩ b _ hne])
     have k1 : wl.cell? ⟨wr.heap.size, 2, none⟩ = some (.slice A' ng c') := hq0.cell 2
     have k2 : wl.frozen? ⟨wr.heap.size, 2, none⟩ = false := hq0.frozen 2
     have k3 : wu.cell? ⟨wr.heap.size, 4, none⟩ = some (.slice A2 nt c2) := hq1.cell 4
     have k4 : wu.frozen? ⟨wr.heap.size, 4, none⟩ = false := hq1.frozen 4
     clear hgp htp hq0 hq1
     refine wpAnyH_ready (rs := [8]) (by kernel_rfl) (by simp) ?_
     refine AllReadyH.cons (o := { dst := none, op := Op.store 42 (Operand.tmp 34) (Operand.tmp 29), type := 0, pos := "desc.go:193", after := #[{ on := 7, ground := Ground.data }, { on := 2, ground := Ground.data }, { on := 6, ground := Ground.chain }, { on := 0, ground := Ground.phase }, { on := 1, ground := Ground.phase }, { on := 2, ground := Ground.phase }, { on := 3, ground := Ground.phase }, { on := 4, ground := Ground.phase }, { on := 5, ground := Ground.textOnly Go.Departure.lateStoresUnsure }, { on := 6, ground := Ground.textOnly Go.Departure.lateStoresUnsure }], guard := none }) rfl (fun K hK => ?_) AllReadyH.nil
     go_simp
     try rw [hwu]
     have hBr := hBu
     refine hK.out _ _ ?_ (fun hHeld => ?_)
     ·exact hBr
     clear hK K
     try simp only [Act.put, List.setIfInBounds_toArray, List.set_cons_zero, List.set_cons_succ]
     refine wpAnyH_take (i := 9) (oi := { dst := some 35, op := Op.fieldAddr 50 (Operand.tmp 7) 4, type := 0, pos := "desc.go:193", after := #[{ on := 0, ground := Ground.phase }, { on := 1, ground := Ground.phase }, { on := 2, ground := Ground.phase }, { on := 3, ground := Ground.phase }, { on := 4, ground := Ground.phase }, { on := 5, ground := Ground.phase }, { on := 6, ground := Ground.phase }, { on := 7, ground := Ground.phase }, { on := 8, ground := Ground.phase }], guard := none }) (v := ?_) rfl (by kernel_rfl) (by kernel_rfl) (by kernel_rfl) (fun _ _ _ h => h) (Or.inl ⟨by rfl, ?_⟩) (by assumption) ?_
     rotate_left
     ·intro w' hSw
      (try dsimp only at hSw)
      go_simp
      all_goals with_reducible rfl
     try simp only [Act.put, List.setIfInBounds_toArray, List.set_cons_zero, List.set_cons_succ]
     refine wpAnyH_ready (rs := [10]) (by kernel_rfl) (by simp) ?_
     refine AllReadyH.cons (o := { dst := none, op := Op.store 43 (Operand.tmp 35) (Operand.tmp 33), type := 0, pos := "desc.go:193", after := #[{ on := 9, ground := Ground.data }, { on := 6, ground := Ground.data }, { on := 8, ground := Ground.chain }, { on := 0, ground := Ground.phase }, { on := 1, ground := Ground.phase }, { on := 2, ground := Ground.phase }, { on := 3, ground := Ground.phase }, { on := 4, ground := Ground.phase }, { on := 5, ground := Ground.phase }, { on := 6, ground := Ground.phase }, { on := 7, ground := Ground.phase }, { on := 8, ground := Ground.phase }], guard := none }) rfl (fun K hK => ?_) AllReadyH.nil
     go_simp
     try rw [hwv]
     have hBr := hBv
     refine hK.out _ _ ?_ (fun hHeld => ?_)
     ·exact hBr
     clear hK K
     try simp only [Act.put, List.setIfInBounds_toArray, List.set_cons_zero, List.set_cons_succ]
     refine wpAnyH_done (by kernel_rfl) ?_ _
     go_wp2_with (fail)
     go_meet
     exact ⟨AG, cG, AT, cT, hq2, hngt, hBv⟩
   case rest =>
    obtain ⟨wx, rfl⟩ : ∃ wx : World, wx = wc := ⟨_, rfl⟩
    obtain ⟨AG, cG, AT, cT, hqx, hgx, hbx⟩ := hcut
    have HQX := hid hqx
    have HGTX := hid hgx
    have HBRX := hid hbx
    have HLX := hid (HLAY.out.keep hbx)
    have hszx := hbx.size
    have HNE := hid (show some wr.heap.size ≠ v'.ownBlock from fun e => by
     obtain ⟨vs0, h0, _⟩ := HLAY.out.rules
     have := (World.ownsRow.lt h0 wr.heap.size e.symm).2
     omega)
    have HNX := hid (show some x ≠ v'.ownBlock from fun e => by
     obtain ⟨vs0, h0, _⟩ := HLAY.out.rules
     have := (World.ownsRow.lt h0 x e.symm).1
     have := HLAY.out.low
     omega)
    have hbsx : bs ≤ wx.heap.size := by have := HBSR.out; omega
    clear hqx hgx hbx
    go_wp2_with (fail)
    obtain ⟨wd, hwd⟩ : ∃ wd, wx.drew = wd := ⟨_, rfl⟩
    have hQW : Blk wd wr.heap.size 50 #[.int .i64 (r.frm + k0), .int .i64 (r.to_ + k0), .slice AG ng cG, .int .i64 r.eat, .slice AT nt cT] := by rw [← hwd]; exact HQX.out.drew
    have hBx : Below wx.heap.size wx wd := by rw [← hwd]; exact (Below.refl _ _).drew
    refine wp_region_held_drew (S := fun W => Blk W wr.heap.size 50 #[.int .i64 (r.frm + k0), .int .i64 (r.to_ + k0), .slice AG ng cG, .int .i64 r.eat, .slice AT nt cT]) (by kernel_rfl) (by rw [hwd]; exact hQW) (fun hHeld => ?_)
    rw [hwd] at hHeld ⊢
    refine wpAnyH_take (i := 0) (oi := { dst := some 36, op := Op.move (Operand.tmp 0), type := 58, pos := "desc.go:194", after := #[], guard := none }) (v := ?_) rfl (by kernel_rfl) (by kernel_rfl) (by kernel_rfl) (fun _ _ _ h => h) (Or.inl ⟨by rfl, ?_⟩) (by assumption) ?_
    rotate_left
    ·intro w' hSw
     (try dsimp only at hSw)
     go_simp
     all_goals with_reducible rfl
    try simp only [Act.put, List.setIfInBounds_toArray, List.set_cons_zero, List.set_cons_succ]
    refine wpAnyH_take (i := 1) (oi := { dst := some 37, op := Op.move (Operand.tmp 0), type := 58, pos := "desc.go:194", after := #[], guard := none }) (v := ?_) rfl (by kernel_rfl) (by kernel_rfl) (by kernel_rfl) (fun _ _ _ h => h) (Or.inl ⟨by rfl, ?_⟩) (by assumption) ?_
    rotate_left
    ·intro w' hSw
     (try dsimp only at hSw)
     go_simp
     all_goals with_reducible rfl
    try simp only [Act.put, List.setIfInBounds_toArray, List.set_cons_zero, List.set_cons_succ]
    refine wpAnyH_take (i := 2) (oi := { dst := some 38, op := Op.nilCheck (Operand.tmp 37), type := 0, pos := "desc.go:194", after := #[{ on := 1, ground := Ground.data }], guard := none }) (v := ?_) rfl (by kernel_rfl) (by kernel_rfl) (by kernel_rfl) (fun _ _ _ h => h) (Or.inl ⟨by rfl, ?_⟩) (by assumption) ?_
    rotate_left
    ·intro w' hSw
     (try dsimp only at hSw)
     go_simp
     all_goals with_reducible rfl
    try simp only [Act.put, List.setIfInBounds_toArray, List.set_cons_zero, List.set_cons_succ]
    refine wpAnyH_take (i := 3) (oi := { dst := some 39, op := Op.fieldAddr 26 (Operand.tmp 38) 4, type := 0, pos := "desc.go:194", after := #[{ on := 2, ground := Ground.data }], guard := none }) (v := ?_) rfl (by kernel_rfl) (by kernel_rfl) (by kernel_rfl) (fun _ _ _ h => h) (Or.inl ⟨by rfl, ?_⟩) (by assumption) ?_
    rotate_left
    ·intro w' hSw
     (try dsimp only at hSw)
     go_simp
     all_goals with_reducible rfl
    try simp only [Act.put, List.setIfInBounds_toArray, List.set_cons_zero, List.set_cons_succ]
    refine wpAnyH_take (i := 5) (oi := { dst := some 41, op := Op.load 50 (Operand.tmp 7), type := 50, pos := "desc.go:194", after := #[], guard := none }) (v := ?_) rfl (by kernel_rfl) (by kernel_rfl) (by kernel_rfl) (fun _ _ _ h => h) (Or.inl ⟨by rfl, ?_⟩) (by assumption) ?_
    rotate_left
    ·intro w' hSw
     (try dsimp only at hSw)
     have l0 := hSw.cell 0
     have l1 := hSw.cell 1
     have l2 := hSw.cell 2
     have l3 := hSw.cell 3
     have l4 := hSw.cell 4
     simp only [List.getElem?_toArray, List.getElem?_cons_zero, List.getElem?_cons_succ] at l0 l1 l2 l3 l4
     go_simp
     all_goals with_reducible rfl
    try simp only [Act.put, List.setIfInBounds_toArray, List.set_cons_zero, List.set_cons_succ]
    refine wpAnyH_ready (rs := [4, 6]) (by kernel_rfl) (by simp) ?_
    refine (AllReadyH.cons (o := { dst := some 40, op := Op.load 23 (Operand.tmp 39), type := 23, pos := "desc.go:194", after := #[{ on := 3, ground := Ground.data }], guard := none }) rfl (fun K hK => ?_) (AllReadyH.cons (o := { dst := some 42, op := Op.buildSlice 23 1 #[(0, Operand.tmp 41)], type := 23, pos := "desc.go:194", after := #[{ on := 5, ground := Ground.data }], guard := none }) rfl (fun K hK => ?_) AllReadyH.nil))
    focus
     have hcl := ((HLX.out.keep hBx).box).at4
     go_simp
     clear hcl
     refine hK.out _ _ ?_ (fun hHeld => ?_)
     ·exact hQW
     clear hK K
     try simp only [Act.put, List.setIfInBounds_toArray, List.set_cons_zero, List.set_cons_succ]
     refine wpAnyH_ready (rs := [6]) (by kernel_rfl) (by simp) ?_
     refine (AllReadyH.cons (o := { dst := some 42, op := Op.buildSlice 23 1 #[(0, Operand.tmp 41)], type := 23, pos := "desc.go:194", after := #[{ on := 5, ground := Ground.data }], guard := none }) rfl (fun K hK => ?_) AllReadyH.nil)
     obtain ⟨ws, hws, hqs, hls, hbS⟩ := new_cells wd #[.int .i64 (r.frm + k0), .int .i64 (r.to_ + k0), .slice AG ng cG, .int .i64 r.eat, .slice AT nt cT] 50
     have hQW := hQW.below hbS hQW.lt
     have hBx := below_nextD hBx hbS
     go_simp
     try rw [hws]
     refine hK.out _ _ ?_ (fun hHeld => ?_)
     ·exact hQW
     clear hK K
     try simp only [Act.put, List.setIfInBounds_toArray, List.set_cons_zero, List.set_cons_succ]
     refine wpAnyH_ready (rs := [7]) (by kernel_rfl) (by simp) ?_
     refine (AllReadyH.cons (o := { dst := some 43, op := Op.call { callee := Callee.builtin Builtin.append, args := #[Operand.tmp 40, Operand.tmp 42], argTypes := #[23, 23] }, type := 23, pos := "desc.go:194", after := #[{ on := 4, ground := Ground.data }, { on := 6, ground := Ground.data }], guard := none }) rfl (fun K hK => ?_) AllReadyH.nil)
     have hls2 := (HLX.out.keep hBx)
     obtain ⟨vs, hvs, _⟩ := hls2.rules
     have hszW := hBx.size
     (refine step_append_lies _ (by rfl) _ _ _ (by rfl) bs 50 i0 _ 5 72 Tryz.underlying23 hi0 hz0 hz1 hz2 rfl (by omega) v' nL vs (by rfl) (by rw [HNL.out] at hvs; exact hvs) ⟨wd.heap.size, 0, none⟩ 1 1 [.int .i64 (r.frm + k0), .int .i64 (r.to_ + k0), .slice AG ng cG, .int .i64 r.eat, .slice AT nt cT] (by rfl) (by rfl) (World.news_of_block (cs := #[.int .i64 (r.frm + k0), .int .i64 (r.to_ + k0), .slice AG ng cG, .int .i64 r.eat, .slice AT nt cT]) (t := 50) (fr := (0, 0)) hqs) (by simp [Value.oneCell']) (by omega) (by simp only [maxLen]; omega) (by omega) (by omega) (ws.heap.size) rfl ?_; intro gg capg w9 hown9 hg9 hat9 hlt9)
     have hQ9 := Blk_keep hQW (hg9.block wr.heap.size hQW.lt (HNE.out))
     have hQW := hQ9
     refine hK.out _ _ ?_ (fun hHeld => ?_)
     ·exact hQW
     clear hK K
     try simp only [Act.put, List.setIfInBounds_toArray, List.set_cons_zero, List.set_cons_succ]
    rotate_left 1
    focus
     obtain ⟨ws, hws, hqs, hls, hbS⟩ := new_cells wd #[.int .i64 (r.frm + k0), .int .i64 (r.to_ + k0), .slice AG ng cG, .int .i64 r.eat, .slice AT nt cT] 50
     have hQW := hQW.below hbS hQW.lt
     have hBx := below_nextD hBx hbS
     go_simp
     try rw [hws]
     refine hK.out _ _ ?_ (fun hHeld => ?_)
     ·exact hQW
     clear hK K
     try simp only [Act.put, List.setIfInBounds_toArray, List.set_cons_zero, List.set_cons_succ]
     refine wpAnyH_ready (rs := [4]) (by kernel_rfl) (by simp) ?_
     refine (AllReadyH.cons (o := { dst := some 40, op := Op.load 23 (Operand.tmp 39), type := 23, pos := "desc.go:194", after := #[{ on := 3, ground := Ground.data }], guard := none }) rfl (fun K hK => ?_) AllReadyH.nil)
     have hcl := ((HLX.out.keep hBx).box).at4
     go_simp
     clear hcl
     refine hK.out _ _ ?_ (fun hHeld => ?_)
     ·exact hQW
     clear hK K
     try simp only [Act.put, List.setIfInBounds_toArray, List.set_cons_zero, List.set_cons_succ]
     refine wpAnyH_ready (rs := [7]) (by kernel_rfl) (by simp) ?_
     refine (AllReadyH.cons (o := { dst := some 43, op := Op.call { callee := Callee.builtin Builtin.append, args := #[Operand.tmp 40, Operand.tmp 42], argTypes := #[23, 23] }, type := 23, pos := "desc.go:194", after := #[{ on := 4, ground := Ground.data }, { on := 6, ground := Ground.data }], guard := none }) rfl (fun K hK => ?_) AllReadyH.nil)
     have hls2 := (HLX.out.keep hBx)
     obtain ⟨vs, hvs, _⟩ := hls2.rules
     have hszW := hBx.size
     (refine step_append_lies _ (by rfl) _ _ _ (by rfl) bs 50 i0 _ 5 72 Tryz.underlying23 hi0 hz0 hz1 hz2 rfl (by omega) v' nL vs (by rfl) (by rw [HNL.out] at hvs; exact hvs) ⟨wd.heap.size, 0, none⟩ 1 1 [.int .i64 (r.frm + k0), .int .i64 (r.to_ + k0), .slice AG ng cG, .int .i64 r.eat, .slice AT nt cT] (by rfl) (by rfl) (World.news_of_block (cs := #[.int .i64 (r.frm + k0), .int .i64 (r.to_ + k0), .slice AG ng cG, .int .i64 r.eat, .slice AT nt cT]) (t := 50) (fr := (0, 0)) hqs) (by simp [Value.oneCell']) (by omega) (by simp only [maxLen]; omega) (by omega) (by omega) (ws.heap.size) rfl ?_; intro gg capg w9 hown9 hg9 hat9 hlt9)
     have hQ9 := Blk_keep hQW (hg9.block wr.heap.size hQW.lt (HNE.out))
     have hQW := hQ9
     refine hK.out _ _ ?_ (fun hHeld => ?_)
     ·exact hQW
     clear hK K
     try simp only [Act.put, List.setIfInBounds_toArray, List.set_cons_zero, List.set_cons_succ]
    all_goals
     have hdb := hls2.box.keep (hg9.block x hls2.box.lt HNX.out)
     have k1 := hdb.at4
     have k2 := hdb.frozen 4
     have hnext := rule_next HK.out HRK.out HLAY.out HKD.out HVV.out HBL.out HBS1.out (HBRX.out.trans (hBx.mono HBRX.out.size)) (Nat.le_of_lt HRB.out) (NewGT.keep HGTX.out hBx.size (fun b _ hlt => hBx.block b hlt)) hvs hg9 (by rw [HNN.out.1, HNN.out.2, HNL.out]; exact hown9) hat9
     rw [HNL.out] at hnext
     have HNEXT := hid hnext
     clear hnext
     refine wpAnyH_take (i := 8) (oi := { dst := some 44, op := Op.nilCheck (Operand.tmp 36), type := 0, pos := "desc.go:194", after := #[{ on := 0, ground := Ground.data }, { on := 0, ground := Ground.phase }, { on := 1, ground := Ground.phase }, { on := 2, ground := Ground.phase }, { on := 3, ground := Ground.phase }, { on := 4, ground := Ground.phase }, { on := 5, ground := Ground.phase }, { on := 6, ground := Ground.phase }, { on := 7, ground := Ground.phase }], guard := none }) (v := ?_) rfl (by kernel_rfl) (by kernel_rfl) (by kernel_rfl) (fun _ _ _ h => h) (Or.inl ⟨by rfl, ?_⟩) (by assumption) ?_
     rotate_left
     ·intro w' hSw
      (try dsimp only at hSw)
      go_simp
      all_goals with_reducible rfl
     try simp only [Act.put, List.setIfInBounds_toArray, List.set_cons_zero, List.set_cons_succ]
     refine wpAnyH_take (i := 9) (oi := { dst := some 45, op := Op.fieldAddr 26 (Operand.tmp 44) 4, type := 0, pos := "desc.go:194", after := #[{ on := 8, ground := Ground.data }, { on := 0, ground := Ground.phase }, { on := 1, ground := Ground.phase }, { on := 2, ground := Ground.phase }, { on := 3, ground := Ground.phase }, { on := 4, ground := Ground.phase }, { on := 5, ground := Ground.phase }, { on := 6, ground := Ground.phase }, { on := 7, ground := Ground.phase }], guard := none }) (v := ?_) rfl (by kernel_rfl) (by kernel_rfl) (by kernel_rfl) (fun _ _ _ h => h) (Or.inl ⟨by rfl, ?_⟩) (by assumption) ?_
     rotate_left
     ·intro w' hSw
      (try dsimp only at hSw)
      go_simp
      all_goals with_reducible rfl
     try simp only [Act.put, List.setIfInBounds_toArray, List.set_cons_zero, List.set_cons_succ]
     obtain ⟨wz, hwz⟩ : ∃ wz, w9.setCell ⟨x, 4, none⟩ (.slice (some ⟨gg, 0, none⟩) (nL + 1) capg) = wz := ⟨_, rfl⟩
     rw [hwz] at HNEXT
     have hQZ : Blk wz wr.heap.size 50 #[.int .i64 (r.frm + k0), .int .i64 (r.to_ + k0), .slice AG ng cG, .int .i64 r.eat, .slice AT nt cT] := by rw [← hwz]; exact Blk_keep hQW (heap_setCell_other w9 ⟨x, 4, none⟩ wr.heap.size _ (show wr.heap.size ≠ x by have := HXR.out; omega))
     refine wpAnyH_ready (rs := [10]) (by kernel_rfl) (by simp) ?_
     refine AllReadyH.cons (o := { dst := none, op := Op.store 23 (Operand.tmp 45) (Operand.tmp 43), type := 0, pos := "desc.go:194", after := #[{ on := 9, ground := Ground.data }, { on := 7, ground := Ground.data }, { on := 7, ground := Ground.chain }, { on := 0, ground := Ground.phase }, { on := 1, ground := Ground.phase }, { on := 2, ground := Ground.phase }, { on := 3, ground := Ground.phase }, { on := 4, ground := Ground.phase }, { on := 5, ground := Ground.phase }, { on := 6, ground := Ground.phase }, { on := 7, ground := Ground.phase }], guard := none }) rfl (fun K hK => ?_) AllReadyH.nil
     go_simp
     try rw [hwz]
     have hQW := hQZ
     refine hK.out _ _ ?_ (fun hHeld => ?_)
     ·exact hQW
     clear hK K
     try simp only [Act.put, List.setIfInBounds_toArray, List.set_cons_zero, List.set_cons_succ]
     refine wpAnyH_done (by kernel_rfl) ?_ _
     go_wp2_with (fail)
     go_roundw
     case rel => exact HNEXT.out
     case measure => simp [intOf]; omega
  ·obtain rfl : k = rs.length := by omega
   obtain ⟨wA, hwA⟩ : ∃ wA : World, wA = wr := ⟨_, rfl⟩
   subst hwA
   have hwr := hkd.1
   have hblk := hkd.2 w.heap.size (by omega) (by have := HXW.out.1; omega) HXW.out.2.1 HXW.out.2.2
   obtain ⟨_, _, _, _, _, q5⟩ := HD1.out
   have p5' := (World.cell?_of_block (a := ⟨w.heap.size, 5, none⟩) hblk).trans q5
   have hlay2 : LayS bs x i o n s (L ++ rs.map (shR k0)) F v' vf wA := by
    rw [List.take_length] at hlay
    exact hlay
   have HST2 := hid (show LfRel bs x i o n s k0 (L ++ rs.map (shR k0)) F fs v vf v' w1 (.int .i64 (0 : Nat)) wA from ⟨0, vf, Nat.zero_le _, rfl, by rw [List.take_zero, List.map_nil, List.append_nil]; exact hlay2, hkd, fun g e => .inl e, hbl⟩)
   clear hlay hlay2 hkd hvv hbl hblk q5 p0 p1 p2 p3 p4 p5
   go_wp2_with (fail)
   go_loopw [50] (fun iv wr => LfRel bs x i o n s k0 (L ++ rs.map (shR k0)) F fs v vf v' w1 iv wr) (fun iv _ => fs.length - (intOf iv).toNat)
   case atStart => exact HST2.out
   case round =>
    have HVV1 := hid HVV.out
    obtain ⟨k2, vf', hk2, rfl, hlay, hkd, hvv, hbl⟩ := hrel
    have HLAY := hid hlay
    have HKD := hid hkd
    have HVV := hid hvv
    have HBL := hid hbl
    by_cases hlt : k2 < fs.length
    ·obtain ⟨hru, hnt0⟩ := HFI.out wr (HKW.out wr hkd)
     obtain ⟨b, off, A', c', A2, c2, hA, hbB, d0, d2, d4, ⟨hg, hgc, hgl, hgm⟩, ht, htc, htl⟩ := hru.at_ hlt
     have HNT := hid (fun e : A2 = none => hnt0 b off hA k2 hlt fs[k2].out.length c2 (by rw [← e]; exact d4))
     obtain ⟨r, hrk⟩ : ∃ r, fs[k2] = r := ⟨_, rfl⟩
     have HRK := hid hrk
     rw [hrk] at d0 d2 d4 hg hgc hgl hgm ht htc htl
     obtain ⟨f0, f1, f4, f5, f6, f7⟩ := HFFM.out r (by rw [← hrk]; exact List.getElem_mem hlt)
     have HGU0 := hid (fun W (h : RGs W A' r.gs.length r.gs) => guards_new A' c' r.gs W h f4 f5)
     have HTE0 := hid (fun W g (h : RTm W A2 r.out.length r.out) (hc : W.cell? ⟨g, 0, none⟩ = some (.slice A2 r.out.length c2)) (hlt : g < W.heap.size) => terms_new g 1 c2 A2 r.out W hc hlt h f6 f7 HNT.out)
     obtain ⟨ng, hng⟩ : ∃ ng, r.gs.length = ng := ⟨_, rfl⟩
     obtain ⟨nt, hnt⟩ : ∃ nt, r.out.length = nt := ⟨_, rfl⟩
     have HNN := hid (And.intro hng hnt)
     rw [hng] at d2 hgc hgl hg HGU0
     rw [hnt] at d4 htc htl ht HTE0
     have s1 : IntKind.i64.wrap (r.frm + k0) = r.frm + k0 := IntWalk.i64_in _ (by omega)
     have HG := hid hg
     have HT := hid ht
     have HK := hid hlt
     have hwr := hkd.1
     have HXR := hid (show x < wr.heap.size from hlay.box.lt)
     obtain ⟨nL, hnL⟩ : ∃ nL, (F ++ (fs.take k2).map (shF k0)).length = nL := ⟨_, rfl⟩
     have HNL := hid hnL
     have hnLb : nL ≤ 200000 := by
      have := HFL.out
      rw [← hnL, List.length_append, List.length_map, List.length_take]
      omega
     obtain ⟨i0, hi0, hz0, hz1, hz2⟩ := info_parts infoFinal
     subst hA
     clear hlay hkd hvv hbl hg ht hgm hrk hng hnt hru hnt0 f4 f5 f6 f7 hnL
     go_wp2_with (fail)
     obtain ⟨wb, hwb⟩ : ∃ wb, wr.alloc (.cells #[.int .i64 (r.frm + k0), .slice A' ng c', .slice A2 nt c2] 45) = wb := ⟨_, rfl⟩
     rw [hwb]
     have hqb : Blk wb wr.heap.size 45 #[.int .i64 (r.frm + k0), .slice A' ng c', .slice A2 nt c2] := by
      rw [← hwb]
      exact heap_alloc_new wr _
     have hsb : wb.heap.size = wr.heap.size + 1 := by rw [← hwb]; simp
     have HBR := hid (show Below wr.heap.size wr wb by rw [← hwb]; exact (Below.refl _ _).alloc (Nat.le_refl _) _)
     have HQ := hid hqb
     have HRB := hid (show wr.heap.size < wb.heap.size by omega)
     have HSZ := hid (show wr.heap.size ≤ wb.heap.size by omega)
     have HGU := hid (fun W (hb : Below wb.heap.size wb W) => HGU0.out W (by have := HG.out.belowM (HBR.out.trans (hb.mono HSZ.out)); exact this))
     have HTE := hid (fun W (hb : Below wb.heap.size wb W) g hc hlt => HTE0.out W g (HT.out.belowM (HBR.out.trans (hb.mono HSZ.out))) hc hlt)
     have HBSR := hid (show bs ≤ wr.heap.size by have := HBS.out; omega)
     clear hqb hwb
     go_upto_region 12 with (fail)
     go_cut [] (fun wx => ∃ AG cG AT cT, Blk wx wr.heap.size 45 #[.int .i64 (r.frm + k0), .slice AG ng cG, .slice AT nt cT] ∧ NewGT wb.heap.size r.gs r.out AG cG AT cT wx ∧ Below wr.heap.size wr wx)
     case first =>
      have hBr : Below wr.heap.size wr wb.drew := HBR.out.drew
      have hBn : Below wb.heap.size wb wb.drew := (Below.refl _ _).drew
      obtain ⟨wd, hwd⟩ : ∃ wd, wb.drew = wd := ⟨_, rfl⟩
      refine wp_region_held_drew (S := fun W => Below wr.heap.size wr W) (by kernel_rfl) hBr (fun hHeld => ?_)
      rw [hwd] at hBr hBn hHeld ⊢
      refine wpAnyH_take (i := 0) (oi := { dst := some 59, op := Op.fieldAddr 45 (Operand.tmp 9) 1, type := 0, pos := "desc.go:198", after := #[], guard := none }) (v := ?_) rfl (by kernel_rfl) (by kernel_rfl) (by kernel_rfl) (fun _ _ _ h => h) (Or.inl ⟨by rfl, ?_⟩) (by assumption) ?_
      rotate_left
      ·intro w' hSw
       (try dsimp only at hSw)
       go_simp
       all_goals with_reducible rfl
      try simp only [Act.put, List.setIfInBounds_toArray, List.set_cons_zero, List.set_cons_succ]
      refine wpAnyH_take (i := 3) (oi := { dst := some 62, op := Op.fieldAddr 45 (Operand.tmp 9) 2, type := 0, pos := "desc.go:198", after := #[], guard := none }) (v := ?_) rfl (by kernel_rfl) (by kernel_rfl) (by kernel_rfl) (fun _ _ _ h => h) (Or.inl ⟨by rfl, ?_⟩) (by assumption) ?_
      rotate_left
      ·intro w' hSw
       (try dsimp only at hSw)
       go_simp
       all_goals with_reducible rfl
      try simp only [Act.put, List.setIfInBounds_toArray, List.set_cons_zero, List.set_cons_succ]
      refine wpAnyH_ready (rs := [1, 4]) (by kernel_rfl) (by simp) ?_
      refine (AllReadyH.cons (o := { dst := some 60, op := Op.load 42 (Operand.tmp 59), type := 42, pos := "desc.go:198", after := #[{ on := 0, ground := Ground.data }], guard := none }) rfl (fun K hK => ?_) (AllReadyH.cons (o := { dst := some 63, op := Op.load 43 (Operand.tmp 62), type := 43, pos := "desc.go:198", after := #[{ on := 3, ground := Ground.data }], guard := none }) rfl (fun K hK => ?_) AllReadyH.nil))
      focus
       have hcl : wd.cell? ⟨wr.heap.size, 1, none⟩ = some (.slice A' ng c') := (HQ.out.below hBn HRB.out).cell 1
       go_simp
       clear hcl
       refine hK.out _ _ ?_ (fun hHeld => ?_)
       ·exact hBr
       clear hK K
       try simp only [Act.put, List.setIfInBounds_toArray, List.set_cons_zero, List.set_cons_succ]
       refine wpAnyH_ready (rs := [2, 4]) (by kernel_rfl) (by simp) ?_
       refine (AllReadyH.cons (o := { dst := some 61, op := Op.call { callee := Callee.value (Operand.func 40), args := #[Operand.tmp 60], argTypes := #[42] }, type := 42, pos := "desc.go:198", after := #[{ on := 1, ground := Ground.data }], guard := none }) rfl (fun K hK => ?_) (AllReadyH.cons (o := { dst := some 63, op := Op.load 43 (Operand.tmp 62), type := 43, pos := "desc.go:198", after := #[{ on := 3, ground := Ground.data }], guard := none }) rfl (fun K hK => ?_) AllReadyH.nil))
       focus
        go_simp
        go_wp2_with (go_at_call 40; (with_reducible refine (HGU.out _ hBn).mono ?_); rintro eg wg ⟨vG, rfl, hrG, hbG⟩)
        have hszG := hBn.size
        have hBr := nextB hBr hbG (Nat.le_trans HSZ.out hBn.size)
        have hBn := nextB hBn hbG hBn.size
        obtain ⟨AG, cG, hvG, hgp, hgl, _⟩ := RowB.far hrG
        have hgp := rgp_keep hgp (Below.refl _ _) hszG
        rw [HNN.out.1] at hvG hgl
        subst hvG
        refine hK.out _ _ ?_ (fun hHeld => ?_)
        ·exact hBr
        clear hK K
        try simp only [Act.put, List.setIfInBounds_toArray, List.set_cons_zero, List.set_cons_succ]
        refine wpAnyH_ready (rs := [4]) (by kernel_rfl) (by simp) ?_
        refine (AllReadyH.cons (o := { dst := some 63, op := Op.load 43 (Operand.tmp 62), type := 43, pos := "desc.go:198", after := #[{ on := 3, ground := Ground.data }], guard := none }) rfl (fun K hK => ?_) AllReadyH.nil)
        have hcl : wg.cell? ⟨wr.heap.size, 2, none⟩ = some (.slice A2 nt c2) := (HQ.out.below hBn HRB.out).cell 2
        go_simp
        clear hcl
        refine hK.out _ _ ?_ (fun hHeld => ?_)
        ·exact hBr
        clear hK K
        try simp only [Act.put, List.setIfInBounds_toArray, List.set_cons_zero, List.set_cons_succ]
        refine wpAnyH_take (i := 7) (oi := { dst := some 66, op := Op.fieldAddr 45 (Operand.tmp 9) 1, type := 0, pos := "desc.go:198", after := #[{ on := 0, ground := Ground.phase }, { on := 1, ground := Ground.phase }, { on := 2, ground := Ground.phase }, { on := 3, ground := Ground.phase }, { on := 4, ground := Ground.phase }, { on := 5, ground := Ground.textOnly Go.Departure.lateStoresUnsure }, { on := 6, ground := Ground.textOnly Go.Departure.lateStoresUnsure }], guard := none }) (v := ?_) rfl (by kernel_rfl) (by kernel_rfl) (by kernel_rfl) (fun _ _ _ h => h) (Or.inl ⟨by rfl, ?_⟩) (by assumption) ?_
        rotate_left
        ·intro w' hSw
         (try dsimp only at hSw)
         go_simp
         all_goals with_reducible rfl
        try simp only [Act.put, List.setIfInBounds_toArray, List.set_cons_zero, List.set_cons_succ]
        refine wpAnyH_ready (rs := [5]) (by kernel_rfl) (by simp) ?_
        refine (AllReadyH.cons (o := { dst := some 64, op := Op.buildSlice 90 1 #[(0, Operand.tmp 63)], type := 90, pos := "desc.go:198", after := #[{ on := 4, ground := Ground.data }], guard := none }) rfl (fun K hK => ?_) AllReadyH.nil)
        obtain ⟨ws, hws, hqs, hls, hbS⟩ := new_cells wg #[.slice A2 nt c2] 43
        go_simp
        try rw [hws]
        have hBr := nextB hBr hbS (Nat.le_trans HSZ.out hBn.size)
        have hBn := nextB hBn hbS hBn.size
        have hgp := rgp_keep hgp hbS (Nat.le_refl _)
        refine hK.out _ _ ?_ (fun hHeld => ?_)
        ·exact hBr
        clear hK K
        try simp only [Act.put, List.setIfInBounds_toArray, List.set_cons_zero, List.set_cons_succ]
        refine wpAnyH_ready (rs := [6]) (by kernel_rfl) (by simp) ?_
        refine (AllReadyH.cons (o := { dst := some 65, op := Op.call { callee := Callee.value (Operand.func 41), args := #[Operand.tmp 64], argTypes := #[90] }, type := 43, pos := "desc.go:198", after := #[{ on := 5, ground := Ground.data }, { on := 2, ground := Ground.chain }], guard := none }) rfl (fun K hK => ?_) AllReadyH.nil)
        go_simp
        go_wp2_with (go_at_call 41; (with_reducible refine (HTE.out _ hBn _ (hqs.cell 0) hls).mono ?_); rintro et wt ⟨vT, rfl, hrT, hbT⟩)
        have hszT := hBn.size
        have hBr := nextB hBr hbT (Nat.le_trans HSZ.out hBn.size)
        have hBn := nextB hBn hbT hBn.size
        obtain ⟨AT, cT, hvT, htp, htl, _⟩ := RowT.far hrT
        have htp := rtp_keep htp (Below.refl _ _) hszT
        have hgp := rgp_keep hgp hbT (Nat.le_refl _)
        rw [HNN.out.2] at hvT htl
        subst hvT
        refine hK.out _ _ ?_ (fun hHeld => ?_)
        ·exact hBr
        clear hK K
        try simp only [Act.put, List.setIfInBounds_toArray, List.set_cons_zero, List.set_cons_succ]
        obtain ⟨wl, rfl⟩ : ∃ wl : World, wl = wt := ⟨_, rfl⟩
       rotate_left 1
       focus
        have hcl : wd.cell? ⟨wr.heap.size, 2, none⟩ = some (.slice A2 nt c2) := (HQ.out.below hBn HRB.out).cell 2
        go_simp
        clear hcl
        refine hK.out _ _ ?_ (fun hHeld => ?_)
        ·exact hBr
        clear hK K
        try simp only [Act.put, List.setIfInBounds_toArray, List.set_cons_zero, List.set_cons_succ]
        refine wpAnyH_ready (rs := [2, 5]) (by kernel_rfl) (by simp) ?_
        refine (AllReadyH.cons (o := { dst := some 61, op := Op.call { callee := Callee.value (Operand.func 40), args := #[Operand.tmp 60], argTypes := #[42] }, type := 42, pos := "desc.go:198", after := #[{ on := 1, ground := Ground.data }], guard := none }) rfl (fun K hK => ?_) (AllReadyH.cons (o := { dst := some 64, op := Op.buildSlice 90 1 #[(0, Operand.tmp 63)], type := 90, pos := "desc.go:198", after := #[{ on := 4, ground := Ground.data }], guard := none }) rfl (fun K hK => ?_) AllReadyH.nil))
        focus
         go_simp
         go_wp2_with (go_at_call 40; (with_reducible refine (HGU.out _ hBn).mono ?_); rintro eg wg ⟨vG, rfl, hrG, hbG⟩)
         have hszG := hBn.size
         have hBr := nextB hBr hbG (Nat.le_trans HSZ.out hBn.size)
         have hBn := nextB hBn hbG hBn.size
         obtain ⟨AG, cG, hvG, hgp, hgl, _⟩ := RowB.far hrG
         have hgp := rgp_keep hgp (Below.refl _ _) hszG
         rw [HNN.out.1] at hvG hgl
         subst hvG
         refine hK.out _ _ ?_ (fun hHeld => ?_)
         ·exact hBr
         clear hK K
         try simp only [Act.put, List.setIfInBounds_toArray, List.set_cons_zero, List.set_cons_succ]
         refine wpAnyH_take (i := 7) (oi := { dst := some 66, op := Op.fieldAddr 45 (Operand.tmp 9) 1, type := 0, pos := "desc.go:198", after := #[{ on := 0, ground := Ground.phase }, { on := 1, ground := Ground.phase }, { on := 2, ground := Ground.phase }, { on := 3, ground := Ground.phase }, { on := 4, ground := Ground.phase }, { on := 5, ground := Ground.textOnly Go.Departure.lateStoresUnsure }, { on := 6, ground := Ground.textOnly Go.Departure.lateStoresUnsure }], guard := none }) (v := ?_) rfl (by kernel_rfl) (by kernel_rfl) (by kernel_rfl) (fun _ _ _ h => h) (Or.inl ⟨by rfl, ?_⟩) (by assumption) ?_
         rotate_left
         ·intro w' hSw
          (try dsimp only at hSw)
          go_simp
          all_goals with_reducible rfl
         try simp only [Act.put, List.setIfInBounds_toArray, List.set_cons_zero, List.set_cons_succ]
         refine wpAnyH_ready (rs := [5]) (by kernel_rfl) (by simp) ?_
         refine (AllReadyH.cons (o := { dst := some 64, op := Op.buildSlice 90 1 #[(0, Operand.tmp 63)], type := 90, pos := "desc.go:198", after := #[{ on := 4, ground := Ground.data }], guard := none }) rfl (fun K hK => ?_) AllReadyH.nil)
         obtain ⟨ws, hws, hqs, hls, hbS⟩ := new_cells wg #[.slice A2 nt c2] 43
         go_simp
         try rw [hws]
         have hBr := nextB hBr hbS (Nat.le_trans HSZ.out hBn.size)
         have hBn := nextB hBn hbS hBn.size
         have hgp := rgp_keep hgp hbS (Nat.le_refl _)
         refine hK.out _ _ ?_ (fun hHeld => ?_)
         ·exact hBr
         clear hK K
         try simp only [Act.put, List.setIfInBounds_toArray, List.set_cons_zero, List.set_cons_succ]
         refine wpAnyH_ready (rs := [6]) (by kernel_rfl) (by simp) ?_
         refine (AllReadyH.cons (o := { dst := some 65, op := Op.call { callee := Callee.value (Operand.func 41), args := #[Operand.tmp 64], argTypes := #[90] }, type := 43, pos := "desc.go:198", after := #[{ on := 5, ground := Ground.data }, { on := 2, ground := Ground.chain }], guard := none }) rfl (fun K hK => ?_) AllReadyH.nil)
         go_simp
         go_wp2_with (go_at_call 41; (with_reducible refine (HTE.out _ hBn _ (hqs.cell 0) hls).mono ?_); rintro et wt ⟨vT, rfl, hrT, hbT⟩)
         have hszT := hBn.size
         have hBr := nextB hBr hbT (Nat.le_trans HSZ.out hBn.size)
         have hBn := nextB hBn hbT hBn.size
         obtain ⟨AT, cT, hvT, htp, htl, _⟩ := RowT.far hrT
         have htp := rtp_keep htp (Below.refl _ _) hszT
         have hgp := rgp_keep hgp hbT (Nat.le_refl _)
         rw [HNN.out.2] at hvT htl
         subst hvT
         refine hK.out _ _ ?_ (fun hHeld => ?_)
         ·exact hBr
         clear hK K
         try simp only [Act.put, List.setIfInBounds_toArray, List.set_cons_zero, List.set_cons_succ]
         obtain ⟨wl, rfl⟩ : ∃ wl : World, wl = wt := ⟨_, rfl⟩
        rotate_left 1
        focus
         obtain ⟨ws, hws, hqs, hls, hbS⟩ := new_cells wd #[.slice A2 nt c2] 43
         go_simp
         try rw [hws]
         have hBr := nextB hBr hbS (Nat.le_trans HSZ.out hBn.size)
         have hBn := nextB hBn hbS hBn.size
         refine hK.out _ _ ?_ (fun hHeld => ?_)
         ·exact hBr
         clear hK K
         try simp only [Act.put, List.setIfInBounds_toArray, List.set_cons_zero, List.set_cons_succ]
         refine wpAnyH_ready (rs := [2]) (by kernel_rfl) (by simp) ?_
         refine (AllReadyH.cons (o := { dst := some 61, op := Op.call { callee := Callee.value (Operand.func 40), args := #[Operand.tmp 60], argTypes := #[42] }, type := 42, pos := "desc.go:198", after := #[{ on := 1, ground := Ground.data }], guard := none }) rfl (fun K hK => ?_) AllReadyH.nil)
         go_simp
         go_wp2_with (go_at_call 40; (with_reducible refine (HGU.out _ hBn).mono ?_); rintro eg wg ⟨vG, rfl, hrG, hbG⟩)
         have hszG := hBn.size
         have hBr := nextB hBr hbG (Nat.le_trans HSZ.out hBn.size)
         have hBn := nextB hBn hbG hBn.size
         obtain ⟨AG, cG, hvG, hgp, hgl, _⟩ := RowB.far hrG
         have hgp := rgp_keep hgp (Below.refl _ _) hszG
         rw [HNN.out.1] at hvG hgl
         subst hvG
         have hqs := hqs.below hbG hls
         have hls := Nat.lt_of_lt_of_le hls hbG.size
         refine hK.out _ _ ?_ (fun hHeld => ?_)
         ·exact hBr
         clear hK K
         try simp only [Act.put, List.setIfInBounds_toArray, List.set_cons_zero, List.set_cons_succ]
         refine wpAnyH_take (i := 7) (oi := { dst := some 66, op := Op.fieldAddr 45 (Operand.tmp 9) 1, type := 0, pos := "desc.go:198", after := #[{ on := 0, ground := Ground.phase }, { on := 1, ground := Ground.phase }, { on := 2, ground := Ground.phase }, { on := 3, ground := Ground.phase }, { on := 4, ground := Ground.phase }, { on := 5, ground := Ground.textOnly Go.Departure.lateStoresUnsure }, { on := 6, ground := Ground.textOnly Go.Departure.lateStoresUnsure }], guard := none }) (v := ?_) rfl (by kernel_rfl) (by kernel_rfl) (by kernel_rfl) (fun _ _ _ h => h) (Or.inl ⟨by rfl, ?_⟩) (by assumption) ?_
         rotate_left
         ·intro w' hSw
          (try dsimp only at hSw)
          go_simp
          all_goals with_reducible rfl
         try simp only [Act.put, List.setIfInBounds_toArray, List.set_cons_zero, List.set_cons_succ]
         refine wpAnyH_ready (rs := [6]) (by kernel_rfl) (by simp) ?_
         refine (AllReadyH.cons (o := { dst := some 65, op := Op.call { callee := Callee.value (Operand.func 41), args := #[Operand.tmp 64], argTypes := #[90] }, type := 43, pos := "desc.go:198", after := #[{ on := 5, ground := Ground.data }, { on := 2, ground := Ground.chain }], guard := none }) rfl (fun K hK => ?_) AllReadyH.nil)
         go_simp
         go_wp2_with (go_at_call 41; (with_reducible refine (HTE.out _ hBn _ (hqs.cell 0) hls).mono ?_); rintro et wt ⟨vT, rfl, hrT, hbT⟩)
         have hszT := hBn.size
         have hBr := nextB hBr hbT (Nat.le_trans HSZ.out hBn.size)
         have hBn := nextB hBn hbT hBn.size
         obtain ⟨AT, cT, hvT, htp, htl, _⟩ := RowT.far hrT
         have htp := rtp_keep htp (Below.refl _ _) hszT
         have hgp := rgp_keep hgp hbT (Nat.le_refl _)
         rw [HNN.out.2] at hvT htl
         subst hvT
         refine hK.out _ _ ?_ (fun hHeld => ?_)
         ·exact hBr
         clear hK K
         try simp only [Act.put, List.setIfInBounds_toArray, List.set_cons_zero, List.set_cons_succ]
         obtain ⟨wl, rfl⟩ : ∃ wl : World, wl = wt := ⟨_, rfl⟩
      rotate_left 3
      focus
       have hcl : wd.cell? ⟨wr.heap.size, 2, none⟩ = some (.slice A2 nt c2) := (HQ.out.below hBn HRB.out).cell 2
       go_simp
       clear hcl
       refine hK.out _ _ ?_ (fun hHeld => ?_)
       ·exact hBr
       clear hK K
       try simp only [Act.put, List.setIfInBounds_toArray, List.set_cons_zero, List.set_cons_succ]
       refine wpAnyH_ready (rs := [1, 5]) (by kernel_rfl) (by simp) ?_
       refine (AllReadyH.cons (o := { dst := some 60, op := Op.load 42 (Operand.tmp 59), type := 42, pos := "desc.go:198", after := #[{ on := 0, ground := Ground.data }], guard := none }) rfl (fun K hK => ?_) (AllReadyH.cons (o := { dst := some 64, op := Op.buildSlice 90 1 #[(0, Operand.tmp 63)], type := 90, pos := "desc.go:198", after := #[{ on := 4, ground := Ground.data }], guard := none }) rfl (fun K hK => ?_) AllReadyH.nil))
       focus
        have hcl : wd.cell? ⟨wr.heap.size, 1, none⟩ = some (.slice A' ng c') := (HQ.out.below hBn HRB.out).cell 1
        go_simp
        clear hcl
        refine hK.out _ _ ?_ (fun hHeld => ?_)
        ·exact hBr
        clear hK K
        try simp only [Act.put, List.setIfInBounds_toArray, List.set_cons_zero, List.set_cons_succ]
        refine wpAnyH_ready (rs := [2, 5]) (by kernel_rfl) (by simp) ?_
        refine (AllReadyH.cons (o := { dst := some 61, op := Op.call { callee := Callee.value (Operand.func 40), args := #[Operand.tmp 60], argTypes := #[42] }, type := 42, pos := "desc.go:198", after := #[{ on := 1, ground := Ground.data }], guard := none }) rfl (fun K hK => ?_) (AllReadyH.cons (o := { dst := some 64, op := Op.buildSlice 90 1 #[(0, Operand.tmp 63)], type := 90, pos := "desc.go:198", after := #[{ on := 4, ground := Ground.data }], guard := none }) rfl (fun K hK => ?_) AllReadyH.nil))
        focus
         go_simp
         go_wp2_with (go_at_call 40; (with_reducible refine (HGU.out _ hBn).mono ?_); rintro eg wg ⟨vG, rfl, hrG, hbG⟩)
         have hszG := hBn.size
         have hBr := nextB hBr hbG (Nat.le_trans HSZ.out hBn.size)
         have hBn := nextB hBn hbG hBn.size
         obtain ⟨AG, cG, hvG, hgp, hgl, _⟩ := RowB.far hrG
         have hgp := rgp_keep hgp (Below.refl _ _) hszG
         rw [HNN.out.1] at hvG hgl
         subst hvG
         refine hK.out _ _ ?_ (fun hHeld => ?_)
         ·exact hBr
         clear hK K
         try simp only [Act.put, List.setIfInBounds_toArray, List.set_cons_zero, List.set_cons_succ]
         refine wpAnyH_take (i := 7) (oi := { dst := some 66, op := Op.fieldAddr 45 (Operand.tmp 9) 1, type := 0, pos := "desc.go:198", after := #[{ on := 0, ground := Ground.phase }, { on := 1, ground := Ground.phase }, { on := 2, ground := Ground.phase }, { on := 3, ground := Ground.phase }, { on := 4, ground := Ground.phase }, { on := 5, ground := Ground.textOnly Go.Departure.lateStoresUnsure }, { on := 6, ground := Ground.textOnly Go.Departure.lateStoresUnsure }], guard := none }) (v := ?_) rfl (by kernel_rfl) (by kernel_rfl) (by kernel_rfl) (fun _ _ _ h => h) (Or.inl ⟨by rfl, ?_⟩) (by assumption) ?_
         rotate_left
         ·intro w' hSw
          (try dsimp only at hSw)
          go_simp
          all_goals with_reducible rfl
         try simp only [Act.put, List.setIfInBounds_toArray, List.set_cons_zero, List.set_cons_succ]
         refine wpAnyH_ready (rs := [5]) (by kernel_rfl) (by simp) ?_
         refine (AllReadyH.cons (o := { dst := some 64, op := Op.buildSlice 90 1 #[(0, Operand.tmp 63)], type := 90, pos := "desc.go:198", after := #[{ on := 4, ground := Ground.data }], guard := none }) rfl (fun K hK => ?_) AllReadyH.nil)
         obtain ⟨ws, hws, hqs, hls, hbS⟩ := new_cells wg #[.slice A2 nt c2] 43
         go_simp
         try rw [hws]
         have hBr := nextB hBr hbS (Nat.le_trans HSZ.out hBn.size)
         have hBn := nextB hBn hbS hBn.size
         have hgp := rgp_keep hgp hbS (Nat.le_refl _)
         refine hK.out _ _ ?_ (fun hHeld => ?_)
         ·exact hBr
         clear hK K
         try simp only [Act.put, List.setIfInBounds_toArray, List.set_cons_zero, List.set_cons_succ]
         refine wpAnyH_ready (rs := [6]) (by kernel_rfl) (by simp) ?_
         refine (AllReadyH.cons (o := { dst := some 65, op := Op.call { callee := Callee.value (Operand.func 41), args := #[Operand.tmp 64], argTypes := #[90] }, type := 43, pos := "desc.go:198", after := #[{ on := 5, ground := Ground.data }, { on := 2, ground := Ground.chain }], guard := none }) rfl (fun K hK => ?_) AllReadyH.nil)
         go_simp
         go_wp2_with (go_at_call 41; (with_reducible refine (HTE.out _ hBn _ (hqs.cell 0) hls).mono ?_); rintro et wt ⟨vT, rfl, hrT, hbT⟩)
         have hszT := hBn.size
         have hBr := nextB hBr hbT (Nat.le_trans HSZ.out hBn.size)
         have hBn := nextB hBn hbT hBn.size
         obtain ⟨AT, cT, hvT, htp, htl, _⟩ := RowT.far hrT
         have htp := rtp_keep htp (Below.refl _ _) hszT
         have hgp := rgp_keep hgp hbT (Nat.le_refl _)
         rw [HNN.out.2] at hvT htl
         subst hvT
         refine hK.out _ _ ?_ (fun hHeld => ?_)
         ·exact hBr
         clear hK K
         try simp only [Act.put, List.setIfInBounds_toArray, List.set_cons_zero, List.set_cons_succ]
         obtain ⟨wl, rfl⟩ : ∃ wl : World, wl = wt := ⟨_, rfl⟩
        rotate_left 1
        focus
         obtain ⟨ws, hws, hqs, hls, hbS⟩ := new_cells wd #[.slice A2 nt c2] 43
         go_simp
         try rw [hws]
         have hBr := nextB hBr hbS (Nat.le_trans HSZ.out hBn.size)
         have hBn := nextB hBn hbS hBn.size
         refine hK.out _ _ ?_ (fun hHeld => ?_)
         ·exact hBr
         clear hK K
         try simp only [Act.put, List.setIfInBounds_toArray, List.set_cons_zero, List.set_cons_succ]
         refine wpAnyH_ready (rs := [2]) (by kernel_rfl) (by simp) ?_
         refine (AllReadyH.cons (o := { dst := some 61, op := Op.call { callee := Callee.value (Operand.func 40), args := #[Operand.tmp 60], argTypes := #[42] }, type := 42, pos := "desc.go:198", after := #[{ on := 1, ground := Ground.data }], guard := none }) rfl (fun K hK => ?_) AllReadyH.nil)
         go_simp
         go_wp2_with (go_at_call 40; (with_reducible refine (HGU.out _ hBn).mono ?_); rintro eg wg ⟨vG, rfl, hrG, hbG⟩)
         have hszG := hBn.size
         have hBr := nextB hBr hbG (Nat.le_trans HSZ.out hBn.size)
         have hBn := nextB hBn hbG hBn.size
         obtain ⟨AG, cG, hvG, hgp, hgl, _⟩ := RowB.far hrG
         have hgp := rgp_keep hgp (Below.refl _ _) hszG
         rw [HNN.out.1] at hvG hgl
         subst hvG
         have hqs := hqs.below hbG hls
         have hls := Nat.lt_of_lt_of_le hls hbG.size
         refine hK.out _ _ ?_ (fun hHeld => ?_)
         ·exact hBr
         clear hK K
         try simp only [Act.put, List.setIfInBounds_toArray, List.set_cons_zero, List.set_cons_succ]
         refine wpAnyH_take (i := 7) (oi := { dst := some 66, op := Op.fieldAddr 45 (Operand.tmp 9) 1, type := 0, pos := "desc.go:198", after := #[{ on := 0, ground := Ground.phase }, { on := 1, ground := Ground.phase }, { on := 2, ground := Ground.phase }, { on := 3, ground := Ground.phase }, { on := 4, ground := Ground.phase }, { on := 5, ground := Ground.textOnly Go.Departure.lateStoresUnsure }, { on := 6, ground := Ground.textOnly Go.Departure.lateStoresUnsure }], guard := none }) (v := ?_) rfl (by kernel_rfl) (by kernel_rfl) (by kernel_rfl) (fun _ _ _ h => h) (Or.inl ⟨by rfl, ?_⟩) (by assumption) ?_
         rotate_left
         ·intro w' hSw
          (try dsimp only at hSw)
          go_simp
          all_goals with_reducible rfl
         try simp only [Act.put, List.setIfInBounds_toArray, List.set_cons_zero, List.set_cons_succ]
         refine wpAnyH_ready (rs := [6]) (by kernel_rfl) (by simp) ?_
         refine (AllReadyH.cons (o := { dst := some 65, op := Op.call { callee := Callee.value (Operand.func 41), args := #[Operand.tmp 64], argTypes := #[90] }, type := 43, pos := "desc.go:198", after := #[{ on := 5, ground := Ground.data }, { on := 2, ground := Ground.chain }], guard := none }) rfl (fun K hK => ?_) AllReadyH.nil)
         go_simp
         go_wp2_with (go_at_call 41; (with_reducible refine (HTE.out _ hBn _ (hqs.cell 0) hls).mono ?_); rintro et wt ⟨vT, rfl, hrT, hbT⟩)
         have hszT := hBn.size
         have hBr := nextB hBr hbT (Nat.le_trans HSZ.out hBn.size)
         have hBn := nextB hBn hbT hBn.size
         obtain ⟨AT, cT, hvT, htp, htl, _⟩ := RowT.far hrT
         have htp := rtp_keep htp (Below.refl _ _) hszT
         have hgp := rgp_keep hgp hbT (Nat.le_refl _)
         rw [HNN.out.2] at hvT htl
         subst hvT
         refine hK.out _ _ ?_ (fun hHeld => ?_)
         ·exact hBr
         clear hK K
         try simp only [Act.put, List.setIfInBounds_toArray, List.set_cons_zero, List.set_cons_succ]
         obtain ⟨wl, rfl⟩ : ∃ wl : World, wl = wt := ⟨_, rfl⟩
       rotate_left 2
       focus
        obtain ⟨ws, hws, hqs, hls, hbS⟩ := new_cells wd #[.slice A2 nt c2] 43
        go_simp
        try rw [hws]
        have hBr := nextB hBr hbS (Nat.le_trans HSZ.out hBn.size)
        have hBn := nextB hBn hbS hBn.size
        refine hK.out _ _ ?_ (fun hHeld => ?_)
        ·exact hBr
        clear hK K
        try simp only [Act.put, List.setIfInBounds_toArray, List.set_cons_zero, List.set_cons_succ]
        refine wpAnyH_ready (rs := [1]) (by kernel_rfl) (by simp) ?_
        refine (AllReadyH.cons (o := { dst := some 60, op := Op.load 42 (Operand.tmp 59), type := 42, pos := "desc.go:198", after := #[{ on := 0, ground := Ground.data }], guard := none }) rfl (fun K hK => ?_) AllReadyH.nil)
        have hcl : ws.cell? ⟨wr.heap.size, 1, none⟩ = some (.slice A' ng c') := (HQ.out.below hBn HRB.out).cell 1
        go_simp
        clear hcl
        refine hK.out _ _ ?_ (fun hHeld => ?_)
        ·exact hBr
        clear hK K
        try simp only [Act.put, List.setIfInBounds_toArray, List.set_cons_zero, List.set_cons_succ]
        refine wpAnyH_ready (rs := [2]) (by kernel_rfl) (by simp) ?_
        refine (AllReadyH.cons (o := { dst := some 61, op := Op.call { callee := Callee.value (Operand.func 40), args := #[Operand.tmp 60], argTypes := #[42] }, type := 42, pos := "desc.go:198", after := #[{ on := 1, ground := Ground.data }], guard := none }) rfl (fun K hK => ?_) AllReadyH.nil)
        go_simp
        go_wp2_with (go_at_call 40; (with_reducible refine (HGU.out _ hBn).mono ?_); rintro eg wg ⟨vG, rfl, hrG, hbG⟩)
        have hszG := hBn.size
        have hBr := nextB hBr hbG (Nat.le_trans HSZ.out hBn.size)
        have hBn := nextB hBn hbG hBn.size
        obtain ⟨AG, cG, hvG, hgp, hgl, _⟩ := RowB.far hrG
        have hgp := rgp_keep hgp (Below.refl _ _) hszG
        rw [HNN.out.1] at hvG hgl
        subst hvG
        have hqs := hqs.below hbG hls
        have hls := Nat.lt_of_lt_of_le hls hbG.size
        refine hK.out _ _ ?_ (fun hHeld => ?_)
        ·exact hBr
        clear hK K
        try simp only [Act.put, List.setIfInBounds_toArray, List.set_cons_zero, List.set_cons_succ]
        refine wpAnyH_take (i := 7) (oi := { dst := some 66, op := Op.fieldAddr 45 (Operand.tmp 9) 1, type := 0, pos := "desc.go:198", after := #[{ on := 0, ground := Ground.phase }, { on := 1, ground := Ground.phase }, { on := 2, ground := Ground.phase }, { on := 3, ground := Ground.phase }, { on := 4, ground := Ground.phase }, { on := 5, ground := Ground.textOnly Go.Departure.lateStoresUnsure }, { on := 6, ground := Ground.textOnly Go.Departure.lateStoresUnsure }], guard := none }) (v := ?_) rfl (by kernel_rfl) (by kernel_rfl) (by kernel_rfl) (fun _ _ _ h => h) (Or.inl ⟨by rfl, ?_⟩) (by assumption) ?_
        rotate_left
        ·intro w' hSw
         (try dsimp only at hSw)
         go_simp
         all_goals with_reducible rfl
        try simp only [Act.put, List.setIfInBounds_toArray, List.set_cons_zero, List.set_cons_succ]
        refine wpAnyH_ready (rs := [6]) (by kernel_rfl) (by simp) ?_
        refine (AllReadyH.cons (o := { dst := some 65, op := Op.call { callee := Callee.value (Operand.func 41), args := #[Operand.tmp 64], argTypes := #[90] }, type := 43, pos := "desc.go:198", after := #[{ on := 5, ground := Ground.data }, { on := 2, ground := Ground.chain }], guard := none }) rfl (fun K hK => ?_) AllReadyH.nil)
        go_simp
        go_wp2_with (go_at_call 41; (with_reducible refine (HTE.out _ hBn _ (hqs.cell 0) hls).mono ?_); rintro et wt ⟨vT, rfl, hrT, hbT⟩)
        have hszT := hBn.size
        have hBr := nextB hBr hbT (Nat.le_trans HSZ.out hBn.size)
        have hBn := nextB hBn hbT hBn.size
        obtain ⟨AT, cT, hvT, htp, htl, _⟩ := RowT.far hrT
        have htp := rtp_keep htp (Below.refl _ _) hszT
        have hgp := rgp_keep hgp hbT (Nat.le_refl _)
        rw [HNN.out.2] at hvT htl
        subst hvT
        refine hK.out _ _ ?_ (fun hHeld => ?_)
        ·exact hBr
        clear hK K
        try simp only [Act.put, List.setIfInBounds_toArray, List.set_cons_zero, List.set_cons_succ]
        obtain ⟨wl, rfl⟩ : ∃ wl : World, wl = wt := ⟨_, rfl⟩
      all_goals
       have hq0 := HQ.out.below hBn HRB.out
       have hsz0 := hBn.size
       obtain ⟨wu, hwu⟩ : ∃ wu, wl.setCell ⟨wr.heap.size, 1, none⟩ (.slice AG ng cG) = wu := ⟨_, rfl⟩
       have hq1 : Blk wu wr.heap.size 45 #[.int .i64 (r.frm + k0), .slice AG ng cG, .slice A2 nt c2] := by rw [← hwu]; exact hq0.set_ 1 _
       obtain ⟨wv, hwv⟩ : ∃ wv, wu.setCell ⟨wr.heap.size, 2, none⟩ (.slice AT nt cT) = wv := ⟨_, rfl⟩
       have hq2 : Blk wv wr.heap.size 45 #[.int .i64 (r.frm + k0), .slice AG ng cG, .slice AT nt cT] := by rw [← hwv]; exact hq1.set_ 2 _
       have hBu : Below wr.heap.size wr wu := by rw [← hwu]; exact hBr.setCell (Nat.le_refl _) _
       have hBv : Below wr.heap.size wr wv := by rw [← hwv]; exact hBu.setCell (Nat.le_refl _) _
       have hngt : NewGT wb.heap.size r.gs r.out AG cG AT cT wv := NewGT.keep (w := wl) ⟨hgp, by rw [HNN.out.1]; exact hgl, htp, by rw [HNN.out.2]; exact htl⟩ (by rw [← hwv, ← hwu]; simp) (fun b hb _ => by
        have hne : b ≠ wr.heap.size := fun e => by have := HRB.out; omega
        rw [← hwv, heap_setCell_other wu ⟨wr.heap.size, 2, none⟩ b _ hne, ← hwu, heap_setCell_other wl ⟨wr.heap.size, 1, none⟩ b _ hne])
       have k1 : wl.cell? ⟨wr.heap.size, 1, none⟩ = some (.slice A' ng c') := hq0.cell 1
       have k2 : wl.frozen? ⟨wr.heap.size, 1, none⟩ = false := hq0.frozen 1
       have k3 : wu.cell? ⟨wr.heap.size, 2, none⟩ = some (.slice A2 nt c2) := hq1.cell 2
       have k4 : wu.frozen? ⟨wr.heap.size, 2, none⟩ = false := hq1.frozen 2
       clear hgp htp hq0 hq1
       refine wpAnyH_ready (rs := [8]) (by kernel_rfl) (by simp) ?_
       refine AllReadyH.cons (o := { dst := none, op := Op.store 42 (Operand.tmp 66) (Operand.tmp 61), type := 0, pos := "desc.go:198", after := #[{ on := 7, ground := Ground.data }, { on := 2, ground := Ground.data }, { on := 6, ground := Ground.chain }, { on := 0, ground := Ground.phase }, { on := 1, ground := Ground.phase }, { on := 2, ground := Ground.phase }, { on := 3, ground := Ground.phase }, { on := 4, ground := Ground.phase }, { on := 5, ground := Ground.textOnly Go.Departure.lateStoresUnsure }, { on := 6, ground := Ground.textOnly Go.Departure.lateStoresUnsure }], guard := none }) rfl (fun K hK => ?_) AllReadyH.nil
       go_simp
       try rw [hwu]
       have hBr := hBu
       refine hK.out _ _ ?_ (fun hHeld => ?_)
       ·exact hBr
       clear hK K
       try simp only [Act.put, List.setIfInBounds_toArray, List.set_cons_zero, List.set_cons_succ]
       refine wpAnyH_take (i := 9) (oi := { dst := some 67, op := Op.fieldAddr 45 (Operand.tmp 9) 2, type := 0, pos := "desc.go:198", after := #[{ on := 0, ground := Ground.phase }, { on := 1, ground := Ground.phase }, { on := 2, ground := Ground.phase }, { on := 3, ground := Ground.phase }, { on := 4, ground := Ground.phase }, { on := 5, ground := Ground.phase }, { on := 6, ground := Ground.phase }, { on := 7, ground := Ground.phase }, { on := 8, ground := Ground.phase }], guard := none }) (v := ?_) rfl (by kernel_rfl) (by kernel_rfl) (by kernel_rfl) (fun _ _ _ h => h) (Or.inl ⟨by rfl, ?_⟩) (by assumption) ?_
       rotate_left
       ·intro w' hSw
        (try dsimp only at hSw)
        go_simp
        all_goals with_reducible rfl
       try simp only [Act.put, List.setIfInBounds_toArray, List.set_cons_zero, List.set_cons_succ]
       refine wpAnyH_ready (rs := [10]) (by kernel_rfl) (by simp) ?_
       refine AllReadyH.cons (o := { dst := none, op := Op.store 43 (Operand.tmp 67) (Operand.tmp 65), type := 0, pos := "desc.go:198", after := #[{ on := 9, ground := Ground.data }, { on := 6, ground := Ground.data }, { on := 8, ground := Ground.chain }, { on := 0, ground := Ground.phase }, { on := 1, ground := Ground.phase }, { on := 2, ground := Ground.phase }, { on := 3, ground := Ground.phase }, { on := 4, ground := Ground.phase }, { on := 5, ground := Ground.phase }, { on := 6, ground := Ground.phase }, { on := 7, ground := Ground.phase }, { on := 8, ground := Ground.phase }], guard := none }) rfl (fun K hK => ?_) AllReadyH.nil
       go_simp
       try rw [hwv]
       have hBr := hBv
       refine hK.out _ _ ?_ (fun hHeld => ?_)
       ·exact hBr
       clear hK K
       try simp only [Act.put, List.setIfInBounds_toArray, List.set_cons_zero, List.set_cons_succ]
       refine wpAnyH_done (by kernel_rfl) ?_ _
       go_wp2_with (fail)
       go_meet
       exact ⟨AG, cG, AT, cT, hq2, hngt, hBv⟩
     case rest =>
      obtain ⟨wx, rfl⟩ : ∃ wx : World, wx = wc := ⟨_, rfl⟩
      obtain ⟨AG, cG, AT, cT, hqx, hgx, hbx⟩ := hcut
      have HQX := hid hqx
      have HGTX := hid hgx
      have HBRX := hid hbx
      have HLX := hid (HLAY.out.keep hbx)
      have hszx := hbx.size
      have HNE := hid (show some wr.heap.size ≠ vf'.ownBlock from fun e => by
       obtain ⟨vs0, h0, _⟩ := HLAY.out.finals
       have := (World.ownsRow.lt h0 wr.heap.size e.symm).2
       omega)
      have HNX := hid (show some x ≠ vf'.ownBlock from fun e => by
       obtain ⟨vs0, h0, _⟩ := HLAY.out.finals
       have := (World.ownsRow.lt h0 x e.symm).1
       have := HLAY.out.low
       omega)
      have hbsx : bs ≤ wx.heap.size := by have := HBSR.out; omega
      clear hqx hgx hbx
      go_wp2_with (fail)
      obtain ⟨wd, hwd⟩ : ∃ wd, wx.drew = wd := ⟨_, rfl⟩
      have hQW : Blk wd wr.heap.size 45 #[.int .i64 (r.frm + k0), .slice AG ng cG, .slice AT nt cT] := by rw [← hwd]; exact HQX.out.drew
      have hBx : Below wx.heap.size wx wd := by rw [← hwd]; exact (Below.refl _ _).drew
      refine wp_region_held_drew (S := fun W => Blk W wr.heap.size 45 #[.int .i64 (r.frm + k0), .slice AG ng cG, .slice AT nt cT]) (by kernel_rfl) (by rw [hwd]; exact hQW) (fun hHeld => ?_)
      rw [hwd] at hHeld ⊢
      refine wpAnyH_take (i := 0) (oi := { dst := some 68, op := Op.move (Operand.tmp 0), type := 58, pos := "desc.go:199", after := #[], guard := none }) (v := ?_) rfl (by kernel_rfl) (by kernel_rfl) (by kernel_rfl) (fun _ _ _ h => h) (Or.inl ⟨by rfl, ?_⟩) (by assumption) ?_
      rotate_left
      ·intro w' hSw
       (try dsimp only at hSw)
       go_simp
       all_goals with_reducible rfl
      try simp only [Act.put, List.setIfInBounds_toArray, List.set_cons_zero, List.set_cons_succ]
      refine wpAnyH_take (i := 1) (oi := { dst := some 69, op := Op.move (Operand.tmp 0), type := 58, pos := "desc.go:199", after := #[], guard := none }) (v := ?_) rfl (by kernel_rfl) (by kernel_rfl) (by kernel_rfl) (fun _ _ _ h => h) (Or.inl ⟨by rfl, ?_⟩) (by assumption) ?_
      rotate_left
      ·intro w' hSw
       (try dsimp only at hSw)
       go_simp
       all_goals with_reducible rfl
      try simp only [Act.put, List.setIfInBounds_toArray, List.set_cons_zero, List.set_cons_succ]
      refine wpAnyH_take (i := 2) (oi := { dst := some 70, op := Op.nilCheck (Operand.tmp 69), type := 0, pos := "desc.go:199", after := #[{ on := 1, ground := Ground.data }], guard := none }) (v := ?_) rfl (by kernel_rfl) (by kernel_rfl) (by kernel_rfl) (fun _ _ _ h => h) (Or.inl ⟨by rfl, ?_⟩) (by assumption) ?_
      rotate_left
      ·intro w' hSw
       (try dsimp only at hSw)
       go_simp
       all_goals with_reducible rfl
      try simp only [Act.put, List.setIfInBounds_toArray, List.set_cons_zero, List.set_cons_succ]
      refine wpAnyH_take (i := 3) (oi := { dst := some 71, op := Op.fieldAddr 26 (Operand.tmp 70) 5, type := 0, pos := "desc.go:199", after := #[{ on := 2, ground := Ground.data }], guard := none }) (v := ?_) rfl (by kernel_rfl) (by kernel_rfl) (by kernel_rfl) (fun _ _ _ h => h) (Or.inl ⟨by rfl, ?_⟩) (by assumption) ?_
      rotate_left
      ·intro w' hSw
       (try dsimp only at hSw)
       go_simp
       all_goals with_reducible rfl
      try simp only [Act.put, List.setIfInBounds_toArray, List.set_cons_zero, List.set_cons_succ]
      refine wpAnyH_take (i := 5) (oi := { dst := some 73, op := Op.load 45 (Operand.tmp 9), type := 45, pos := "desc.go:199", after := #[], guard := none }) (v := ?_) rfl (by kernel_rfl) (by kernel_rfl) (by kernel_rfl) (fun _ _ _ h => h) (Or.inl ⟨by rfl, ?_⟩) (by assumption) ?_
      rotate_left
      ·intro w' hSw
       (try dsimp only at hSw)
       have l0 := hSw.cell 0
       have l1 := hSw.cell 1
       have l2 := hSw.cell 2
       simp only [List.getElem?_toArray, List.getElem?_cons_zero, List.getElem?_cons_succ] at l0 l1 l2
       go_simp
       all_goals with_reducible rfl
      try simp only [Act.put, List.setIfInBounds_toArray, List.set_cons_zero, List.set_cons_succ]
      refine wpAnyH_ready (rs := [4, 6]) (by kernel_rfl) (by simp) ?_
      refine (AllReadyH.cons (o := { dst := some 72, op := Op.load 24 (Operand.tmp 71), type := 24, pos := "desc.go:199", after := #[{ on := 3, ground := Ground.data }], guard := none }) rfl (fun K hK => ?_) (AllReadyH.cons (o := { dst := some 74, op := Op.buildSlice 24 1 #[(0, Operand.tmp 73)], type := 24, pos := "desc.go:199", after := #[{ on := 5, ground := Ground.data }], guard := none }) rfl (fun K hK => ?_) AllReadyH.nil))
      focus
       have hcl := ((HLX.out.keep hBx).box).at5
       go_simp
       clear hcl
       refine hK.out _ _ ?_ (fun hHeld => ?_)
       ·exact hQW
       clear hK K
       try simp only [Act.put, List.setIfInBounds_toArray, List.set_cons_zero, List.set_cons_succ]
       refine wpAnyH_ready (rs := [6]) (by kernel_rfl) (by simp) ?_
       refine (AllReadyH.cons (o := { dst := some 74, op := Op.buildSlice 24 1 #[(0, Operand.tmp 73)], type := 24, pos := "desc.go:199", after := #[{ on := 5, ground := Ground.data }], guard := none }) rfl (fun K hK => ?_) AllReadyH.nil)
       obtain ⟨ws, hws, hqs, hls, hbS⟩ := new_cells wd #[.int .i64 (r.frm + k0), .slice AG ng cG, .slice AT nt cT] 45
       have hQW := hQW.below hbS hQW.lt
       have hBx := below_nextD hBx hbS
       go_simp
       try rw [hws]
       refine hK.out _ _ ?_ (fun hHeld => ?_)
       ·exact hQW
       clear hK K
       try simp only [Act.put, List.setIfInBounds_toArray, List.set_cons_zero, List.set_cons_succ]
       refine wpAnyH_ready (rs := [7]) (by kernel_rfl) (by simp) ?_
       refine (AllReadyH.cons (o := { dst := some 75, op := Op.call { callee := Callee.builtin Builtin.append, args := #[Operand.tmp 72, Operand.tmp 74], argTypes := #[24, 24] }, type := 24, pos := "desc.go:199", after := #[{ on := 4, ground := Ground.data }, { on := 6, ground := Ground.data }], guard := none }) rfl (fun K hK => ?_) AllReadyH.nil)
       have hls2 := (HLX.out.keep hBx)
       obtain ⟨vs, hvs, _⟩ := hls2.finals
       have hszW := hBx.size
       (refine step_append_lies _ (by rfl) _ _ _ (by rfl) bs 45 i0 _ 3 56 Tryz.underlying24 hi0 hz0 hz1 hz2 rfl (by omega) vf' nL vs (by rfl) (by rw [HNL.out] at hvs; exact hvs) ⟨wd.heap.size, 0, none⟩ 1 1 [.int .i64 (r.frm + k0), .slice AG ng cG, .slice AT nt cT] (by rfl) (by rfl) (World.news_of_block (cs := #[.int .i64 (r.frm + k0), .slice AG ng cG, .slice AT nt cT]) (t := 45) (fr := (0, 0)) hqs) (by simp [Value.oneCell']) (by omega) (by simp only [maxLen]; omega) (by omega) (by omega) (ws.heap.size) rfl ?_; intro gg capg w9 hown9 hg9 hat9 hlt9)
       have hQ9 := Blk_keep hQW (hg9.block wr.heap.size hQW.lt (HNE.out))
       have hQW := hQ9
       refine hK.out _ _ ?_ (fun hHeld => ?_)
       ·exact hQW
       clear hK K
       try simp only [Act.put, List.setIfInBounds_toArray, List.set_cons_zero, List.set_cons_succ]
      rotate_left 1
      focus
       obtain ⟨ws, hws, hqs, hls, hbS⟩ := new_cells wd #[.int .i64 (r.frm + k0), .slice AG ng cG, .slice AT nt cT] 45
       have hQW := hQW.below hbS hQW.lt
       have hBx := below_nextD hBx hbS
       go_simp
       try rw [hws]
       refine hK.out _ _ ?_ (fun hHeld => ?_)
       ·exact hQW
       clear hK K
       try simp only [Act.put, List.setIfInBounds_toArray, List.set_cons_zero, List.set_cons_succ]
       refine wpAnyH_ready (rs := [4]) (by kernel_rfl) (by simp) ?_
       refine (AllReadyH.cons (o := { dst := some 72, op := Op.load 24 (Operand.tmp 71), type := 24, pos := "desc.go:199", after := #[{ on := 3, ground := Ground.data }], guard := none }) rfl (fun K hK => ?_) AllReadyH.nil)
       have hcl := ((HLX.out.keep hBx).box).at5
       go_simp
       clear hcl
       refine hK.out _ _ ?_ (fun hHeld => ?_)
       ·exact hQW
       clear hK K
       try simp only [Act.put, List.setIfInBounds_toArray, List.set_cons_zero, List.set_cons_succ]
       refine wpAnyH_ready (rs := [7]) (by kernel_rfl) (by simp) ?_
       refine (AllReadyH.cons (o := { dst := some 75, op := Op.call { callee := Callee.builtin Builtin.append, args := #[Operand.tmp 72, Operand.tmp 74], argTypes := #[24, 24] }, type := 24, pos := "desc.go:199", after := #[{ on := 4, ground := Ground.data }, { on := 6, ground := Ground.data }], guard := none }) rfl (fun K hK => ?_) AllReadyH.nil)
       have hls2 := (HLX.out.keep hBx)
       obtain ⟨vs, hvs, _⟩ := hls2.finals
       have hszW := hBx.size
       (refine step_append_lies _ (by rfl) _ _ _ (by rfl) bs 45 i0 _ 3 56 Tryz.underlying24 hi0 hz0 hz1 hz2 rfl (by omega) vf' nL vs (by rfl) (by rw [HNL.out] at hvs; exact hvs) ⟨wd.heap.size, 0, none⟩ 1 1 [.int .i64 (r.frm + k0), .slice AG ng cG, .slice AT nt cT] (by rfl) (by rfl) (World.news_of_block (cs := #[.int .i64 (r.frm + k0), .slice AG ng cG, .slice AT nt cT]) (t := 45) (fr := (0, 0)) hqs) (by simp [Value.oneCell']) (by omega) (by simp only [maxLen]; omega) (by omega) (by omega) (ws.heap.size) rfl ?_; intro gg capg w9 hown9 hg9 hat9 hlt9)
       have hQ9 := Blk_keep hQW (hg9.block wr.heap.size hQW.lt (HNE.out))
       have hQW := hQ9
       refine hK.out _ _ ?_ (fun hHeld => ?_)
       ·exact hQW
       clear hK K
       try simp only [Act.put, List.setIfInBounds_toArray, List.set_cons_zero, List.set_cons_succ]
      all_goals
       have hdb := hls2.box.keep (hg9.block x hls2.box.lt HNX.out)
       have k1 := hdb.at5
       have k2 := hdb.frozen 5
       have hnext := final_next HK.out HRK.out HLAY.out HKD.out HVV.out HBL.out HBS1.out (HBRX.out.trans (hBx.mono HBRX.out.size)) (Nat.le_of_lt HRB.out) (NewGT.keep HGTX.out hBx.size (fun b _ hlt => hBx.block b hlt)) hvs hg9 (by rw [HNN.out.1, HNN.out.2, HNL.out]; exact hown9) hat9
       rw [HNL.out] at hnext
       have HNEXT := hid hnext
       clear hnext
       refine wpAnyH_take (i := 8) (oi := { dst := some 76, op := Op.nilCheck (Operand.tmp 68), type := 0, pos := "desc.go:199", after := #[{ on := 0, ground := Ground.data }, { on := 0, ground := Ground.phase }, { on := 1, ground := Ground.phase }, { on := 2, ground := Ground.phase }, { on := 3, ground := Ground.phase }, { on := 4, ground := Ground.phase }, { on := 5, ground := Ground.phase }, { on := 6, ground := Ground.phase }, { on := 7, ground := Ground.phase }], guard := none }) (v := ?_) rfl (by kernel_rfl) (by kernel_rfl) (by kernel_rfl) (fun _ _ _ h => h) (Or.inl ⟨by rfl, ?_⟩) (by assumption) ?_
       rotate_left
       ·intro w' hSw
        (try dsimp only at hSw)
        go_simp
        all_goals with_reducible rfl
       try simp only [Act.put, List.setIfInBounds_toArray, List.set_cons_zero, List.set_cons_succ]
       refine wpAnyH_take (i := 9) (oi := { dst := some 77, op := Op.fieldAddr 26 (Operand.tmp 76) 5, type := 0, pos := "desc.go:199", after := #[{ on := 8, ground := Ground.data }, { on := 0, ground := Ground.phase }, { on := 1, ground := Ground.phase }, { on := 2, ground := Ground.phase }, { on := 3, ground := Ground.phase }, { on := 4, ground := Ground.phase }, { on := 5, ground := Ground.phase }, { on := 6, ground := Ground.phase }, { on := 7, ground := Ground.phase }], guard := none }) (v := ?_) rfl (by kernel_rfl) (by kernel_rfl) (by kernel_rfl) (fun _ _ _ h => h) (Or.inl ⟨by rfl, ?_⟩) (by assumption) ?_
       rotate_left
       ·intro w' hSw
        (try dsimp only at hSw)
        go_simp
        all_goals with_reducible rfl
       try simp only [Act.put, List.setIfInBounds_toArray, List.set_cons_zero, List.set_cons_succ]
       obtain ⟨wz, hwz⟩ : ∃ wz, w9.setCell ⟨x, 5, none⟩ (.slice (some ⟨gg, 0, none⟩) (nL + 1) capg) = wz := ⟨_, rfl⟩
       rw [hwz] at HNEXT
       have hQZ : Blk wz wr.heap.size 45 #[.int .i64 (r.frm + k0), .slice AG ng cG, .slice AT nt cT] := by rw [← hwz]; exact Blk_keep hQW (heap_setCell_other w9 ⟨x, 5, none⟩ wr.heap.size _ (show wr.heap.size ≠ x by have := HXR.out; omega))
       refine wpAnyH_ready (rs := [10]) (by kernel_rfl) (by simp) ?_
       refine AllReadyH.cons (o := { dst := none, op := Op.store 24 (Operand.tmp 77) (Operand.tmp 75), type := 0, pos := "desc.go:199", after := #[{ on := 9, ground := Ground.data }, { on := 7, ground := Ground.data }, { on := 7, ground := Ground.chain }, { on := 0, ground := Ground.phase }, { on := 1, ground := Ground.phase }, { on := 2, ground := Ground.phase }, { on := 3, ground := Ground.phase }, { on := 4, ground := Ground.phase }, { on := 5, ground := Ground.phase }, { on := 6, ground := Ground.phase }, { on := 7, ground := Ground.phase }], guard := none }) rfl (fun K hK => ?_) AllReadyH.nil
       go_simp
       try rw [hwz]
       have hQW := hQZ
       refine hK.out _ _ ?_ (fun hHeld => ?_)
       ·exact hQW
       clear hK K
       try simp only [Act.put, List.setIfInBounds_toArray, List.set_cons_zero, List.set_cons_succ]
       refine wpAnyH_done (by kernel_rfl) ?_ _
       go_wp2_with (fail)
       go_roundw
       case rel => exact HNEXT.out
       case measure => simp [intOf]; omega
    ·obtain rfl : k2 = fs.length := by omega
     have HEND := hid (show LayOut bs x i o n s k0 L rs F fs v vf w (.returned (.tuple #[])) wr from ⟨rfl, v', vf', by
      rw [List.take_length] at hlay
      exact hlay, HKW.out wr hkd, fun g e => by
      rcases HVV1.out g e with q | q
      ·exact .inl q
      ·exact .inr (by omega), fun g e => by
      rcases hvv g e with q | q
      ·exact .inl q
      ·exact .inr (by omega), (HB1.out.mono (Nat.le_of_lt HXW.out.1)).trans hbl⟩)
     clear hlay hkd hvv hbl
     go_wp2_with (fail)
     go_end0
     exact HEND.out
end Go.Proofs.YtoofgpoeheponaaGreatDoor.De
