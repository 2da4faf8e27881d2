/- The walk of (*pack.reader).table. -/
import Derived.Test.YtboaifdkoemnbaaJ12
import Derived.Test.YtboaifdkoemnbaaJ15
import Derived.Deep.RegionHeld3
import Derived.Deep.RegionLaw
import Derived.Deep.DeepCutAuto
import Derived.Tactics2
namespace Go.Proofs.Ytboaifdkoemnbaa.Pk
set_option maxRecDepth 100000
set_option linter.unusedSimpArgs false
open Go Go.RowKit Go.Proofs.Ytboaifdkoemnbaa.Sp Go.Proofs.Ytboaifdkoemnbaa.Pa Go.Proofs.Ytboaifdkoemnbaa.Te Go.Proofs.Ytboaifdkoemnbaa.Mi Go.Proofs.Ytboaifdkoemnbaa.De Go.Proofs.Ytboaifdkoemnbaa.Wo

theorem LeftLe.bytes (n : Nat) : LeftLe (rdBytes n) := fun s => by
  unfold rdBytes
  split
  · show (s.left.drop n).length ≤ _
    rw [List.length_drop]
    omega
  · exact Nat.le_refl _
theorem LeftLe.act : LeftLe rdAct := LeftLe.num.then_ fun _ => LeftLe.num.then_ fun _ => LeftLe.terms
theorem rdBytes_len (n : Nat) (s : Rd) : (rdBytes n s).1.length = 0 ∨ (rdBytes n s).1.length = n := by
  unfold rdBytes
  split
  · right
    show (s.left.take n).length = n
    rw [List.length_take]
    omega
  · exact .inl rfl
theorem rdBytes_lt (n : Nat) (s : Rd) (h : ∀ y ∈ s.left, y < 256) : ∀ y ∈ (rdBytes n s).1, y < 256 := by
  unfold rdBytes
  split
  · exact fun y hy => h y (List.mem_of_mem_take hy)
  · exact fun y hy => (List.not_mem_nil hy).elim
theorem terms_few (s : Rd) : (rdTerms s).1.length ≤ maxLen := by
  have := rdList_length (fun _ => 64) rdTerm s
  unfold rdTerms maxLen
  omega
set_option maxHeartbeats 32000000 in
theorem rtable_any (x B0 : Nat) (s : Rd) (w : World) (h : RdS x B0 s w) (hl : s.left.length ≤ 1099511627776) :
    Calls Try.prog 27 #[.pointer (some ⟨x, 0, none⟩)] w (TableR x B0 s w) := by
  have hxl := h.lt
  obtain ⟨wid, hwid⟩ : ∃ n, (rdCount 256 s).1 = n := ⟨_, rfl⟩
  obtain ⟨s1, hs1⟩ : ∃ s1, (rdCount 256 s).2 = s1 := ⟨_, rfl⟩
  obtain ⟨nN, hnN⟩ : ∃ n, (rdCount 4096 s1).1 = n := ⟨_, rfl⟩
  obtain ⟨s2, hs2⟩ : ∃ s2, (rdCount 4096 s1).2 = s2 := ⟨_, rfl⟩
  obtain ⟨nA, hnA⟩ : ∃ n, (rdCount 4096 s2).1 = n := ⟨_, rfl⟩
  obtain ⟨s3, hs3⟩ : ∃ s3, (rdCount 4096 s2).2 = s3 := ⟨_, rfl⟩
  obtain ⟨nE, hnE⟩ : ∃ n, (rdCount 4096 s3).1 = n := ⟨_, rfl⟩
  obtain ⟨s4, hs4⟩ : ∃ s4, (rdCount 4096 s3).2 = s4 := ⟨_, rfl⟩
  obtain ⟨l5, hl5⟩ : ∃ l5, (rdBytes 256 s4).1 = l5 := ⟨_, rfl⟩
  obtain ⟨s5, hs5⟩ : ∃ s5, (rdBytes 256 s4).2 = s5 := ⟨_, rfl⟩
  obtain ⟨s6, hs6⟩ : ∃ s6, (rdMany (rdNode wid) nN s5).2 = s6 := ⟨_, rfl⟩
  obtain ⟨s7, hs7⟩ : ∃ s7, (rdMany rdAct nA s6).2 = s7 := ⟨_, rfl⟩
  obtain ⟨cls, hcls⟩ : ∃ cls, l5 ++ List.replicate (256 - l5.length) 0 = cls := ⟨_, rfl⟩
  have HT := Lib.hid (show rdTab s = (⟨cls, (rdMany (rdNode wid) nN s5).1, (rdMany rdAct nA s6).1, (rdMany rdTerms nE s7).1⟩, (rdMany rdTerms nE s7).2) from by
    subst hcls hs7 hs6 hs5 hl5 hs4 hnE hs3 hnA hs2 hnN hs1 hwid
    rfl)
  have hwb : wid ≤ 256 := by rw [← hwid]; exact rdCount_le _ _
  have hNb : nN ≤ 4096 := by rw [← hnN]; exact rdCount_le _ _
  have hAb : nA ≤ 4096 := by rw [← hnA]; exact rdCount_le _ _
  have hEb : nE ≤ 4096 := by rw [← hnE]; exact rdCount_le _ _
  have hb5 : s5.left.length ≤ 1099511627776 := by
    rw [← hs5, ← hs4, ← hs3, ← hs2, ← hs1]
    exact Nat.le_trans (LeftLe.bytes 256 _) (Nat.le_trans (rdCount_left _ _) (Nat.le_trans (rdCount_left _ _) (Nat.le_trans (rdCount_left _ _) (Nat.le_trans (rdCount_left _ _) hl))))
  have hb6 : s6.left.length ≤ 1099511627776 := by rw [← hs6]; exact Nat.le_trans ((LeftLe.node wid).many nN s5) hb5
  have HLA := Lib.hid (fun k => show (rdMany rdAct k s6).2.left.length ≤ 1099511627776 from Nat.le_trans (LeftLe.act.many k s6) hb6)
  have hb7 : s7.left.length ≤ 1099511627776 := by rw [← hs7]; exact Nat.le_trans (LeftLe.act.many nA s6) hb6
  have HLE := Lib.hid (fun k => show (rdMany rdTerms k s7).2.left.length ≤ 1099511627776 from Nat.le_trans (LeftLe.terms.many k s7) hb7)
  have hlen5 : l5.length = 0 ∨ l5.length = 256 := by rw [← hl5]; exact rdBytes_len 256 s4
  have hcl : cls.length = 256 := by
    rw [← hcls, List.length_append, List.length_replicate]
    rcases hlen5 with q | q <;> omega
  have HLEN5 := Lib.hid hlen5
  have HCL := Lib.hid hcl
  have HCLS := Lib.hid hcls
  have HS5 := Lib.hid hs5
  have HL5 := Lib.hid hl5
  have HS6 := Lib.hid hs6
  have HS7 := Lib.hid hs7
  have HB4 := Lib.hid (show (∀ y ∈ s4.left, y < 256) → ∀ c ∈ cls, c < 256 from fun hy c hc => by
    rw [← hcls] at hc
    rcases List.mem_append.1 hc with q | q
    · exact rdBytes_lt 256 s4 hy c (by rw [hl5]; exact q)
    · rw [List.eq_of_mem_replicate q]
      decide)
  obtain ⟨H, hH⟩ : ∃ H, w.heap.size = H := ⟨_, rfl⟩
  obtain ⟨w1, hw1⟩ : ∃ w1, w.alloc (.cells Try.zeroCells27 27) = w1 := ⟨_, rfl⟩
  have hb1 : Below w.heap.size w w1 := by rw [← hw1]; exact (Below.refl _ _).alloc (Nat.le_refl _) _
  have HRES := Lib.hid (show w1.heap[H]? = some (.cells Try.zeroCells27 27 (0, 0)) from by rw [← hw1, ← hH]; exact heap_alloc_new w _)
  have hz1 : w1.heap.size = H + 1 := by rw [← hw1, ← hH]; simp
  have HB1 := Lib.hid hb1
  have C1 := Lib.hid (rcount_any x B0 256 s w1 (h.keep hb1))
  have HSH := Lib.hid hH
  have HW := Lib.hid (And.intro hwid hs1)
  have HN := Lib.hid (And.intro hnN hs2)
  have HA := Lib.hid (And.intro hnA hs3)
  have HE := Lib.hid (And.intro hnE hs4)
  rw [hH] at hxl
  clear h hb1 hwid hs1 hnN hs2 hnA hs3 hnE hs4 hl5 hs5 hs6 hs7 hb5 hb6 hb7 hlen5 hcls hcl hl
  go_enter Try.func27, Try.ntmps27
  go_wp2_with (fail)
  refine C1.out.mono ?_
  rintro e w2 ⟨rfl, hr, hk⟩
  rw [HW.out.2] at hr
  rw [HW.out.1]
  have HK2 := Lib.hid (show KeepR x w1 w2 from hk)
  have C2 := Lib.hid (rcount_any x B0 4096 _ w2 hr)
  clear hr hk
  go_wp2_with (fail)
  refine C2.out.mono ?_
  rintro e w3 ⟨rfl, hr, hk⟩
  rw [HN.out.2] at hr
  rw [HN.out.1]
  have HK3 := Lib.hid (show KeepR x w1 w3 from HK2.out.trans hk)
  have C3 := Lib.hid (rcount_any x B0 4096 _ w3 hr)
  clear hr hk
  go_wp2_with (fail)
  refine C3.out.mono ?_
  rintro e w4 ⟨rfl, hr, hk⟩
  rw [HA.out.2] at hr
  rw [HA.out.1]
  have HK4 := Lib.hid (show KeepR x w1 w4 from HK3.out.trans hk)
  have C4 := Lib.hid (rcount_any x B0 4096 _ w4 hr)
  clear hr hk
  go_wp2_with (fail)
  refine C4.out.mono ?_
  rintro e w5 ⟨rfl, hr, hk⟩
  rw [HE.out.2] at hr
  rw [HE.out.1]
  have HK5 := Lib.hid (show KeepR x w1 w5 from HK4.out.trans hk)
  obtain ⟨T, hT⟩ : ∃ T, w5.heap.size = T := ⟨_, rfl⟩
  obtain ⟨w6, hw6⟩ : ∃ w6, w5.alloc (.cells Try.zeroCells27 27) = w6 := ⟨_, rfl⟩
  have hb6 : Below w5.heap.size w5 w6 := by rw [← hw6]; exact (Below.refl _ _).alloc (Nat.le_refl _) _
  have HRT := Lib.hid (show w6.heap[T]? = some (.cells (tbC (List.replicate 256 0) (.slice none 0 0) (.slice none 0 0) (.slice none 0 0)).toArray 27 (0, 0)) from by rw [← hw6, ← hT, ← tab_zero]; exact heap_alloc_new w5 _)
  have HHT : H < T := by have := HK5.out.size; omega
  have HR6 := Lib.hid (hr.keep hb6)
  have HK6 := Lib.hid (show KeepR x w1 w6 from HK5.out.trans (KeepR.below hb6))
  have HBY := Lib.hid (HB4.out hr.byte)
  have hTl : T < w6.heap.size := (Array.getElem?_eq_some_iff.1 HRT.out).1
  clear hr hk hb6
  go_upto_region 3 with (fail)
  go_cut [] (fun wx => wx.heap[T]? = some (.cells (tbC cls (.slice none 0 0) (.slice none 0 0) (.slice none 0 0)).toArray 27 (0, 0)) ∧ RdS x B0 s5 wx ∧ KeepT x T w6 wx)
  case first =>
    obtain ⟨we, hwe⟩ : ∃ we, w6.drew = we := ⟨_, rfl⟩
    have hbe : Below w6.heap.size w6 we := by rw [← hwe]; exact (Below.refl _ _).drew
    have hRd := HR6.out.keep hbe
    have hKT : KeepT x T w6 we := (KeepR.below hbe).t
    have hBx := (hbe.block T hTl).trans HRT.out
    refine wp_region_held_drew (S := fun _ => True) (by kernel_rfl) trivial (fun hHeld => ?_)
    rw [hwe]
    clear hbe
    refine wpAnyH_take (i := 0) (oi := { dst := some 16, op := Go.Op.fieldAddr 27 (Go.Operand.tmp 7) 0, type := 0, pos := "reader.go:51", after := #[], guard := none }) (v := ?_) rfl (by kernel_rfl) (by kernel_rfl) (by kernel_rfl) (fun _ _ _ h => h) (Or.inl ⟨by rfl, ?_⟩) (by assumption) ?_
    rotate_left
    · intro w' hSw
      (try dsimp only at hSw)
      go_simp
      all_goals with_reducible rfl
    try simp only [Act.put, List.setIfInBounds_toArray, List.set_cons_zero, List.set_cons_succ]
    refine wpAnyH_take (i := 1) (oi := { dst := some 17, op := Go.Op.slice 22 (Go.Operand.tmp 16) none none none, type := 30, pos := "reader.go:51", after := #[{ on := 0, ground := Go.Ground.data }], guard := none }) (v := ?_) rfl (by kernel_rfl) (by kernel_rfl) (by kernel_rfl) (fun _ _ _ h => h) (Or.inl ⟨by rfl, ?_⟩) (by assumption) ?_
    rotate_left
    · intro w' hSw
      (try dsimp only at hSw)
      go_simp
      all_goals with_reducible rfl
    try simp only [Act.put, List.setIfInBounds_toArray, List.set_cons_zero, List.set_cons_succ]
    refine wpAnyH_take (i := 2) (oi := { dst := some 18, op := Go.Op.move (Go.Operand.tmp 0), type := 79, pos := "reader.go:51", after := #[], guard := none }) (v := ?_) rfl (by kernel_rfl) (by kernel_rfl) (by kernel_rfl) (fun _ _ _ h => h) (Or.inl ⟨by rfl, ?_⟩) (by assumption) ?_
    rotate_left
    · intro w' hSw
      (try dsimp only at hSw)
      go_simp
      all_goals with_reducible rfl
    try simp only [Act.put, List.setIfInBounds_toArray, List.set_cons_zero, List.set_cons_succ]
    refine wpAnyH_ready (rs := [3]) (by kernel_rfl) (by simp) ?_
    refine (AllReadyH.cons (o := { dst := some 19, op := Go.Op.call { callee := Go.Callee.value (Go.Operand.func 38), args := #[Go.Operand.tmp 18, Go.Operand.const (Go.Value.int Go.IntKind.i64 256)], argTypes := #[79, 3] }, type := 30, pos := "reader.go:51", after := #[{ on := 2, ground := Go.Ground.data }], guard := none }) rfl (fun K hK => ?_) AllReadyH.nil)
    have hC : Calls Try.prog 38 #[.pointer (some ⟨x, 0, none⟩), .int .i64 256] we (BytesR x B0 256 s4 we) := rbytes_any x B0 256 s4 we hRd (by decide)
    go_simp
    go_wp2_with (go_at_call 38; (with_reducible refine hC.mono ?_); rintro e1 wn ⟨A, c, rfl, hry, hRd, hk⟩)
    clear hC
    rw [HS5.out] at hRd
    rw [HL5.out] at hry ⊢
    have hBx := (hk.block T (by have := hKT.size; omega) (by omega)).trans hBx
    have hKT := hKT.trans hk.t
    clear hk
    refine hK.out _ _ ?_ (fun hHeld => ?_)
    · trivial
    clear hK K
    try simp only [Act.put, List.setIfInBounds_toArray, List.set_cons_zero, List.set_cons_succ]
    refine wpAnyH_ready (rs := [4]) (by kernel_rfl) (by simp) ?_
    refine (AllReadyH.cons (o := { dst := some 20, op := Go.Op.call { callee := Go.Callee.builtin Go.Builtin.copy, args := #[Go.Operand.tmp 17, Go.Operand.tmp 19], argTypes := #[30, 30] }, type := 3, pos := "reader.go:51", after := #[{ on := 1, ground := Go.Ground.data }, { on := 3, ground := Go.Ground.data }, { on := 3, ground := Go.Ground.chain }], guard := none }) rfl (fun K hK => ?_) AllReadyH.nil)
    refine wp_copy_cls _ _ rfl rfl rfl hBx rfl HLEN5.out hry ?_
    intro wk hBk hnk hkk
    have hRd := hRd.other fun b hb => hnk b (by omega)
    have hKT := hKT.trans (hkk x)
    have hBx := hBk
    rw [HCLS.out] at hBx
    clear hBk hnk hkk
    refine hK.out _ _ ?_ (fun hHeld => ?_)
    · trivial
    clear hK K
    try simp only [Act.put, List.setIfInBounds_toArray, List.set_cons_zero, List.set_cons_succ]
    obtain ⟨wl, rfl⟩ : ∃ wl : World, wl = wk := ⟨_, rfl⟩
    all_goals
      refine wpAnyH_done (by kernel_rfl) ?_ _
      go_wp2_with (fail)
      go_meet
      exact ⟨hBx, hRd, hKT⟩
  case rest =>
  obtain ⟨w7, rfl⟩ : ∃ w7 : World, w7 = wc := ⟨_, rfl⟩
  have HB7 := Lib.hid hcut.1
  have HR7 := Lib.hid hcut.2.1
  have HK7 := Lib.hid (show KeepT x T w1 w7 from HK6.out.t.trans hcut.2.2)
  have hz7 := hcut.2.2.size
  clear hcut
  go_wp2_with (fail)
  go_loopw [22] (fun iv wr => LpRel eNode (rdNode wid) nN x B0 T (fun v => tbC cls v (.slice none 0 0) (.slice none 0 0)) s5 w7 iv wr) (fun i _ => nN - (intOf i).toNat)
  case atStart => exact ⟨0, .slice none 0 0, Nat.zero_le _, rfl, LpS.start HB7.out HR7.out (by omega)⟩
  case round =>
    obtain ⟨k, v, hk, rfl, hL⟩ := hrel
    by_cases hlt : k < nN
    · obtain ⟨sk, hsk⟩ : ∃ sk, (rdMany (rdNode wid) k s5).2 = sk := ⟨_, rfl⟩
      have HNX := Lib.hid (rdMany_snoc (rdNode wid) k s5)
      have hlen := rdMany_length (rdNode wid) k s5
      obtain ⟨lk, hlk⟩ : ∃ lk, (rdMany (rdNode wid) k s5).1 = lk := ⟨_, rfl⟩
      rw [hsk, hlk] at hL
      rw [hlk] at hlen
      rw [hsk, hlk] at HNX
      have HLEN := Lib.hid hlen
      obtain ⟨Av, cv, hv⟩ := hL.row.shape
      subst hv
      have HL := Lib.hid hL
      clear hsk hlk hlen hL
      go_upto_region 6 with (fail)
      obtain ⟨we, hwe⟩ : ∃ we, wr.drew = we := ⟨_, rfl⟩
      have hL : LpS eNode x B0 T (fun v => tbC cls v (.slice none 0 0) (.slice none 0 0)) w7 (.slice Av lk.length cv) lk sk we := by rw [← hwe]; exact HL.out.drew
      refine wp_region_held_drew (S := fun _ => True) (by kernel_rfl) trivial (fun hHeld => ?_)
      rw [hwe]
      clear hwe
      refine wpAnyH_take (i := 0) (oi := { dst := some 24, op := Go.Op.fieldAddr 27 (Go.Operand.tmp 7) 1, type := 0, pos := "reader.go:53", after := #[], guard := none }) (v := ?_) rfl (by kernel_rfl) (by kernel_rfl) (by kernel_rfl) (fun _ _ _ h => h) (Or.inl ⟨by rfl, ?_⟩) (by assumption) ?_
      rotate_left
      · intro w' hSw
        (try dsimp only at hSw)
        go_simp
        all_goals with_reducible rfl
      try simp only [Act.put, List.setIfInBounds_toArray, List.set_cons_zero, List.set_cons_succ]
      refine wpAnyH_take (i := 2) (oi := { dst := some 26, op := Go.Op.move (Go.Operand.tmp 0), type := 79, pos := "reader.go:53", after := #[], guard := none }) (v := ?_) rfl (by kernel_rfl) (by kernel_rfl) (by kernel_rfl) (fun _ _ _ h => h) (Or.inl ⟨by rfl, ?_⟩) (by assumption) ?_
      rotate_left
      · intro w' hSw
        (try dsimp only at hSw)
        go_simp
        all_goals with_reducible rfl
      try simp only [Act.put, List.setIfInBounds_toArray, List.set_cons_zero, List.set_cons_succ]
      refine wpAnyH_take (i := 3) (oi := { dst := some 27, op := Go.Op.move (Go.Operand.tmp 3), type := 3, pos := "reader.go:53", after := #[], guard := none }) (v := ?_) rfl (by kernel_rfl) (by kernel_rfl) (by kernel_rfl) (fun _ _ _ h => h) (Or.inl ⟨by rfl, ?_⟩) (by assumption) ?_
      rotate_left
      · intro w' hSw
        (try dsimp only at hSw)
        go_simp
        all_goals with_reducible rfl
      try simp only [Act.put, List.setIfInBounds_toArray, List.set_cons_zero, List.set_cons_succ]
      refine wpAnyH_ready (rs := [1, 4]) (by kernel_rfl) (by simp) ?_
      refine (AllReadyH.cons (o := { dst := some 25, op := Go.Op.load 23 (Go.Operand.tmp 24), type := 23, pos := "reader.go:53", after := #[{ on := 0, ground := Go.Ground.data }], guard := none }) rfl (fun K hK => ?_) (AllReadyH.cons (o := { dst := some 28, op := Go.Op.call { callee := Go.Callee.value (Go.Operand.func 40), args := #[Go.Operand.tmp 26, Go.Operand.tmp 27], argTypes := #[79, 3] }, type := 45, pos := "reader.go:53", after := #[{ on := 2, ground := Go.Ground.data }, { on := 3, ground := Go.Ground.data }], guard := none }) rfl (fun K hK => ?_) AllReadyH.nil))
      focus
        have p5 : we.cell? ⟨T, 256, none⟩ = some (.slice Av lk.length cv) := (hL.cell 256).trans (tbC_at0 HCL.out)
        go_simp
        clear p5
        refine hK.out _ _ ?_ (fun hHeld => ?_)
        · trivial
        clear hK K
        try simp only [Act.put, List.setIfInBounds_toArray, List.set_cons_zero, List.set_cons_succ]
        refine wpAnyH_ready (rs := [4]) (by kernel_rfl) (by simp) ?_
        refine (AllReadyH.cons (o := { dst := some 28, op := Go.Op.call { callee := Go.Callee.value (Go.Operand.func 40), args := #[Go.Operand.tmp 26, Go.Operand.tmp 27], argTypes := #[79, 3] }, type := 45, pos := "reader.go:53", after := #[{ on := 2, ground := Go.Ground.data }, { on := 3, ground := Go.Ground.data }], guard := none }) rfl (fun K hK => ?_) AllReadyH.nil)
        have hC := rnode_any x B0 wid sk we hL.rd hwb
        have hnews := hL.news
        go_simp
        go_wp2_with (go_at_call 40; (with_reducible refine hC.mono ?_); rintro e1 wn ⟨An, cn, rfl, hf, hcn, hin, hRd, hk⟩)
        clear hC
        have hL := hL.moved hRd hk
        clear hRd hk
        obtain ⟨nd, hnd⟩ : ∃ nd, (rdNode wid sk).1 = nd := ⟨_, rfl⟩
        rw [hnd] at hf hcn hin ⊢
        refine hK.out _ _ ?_ (fun hHeld => ?_)
        · trivial
        clear hK K
        try simp only [Act.put, List.setIfInBounds_toArray, List.set_cons_zero, List.set_cons_succ]
        refine wpAnyH_ready (rs := [5]) (by kernel_rfl) (by simp) ?_
        refine (AllReadyH.cons (o := { dst := some 29, op := Go.Op.buildSlice 23 1 #[(0, Go.Operand.tmp 28)], type := 23, pos := "reader.go:53", after := #[{ on := 4, ground := Go.Ground.data }], guard := none }) rfl (fun K hK => ?_) AllReadyH.nil)
        obtain ⟨ws, hws⟩ : ∃ ws, wn.alloc (.cells #[.int .i64 nd.1, .slice An nd.2.2.length cn, .int .i64 nd.2.1] 45) = ws := ⟨_, rfl⟩
        have hbs : Below wn.heap.size wn ws := by rw [← hws]; exact (Below.refl _ _).alloc (Nat.le_refl _) _
        have hqs : ws.heap[wn.heap.size]? = some (.cells #[.int .i64 nd.1, .slice An nd.2.2.length cn, .int .i64 nd.2.1] 45 (0, 0)) := by rw [← hws]; exact heap_alloc_new wn _
        have hok : eNode.ok (fun b => w7.heap.size ≤ b ∧ (Value.slice Av lk.length cv).ownBlock ≠ some b) ws nd [.int .i64 nd.1, .slice An nd.2.2.length cn, .int .i64 nd.2.1] := ⟨An, cn, rfl, hf.keep (KeepQ.below hbs) (fun b hb _ => hnews b hb), hcn, (by have := rdNode_len wid sk; rw [hnd] at this; unfold maxLen; omega), hin⟩
        have hL := hL.below hbs
        go_simp
        try rw [hws]
        clear hbs hws
        refine hK.out _ _ ?_ (fun hHeld => ?_)
        · trivial
        clear hK K
        try simp only [Act.put, List.setIfInBounds_toArray, List.set_cons_zero, List.set_cons_succ]
        refine wpAnyH_ready (rs := [6]) (by kernel_rfl) (by simp) ?_
        refine (AllReadyH.cons (o := { dst := some 30, op := Go.Op.call { callee := Go.Callee.builtin Go.Builtin.append, args := #[Go.Operand.tmp 25, Go.Operand.tmp 29], argTypes := #[23, 23] }, type := 23, pos := "reader.go:53", after := #[{ on := 1, ground := Go.Ground.data }, { on := 5, ground := Go.Ground.data }, { on := 4, ground := Go.Ground.chain }], guard := none }) rfl (fun K hK => ?_) AllReadyH.nil)
        refine wp_append_E (e := eNode) _ _ rfl rfl hL.row ⟨wn.heap.size, 0, none⟩ 1 (y := nd) (cs := [.int .i64 nd.1, .slice An nd.2.2.length cn, .int .i64 nd.2.1]) rfl hok (World.news_of_block hqs) (by have := HLEN.out; omega) hL.keep.size ?_
        intro v7 wa hrow7 hg7 hon7
        obtain ⟨A7, c7, hv7⟩ := hrow7.shape
        subst hv7
        have hbq := hL.grown hg7
        have p7 : wa.cell? ⟨T, 256, none⟩ = some (.slice Av lk.length cv) := (World.cell?_of_block hbq).trans ((hL.cell 256).trans (tbC_at0 HCL.out))
        have f7 : wa.frozen? ⟨T, 256, none⟩ = false := (World.frozen?_of_block hbq).trans (hL.frozen 256)
        clear hbq hon7 hok hqs
        refine hK.out _ _ ?_ (fun hHeld => ?_)
        · trivial
        clear hK K
        try simp only [Act.put, List.setIfInBounds_toArray, List.set_cons_zero, List.set_cons_succ]
        refine wpAnyH_take (i := 7) (oi := { dst := some 31, op := Go.Op.fieldAddr 27 (Go.Operand.tmp 7) 1, type := 0, pos := "reader.go:53", after := #[{ on := 0, ground := Go.Ground.phase }, { on := 1, ground := Go.Ground.phase }, { on := 2, ground := Go.Ground.phase }, { on := 3, ground := Go.Ground.phase }, { on := 4, ground := Go.Ground.phase }, { on := 5, ground := Go.Ground.phase }, { on := 6, ground := Go.Ground.phase }], guard := none }) (v := ?_) rfl (by kernel_rfl) (by kernel_rfl) (by kernel_rfl) (fun _ _ _ h => h) (Or.inl ⟨by rfl, ?_⟩) (by assumption) ?_
        rotate_left
        · intro w' hSw
          (try dsimp only at hSw)
          go_simp
          all_goals with_reducible rfl
        try simp only [Act.put, List.setIfInBounds_toArray, List.set_cons_zero, List.set_cons_succ]
        refine wpAnyH_ready (rs := [8]) (by kernel_rfl) (by simp) ?_
        refine (AllReadyH.cons (o := { dst := none, op := Go.Op.store 23 (Go.Operand.tmp 31) (Go.Operand.tmp 30), type := 0, pos := "reader.go:53", after := #[{ on := 7, ground := Go.Ground.data }, { on := 6, ground := Go.Ground.data }, { on := 6, ground := Go.Ground.chain }, { on := 0, ground := Go.Ground.phase }, { on := 1, ground := Go.Ground.phase }, { on := 2, ground := Go.Ground.phase }, { on := 3, ground := Go.Ground.phase }, { on := 4, ground := Go.Ground.phase }, { on := 5, ground := Go.Ground.phase }, { on := 6, ground := Go.Ground.phase }], guard := none }) rfl (fun K hK => ?_) AllReadyH.nil)
        have hL := hL.push hrow7 hg7 256 (tbC_set0 HCL.out _)
        clear hrow7 hg7
        rw [List.length_append, List.length_singleton] at hL
        go_simp
        obtain ⟨v8, hv8⟩ : ∃ v8, Value.slice A7 (lk.length + 1) c7 = v8 := ⟨_, rfl⟩
        rw [hv8] at hL
        try rw [hv8]
        obtain ⟨w8, hw8⟩ : ∃ w8, wa.setCell ⟨T, 256, none⟩ v8 = w8 := ⟨_, rfl⟩
        rw [hw8] at hL
        try rw [hw8]
        clear hw8 hv8 p7 f7
        refine hK.out _ _ ?_ (fun hHeld => ?_)
        · trivial
        clear hK K
        try simp only [Act.put, List.setIfInBounds_toArray, List.set_cons_zero, List.set_cons_succ]
        obtain ⟨wl, rfl⟩ : ∃ wl : World, wl = w8 := ⟨_, rfl⟩
      rotate_left 1
      focus
        have hC := rnode_any x B0 wid sk we hL.rd hwb
        have hnews := hL.news
        go_simp
        go_wp2_with (go_at_call 40; (with_reducible refine hC.mono ?_); rintro e1 wn ⟨An, cn, rfl, hf, hcn, hin, hRd, hk⟩)
        clear hC
        have hL := hL.moved hRd hk
        clear hRd hk
        obtain ⟨nd, hnd⟩ : ∃ nd, (rdNode wid sk).1 = nd := ⟨_, rfl⟩
        rw [hnd] at hf hcn hin ⊢
        refine hK.out _ _ ?_ (fun hHeld => ?_)
        · trivial
        clear hK K
        try simp only [Act.put, List.setIfInBounds_toArray, List.set_cons_zero, List.set_cons_succ]
        refine wpAnyH_ready (rs := [1, 5]) (by kernel_rfl) (by simp) ?_
        refine (AllReadyH.cons (o := { dst := some 25, op := Go.Op.load 23 (Go.Operand.tmp 24), type := 23, pos := "reader.go:53", after := #[{ on := 0, ground := Go.Ground.data }], guard := none }) rfl (fun K hK => ?_) (AllReadyH.cons (o := { dst := some 29, op := Go.Op.buildSlice 23 1 #[(0, Go.Operand.tmp 28)], type := 23, pos := "reader.go:53", after := #[{ on := 4, ground := Go.Ground.data }], guard := none }) rfl (fun K hK => ?_) AllReadyH.nil))
        focus
          have p5 : wn.cell? ⟨T, 256, none⟩ = some (.slice Av lk.length cv) := (hL.cell 256).trans (tbC_at0 HCL.out)
          go_simp
          clear p5
          refine hK.out _ _ ?_ (fun hHeld => ?_)
          · trivial
          clear hK K
          try simp only [Act.put, List.setIfInBounds_toArray, List.set_cons_zero, List.set_cons_succ]
          refine wpAnyH_ready (rs := [5]) (by kernel_rfl) (by simp) ?_
          refine (AllReadyH.cons (o := { dst := some 29, op := Go.Op.buildSlice 23 1 #[(0, Go.Operand.tmp 28)], type := 23, pos := "reader.go:53", after := #[{ on := 4, ground := Go.Ground.data }], guard := none }) rfl (fun K hK => ?_) AllReadyH.nil)
          obtain ⟨ws, hws⟩ : ∃ ws, wn.alloc (.cells #[.int .i64 nd.1, .slice An nd.2.2.length cn, .int .i64 nd.2.1] 45) = ws := ⟨_, rfl⟩
          have hbs : Below wn.heap.size wn ws := by rw [← hws]; exact (Below.refl _ _).alloc (Nat.le_refl _) _
          have hqs : ws.heap[wn.heap.size]? = some (.cells #[.int .i64 nd.1, .slice An nd.2.2.length cn, .int .i64 nd.2.1] 45 (0, 0)) := by rw [← hws]; exact heap_alloc_new wn _
          have hok : eNode.ok (fun b => w7.heap.size ≤ b ∧ (Value.slice Av lk.length cv).ownBlock ≠ some b) ws nd [.int .i64 nd.1, .slice An nd.2.2.length cn, .int .i64 nd.2.1] := ⟨An, cn, rfl, hf.keep (KeepQ.below hbs) (fun b hb _ => hnews b hb), hcn, (by have := rdNode_len wid sk; rw [hnd] at this; unfold maxLen; omega), hin⟩
          have hL := hL.below hbs
          go_simp
          try rw [hws]
          clear hbs hws
          refine hK.out _ _ ?_ (fun hHeld => ?_)
          · trivial
          clear hK K
          try simp only [Act.put, List.setIfInBounds_toArray, List.set_cons_zero, List.set_cons_succ]
          refine wpAnyH_ready (rs := [6]) (by kernel_rfl) (by simp) ?_
          refine (AllReadyH.cons (o := { dst := some 30, op := Go.Op.call { callee := Go.Callee.builtin Go.Builtin.append, args := #[Go.Operand.tmp 25, Go.Operand.tmp 29], argTypes := #[23, 23] }, type := 23, pos := "reader.go:53", after := #[{ on := 1, ground := Go.Ground.data }, { on := 5, ground := Go.Ground.data }, { on := 4, ground := Go.Ground.chain }], guard := none }) rfl (fun K hK => ?_) AllReadyH.nil)
          refine wp_append_E (e := eNode) _ _ rfl rfl hL.row ⟨wn.heap.size, 0, none⟩ 1 (y := nd) (cs := [.int .i64 nd.1, .slice An nd.2.2.length cn, .int .i64 nd.2.1]) rfl hok (World.news_of_block hqs) (by have := HLEN.out; omega) hL.keep.size ?_
          intro v7 wa hrow7 hg7 hon7
          obtain ⟨A7, c7, hv7⟩ := hrow7.shape
          subst hv7
          have hbq := hL.grown hg7
          have p7 : wa.cell? ⟨T, 256, none⟩ = some (.slice Av lk.length cv) := (World.cell?_of_block hbq).trans ((hL.cell 256).trans (tbC_at0 HCL.out))
          have f7 : wa.frozen? ⟨T, 256, none⟩ = false := (World.frozen?_of_block hbq).trans (hL.frozen 256)
          clear hbq hon7 hok hqs
          refine hK.out _ _ ?_ (fun hHeld => ?_)
          · trivial
          clear hK K
          try simp only [Act.put, List.setIfInBounds_toArray, List.set_cons_zero, List.set_cons_succ]
          refine wpAnyH_take (i := 7) (oi := { dst := some 31, op := Go.Op.fieldAddr 27 (Go.Operand.tmp 7) 1, type := 0, pos := "reader.go:53", after := #[{ on := 0, ground := Go.Ground.phase }, { on := 1, ground := Go.Ground.phase }, { on := 2, ground := Go.Ground.phase }, { on := 3, ground := Go.Ground.phase }, { on := 4, ground := Go.Ground.phase }, { on := 5, ground := Go.Ground.phase }, { on := 6, ground := Go.Ground.phase }], guard := none }) (v := ?_) rfl (by kernel_rfl) (by kernel_rfl) (by kernel_rfl) (fun _ _ _ h => h) (Or.inl ⟨by rfl, ?_⟩) (by assumption) ?_
          rotate_left
          · intro w' hSw
            (try dsimp only at hSw)
            go_simp
            all_goals with_reducible rfl
          try simp only [Act.put, List.setIfInBounds_toArray, List.set_cons_zero, List.set_cons_succ]
          refine wpAnyH_ready (rs := [8]) (by kernel_rfl) (by simp) ?_
          refine (AllReadyH.cons (o := { dst := none, op := Go.Op.store 23 (Go.Operand.tmp 31) (Go.Operand.tmp 30), type := 0, pos := "reader.go:53", after := #[{ on := 7, ground := Go.Ground.data }, { on := 6, ground := Go.Ground.data }, { on := 6, ground := Go.Ground.chain }, { on := 0, ground := Go.Ground.phase }, { on := 1, ground := Go.Ground.phase }, { on := 2, ground := Go.Ground.phase }, { on := 3, ground := Go.Ground.phase }, { on := 4, ground := Go.Ground.phase }, { on := 5, ground := Go.Ground.phase }, { on := 6, ground := Go.Ground.phase }], guard := none }) rfl (fun K hK => ?_) AllReadyH.nil)
          have hL := hL.push hrow7 hg7 256 (tbC_set0 HCL.out _)
          clear hrow7 hg7
          rw [List.length_append, List.length_singleton] at hL
          go_simp
          obtain ⟨v8, hv8⟩ : ∃ v8, Value.slice A7 (lk.length + 1) c7 = v8 := ⟨_, rfl⟩
          rw [hv8] at hL
          try rw [hv8]
          obtain ⟨w8, hw8⟩ : ∃ w8, wa.setCell ⟨T, 256, none⟩ v8 = w8 := ⟨_, rfl⟩
          rw [hw8] at hL
          try rw [hw8]
          clear hw8 hv8 p7 f7
          refine hK.out _ _ ?_ (fun hHeld => ?_)
          · trivial
          clear hK K
          try simp only [Act.put, List.setIfInBounds_toArray, List.set_cons_zero, List.set_cons_succ]
          obtain ⟨wl, rfl⟩ : ∃ wl : World, wl = w8 := ⟨_, rfl⟩
        rotate_left 1
        focus
          obtain ⟨ws, hws⟩ : ∃ ws, wn.alloc (.cells #[.int .i64 nd.1, .slice An nd.2.2.length cn, .int .i64 nd.2.1] 45) = ws := ⟨_, rfl⟩
          have hbs : Below wn.heap.size wn ws := by rw [← hws]; exact (Below.refl _ _).alloc (Nat.le_refl _) _
          have hqs : ws.heap[wn.heap.size]? = some (.cells #[.int .i64 nd.1, .slice An nd.2.2.length cn, .int .i64 nd.2.1] 45 (0, 0)) := by rw [← hws]; exact heap_alloc_new wn _
          have hok : eNode.ok (fun b => w7.heap.size ≤ b ∧ (Value.slice Av lk.length cv).ownBlock ≠ some b) ws nd [.int .i64 nd.1, .slice An nd.2.2.length cn, .int .i64 nd.2.1] := ⟨An, cn, rfl, hf.keep (KeepQ.below hbs) (fun b hb _ => hnews b hb), hcn, (by have := rdNode_len wid sk; rw [hnd] at this; unfold maxLen; omega), hin⟩
          have hL := hL.below hbs
          go_simp
          try rw [hws]
          clear hbs hws
          refine hK.out _ _ ?_ (fun hHeld => ?_)
          · trivial
          clear hK K
          try simp only [Act.put, List.setIfInBounds_toArray, List.set_cons_zero, List.set_cons_succ]
          refine wpAnyH_ready (rs := [1]) (by kernel_rfl) (by simp) ?_
          refine (AllReadyH.cons (o := { dst := some 25, op := Go.Op.load 23 (Go.Operand.tmp 24), type := 23, pos := "reader.go:53", after := #[{ on := 0, ground := Go.Ground.data }], guard := none }) rfl (fun K hK => ?_) AllReadyH.nil)
          have p5 : ws.cell? ⟨T, 256, none⟩ = some (.slice Av lk.length cv) := (hL.cell 256).trans (tbC_at0 HCL.out)
          go_simp
          clear p5
          refine hK.out _ _ ?_ (fun hHeld => ?_)
          · trivial
          clear hK K
          try simp only [Act.put, List.setIfInBounds_toArray, List.set_cons_zero, List.set_cons_succ]
          refine wpAnyH_ready (rs := [6]) (by kernel_rfl) (by simp) ?_
          refine (AllReadyH.cons (o := { dst := some 30, op := Go.Op.call { callee := Go.Callee.builtin Go.Builtin.append, args := #[Go.Operand.tmp 25, Go.Operand.tmp 29], argTypes := #[23, 23] }, type := 23, pos := "reader.go:53", after := #[{ on := 1, ground := Go.Ground.data }, { on := 5, ground := Go.Ground.data }, { on := 4, ground := Go.Ground.chain }], guard := none }) rfl (fun K hK => ?_) AllReadyH.nil)
          refine wp_append_E (e := eNode) _ _ rfl rfl hL.row ⟨wn.heap.size, 0, none⟩ 1 (y := nd) (cs := [.int .i64 nd.1, .slice An nd.2.2.length cn, .int .i64 nd.2.1]) rfl hok (World.news_of_block hqs) (by have := HLEN.out; omega) hL.keep.size ?_
          intro v7 wa hrow7 hg7 hon7
          obtain ⟨A7, c7, hv7⟩ := hrow7.shape
          subst hv7
          have hbq := hL.grown hg7
          have p7 : wa.cell? ⟨T, 256, none⟩ = some (.slice Av lk.length cv) := (World.cell?_of_block hbq).trans ((hL.cell 256).trans (tbC_at0 HCL.out))
          have f7 : wa.frozen? ⟨T, 256, none⟩ = false := (World.frozen?_of_block hbq).trans (hL.frozen 256)
          clear hbq hon7 hok hqs
          refine hK.out _ _ ?_ (fun hHeld => ?_)
          · trivial
          clear hK K
          try simp only [Act.put, List.setIfInBounds_toArray, List.set_cons_zero, List.set_cons_succ]
          refine wpAnyH_take (i := 7) (oi := { dst := some 31, op := Go.Op.fieldAddr 27 (Go.Operand.tmp 7) 1, type := 0, pos := "reader.go:53", after := #[{ on := 0, ground := Go.Ground.phase }, { on := 1, ground := Go.Ground.phase }, { on := 2, ground := Go.Ground.phase }, { on := 3, ground := Go.Ground.phase }, { on := 4, ground := Go.Ground.phase }, { on := 5, ground := Go.Ground.phase }, { on := 6, ground := Go.Ground.phase }], guard := none }) (v := ?_) rfl (by kernel_rfl) (by kernel_rfl) (by kernel_rfl) (fun _ _ _ h => h) (Or.inl ⟨by rfl, ?_⟩) (by assumption) ?_
          rotate_left
          · intro w' hSw
            (try dsimp only at hSw)
            go_simp
            all_goals with_reducible rfl
          try simp only [Act.put, List.setIfInBounds_toArray, List.set_cons_zero, List.set_cons_succ]
          refine wpAnyH_ready (rs := [8]) (by kernel_rfl) (by simp) ?_
          refine (AllReadyH.cons (o := { dst := none, op := Go.Op.store 23 (Go.Operand.tmp 31) (Go.Operand.tmp 30), type := 0, pos := "reader.go:53", after := #[{ on := 7, ground := Go.Ground.data }, { on := 6, ground := Go.Ground.data }, { on := 6, ground := Go.Ground.chain }, { on := 0, ground := Go.Ground.phase }, { on := 1, ground := Go.Ground.phase }, { on := 2, ground := Go.Ground.phase }, { on := 3, ground := Go.Ground.phase }, { on := 4, ground := Go.Ground.phase }, { on := 5, ground := Go.Ground.phase }, { on := 6, ground := Go.Ground.phase }], guard := none }) rfl (fun K hK => ?_) AllReadyH.nil)
          have hL := hL.push hrow7 hg7 256 (tbC_set0 HCL.out _)
          clear hrow7 hg7
          rw [List.length_append, List.length_singleton] at hL
          go_simp
          obtain ⟨v8, hv8⟩ : ∃ v8, Value.slice A7 (lk.length + 1) c7 = v8 := ⟨_, rfl⟩
          rw [hv8] at hL
          try rw [hv8]
          obtain ⟨w8, hw8⟩ : ∃ w8, wa.setCell ⟨T, 256, none⟩ v8 = w8 := ⟨_, rfl⟩
          rw [hw8] at hL
          try rw [hw8]
          clear hw8 hv8 p7 f7
          refine hK.out _ _ ?_ (fun hHeld => ?_)
          · trivial
          clear hK K
          try simp only [Act.put, List.setIfInBounds_toArray, List.set_cons_zero, List.set_cons_succ]
          obtain ⟨wl, rfl⟩ : ∃ wl : World, wl = w8 := ⟨_, rfl⟩
      all_goals
        refine wpAnyH_done (by kernel_rfl) ?_ _
        have HL8 := Lib.hid hL
        clear hL
        go_wp2_with (fail)
        go_roundw
        case rel => exact ⟨k + 1, _, by omega, by go_num, by rw [HNX.out]; rw [hnd]; exact HL8.out⟩
        case measure => simp [intOf]; omega
    · obtain rfl : nN = k := by omega
      obtain ⟨w9, rfl⟩ : ∃ w9 : World, w9 = wr := ⟨_, rfl⟩
      obtain ⟨AN, cN, hv, hfN, hcN⟩ := hL.row.far
      subst hv
      have HFN := Lib.hid hfN
      have HL9 := Lib.hid hL
      have hz9 := hL.keep.size
      clear hfN hL
      go_wp2_with (fail)
      go_loopw [34] (fun iv wr => LpRel eAct rdAct nA x B0 T (fun v => tbC cls (.slice AN (rdMany (rdNode wid) nN s5).1.length cN) v (.slice none 0 0)) s6 w9 iv wr) (fun i _ => nA - (intOf i).toNat)
      case atStart => exact ⟨0, .slice none 0 0, Nat.zero_le _, rfl, LpS.start HL9.out.box (by rw [← HS6.out]; exact HL9.out.rd) (by omega)⟩
      case round =>
        obtain ⟨k, v, hk, rfl, hL⟩ := hrel
        by_cases hlt : k < nA
        · obtain ⟨sk, hsk⟩ : ∃ sk, (rdMany rdAct k s6).2 = sk := ⟨_, rfl⟩
          have HNX := Lib.hid (rdMany_snoc rdAct k s6)
          have hlen := rdMany_length rdAct k s6
          have hlk0 := HLA.out k
          rw [hsk] at hlk0
          have HLK := Lib.hid hlk0
          clear hlk0
          obtain ⟨lk, hlk⟩ : ∃ lk, (rdMany rdAct k s6).1 = lk := ⟨_, rfl⟩
          rw [hsk, hlk] at hL
          rw [hlk] at hlen
          rw [hsk, hlk] at HNX
          have HLEN := Lib.hid hlen
          obtain ⟨Av, cv, hv⟩ := hL.row.shape
          subst hv
          have HL := Lib.hid hL
          clear hsk hlk hlen hL
          go_upto_region 10 with (fail)
          obtain ⟨we, hwe⟩ : ∃ we, wr.drew = we := ⟨_, rfl⟩
          have hL : LpS eAct x B0 T (fun v => tbC cls (.slice AN (rdMany (rdNode wid) nN s5).1.length cN) v (.slice none 0 0)) w9 (.slice Av lk.length cv) lk sk we := by rw [← hwe]; exact HL.out.drew
          refine wp_region_held_drew (S := fun _ => True) (by kernel_rfl) trivial (fun hHeld => ?_)
          rw [hwe]
          clear hwe
          refine wpAnyH_take (i := 0) (oi := { dst := some 36, op := Go.Op.fieldAddr 27 (Go.Operand.tmp 7) 2, type := 0, pos := "reader.go:56", after := #[], guard := none }) (v := ?_) rfl (by kernel_rfl) (by kernel_rfl) (by kernel_rfl) (fun _ _ _ h => h) (Or.inl ⟨by rfl, ?_⟩) (by assumption) ?_
          rotate_left
          · intro w' hSw
            (try dsimp only at hSw)
            go_simp
            all_goals with_reducible rfl
          try simp only [Act.put, List.setIfInBounds_toArray, List.set_cons_zero, List.set_cons_succ]
          refine wpAnyH_take (i := 2) (oi := { dst := some 38, op := Go.Op.move (Go.Operand.tmp 0), type := 79, pos := "reader.go:56", after := #[], guard := none }) (v := ?_) rfl (by kernel_rfl) (by kernel_rfl) (by kernel_rfl) (fun _ _ _ h => h) (Or.inl ⟨by rfl, ?_⟩) (by assumption) ?_
          rotate_left
          · intro w' hSw
            (try dsimp only at hSw)
            go_simp
            all_goals with_reducible rfl
          try simp only [Act.put, List.setIfInBounds_toArray, List.set_cons_zero, List.set_cons_succ]
          refine wpAnyH_take (i := 4) (oi := { dst := some 40, op := Go.Op.move (Go.Operand.tmp 0), type := 79, pos := "reader.go:56", after := #[], guard := none }) (v := ?_) rfl (by kernel_rfl) (by kernel_rfl) (by kernel_rfl) (fun _ _ _ h => h) (Or.inl ⟨by rfl, ?_⟩) (by assumption) ?_
          rotate_left
          · intro w' hSw
            (try dsimp only at hSw)
            go_simp
            all_goals with_reducible rfl
          try simp only [Act.put, List.setIfInBounds_toArray, List.set_cons_zero, List.set_cons_succ]
          refine wpAnyH_take (i := 6) (oi := { dst := some 42, op := Go.Op.move (Go.Operand.tmp 0), type := 79, pos := "reader.go:56", after := #[], guard := none }) (v := ?_) rfl (by kernel_rfl) (by kernel_rfl) (by kernel_rfl) (fun _ _ _ h => h) (Or.inl ⟨by rfl, ?_⟩) (by assumption) ?_
          rotate_left
          · intro w' hSw
            (try dsimp only at hSw)
            go_simp
            all_goals with_reducible rfl
          try simp only [Act.put, List.setIfInBounds_toArray, List.set_cons_zero, List.set_cons_succ]
          refine wpAnyH_ready (rs := [1, 3]) (by kernel_rfl) (by simp) ?_
          refine (AllReadyH.cons (o := { dst := some 37, op := Go.Op.load 24 (Go.Operand.tmp 36), type := 24, pos := "reader.go:56", after := #[{ on := 0, ground := Go.Ground.data }], guard := none }) rfl (fun K hK => ?_) (AllReadyH.cons (o := { dst := some 39, op := Go.Op.call { callee := Go.Callee.value (Go.Operand.func 26), args := #[Go.Operand.tmp 38], argTypes := #[79] }, type := 3, pos := "reader.go:56", after := #[{ on := 2, ground := Go.Ground.data }], guard := none }) rfl (fun K hK => ?_) AllReadyH.nil))
          focus
            have p5 : we.cell? ⟨T, 257, none⟩ = some (.slice Av lk.length cv) := (hL.cell 257).trans (tbC_at1 HCL.out)
            go_simp
            clear p5
            refine hK.out _ _ ?_ (fun hHeld => ?_)
            · trivial
            clear hK K
            try simp only [Act.put, List.setIfInBounds_toArray, List.set_cons_zero, List.set_cons_succ]
            refine wpAnyH_ready (rs := [3]) (by kernel_rfl) (by simp) ?_
            refine (AllReadyH.cons (o := { dst := some 39, op := Go.Op.call { callee := Go.Callee.value (Go.Operand.func 26), args := #[Go.Operand.tmp 38], argTypes := #[79] }, type := 3, pos := "reader.go:56", after := #[{ on := 2, ground := Go.Ground.data }], guard := none }) rfl (fun K hK => ?_) AllReadyH.nil)
            have hC := rnumber_any x B0 sk we hL.rd
            go_simp
            go_wp2_with (go_at_call 26; (with_reducible refine hC.mono ?_); rintro e0 wn0 ⟨rfl, hRd, hk⟩)
            clear hC
            have hL := hL.moved hRd hk
            clear hRd hk
            refine hK.out _ _ ?_ (fun hHeld => ?_)
            · trivial
            clear hK K
            try simp only [Act.put, List.setIfInBounds_toArray, List.set_cons_zero, List.set_cons_succ]
            refine wpAnyH_ready (rs := [5]) (by kernel_rfl) (by simp) ?_
            refine (AllReadyH.cons (o := { dst := some 41, op := Go.Op.call { callee := Go.Callee.value (Go.Operand.func 26), args := #[Go.Operand.tmp 40], argTypes := #[79] }, type := 3, pos := "reader.go:56", after := #[{ on := 4, ground := Go.Ground.data }, { on := 3, ground := Go.Ground.chain }], guard := none }) rfl (fun K hK => ?_) AllReadyH.nil)
            have hC := rnumber_any x B0 (rdNum sk).2 wn0 hL.rd
            go_simp
            go_wp2_with (go_at_call 26; (with_reducible refine hC.mono ?_); rintro e1 wn1 ⟨rfl, hRd, hk⟩)
            clear hC
            have hL := hL.moved hRd hk
            clear hRd hk
            refine hK.out _ _ ?_ (fun hHeld => ?_)
            · trivial
            clear hK K
            try simp only [Act.put, List.setIfInBounds_toArray, List.set_cons_zero, List.set_cons_succ]
            refine wpAnyH_ready (rs := [7]) (by kernel_rfl) (by simp) ?_
            refine (AllReadyH.cons (o := { dst := some 43, op := Go.Op.call { callee := Go.Callee.value (Go.Operand.func 41), args := #[Go.Operand.tmp 42], argTypes := #[79] }, type := 47, pos := "reader.go:56", after := #[{ on := 6, ground := Go.Ground.data }, { on := 5, ground := Go.Ground.chain }], guard := none }) rfl (fun K hK => ?_) AllReadyH.nil)
            have hC := rterms_any x B0 (rdNum (rdNum sk).2).2 wn1 hL.rd (Nat.le_trans (LeftLe.num _) (Nat.le_trans (LeftLe.num _) HLK.out))
            have hnews := hL.news
            go_simp
            go_wp2_with (go_at_call 41; (with_reducible refine hC.mono ?_); rintro et wn ⟨An, cn, rfl, hf, hcn, hRd, hk⟩)
            clear hC
            have hL := hL.moved hRd hk
            clear hRd hk
            refine hK.out _ _ ?_ (fun hHeld => ?_)
            · trivial
            clear hK K
            try simp only [Act.put, List.setIfInBounds_toArray, List.set_cons_zero, List.set_cons_succ]
            refine wpAnyH_take (i := 8) (oi := { dst := some 44, op := Go.Op.build 49 #[(0, Go.Operand.tmp 39), (1, Go.Operand.tmp 41), (2, Go.Operand.tmp 43)], type := 49, pos := "reader.go:56", after := #[{ on := 3, ground := Go.Ground.data }, { on := 5, ground := Go.Ground.data }, { on := 7, ground := Go.Ground.data }], guard := none }) (v := ?_) rfl (by kernel_rfl) (by kernel_rfl) (by kernel_rfl) (fun _ _ _ h => h) (Or.inl ⟨by rfl, ?_⟩) (by assumption) ?_
            rotate_left
            · intro w' hSw
              (try dsimp only at hSw)
              go_simp
              all_goals with_reducible rfl
            try simp only [Act.put, List.setIfInBounds_toArray, List.set_cons_zero, List.set_cons_succ]
            refine wpAnyH_ready (rs := [9]) (by kernel_rfl) (by simp) ?_
            refine (AllReadyH.cons (o := { dst := some 45, op := Go.Op.buildSlice 24 1 #[(0, Go.Operand.tmp 44)], type := 24, pos := "reader.go:56", after := #[{ on := 8, ground := Go.Ground.data }], guard := none }) rfl (fun K hK => ?_) AllReadyH.nil)
            obtain ⟨ws, hws⟩ : ∃ ws, wn.alloc (.cells #[.int .i64 (rdNum sk).1, .int .i64 (rdNum (rdNum sk).2).1, .slice An (rdTerms (rdNum (rdNum sk).2).2).1.length cn] 49) = ws := ⟨_, rfl⟩
            have hbs : Below wn.heap.size wn ws := by rw [← hws]; exact (Below.refl _ _).alloc (Nat.le_refl _) _
            have hqs : ws.heap[wn.heap.size]? = some (.cells #[.int .i64 (rdNum sk).1, .int .i64 (rdNum (rdNum sk).2).1, .slice An (rdTerms (rdNum (rdNum sk).2).2).1.length cn] 49 (0, 0)) := by rw [← hws]; exact heap_alloc_new wn _
            have hok : eAct.ok (fun b => w9.heap.size ≤ b ∧ (Value.slice Av lk.length cv).ownBlock ≠ some b) ws ((rdNum sk).1, (rdNum (rdNum sk).2).1, (rdTerms (rdNum (rdNum sk).2).2).1) [.int .i64 (rdNum sk).1, .int .i64 (rdNum (rdNum sk).2).1, .slice An (rdTerms (rdNum (rdNum sk).2).2).1.length cn] := ⟨An, cn, rfl, hf.keep (KeepQ.below hbs) (fun b hb _ => hnews b hb), hcn, terms_few _⟩
            have hL := hL.below hbs
            go_simp
            try rw [hws]
            clear hbs hws
            refine hK.out _ _ ?_ (fun hHeld => ?_)
            · trivial
            clear hK K
            try simp only [Act.put, List.setIfInBounds_toArray, List.set_cons_zero, List.set_cons_succ]
            refine wpAnyH_ready (rs := [10]) (by kernel_rfl) (by simp) ?_
            refine (AllReadyH.cons (o := { dst := some 46, op := Go.Op.call { callee := Go.Callee.builtin Go.Builtin.append, args := #[Go.Operand.tmp 37, Go.Operand.tmp 45], argTypes := #[24, 24] }, type := 24, pos := "reader.go:56", after := #[{ on := 1, ground := Go.Ground.data }, { on := 9, ground := Go.Ground.data }, { on := 7, ground := Go.Ground.chain }], guard := none }) rfl (fun K hK => ?_) AllReadyH.nil)
            refine wp_append_E (e := eAct) _ _ rfl rfl hL.row ⟨wn.heap.size, 0, none⟩ 1 (y := ((rdNum sk).1, (rdNum (rdNum sk).2).1, (rdTerms (rdNum (rdNum sk).2).2).1)) (cs := [.int .i64 (rdNum sk).1, .int .i64 (rdNum (rdNum sk).2).1, .slice An (rdTerms (rdNum (rdNum sk).2).2).1.length cn]) rfl hok (World.news_of_block hqs) (by have := HLEN.out; omega) hL.keep.size ?_
            intro v7 wa hrow7 hg7 hon7
            obtain ⟨A7, c7, hv7⟩ := hrow7.shape
            subst hv7
            have hbq := hL.grown hg7
            have p7 : wa.cell? ⟨T, 257, none⟩ = some (.slice Av lk.length cv) := (World.cell?_of_block hbq).trans ((hL.cell 257).trans (tbC_at1 HCL.out))
            have f7 : wa.frozen? ⟨T, 257, none⟩ = false := (World.frozen?_of_block hbq).trans (hL.frozen 257)
            clear hbq hon7 hok hqs
            refine hK.out _ _ ?_ (fun hHeld => ?_)
            · trivial
            clear hK K
            try simp only [Act.put, List.setIfInBounds_toArray, List.set_cons_zero, List.set_cons_succ]
            refine wpAnyH_take (i := 11) (oi := { dst := some 47, op := Go.Op.fieldAddr 27 (Go.Operand.tmp 7) 2, type := 0, pos := "reader.go:56", after := #[{ on := 0, ground := Go.Ground.phase }, { on := 1, ground := Go.Ground.phase }, { on := 2, ground := Go.Ground.phase }, { on := 3, ground := Go.Ground.phase }, { on := 4, ground := Go.Ground.phase }, { on := 5, ground := Go.Ground.phase }, { on := 6, ground := Go.Ground.phase }, { on := 7, ground := Go.Ground.phase }, { on := 8, ground := Go.Ground.phase }, { on := 9, ground := Go.Ground.phase }, { on := 10, ground := Go.Ground.phase }], guard := none }) (v := ?_) rfl (by kernel_rfl) (by kernel_rfl) (by kernel_rfl) (fun _ _ _ h => h) (Or.inl ⟨by rfl, ?_⟩) (by assumption) ?_
            rotate_left
            · intro w' hSw
              (try dsimp only at hSw)
              go_simp
              all_goals with_reducible rfl
            try simp only [Act.put, List.setIfInBounds_toArray, List.set_cons_zero, List.set_cons_succ]
            refine wpAnyH_ready (rs := [12]) (by kernel_rfl) (by simp) ?_
            refine (AllReadyH.cons (o := { dst := none, op := Go.Op.store 24 (Go.Operand.tmp 47) (Go.Operand.tmp 46), type := 0, pos := "reader.go:56", after := #[{ on := 11, ground := Go.Ground.data }, { on := 10, ground := Go.Ground.data }, { on := 10, ground := Go.Ground.chain }, { on := 0, ground := Go.Ground.phase }, { on := 1, ground := Go.Ground.phase }, { on := 2, ground := Go.Ground.phase }, { on := 3, ground := Go.Ground.phase }, { on := 4, ground := Go.Ground.phase }, { on := 5, ground := Go.Ground.phase }, { on := 6, ground := Go.Ground.phase }, { on := 7, ground := Go.Ground.phase }, { on := 8, ground := Go.Ground.phase }, { on := 9, ground := Go.Ground.phase }, { on := 10, ground := Go.Ground.phase }], guard := none }) rfl (fun K hK => ?_) AllReadyH.nil)
            have hL := hL.push hrow7 hg7 257 (tbC_set1 HCL.out _)
            clear hrow7 hg7
            rw [List.length_append, List.length_singleton] at hL
            go_simp
            obtain ⟨v8, hv8⟩ : ∃ v8, Value.slice A7 (lk.length + 1) c7 = v8 := ⟨_, rfl⟩
            rw [hv8] at hL
            try rw [hv8]
            obtain ⟨w8, hw8⟩ : ∃ w8, wa.setCell ⟨T, 257, none⟩ v8 = w8 := ⟨_, rfl⟩
            rw [hw8] at hL
            try rw [hw8]
            clear hw8 hv8 p7 f7
            refine hK.out _ _ ?_ (fun hHeld => ?_)
            · trivial
            clear hK K
            try simp only [Act.put, List.setIfInBounds_toArray, List.set_cons_zero, List.set_cons_succ]
            obtain ⟨wl, rfl⟩ : ∃ wl : World, wl = w8 := ⟨_, rfl⟩
          rotate_left 1
          focus
            have hC := rnumber_any x B0 sk we hL.rd
            go_simp
            go_wp2_with (go_at_call 26; (with_reducible refine hC.mono ?_); rintro e0 wn0 ⟨rfl, hRd, hk⟩)
            clear hC
            have hL := hL.moved hRd hk
            clear hRd hk
            refine hK.out _ _ ?_ (fun hHeld => ?_)
            · trivial
            clear hK K
            try simp only [Act.put, List.setIfInBounds_toArray, List.set_cons_zero, List.set_cons_succ]
            refine wpAnyH_ready (rs := [1, 5]) (by kernel_rfl) (by simp) ?_
            refine (AllReadyH.cons (o := { dst := some 37, op := Go.Op.load 24 (Go.Operand.tmp 36), type := 24, pos := "reader.go:56", after := #[{ on := 0, ground := Go.Ground.data }], guard := none }) rfl (fun K hK => ?_) (AllReadyH.cons (o := { dst := some 41, op := Go.Op.call { callee := Go.Callee.value (Go.Operand.func 26), args := #[Go.Operand.tmp 40], argTypes := #[79] }, type := 3, pos := "reader.go:56", after := #[{ on := 4, ground := Go.Ground.data }, { on := 3, ground := Go.Ground.chain }], guard := none }) rfl (fun K hK => ?_) AllReadyH.nil))
            focus
              have p5 : wn0.cell? ⟨T, 257, none⟩ = some (.slice Av lk.length cv) := (hL.cell 257).trans (tbC_at1 HCL.out)
              go_simp
              clear p5
              refine hK.out _ _ ?_ (fun hHeld => ?_)
              · trivial
              clear hK K
              try simp only [Act.put, List.setIfInBounds_toArray, List.set_cons_zero, List.set_cons_succ]
              refine wpAnyH_ready (rs := [5]) (by kernel_rfl) (by simp) ?_
              refine (AllReadyH.cons (o := { dst := some 41, op := Go.Op.call { callee := Go.Callee.value (Go.Operand.func 26), args := #[Go.Operand.tmp 40], argTypes := #[79] }, type := 3, pos := "reader.go:56", after := #[{ on := 4, ground := Go.Ground.data }, { on := 3, ground := Go.Ground.chain }], guard := none }) rfl (fun K hK => ?_) AllReadyH.nil)
              have hC := rnumber_any x B0 (rdNum sk).2 wn0 hL.rd
              go_simp
              go_wp2_with (go_at_call 26; (with_reducible refine hC.mono ?_); rintro e1 wn1 ⟨rfl, hRd, hk⟩)
              clear hC
              have hL := hL.moved hRd hk
              clear hRd hk
              refine hK.out _ _ ?_ (fun hHeld => ?_)
              · trivial
              clear hK K
              try simp only [Act.put, List.setIfInBounds_toArray, List.set_cons_zero, List.set_cons_succ]
              refine wpAnyH_ready (rs := [7]) (by kernel_rfl) (by simp) ?_
              refine (AllReadyH.cons (o := { dst := some 43, op := Go.Op.call { callee := Go.Callee.value (Go.Operand.func 41), args := #[Go.Operand.tmp 42], argTypes := #[79] }, type := 47, pos := "reader.go:56", after := #[{ on := 6, ground := Go.Ground.data }, { on := 5, ground := Go.Ground.chain }], guard := none }) rfl (fun K hK => ?_) AllReadyH.nil)
              have hC := rterms_any x B0 (rdNum (rdNum sk).2).2 wn1 hL.rd (Nat.le_trans (LeftLe.num _) (Nat.le_trans (LeftLe.num _) HLK.out))
              have hnews := hL.news
              go_simp
              go_wp2_with (go_at_call 41; (with_reducible refine hC.mono ?_); rintro et wn ⟨An, cn, rfl, hf, hcn, hRd, hk⟩)
              clear hC
              have hL := hL.moved hRd hk
              clear hRd hk
              refine hK.out _ _ ?_ (fun hHeld => ?_)
              · trivial
              clear hK K
              try simp only [Act.put, List.setIfInBounds_toArray, List.set_cons_zero, List.set_cons_succ]
              refine wpAnyH_take (i := 8) (oi := { dst := some 44, op := Go.Op.build 49 #[(0, Go.Operand.tmp 39), (1, Go.Operand.tmp 41), (2, Go.Operand.tmp 43)], type := 49, pos := "reader.go:56", after := #[{ on := 3, ground := Go.Ground.data }, { on := 5, ground := Go.Ground.data }, { on := 7, ground := Go.Ground.data }], guard := none }) (v := ?_) rfl (by kernel_rfl) (by kernel_rfl) (by kernel_rfl) (fun _ _ _ h => h) (Or.inl ⟨by rfl, ?_⟩) (by assumption) ?_
              rotate_left
              · intro w' hSw
                (try dsimp only at hSw)
                go_simp
                all_goals with_reducible rfl
              try simp only [Act.put, List.setIfInBounds_toArray, List.set_cons_zero, List.set_cons_succ]
              refine wpAnyH_ready (rs := [9]) (by kernel_rfl) (by simp) ?_
              refine (AllReadyH.cons (o := { dst := some 45, op := Go.Op.buildSlice 24 1 #[(0, Go.Operand.tmp 44)], type := 24, pos := "reader.go:56", after := #[{ on := 8, ground := Go.Ground.data }], guard := none }) rfl (fun K hK => ?_) AllReadyH.nil)
              obtain ⟨ws, hws⟩ : ∃ ws, wn.alloc (.cells #[.int .i64 (rdNum sk).1, .int .i64 (rdNum (rdNum sk).2).1, .slice An (rdTerms (rdNum (rdNum sk).2).2).1.length cn] 49) = ws := ⟨_, rfl⟩
              have hbs : Below wn.heap.size wn ws := by rw [← hws]; exact (Below.refl _ _).alloc (Nat.le_refl _) _
              have hqs : ws.heap[wn.heap.size]? = some (.cells #[.int .i64 (rdNum sk).1, .int .i64 (rdNum (rdNum sk).2).1, .slice An (rdTerms (rdNum (rdNum sk).2).2).1.length cn] 49 (0, 0)) := by rw [← hws]; exact heap_alloc_new wn _
              have hok : eAct.ok (fun b => w9.heap.size ≤ b ∧ (Value.slice Av lk.length cv).ownBlock ≠ some b) ws ((rdNum sk).1, (rdNum (rdNum sk).2).1, (rdTerms (rdNum (rdNum sk).2).2).1) [.int .i64 (rdNum sk).1, .int .i64 (rdNum (rdNum sk).2).1, .slice An (rdTerms (rdNum (rdNum sk).2).2).1.length cn] := ⟨An, cn, rfl, hf.keep (KeepQ.below hbs) (fun b hb _ => hnews b hb), hcn, terms_few _⟩
              have hL := hL.below hbs
              go_simp
              try rw [hws]
              clear hbs hws
              refine hK.out _ _ ?_ (fun hHeld => ?_)
              · trivial
              clear hK K
              try simp only [Act.put, List.setIfInBounds_toArray, List.set_cons_zero, List.set_cons_succ]
              refine wpAnyH_ready (rs := [10]) (by kernel_rfl) (by simp) ?_
              refine (AllReadyH.cons (o := { dst := some 46, op := Go.Op.call { callee := Go.Callee.builtin Go.Builtin.append, args := #[Go.Operand.tmp 37, Go.Operand.tmp 45], argTypes := #[24, 24] }, type := 24, pos := "reader.go:56", after := #[{ on := 1, ground := Go.Ground.data }, { on := 9, ground := Go.Ground.data }, { on := 7, ground := Go.Ground.chain }], guard := none }) rfl (fun K hK => ?_) AllReadyH.nil)
              refine wp_append_E (e := eAct) _ _ rfl rfl hL.row ⟨wn.heap.size, 0, none⟩ 1 (y := ((rdNum sk).1, (rdNum (rdNum sk).2).1, (rdTerms (rdNum (rdNum sk).2).2).1)) (cs := [.int .i64 (rdNum sk).1, .int .i64 (rdNum (rdNum sk).2).1, .slice An (rdTerms (rdNum (rdNum sk).2).2).1.length cn]) rfl hok (World.news_of_block hqs) (by have := HLEN.out; omega) hL.keep.size ?_
              intro v7 wa hrow7 hg7 hon7
              obtain ⟨A7, c7, hv7⟩ := hrow7.shape
              subst hv7
              have hbq := hL.grown hg7
              have p7 : wa.cell? ⟨T, 257, none⟩ = some (.slice Av lk.length cv) := (World.cell?_of_block hbq).trans ((hL.cell 257).trans (tbC_at1 HCL.out))
              have f7 : wa.frozen? ⟨T, 257, none⟩ = false := (World.frozen?_of_block hbq).trans (hL.frozen 257)
              clear hbq hon7 hok hqs
              refine hK.out _ _ ?_ (fun hHeld => ?_)
              · trivial
              clear hK K
              try simp only [Act.put, List.setIfInBounds_toArray, List.set_cons_zero, List.set_cons_succ]
              refine wpAnyH_take (i := 11) (oi := { dst := some 47, op := Go.Op.fieldAddr 27 (Go.Operand.tmp 7) 2, type := 0, pos := "reader.go:56", after := #[{ on := 0, ground := Go.Ground.phase }, { on := 1, ground := Go.Ground.phase }, { on := 2, ground := Go.Ground.phase }, { on := 3, ground := Go.Ground.phase }, { on := 4, ground := Go.Ground.phase }, { on := 5, ground := Go.Ground.phase }, { on := 6, ground := Go.Ground.phase }, { on := 7, ground := Go.Ground.phase }, { on := 8, ground := Go.Ground.phase }, { on := 9, ground := Go.Ground.phase }, { on := 10, ground := Go.Ground.phase }], guard := none }) (v := ?_) rfl (by kernel_rfl) (by kernel_rfl) (by kernel_rfl) (fun _ _ _ h => h) (Or.inl ⟨by rfl, ?_⟩) (by assumption) ?_
              rotate_left
              · intro w' hSw
                (try dsimp only at hSw)
                go_simp
                all_goals with_reducible rfl
              try simp only [Act.put, List.setIfInBounds_toArray, List.set_cons_zero, List.set_cons_succ]
              refine wpAnyH_ready (rs := [12]) (by kernel_rfl) (by simp) ?_
              refine (AllReadyH.cons (o := { dst := none, op := Go.Op.store 24 (Go.Operand.tmp 47) (Go.Operand.tmp 46), type := 0, pos := "reader.go:56", after := #[{ on := 11, ground := Go.Ground.data }, { on := 10, ground := Go.Ground.data }, { on := 10, ground := Go.Ground.chain }, { on := 0, ground := Go.Ground.phase }, { on := 1, ground := Go.Ground.phase }, { on := 2, ground := Go.Ground.phase }, { on := 3, ground := Go.Ground.phase }, { on := 4, ground := Go.Ground.phase }, { on := 5, ground := Go.Ground.phase }, { on := 6, ground := Go.Ground.phase }, { on := 7, ground := Go.Ground.phase }, { on := 8, ground := Go.Ground.phase }, { on := 9, ground := Go.Ground.phase }, { on := 10, ground := Go.Ground.phase }], guard := none }) rfl (fun K hK => ?_) AllReadyH.nil)
              have hL := hL.push hrow7 hg7 257 (tbC_set1 HCL.out _)
              clear hrow7 hg7
              rw [List.length_append, List.length_singleton] at hL
              go_simp
              obtain ⟨v8, hv8⟩ : ∃ v8, Value.slice A7 (lk.length + 1) c7 = v8 := ⟨_, rfl⟩
              rw [hv8] at hL
              try rw [hv8]
              obtain ⟨w8, hw8⟩ : ∃ w8, wa.setCell ⟨T, 257, none⟩ v8 = w8 := ⟨_, rfl⟩
              rw [hw8] at hL
              try rw [hw8]
              clear hw8 hv8 p7 f7
              refine hK.out _ _ ?_ (fun hHeld => ?_)
              · trivial
              clear hK K
              try simp only [Act.put, List.setIfInBounds_toArray, List.set_cons_zero, List.set_cons_succ]
              obtain ⟨wl, rfl⟩ : ∃ wl : World, wl = w8 := ⟨_, rfl⟩
            rotate_left 1
            focus
              have hC := rnumber_any x B0 (rdNum sk).2 wn0 hL.rd
              go_simp
              go_wp2_with (go_at_call 26; (with_reducible refine hC.mono ?_); rintro e1 wn1 ⟨rfl, hRd, hk⟩)
              clear hC
              have hL := hL.moved hRd hk
              clear hRd hk
              refine hK.out _ _ ?_ (fun hHeld => ?_)
              · trivial
              clear hK K
              try simp only [Act.put, List.setIfInBounds_toArray, List.set_cons_zero, List.set_cons_succ]
              refine wpAnyH_ready (rs := [1, 7]) (by kernel_rfl) (by simp) ?_
              refine (AllReadyH.cons (o := { dst := some 37, op := Go.Op.load 24 (Go.Operand.tmp 36), type := 24, pos := "reader.go:56", after := #[{ on := 0, ground := Go.Ground.data }], guard := none }) rfl (fun K hK => ?_) (AllReadyH.cons (o := { dst := some 43, op := Go.Op.call { callee := Go.Callee.value (Go.Operand.func 41), args := #[Go.Operand.tmp 42], argTypes := #[79] }, type := 47, pos := "reader.go:56", after := #[{ on := 6, ground := Go.Ground.data }, { on := 5, ground := Go.Ground.chain }], guard := none }) rfl (fun K hK => ?_) AllReadyH.nil))
              focus
                have p5 : wn1.cell? ⟨T, 257, none⟩ = some (.slice Av lk.length cv) := (hL.cell 257).trans (tbC_at1 HCL.out)
                go_simp
                clear p5
                refine hK.out _ _ ?_ (fun hHeld => ?_)
                · trivial
                clear hK K
                try simp only [Act.put, List.setIfInBounds_toArray, List.set_cons_zero, List.set_cons_succ]
                refine wpAnyH_ready (rs := [7]) (by kernel_rfl) (by simp) ?_
                refine (AllReadyH.cons (o := { dst := some 43, op := Go.Op.call { callee := Go.Callee.value (Go.Operand.func 41), args := #[Go.Operand.tmp 42], argTypes := #[79] }, type := 47, pos := "reader.go:56", after := #[{ on := 6, ground := Go.Ground.data }, { on := 5, ground := Go.Ground.chain }], guard := none }) rfl (fun K hK => ?_) AllReadyH.nil)
                have hC := rterms_any x B0 (rdNum (rdNum sk).2).2 wn1 hL.rd (Nat.le_trans (LeftLe.num _) (Nat.le_trans (LeftLe.num _) HLK.out))
                have hnews := hL.news
                go_simp
                go_wp2_with (go_at_call 41; (with_reducible refine hC.mono ?_); rintro et wn ⟨An, cn, rfl, hf, hcn, hRd, hk⟩)
                clear hC
                have hL := hL.moved hRd hk
                clear hRd hk
                refine hK.out _ _ ?_ (fun hHeld => ?_)
                · trivial
                clear hK K
                try simp only [Act.put, List.setIfInBounds_toArray, List.set_cons_zero, List.set_cons_succ]
                refine wpAnyH_take (i := 8) (oi := { dst := some 44, op := Go.Op.build 49 #[(0, Go.Operand.tmp 39), (1, Go.Operand.tmp 41), (2, Go.Operand.tmp 43)], type := 49, pos := "reader.go:56", after := #[{ on := 3, ground := Go.Ground.data }, { on := 5, ground := Go.Ground.data }, { on := 7, ground := Go.Ground.data }], guard := none }) (v := ?_) rfl (by kernel_rfl) (by kernel_rfl) (by kernel_rfl) (fun _ _ _ h => h) (Or.inl ⟨by rfl, ?_⟩) (by assumption) ?_
                rotate_left
                · intro w' hSw
                  (try dsimp only at hSw)
                  go_simp
                  all_goals with_reducible rfl
                try simp only [Act.put, List.setIfInBounds_toArray, List.set_cons_zero, List.set_cons_succ]
                refine wpAnyH_ready (rs := [9]) (by kernel_rfl) (by simp) ?_
                refine (AllReadyH.cons (o := { dst := some 45, op := Go.Op.buildSlice 24 1 #[(0, Go.Operand.tmp 44)], type := 24, pos := "reader.go:56", after := #[{ on := 8, ground := Go.Ground.data }], guard := none }) rfl (fun K hK => ?_) AllReadyH.nil)
                obtain ⟨ws, hws⟩ : ∃ ws, wn.alloc (.cells #[.int .i64 (rdNum sk).1, .int .i64 (rdNum (rdNum sk).2).1, .slice An (rdTerms (rdNum (rdNum sk).2).2).1.length cn] 49) = ws := ⟨_, rfl⟩
                have hbs : Below wn.heap.size wn ws := by rw [← hws]; exact (Below.refl _ _).alloc (Nat.le_refl _) _
                have hqs : ws.heap[wn.heap.size]? = some (.cells #[.int .i64 (rdNum sk).1, .int .i64 (rdNum (rdNum sk).2).1, .slice An (rdTerms (rdNum (rdNum sk).2).2).1.length cn] 49 (0, 0)) := by rw [← hws]; exact heap_alloc_new wn _
                have hok : eAct.ok (fun b => w9.heap.size ≤ b ∧ (Value.slice Av lk.length cv).ownBlock ≠ some b) ws ((rdNum sk).1, (rdNum (rdNum sk).2).1, (rdTerms (rdNum (rdNum sk).2).2).1) [.int .i64 (rdNum sk).1, .int .i64 (rdNum (rdNum sk).2).1, .slice An (rdTerms (rdNum (rdNum sk).2).2).1.length cn] := ⟨An, cn, rfl, hf.keep (KeepQ.below hbs) (fun b hb _ => hnews b hb), hcn, terms_few _⟩
                have hL := hL.below hbs
                go_simp
                try rw [hws]
                clear hbs hws
                refine hK.out _ _ ?_ (fun hHeld => ?_)
                · trivial
                clear hK K
                try simp only [Act.put, List.setIfInBounds_toArray, List.set_cons_zero, List.set_cons_succ]
                refine wpAnyH_ready (rs := [10]) (by kernel_rfl) (by simp) ?_
                refine (AllReadyH.cons (o := { dst := some 46, op := Go.Op.call { callee := Go.Callee.builtin Go.Builtin.append, args := #[Go.Operand.tmp 37, Go.Operand.tmp 45], argTypes := #[24, 24] }, type := 24, pos := "reader.go:56", after := #[{ on := 1, ground := Go.Ground.data }, { on := 9, ground := Go.Ground.data }, { on := 7, ground := Go.Ground.chain }], guard := none }) rfl (fun K hK => ?_) AllReadyH.nil)
                refine wp_append_E (e := eAct) _ _ rfl rfl hL.row ⟨wn.heap.size, 0, none⟩ 1 (y := ((rdNum sk).1, (rdNum (rdNum sk).2).1, (rdTerms (rdNum (rdNum sk).2).2).1)) (cs := [.int .i64 (rdNum sk).1, .int .i64 (rdNum (rdNum sk).2).1, .slice An (rdTerms (rdNum (rdNum sk).2).2).1.length cn]) rfl hok (World.news_of_block hqs) (by have := HLEN.out; omega) hL.keep.size ?_
                intro v7 wa hrow7 hg7 hon7
                obtain ⟨A7, c7, hv7⟩ := hrow7.shape
                subst hv7
                have hbq := hL.grown hg7
                have p7 : wa.cell? ⟨T, 257, none⟩ = some (.slice Av lk.length cv) := (World.cell?_of_block hbq).trans ((hL.cell 257).trans (tbC_at1 HCL.out))
                have f7 : wa.frozen? ⟨T, 257, none⟩ = false := (World.frozen?_of_block hbq).trans (hL.frozen 257)
                clear hbq hon7 hok hqs
                refine hK.out _ _ ?_ (fun hHeld => ?_)
                · trivial
                clear hK K
                try simp only [Act.put, List.setIfInBounds_toArray, List.set_cons_zero, List.set_cons_succ]
                refine wpAnyH_take (i := 11) (oi := { dst := some 47, op := Go.Op.fieldAddr 27 (Go.Operand.tmp 7) 2, type := 0, pos := "reader.go:56", after := #[{ on := 0, ground := Go.Ground.phase }, { on := 1, ground := Go.Ground.phase }, { on := 2, ground := Go.Ground.phase }, { on := 3, ground := Go.Ground.phase }, { on := 4, ground := Go.Ground.phase }, { on := 5, ground := Go.Ground.phase }, { on := 6, ground := Go.Ground.phase }, { on := 7, ground := Go.Ground.phase }, { on := 8, ground := Go.Ground.phase }, { on := 9, ground := Go.Ground.phase }, { on := 10, ground := Go.Ground.phase }], guard := none }) (v := ?_) rfl (by kernel_rfl) (by kernel_rfl) (by kernel_rfl) (fun _ _ _ h => h) (Or.inl ⟨by rfl, ?_⟩) (by assumption) ?_
                rotate_left
                · intro w' hSw
                  (try dsimp only at hSw)
                  go_simp
                  all_goals with_reducible rfl
                try simp only [Act.put, List.setIfInBounds_toArray, List.set_cons_zero, List.set_cons_succ]
                refine wpAnyH_ready (rs := [12]) (by kernel_rfl) (by simp) ?_
                refine (AllReadyH.cons (o := { dst := none, op := Go.Op.store 24 (Go.Operand.tmp 47) (Go.Operand.tmp 46), type := 0, pos := "reader.go:56", after := #[{ on := 11, ground := Go.Ground.data }, { on := 10, ground := Go.Ground.data }, { on := 10, ground := Go.Ground.chain }, { on := 0, ground := Go.Ground.phase }, { on := 1, ground := Go.Ground.phase }, { on := 2, ground := Go.Ground.phase }, { on := 3, ground := Go.Ground.phase }, { on := 4, ground := Go.Ground.phase }, { on := 5, ground := Go.Ground.phase }, { on := 6, ground := Go.Ground.phase }, { on := 7, ground := Go.Ground.phase }, { on := 8, ground := Go.Ground.phase }, { on := 9, ground := Go.Ground.phase }, { on := 10, ground := Go.Ground.phase }], guard := none }) rfl (fun K hK => ?_) AllReadyH.nil)
                have hL := hL.push hrow7 hg7 257 (tbC_set1 HCL.out _)
                clear hrow7 hg7
                rw [List.length_append, List.length_singleton] at hL
                go_simp
                obtain ⟨v8, hv8⟩ : ∃ v8, Value.slice A7 (lk.length + 1) c7 = v8 := ⟨_, rfl⟩
                rw [hv8] at hL
                try rw [hv8]
                obtain ⟨w8, hw8⟩ : ∃ w8, wa.setCell ⟨T, 257, none⟩ v8 = w8 := ⟨_, rfl⟩
                rw [hw8] at hL
                try rw [hw8]
                clear hw8 hv8 p7 f7
                refine hK.out _ _ ?_ (fun hHeld => ?_)
                · trivial
                clear hK K
                try simp only [Act.put, List.setIfInBounds_toArray, List.set_cons_zero, List.set_cons_succ]
                obtain ⟨wl, rfl⟩ : ∃ wl : World, wl = w8 := ⟨_, rfl⟩
              rotate_left 1
              focus
                have hC := rterms_any x B0 (rdNum (rdNum sk).2).2 wn1 hL.rd (Nat.le_trans (LeftLe.num _) (Nat.le_trans (LeftLe.num _) HLK.out))
                have hnews := hL.news
                go_simp
                go_wp2_with (go_at_call 41; (with_reducible refine hC.mono ?_); rintro et wn ⟨An, cn, rfl, hf, hcn, hRd, hk⟩)
                clear hC
                have hL := hL.moved hRd hk
                clear hRd hk
                refine hK.out _ _ ?_ (fun hHeld => ?_)
                · trivial
                clear hK K
                try simp only [Act.put, List.setIfInBounds_toArray, List.set_cons_zero, List.set_cons_succ]
                refine wpAnyH_take (i := 8) (oi := { dst := some 44, op := Go.Op.build 49 #[(0, Go.Operand.tmp 39), (1, Go.Operand.tmp 41), (2, Go.Operand.tmp 43)], type := 49, pos := "reader.go:56", after := #[{ on := 3, ground := Go.Ground.data }, { on := 5, ground := Go.Ground.data }, { on := 7, ground := Go.Ground.data }], guard := none }) (v := ?_) rfl (by kernel_rfl) (by kernel_rfl) (by kernel_rfl) (fun _ _ _ h => h) (Or.inl ⟨by rfl, ?_⟩) (by assumption) ?_
                rotate_left
                · intro w' hSw
                  (try dsimp only at hSw)
                  go_simp
                  all_goals with_reducible rfl
                try simp only [Act.put, List.setIfInBounds_toArray, List.set_cons_zero, List.set_cons_succ]
                refine wpAnyH_ready (rs := [1, 9]) (by kernel_rfl) (by simp) ?_
                refine (AllReadyH.cons (o := { dst := some 37, op := Go.Op.load 24 (Go.Operand.tmp 36), type := 24, pos := "reader.go:56", after := #[{ on := 0, ground := Go.Ground.data }], guard := none }) rfl (fun K hK => ?_) (AllReadyH.cons (o := { dst := some 45, op := Go.Op.buildSlice 24 1 #[(0, Go.Operand.tmp 44)], type := 24, pos := "reader.go:56", after := #[{ on := 8, ground := Go.Ground.data }], guard := none }) rfl (fun K hK => ?_) AllReadyH.nil))
                focus
                  have p5 : wn.cell? ⟨T, 257, none⟩ = some (.slice Av lk.length cv) := (hL.cell 257).trans (tbC_at1 HCL.out)
                  go_simp
                  clear p5
                  refine hK.out _ _ ?_ (fun hHeld => ?_)
                  · trivial
                  clear hK K
                  try simp only [Act.put, List.setIfInBounds_toArray, List.set_cons_zero, List.set_cons_succ]
                  refine wpAnyH_ready (rs := [9]) (by kernel_rfl) (by simp) ?_
                  refine (AllReadyH.cons (o := { dst := some 45, op := Go.Op.buildSlice 24 1 #[(0, Go.Operand.tmp 44)], type := 24, pos := "reader.go:56", after := #[{ on := 8, ground := Go.Ground.data }], guard := none }) rfl (fun K hK => ?_) AllReadyH.nil)
                  obtain ⟨ws, hws⟩ : ∃ ws, wn.alloc (.cells #[.int .i64 (rdNum sk).1, .int .i64 (rdNum (rdNum sk).2).1, .slice An (rdTerms (rdNum (rdNum sk).2).2).1.length cn] 49) = ws := ⟨_, rfl⟩
                  have hbs : Below wn.heap.size wn ws := by rw [← hws]; exact (Below.refl _ _).alloc (Nat.le_refl _) _
                  have hqs : ws.heap[wn.heap.size]? = some (.cells #[.int .i64 (rdNum sk).1, .int .i64 (rdNum (rdNum sk).2).1, .slice An (rdTerms (rdNum (rdNum sk).2).2).1.length cn] 49 (0, 0)) := by rw [← hws]; exact heap_alloc_new wn _
                  have hok : eAct.ok (fun b => w9.heap.size ≤ b ∧ (Value.slice Av lk.length cv).ownBlock ≠ some b) ws ((rdNum sk).1, (rdNum (rdNum sk).2).1, (rdTerms (rdNum (rdNum sk).2).2).1) [.int .i64 (rdNum sk).1, .int .i64 (rdNum (rdNum sk).2).1, .slice An (rdTerms (rdNum (rdNum sk).2).2).1.length cn] := ⟨An, cn, rfl, hf.keep (KeepQ.below hbs) (fun b hb _ => hnews b hb), hcn, terms_few _⟩
                  have hL := hL.below hbs
                  go_simp
                  try rw [hws]
                  clear hbs hws
                  refine hK.out _ _ ?_ (fun hHeld => ?_)
                  · trivial
                  clear hK K
                  try simp only [Act.put, List.setIfInBounds_toArray, List.set_cons_zero, List.set_cons_succ]
                  refine wpAnyH_ready (rs := [10]) (by kernel_rfl) (by simp) ?_
                  refine (AllReadyH.cons (o := { dst := some 46, op := Go.Op.call { callee := Go.Callee.builtin Go.Builtin.append, args := #[Go.Operand.tmp 37, Go.Operand.tmp 45], argTypes := #[24, 24] }, type := 24, pos := "reader.go:56", after := #[{ on := 1, ground := Go.Ground.data }, { on := 9, ground := Go.Ground.data }, { on := 7, ground := Go.Ground.chain }], guard := none }) rfl (fun K hK => ?_) AllReadyH.nil)
                  refine wp_append_E (e := eAct) _ _ rfl rfl hL.row ⟨wn.heap.size, 0, none⟩ 1 (y := ((rdNum sk).1, (rdNum (rdNum sk).2).1, (rdTerms (rdNum (rdNum sk).2).2).1)) (cs := [.int .i64 (rdNum sk).1, .int .i64 (rdNum (rdNum sk).2).1, .slice An (rdTerms (rdNum (rdNum sk).2).2).1.length cn]) rfl hok (World.news_of_block hqs) (by have := HLEN.out; omega) hL.keep.size ?_
                  intro v7 wa hrow7 hg7 hon7
                  obtain ⟨A7, c7, hv7⟩ := hrow7.shape
                  subst hv7
                  have hbq := hL.grown hg7
                  have p7 : wa.cell? ⟨T, 257, none⟩ = some (.slice Av lk.length cv) := (World.cell?_of_block hbq).trans ((hL.cell 257).trans (tbC_at1 HCL.out))
                  have f7 : wa.frozen? ⟨T, 257, none⟩ = false := (World.frozen?_of_block hbq).trans (hL.frozen 257)
                  clear hbq hon7 hok hqs
                  refine hK.out _ _ ?_ (fun hHeld => ?_)
                  · trivial
                  clear hK K
                  try simp only [Act.put, List.setIfInBounds_toArray, List.set_cons_zero, List.set_cons_succ]
                  refine wpAnyH_take (i := 11) (oi := { dst := some 47, op := Go.Op.fieldAddr 27 (Go.Operand.tmp 7) 2, type := 0, pos := "reader.go:56", after := #[{ on := 0, ground := Go.Ground.phase }, { on := 1, ground := Go.Ground.phase }, { on := 2, ground := Go.Ground.phase }, { on := 3, ground := Go.Ground.phase }, { on := 4, ground := Go.Ground.phase }, { on := 5, ground := Go.Ground.phase }, { on := 6, ground := Go.Ground.phase }, { on := 7, ground := Go.Ground.phase }, { on := 8, ground := Go.Ground.phase }, { on := 9, ground := Go.Ground.phase }, { on := 10, ground := Go.Ground.phase }], guard := none }) (v := ?_) rfl (by kernel_rfl) (by kernel_rfl) (by kernel_rfl) (fun _ _ _ h => h) (Or.inl ⟨by rfl, ?_⟩) (by assumption) ?_
                  rotate_left
                  · intro w' hSw
                    (try dsimp only at hSw)
                    go_simp
                    all_goals with_reducible rfl
                  try simp only [Act.put, List.setIfInBounds_toArray, List.set_cons_zero, List.set_cons_succ]
                  refine wpAnyH_ready (rs := [12]) (by kernel_rfl) (by simp) ?_
                  refine (AllReadyH.cons (o := { dst := none, op := Go.Op.store 24 (Go.Operand.tmp 47) (Go.Operand.tmp 46), type := 0, pos := "reader.go:56", after := #[{ on := 11, ground := Go.Ground.data }, { on := 10, ground := Go.Ground.data }, { on := 10, ground := Go.Ground.chain }, { on := 0, ground := Go.Ground.phase }, { on := 1, ground := Go.Ground.phase }, { on := 2, ground := Go.Ground.phase }, { on := 3, ground := Go.Ground.phase }, { on := 4, ground := Go.Ground.phase }, { on := 5, ground := Go.Ground.phase }, { on := 6, ground := Go.Ground.phase }, { on := 7, ground := Go.Ground.phase }, { on := 8, ground := Go.Ground.phase }, { on := 9, ground := Go.Ground.phase }, { on := 10, ground := Go.Ground.phase }], guard := none }) rfl (fun K hK => ?_) AllReadyH.nil)
                  have hL := hL.push hrow7 hg7 257 (tbC_set1 HCL.out _)
                  clear hrow7 hg7
                  rw [List.length_append, List.length_singleton] at hL
                  go_simp
                  obtain ⟨v8, hv8⟩ : ∃ v8, Value.slice A7 (lk.length + 1) c7 = v8 := ⟨_, rfl⟩
                  rw [hv8] at hL
                  try rw [hv8]
                  obtain ⟨w8, hw8⟩ : ∃ w8, wa.setCell ⟨T, 257, none⟩ v8 = w8 := ⟨_, rfl⟩
                  rw [hw8] at hL
                  try rw [hw8]
                  clear hw8 hv8 p7 f7
                  refine hK.out _ _ ?_ (fun hHeld => ?_)
                  · trivial
                  clear hK K
                  try simp only [Act.put, List.setIfInBounds_toArray, List.set_cons_zero, List.set_cons_succ]
                  obtain ⟨wl, rfl⟩ : ∃ wl : World, wl = w8 := ⟨_, rfl⟩
                rotate_left 1
                focus
                  obtain ⟨ws, hws⟩ : ∃ ws, wn.alloc (.cells #[.int .i64 (rdNum sk).1, .int .i64 (rdNum (rdNum sk).2).1, .slice An (rdTerms (rdNum (rdNum sk).2).2).1.length cn] 49) = ws := ⟨_, rfl⟩
                  have hbs : Below wn.heap.size wn ws := by rw [← hws]; exact (Below.refl _ _).alloc (Nat.le_refl _) _
                  have hqs : ws.heap[wn.heap.size]? = some (.cells #[.int .i64 (rdNum sk).1, .int .i64 (rdNum (rdNum sk).2).1, .slice An (rdTerms (rdNum (rdNum sk).2).2).1.length cn] 49 (0, 0)) := by rw [← hws]; exact heap_alloc_new wn _
                  have hok : eAct.ok (fun b => w9.heap.size ≤ b ∧ (Value.slice Av lk.length cv).ownBlock ≠ some b) ws ((rdNum sk).1, (rdNum (rdNum sk).2).1, (rdTerms (rdNum (rdNum sk).2).2).1) [.int .i64 (rdNum sk).1, .int .i64 (rdNum (rdNum sk).2).1, .slice An (rdTerms (rdNum (rdNum sk).2).2).1.length cn] := ⟨An, cn, rfl, hf.keep (KeepQ.below hbs) (fun b hb _ => hnews b hb), hcn, terms_few _⟩
                  have hL := hL.below hbs
                  go_simp
                  try rw [hws]
                  clear hbs hws
                  refine hK.out _ _ ?_ (fun hHeld => ?_)
                  · trivial
                  clear hK K
                  try simp only [Act.put, List.setIfInBounds_toArray, List.set_cons_zero, List.set_cons_succ]
                  refine wpAnyH_ready (rs := [1]) (by kernel_rfl) (by simp) ?_
                  refine (AllReadyH.cons (o := { dst := some 37, op := Go.Op.load 24 (Go.Operand.tmp 36), type := 24, pos := "reader.go:56", after := #[{ on := 0, ground := Go.Ground.data }], guard := none }) rfl (fun K hK => ?_) AllReadyH.nil)
                  have p5 : ws.cell? ⟨T, 257, none⟩ = some (.slice Av lk.length cv) := (hL.cell 257).trans (tbC_at1 HCL.out)
                  go_simp
                  clear p5
                  refine hK.out _ _ ?_ (fun hHeld => ?_)
                  · trivial
                  clear hK K
                  try simp only [Act.put, List.setIfInBounds_toArray, List.set_cons_zero, List.set_cons_succ]
                  refine wpAnyH_ready (rs := [10]) (by kernel_rfl) (by simp) ?_
                  refine (AllReadyH.cons (o := { dst := some 46, op := Go.Op.call { callee := Go.Callee.builtin Go.Builtin.append, args := #[Go.Operand.tmp 37, Go.Operand.tmp 45], argTypes := #[24, 24] }, type := 24, pos := "reader.go:56", after := #[{ on := 1, ground := Go.Ground.data }, { on := 9, ground := Go.Ground.data }, { on := 7, ground := Go.Ground.chain }], guard := none }) rfl (fun K hK => ?_) AllReadyH.nil)
                  refine wp_append_E (e := eAct) _ _ rfl rfl hL.row ⟨wn.heap.size, 0, none⟩ 1 (y := ((rdNum sk).1, (rdNum (rdNum sk).2).1, (rdTerms (rdNum (rdNum sk).2).2).1)) (cs := [.int .i64 (rdNum sk).1, .int .i64 (rdNum (rdNum sk).2).1, .slice An (rdTerms (rdNum (rdNum sk).2).2).1.length cn]) rfl hok (World.news_of_block hqs) (by have := HLEN.out; omega) hL.keep.size ?_
                  intro v7 wa hrow7 hg7 hon7
                  obtain ⟨A7, c7, hv7⟩ := hrow7.shape
                  subst hv7
                  have hbq := hL.grown hg7
                  have p7 : wa.cell? ⟨T, 257, none⟩ = some (.slice Av lk.length cv) := (World.cell?_of_block hbq).trans ((hL.cell 257).trans (tbC_at1 HCL.out))
                  have f7 : wa.frozen? ⟨T, 257, none⟩ = false := (World.frozen?_of_block hbq).trans (hL.frozen 257)
                  clear hbq hon7 hok hqs
                  refine hK.out _ _ ?_ (fun hHeld => ?_)
                  · trivial
                  clear hK K
                  try simp only [Act.put, List.setIfInBounds_toArray, List.set_cons_zero, List.set_cons_succ]
                  refine wpAnyH_take (i := 11) (oi := { dst := some 47, op := Go.Op.fieldAddr 27 (Go.Operand.tmp 7) 2, type := 0, pos := "reader.go:56", after := #[{ on := 0, ground := Go.Ground.phase }, { on := 1, ground := Go.Ground.phase }, { on := 2, ground := Go.Ground.phase }, { on := 3, ground := Go.Ground.phase }, { on := 4, ground := Go.Ground.phase }, { on := 5, ground := Go.Ground.phase }, { on := 6, ground := Go.Ground.phase }, { on := 7, ground := Go.Ground.phase }, { on := 8, ground := Go.Ground.phase }, { on := 9, ground := Go.Ground.phase }, { on := 10, ground := Go.Ground.phase }], guard := none }) (v := ?_) rfl (by kernel_rfl) (by kernel_rfl) (by kernel_rfl) (fun _ _ _ h => h) (Or.inl ⟨by rfl, ?_⟩) (by assumption) ?_
                  rotate_left
                  · intro w' hSw
                    (try dsimp only at hSw)
                    go_simp
                    all_goals with_reducible rfl
                  try simp only [Act.put, List.setIfInBounds_toArray, List.set_cons_zero, List.set_cons_succ]
                  refine wpAnyH_ready (rs := [12]) (by kernel_rfl) (by simp) ?_
                  refine (AllReadyH.cons (o := { dst := none, op := Go.Op.store 24 (Go.Operand.tmp 47) (Go.Operand.tmp 46), type := 0, pos := "reader.go:56", after := #[{ on := 11, ground := Go.Ground.data }, { on := 10, ground := Go.Ground.data }, { on := 10, ground := Go.Ground.chain }, { on := 0, ground := Go.Ground.phase }, { on := 1, ground := Go.Ground.phase }, { on := 2, ground := Go.Ground.phase }, { on := 3, ground := Go.Ground.phase }, { on := 4, ground := Go.Ground.phase }, { on := 5, ground := Go.Ground.phase }, { on := 6, ground := Go.Ground.phase }, { on := 7, ground := Go.Ground.phase }, { on := 8, ground := Go.Ground.phase }, { on := 9, ground := Go.Ground.phase }, { on := 10, ground := Go.Ground.phase }], guard := none }) rfl (fun K hK => ?_) AllReadyH.nil)
                  have hL := hL.push hrow7 hg7 257 (tbC_set1 HCL.out _)
                  clear hrow7 hg7
                  rw [List.length_append, List.length_singleton] at hL
                  go_simp
                  obtain ⟨v8, hv8⟩ : ∃ v8, Value.slice A7 (lk.length + 1) c7 = v8 := ⟨_, rfl⟩
                  rw [hv8] at hL
                  try rw [hv8]
                  obtain ⟨w8, hw8⟩ : ∃ w8, wa.setCell ⟨T, 257, none⟩ v8 = w8 := ⟨_, rfl⟩
                  rw [hw8] at hL
                  try rw [hw8]
                  clear hw8 hv8 p7 f7
                  refine hK.out _ _ ?_ (fun hHeld => ?_)
                  · trivial
                  clear hK K
                  try simp only [Act.put, List.setIfInBounds_toArray, List.set_cons_zero, List.set_cons_succ]
                  obtain ⟨wl, rfl⟩ : ∃ wl : World, wl = w8 := ⟨_, rfl⟩
          all_goals
            refine wpAnyH_done (by kernel_rfl) ?_ _
            have HL8 := Lib.hid hL
            clear hL
            go_wp2_with (fail)
            go_roundw
            case rel => exact ⟨k + 1, _, by omega, by go_num, by rw [HNX.out]; exact HL8.out⟩
            case measure => simp [intOf]; omega
        · obtain rfl : nA = k := by omega
          obtain ⟨w11, rfl⟩ : ∃ w11 : World, w11 = wr := ⟨_, rfl⟩
          obtain ⟨AA, cA, hv, hfA, hcA⟩ := hL.row.far
          subst hv
          have HFA := Lib.hid hfA
          have HL11 := Lib.hid hL
          have hz11 := hL.keep.size
          clear hfA hL
          go_wp2_with (fail)
          go_loopw [50] (fun iv wr => LpRel eEnd rdTerms nE x B0 T (fun v => tbC cls (.slice AN (rdMany (rdNode wid) nN s5).1.length cN) (.slice AA (rdMany rdAct nA s6).1.length cA) v) s7 w11 iv wr) (fun i _ => nE - (intOf i).toNat)
          case atStart => exact ⟨0, .slice none 0 0, Nat.zero_le _, rfl, LpS.start HL11.out.box (by rw [← HS7.out]; exact HL11.out.rd) (by omega)⟩
          case round =>
            obtain ⟨k, v, hk, rfl, hL⟩ := hrel
            by_cases hlt : k < nE
            · obtain ⟨sk, hsk⟩ : ∃ sk, (rdMany rdTerms k s7).2 = sk := ⟨_, rfl⟩
              have HNX := Lib.hid (rdMany_snoc rdTerms k s7)
              have hlen := rdMany_length rdTerms k s7
              have hlk0 := HLE.out k
              rw [hsk] at hlk0
              have HLK := Lib.hid hlk0
              clear hlk0
              obtain ⟨lk, hlk⟩ : ∃ lk, (rdMany rdTerms k s7).1 = lk := ⟨_, rfl⟩
              rw [hsk, hlk] at hL
              rw [hlk] at hlen
              rw [hsk, hlk] at HNX
              have HLEN := Lib.hid hlen
              obtain ⟨Av, cv, hv⟩ := hL.row.shape
              subst hv
              have HL := Lib.hid hL
              clear hsk hlk hlen hL
              go_upto_region 14 with (fail)
              obtain ⟨we, hwe⟩ : ∃ we, wr.drew = we := ⟨_, rfl⟩
              have hL : LpS eEnd x B0 T (fun v => tbC cls (.slice AN (rdMany (rdNode wid) nN s5).1.length cN) (.slice AA (rdMany rdAct nA s6).1.length cA) v) w11 (.slice Av lk.length cv) lk sk we := by rw [← hwe]; exact HL.out.drew
              refine wp_region_held_drew (S := fun _ => True) (by kernel_rfl) trivial (fun hHeld => ?_)
              rw [hwe]
              clear hwe
              refine wpAnyH_take (i := 0) (oi := { dst := some 52, op := Go.Op.fieldAddr 27 (Go.Operand.tmp 7) 3, type := 0, pos := "reader.go:59", after := #[], guard := none }) (v := ?_) rfl (by kernel_rfl) (by kernel_rfl) (by kernel_rfl) (fun _ _ _ h => h) (Or.inl ⟨by rfl, ?_⟩) (by assumption) ?_
              rotate_left
              · intro w' hSw
                (try dsimp only at hSw)
                go_simp
                all_goals with_reducible rfl
              try simp only [Act.put, List.setIfInBounds_toArray, List.set_cons_zero, List.set_cons_succ]
              refine wpAnyH_take (i := 2) (oi := { dst := some 54, op := Go.Op.move (Go.Operand.tmp 0), type := 79, pos := "reader.go:59", after := #[], guard := none }) (v := ?_) rfl (by kernel_rfl) (by kernel_rfl) (by kernel_rfl) (fun _ _ _ h => h) (Or.inl ⟨by rfl, ?_⟩) (by assumption) ?_
              rotate_left
              · intro w' hSw
                (try dsimp only at hSw)
                go_simp
                all_goals with_reducible rfl
              try simp only [Act.put, List.setIfInBounds_toArray, List.set_cons_zero, List.set_cons_succ]
              refine wpAnyH_ready (rs := [1, 3]) (by kernel_rfl) (by simp) ?_
              refine (AllReadyH.cons (o := { dst := some 53, op := Go.Op.load 25 (Go.Operand.tmp 52), type := 25, pos := "reader.go:59", after := #[{ on := 0, ground := Go.Ground.data }], guard := none }) rfl (fun K hK => ?_) (AllReadyH.cons (o := { dst := some 55, op := Go.Op.call { callee := Go.Callee.value (Go.Operand.func 41), args := #[Go.Operand.tmp 54], argTypes := #[79] }, type := 47, pos := "reader.go:59", after := #[{ on := 2, ground := Go.Ground.data }], guard := none }) rfl (fun K hK => ?_) AllReadyH.nil))
              focus
                have p5 : we.cell? ⟨T, 258, none⟩ = some (.slice Av lk.length cv) := (hL.cell 258).trans (tbC_at2 HCL.out)
                go_simp
                clear p5
                refine hK.out _ _ ?_ (fun hHeld => ?_)
                · trivial
                clear hK K
                try simp only [Act.put, List.setIfInBounds_toArray, List.set_cons_zero, List.set_cons_succ]
                refine wpAnyH_ready (rs := [3]) (by kernel_rfl) (by simp) ?_
                refine (AllReadyH.cons (o := { dst := some 55, op := Go.Op.call { callee := Go.Callee.value (Go.Operand.func 41), args := #[Go.Operand.tmp 54], argTypes := #[79] }, type := 47, pos := "reader.go:59", after := #[{ on := 2, ground := Go.Ground.data }], guard := none }) rfl (fun K hK => ?_) AllReadyH.nil)
                have hC := rterms_any x B0 sk we hL.rd (HLK.out)
                have hnews := hL.news
                go_simp
                go_wp2_with (go_at_call 41; (with_reducible refine hC.mono ?_); rintro et wn ⟨An, cn, rfl, hf, hcn, hRd, hk⟩)
                clear hC
                have hL := hL.moved hRd hk
                clear hRd hk
                refine hK.out _ _ ?_ (fun hHeld => ?_)
                · trivial
                clear hK K
                try simp only [Act.put, List.setIfInBounds_toArray, List.set_cons_zero, List.set_cons_succ]
                refine wpAnyH_ready (rs := [4]) (by kernel_rfl) (by simp) ?_
                refine (AllReadyH.cons (o := { dst := some 56, op := Go.Op.buildSlice 25 1 #[(0, Go.Operand.tmp 55)], type := 25, pos := "reader.go:59", after := #[{ on := 3, ground := Go.Ground.data }], guard := none }) rfl (fun K hK => ?_) AllReadyH.nil)
                obtain ⟨ws, hws⟩ : ∃ ws, wn.alloc (.cells #[.slice An (rdTerms sk).1.length cn] 47) = ws := ⟨_, rfl⟩
                have hbs : Below wn.heap.size wn ws := by rw [← hws]; exact (Below.refl _ _).alloc (Nat.le_refl _) _
                have hqs : ws.heap[wn.heap.size]? = some (.cells #[.slice An (rdTerms sk).1.length cn] 47 (0, 0)) := by rw [← hws]; exact heap_alloc_new wn _
                have hok : eEnd.ok (fun b => w11.heap.size ≤ b ∧ (Value.slice Av lk.length cv).ownBlock ≠ some b) ws (rdTerms sk).1 [.slice An (rdTerms sk).1.length cn] := ⟨An, cn, rfl, hf.keep (KeepQ.below hbs) (fun b hb _ => hnews b hb), hcn, terms_few _⟩
                have hL := hL.below hbs
                go_simp
                try rw [hws]
                clear hbs hws
                refine hK.out _ _ ?_ (fun hHeld => ?_)
                · trivial
                clear hK K
                try simp only [Act.put, List.setIfInBounds_toArray, List.set_cons_zero, List.set_cons_succ]
                refine wpAnyH_ready (rs := [5]) (by kernel_rfl) (by simp) ?_
                refine (AllReadyH.cons (o := { dst := some 57, op := Go.Op.call { callee := Go.Callee.builtin Go.Builtin.append, args := #[Go.Operand.tmp 53, Go.Operand.tmp 56], argTypes := #[25, 25] }, type := 25, pos := "reader.go:59", after := #[{ on := 1, ground := Go.Ground.data }, { on := 4, ground := Go.Ground.data }, { on := 3, ground := Go.Ground.chain }], guard := none }) rfl (fun K hK => ?_) AllReadyH.nil)
                refine wp_append_E (e := eEnd) _ _ rfl rfl hL.row ⟨wn.heap.size, 0, none⟩ 1 (y := (rdTerms sk).1) (cs := [.slice An (rdTerms sk).1.length cn]) rfl hok (World.news_of_block hqs) (by have := HLEN.out; omega) hL.keep.size ?_
                intro v7 wa hrow7 hg7 hon7
                obtain ⟨A7, c7, hv7⟩ := hrow7.shape
                subst hv7
                have hbq := hL.grown hg7
                have p7 : wa.cell? ⟨T, 258, none⟩ = some (.slice Av lk.length cv) := (World.cell?_of_block hbq).trans ((hL.cell 258).trans (tbC_at2 HCL.out))
                have f7 : wa.frozen? ⟨T, 258, none⟩ = false := (World.frozen?_of_block hbq).trans (hL.frozen 258)
                clear hbq hon7 hok hqs
                refine hK.out _ _ ?_ (fun hHeld => ?_)
                · trivial
                clear hK K
                try simp only [Act.put, List.setIfInBounds_toArray, List.set_cons_zero, List.set_cons_succ]
                refine wpAnyH_take (i := 6) (oi := { dst := some 58, op := Go.Op.fieldAddr 27 (Go.Operand.tmp 7) 3, type := 0, pos := "reader.go:59", after := #[{ on := 0, ground := Go.Ground.phase }, { on := 1, ground := Go.Ground.phase }, { on := 2, ground := Go.Ground.phase }, { on := 3, ground := Go.Ground.phase }, { on := 4, ground := Go.Ground.phase }, { on := 5, ground := Go.Ground.phase }], guard := none }) (v := ?_) rfl (by kernel_rfl) (by kernel_rfl) (by kernel_rfl) (fun _ _ _ h => h) (Or.inl ⟨by rfl, ?_⟩) (by assumption) ?_
                rotate_left
                · intro w' hSw
                  (try dsimp only at hSw)
                  go_simp
                  all_goals with_reducible rfl
                try simp only [Act.put, List.setIfInBounds_toArray, List.set_cons_zero, List.set_cons_succ]
                refine wpAnyH_ready (rs := [7]) (by kernel_rfl) (by simp) ?_
                refine (AllReadyH.cons (o := { dst := none, op := Go.Op.store 25 (Go.Operand.tmp 58) (Go.Operand.tmp 57), type := 0, pos := "reader.go:59", after := #[{ on := 6, ground := Go.Ground.data }, { on := 5, ground := Go.Ground.data }, { on := 5, ground := Go.Ground.chain }, { on := 0, ground := Go.Ground.phase }, { on := 1, ground := Go.Ground.phase }, { on := 2, ground := Go.Ground.phase }, { on := 3, ground := Go.Ground.phase }, { on := 4, ground := Go.Ground.phase }, { on := 5, ground := Go.Ground.phase }], guard := none }) rfl (fun K hK => ?_) AllReadyH.nil)
                have hL := hL.push hrow7 hg7 258 (tbC_set2 HCL.out _)
                clear hrow7 hg7
                rw [List.length_append, List.length_singleton] at hL
                go_simp
                obtain ⟨v8, hv8⟩ : ∃ v8, Value.slice A7 (lk.length + 1) c7 = v8 := ⟨_, rfl⟩
                rw [hv8] at hL
                try rw [hv8]
                obtain ⟨w8, hw8⟩ : ∃ w8, wa.setCell ⟨T, 258, none⟩ v8 = w8 := ⟨_, rfl⟩
                rw [hw8] at hL
                try rw [hw8]
                clear hw8 hv8 p7 f7
                refine hK.out _ _ ?_ (fun hHeld => ?_)
                · trivial
                clear hK K
                try simp only [Act.put, List.setIfInBounds_toArray, List.set_cons_zero, List.set_cons_succ]
                obtain ⟨wl, rfl⟩ : ∃ wl : World, wl = w8 := ⟨_, rfl⟩
              rotate_left 1
              focus
                have hC := rterms_any x B0 sk we hL.rd (HLK.out)
                have hnews := hL.news
                go_simp
                go_wp2_with (go_at_call 41; (with_reducible refine hC.mono ?_); rintro et wn ⟨An, cn, rfl, hf, hcn, hRd, hk⟩)
                clear hC
                have hL := hL.moved hRd hk
                clear hRd hk
                refine hK.out _ _ ?_ (fun hHeld => ?_)
                · trivial
                clear hK K
                try simp only [Act.put, List.setIfInBounds_toArray, List.set_cons_zero, List.set_cons_succ]
                refine wpAnyH_ready (rs := [1, 4]) (by kernel_rfl) (by simp) ?_
                refine (AllReadyH.cons (o := { dst := some 53, op := Go.Op.load 25 (Go.Operand.tmp 52), type := 25, pos := "reader.go:59", after := #[{ on := 0, ground := Go.Ground.data }], guard := none }) rfl (fun K hK => ?_) (AllReadyH.cons (o := { dst := some 56, op := Go.Op.buildSlice 25 1 #[(0, Go.Operand.tmp 55)], type := 25, pos := "reader.go:59", after := #[{ on := 3, ground := Go.Ground.data }], guard := none }) rfl (fun K hK => ?_) AllReadyH.nil))
                focus
                  have p5 : wn.cell? ⟨T, 258, none⟩ = some (.slice Av lk.length cv) := (hL.cell 258).trans (tbC_at2 HCL.out)
                  go_simp
                  clear p5
                  refine hK.out _ _ ?_ (fun hHeld => ?_)
                  · trivial
                  clear hK K
                  try simp only [Act.put, List.setIfInBounds_toArray, List.set_cons_zero, List.set_cons_succ]
                  refine wpAnyH_ready (rs := [4]) (by kernel_rfl) (by simp) ?_
                  refine (AllReadyH.cons (o := { dst := some 56, op := Go.Op.buildSlice 25 1 #[(0, Go.Operand.tmp 55)], type := 25, pos := "reader.go:59", after := #[{ on := 3, ground := Go.Ground.data }], guard := none }) rfl (fun K hK => ?_) AllReadyH.nil)
                  obtain ⟨ws, hws⟩ : ∃ ws, wn.alloc (.cells #[.slice An (rdTerms sk).1.length cn] 47) = ws := ⟨_, rfl⟩
                  have hbs : Below wn.heap.size wn ws := by rw [← hws]; exact (Below.refl _ _).alloc (Nat.le_refl _) _
                  have hqs : ws.heap[wn.heap.size]? = some (.cells #[.slice An (rdTerms sk).1.length cn] 47 (0, 0)) := by rw [← hws]; exact heap_alloc_new wn _
                  have hok : eEnd.ok (fun b => w11.heap.size ≤ b ∧ (Value.slice Av lk.length cv).ownBlock ≠ some b) ws (rdTerms sk).1 [.slice An (rdTerms sk).1.length cn] := ⟨An, cn, rfl, hf.keep (KeepQ.below hbs) (fun b hb _ => hnews b hb), hcn, terms_few _⟩
                  have hL := hL.below hbs
                  go_simp
                  try rw [hws]
                  clear hbs hws
                  refine hK.out _ _ ?_ (fun hHeld => ?_)
                  · trivial
                  clear hK K
                  try simp only [Act.put, List.setIfInBounds_toArray, List.set_cons_zero, List.set_cons_succ]
                  refine wpAnyH_ready (rs := [5]) (by kernel_rfl) (by simp) ?_
                  refine (AllReadyH.cons (o := { dst := some 57, op := Go.Op.call { callee := Go.Callee.builtin Go.Builtin.append, args := #[Go.Operand.tmp 53, Go.Operand.tmp 56], argTypes := #[25, 25] }, type := 25, pos := "reader.go:59", after := #[{ on := 1, ground := Go.Ground.data }, { on := 4, ground := Go.Ground.data }, { on := 3, ground := Go.Ground.chain }], guard := none }) rfl (fun K hK => ?_) AllReadyH.nil)
                  refine wp_append_E (e := eEnd) _ _ rfl rfl hL.row ⟨wn.heap.size, 0, none⟩ 1 (y := (rdTerms sk).1) (cs := [.slice An (rdTerms sk).1.length cn]) rfl hok (World.news_of_block hqs) (by have := HLEN.out; omega) hL.keep.size ?_
                  intro v7 wa hrow7 hg7 hon7
                  obtain ⟨A7, c7, hv7⟩ := hrow7.shape
                  subst hv7
                  have hbq := hL.grown hg7
                  have p7 : wa.cell? ⟨T, 258, none⟩ = some (.slice Av lk.length cv) := (World.cell?_of_block hbq).trans ((hL.cell 258).trans (tbC_at2 HCL.out))
                  have f7 : wa.frozen? ⟨T, 258, none⟩ = false := (World.frozen?_of_block hbq).trans (hL.frozen 258)
                  clear hbq hon7 hok hqs
                  refine hK.out _ _ ?_ (fun hHeld => ?_)
                  · trivial
                  clear hK K
                  try simp only [Act.put, List.setIfInBounds_toArray, List.set_cons_zero, List.set_cons_succ]
                  refine wpAnyH_take (i := 6) (oi := { dst := some 58, op := Go.Op.fieldAddr 27 (Go.Operand.tmp 7) 3, type := 0, pos := "reader.go:59", after := #[{ on := 0, ground := Go.Ground.phase }, { on := 1, ground := Go.Ground.phase }, { on := 2, ground := Go.Ground.phase }, { on := 3, ground := Go.Ground.phase }, { on := 4, ground := Go.Ground.phase }, { on := 5, ground := Go.Ground.phase }], guard := none }) (v := ?_) rfl (by kernel_rfl) (by kernel_rfl) (by kernel_rfl) (fun _ _ _ h => h) (Or.inl ⟨by rfl, ?_⟩) (by assumption) ?_
                  rotate_left
                  · intro w' hSw
                    (try dsimp only at hSw)
                    go_simp
                    all_goals with_reducible rfl
                  try simp only [Act.put, List.setIfInBounds_toArray, List.set_cons_zero, List.set_cons_succ]
                  refine wpAnyH_ready (rs := [7]) (by kernel_rfl) (by simp) ?_
                  refine (AllReadyH.cons (o := { dst := none, op := Go.Op.store 25 (Go.Operand.tmp 58) (Go.Operand.tmp 57), type := 0, pos := "reader.go:59", after := #[{ on := 6, ground := Go.Ground.data }, { on := 5, ground := Go.Ground.data }, { on := 5, ground := Go.Ground.chain }, { on := 0, ground := Go.Ground.phase }, { on := 1, ground := Go.Ground.phase }, { on := 2, ground := Go.Ground.phase }, { on := 3, ground := Go.Ground.phase }, { on := 4, ground := Go.Ground.phase }, { on := 5, ground := Go.Ground.phase }], guard := none }) rfl (fun K hK => ?_) AllReadyH.nil)
                  have hL := hL.push hrow7 hg7 258 (tbC_set2 HCL.out _)
                  clear hrow7 hg7
                  rw [List.length_append, List.length_singleton] at hL
                  go_simp
                  obtain ⟨v8, hv8⟩ : ∃ v8, Value.slice A7 (lk.length + 1) c7 = v8 := ⟨_, rfl⟩
                  rw [hv8] at hL
                  try rw [hv8]
                  obtain ⟨w8, hw8⟩ : ∃ w8, wa.setCell ⟨T, 258, none⟩ v8 = w8 := ⟨_, rfl⟩
                  rw [hw8] at hL
                  try rw [hw8]
                  clear hw8 hv8 p7 f7
                  refine hK.out _ _ ?_ (fun hHeld => ?_)
                  · trivial
                  clear hK K
                  try simp only [Act.put, List.setIfInBounds_toArray, List.set_cons_zero, List.set_cons_succ]
                  obtain ⟨wl, rfl⟩ : ∃ wl : World, wl = w8 := ⟨_, rfl⟩
                rotate_left 1
                focus
                  obtain ⟨ws, hws⟩ : ∃ ws, wn.alloc (.cells #[.slice An (rdTerms sk).1.length cn] 47) = ws := ⟨_, rfl⟩
                  have hbs : Below wn.heap.size wn ws := by rw [← hws]; exact (Below.refl _ _).alloc (Nat.le_refl _) _
                  have hqs : ws.heap[wn.heap.size]? = some (.cells #[.slice An (rdTerms sk).1.length cn] 47 (0, 0)) := by rw [← hws]; exact heap_alloc_new wn _
                  have hok : eEnd.ok (fun b => w11.heap.size ≤ b ∧ (Value.slice Av lk.length cv).ownBlock ≠ some b) ws (rdTerms sk).1 [.slice An (rdTerms sk).1.length cn] := ⟨An, cn, rfl, hf.keep (KeepQ.below hbs) (fun b hb _ => hnews b hb), hcn, terms_few _⟩
                  have hL := hL.below hbs
                  go_simp
                  try rw [hws]
                  clear hbs hws
                  refine hK.out _ _ ?_ (fun hHeld => ?_)
                  · trivial
                  clear hK K
                  try simp only [Act.put, List.setIfInBounds_toArray, List.set_cons_zero, List.set_cons_succ]
                  refine wpAnyH_ready (rs := [1]) (by kernel_rfl) (by simp) ?_
                  refine (AllReadyH.cons (o := { dst := some 53, op := Go.Op.load 25 (Go.Operand.tmp 52), type := 25, pos := "reader.go:59", after := #[{ on := 0, ground := Go.Ground.data }], guard := none }) rfl (fun K hK => ?_) AllReadyH.nil)
                  have p5 : ws.cell? ⟨T, 258, none⟩ = some (.slice Av lk.length cv) := (hL.cell 258).trans (tbC_at2 HCL.out)
                  go_simp
                  clear p5
                  refine hK.out _ _ ?_ (fun hHeld => ?_)
                  · trivial
                  clear hK K
                  try simp only [Act.put, List.setIfInBounds_toArray, List.set_cons_zero, List.set_cons_succ]
                  refine wpAnyH_ready (rs := [5]) (by kernel_rfl) (by simp) ?_
                  refine (AllReadyH.cons (o := { dst := some 57, op := Go.Op.call { callee := Go.Callee.builtin Go.Builtin.append, args := #[Go.Operand.tmp 53, Go.Operand.tmp 56], argTypes := #[25, 25] }, type := 25, pos := "reader.go:59", after := #[{ on := 1, ground := Go.Ground.data }, { on := 4, ground := Go.Ground.data }, { on := 3, ground := Go.Ground.chain }], guard := none }) rfl (fun K hK => ?_) AllReadyH.nil)
                  refine wp_append_E (e := eEnd) _ _ rfl rfl hL.row ⟨wn.heap.size, 0, none⟩ 1 (y := (rdTerms sk).1) (cs := [.slice An (rdTerms sk).1.length cn]) rfl hok (World.news_of_block hqs) (by have := HLEN.out; omega) hL.keep.size ?_
                  intro v7 wa hrow7 hg7 hon7
                  obtain ⟨A7, c7, hv7⟩ := hrow7.shape
                  subst hv7
                  have hbq := hL.grown hg7
                  have p7 : wa.cell? ⟨T, 258, none⟩ = some (.slice Av lk.length cv) := (World.cell?_of_block hbq).trans ((hL.cell 258).trans (tbC_at2 HCL.out))
                  have f7 : wa.frozen? ⟨T, 258, none⟩ = false := (World.frozen?_of_block hbq).trans (hL.frozen 258)
                  clear hbq hon7 hok hqs
                  refine hK.out _ _ ?_ (fun hHeld => ?_)
                  · trivial
                  clear hK K
                  try simp only [Act.put, List.setIfInBounds_toArray, List.set_cons_zero, List.set_cons_succ]
                  refine wpAnyH_take (i := 6) (oi := { dst := some 58, op := Go.Op.fieldAddr 27 (Go.Operand.tmp 7) 3, type := 0, pos := "reader.go:59", after := #[{ on := 0, ground := Go.Ground.phase }, { on := 1, ground := Go.Ground.phase }, { on := 2, ground := Go.Ground.phase }, { on := 3, ground := Go.Ground.phase }, { on := 4, ground := Go.Ground.phase }, { on := 5, ground := Go.Ground.phase }], guard := none }) (v := ?_) rfl (by kernel_rfl) (by kernel_rfl) (by kernel_rfl) (fun _ _ _ h => h) (Or.inl ⟨by rfl, ?_⟩) (by assumption) ?_
                  rotate_left
                  · intro w' hSw
                    (try dsimp only at hSw)
                    go_simp
                    all_goals with_reducible rfl
                  try simp only [Act.put, List.setIfInBounds_toArray, List.set_cons_zero, List.set_cons_succ]
                  refine wpAnyH_ready (rs := [7]) (by kernel_rfl) (by simp) ?_
                  refine (AllReadyH.cons (o := { dst := none, op := Go.Op.store 25 (Go.Operand.tmp 58) (Go.Operand.tmp 57), type := 0, pos := "reader.go:59", after := #[{ on := 6, ground := Go.Ground.data }, { on := 5, ground := Go.Ground.data }, { on := 5, ground := Go.Ground.chain }, { on := 0, ground := Go.Ground.phase }, { on := 1, ground := Go.Ground.phase }, { on := 2, ground := Go.Ground.phase }, { on := 3, ground := Go.Ground.phase }, { on := 4, ground := Go.Ground.phase }, { on := 5, ground := Go.Ground.phase }], guard := none }) rfl (fun K hK => ?_) AllReadyH.nil)
                  have hL := hL.push hrow7 hg7 258 (tbC_set2 HCL.out _)
                  clear hrow7 hg7
                  rw [List.length_append, List.length_singleton] at hL
                  go_simp
                  obtain ⟨v8, hv8⟩ : ∃ v8, Value.slice A7 (lk.length + 1) c7 = v8 := ⟨_, rfl⟩
                  rw [hv8] at hL
                  try rw [hv8]
                  obtain ⟨w8, hw8⟩ : ∃ w8, wa.setCell ⟨T, 258, none⟩ v8 = w8 := ⟨_, rfl⟩
                  rw [hw8] at hL
                  try rw [hw8]
                  clear hw8 hv8 p7 f7
                  refine hK.out _ _ ?_ (fun hHeld => ?_)
                  · trivial
                  clear hK K
                  try simp only [Act.put, List.setIfInBounds_toArray, List.set_cons_zero, List.set_cons_succ]
                  obtain ⟨wl, rfl⟩ : ∃ wl : World, wl = w8 := ⟨_, rfl⟩
              all_goals
                refine wpAnyH_done (by kernel_rfl) ?_ _
                have HL8 := Lib.hid hL
                clear hL
                go_wp2_with (fail)
                go_roundw
                case rel => exact ⟨k + 1, _, by omega, by go_num, by rw [HNX.out]; exact HL8.out⟩
                case measure => simp [intOf]; omega
            · obtain rfl : nE = k := by omega
              obtain ⟨AE, cE, hv, hfE, hcE⟩ := hL.row.far
              subst hv
              obtain ⟨t, ht⟩ : ∃ t : TV, t = ⟨⟨cls, (rdMany (rdNode wid) nN s5).1, (rdMany rdAct nA s6).1, (rdMany rdTerms nE s7).1⟩, AN, cN, AA, cA, AE, cE⟩ := ⟨_, rfl⟩
              have hbx : wr.heap[T]? = some (.cells t.cells.toArray 27 (0, 0)) := by rw [ht]; exact hL.box
              have htc : t.T.cls.length = 256 := by rw [ht]; exact HCL.out
              have htT : (t.T, (rdMany rdTerms nE s7).2) = rdTab s := by rw [HT.out, ht]
              have hK : KeepT x T w1 wr := HK7.out.trans (HL9.out.keep.trans (HL11.out.keep.trans hL.keep))
              have hres := (hK.block H (by omega) (by omega) (by omega)).trans HRES.out
              obtain ⟨wf, hwf⟩ : ∃ wf, wr.setRow H t.cells.toArray = wf := ⟨_, rfl⟩
              have hof : ∀ b, b ≠ H → wf.heap[b]? = wr.heap[b]? := fun b hb => by rw [← hwf]; exact setRow_other wr H b _ hb
              have hzf : wf.heap.size = wr.heap.size := by rw [← hwf]; simp
              have hHf : wf.heap[H]? = some (.cells t.cells.toArray 27 (0, 0)) := by rw [← hwf]; exact setRow_heap wr H _ _ _ _ hres
              have hq : ∀ n, H < n → KeepQ (fun b => n ≤ b) wr wf := fun n hn => ⟨by omega, fun b hb _ => hof b (by have hb : n ≤ b := hb; omega)⟩
              have kN := (HL11.out.keep.trans hL.keep).q (p := fun b => w7.heap.size ≤ b) (fun b hb => by have hb : w7.heap.size ≤ b := hb; omega)
              have kA := hL.keep.q (p := fun b => w9.heap.size ≤ b) (fun b hb => by have hb : w9.heap.size ≤ b := hb; omega)
              have gN : FarE eNode (fun b => w.heap.size ≤ b) wf AN (rdMany (rdNode wid) nN s5).1 := (HFN.out.keep kN fun b hb _ => hb).keep (hq _ (by omega)) fun b hb _ => by have hb : w7.heap.size ≤ b := hb; show w.heap.size ≤ b; omega
              have gA : FarE eAct (fun b => w.heap.size ≤ b) wf AA (rdMany rdAct nA s6).1 := (HFA.out.keep kA fun b hb _ => hb).keep (hq _ (by omega)) fun b hb _ => by have hb : w9.heap.size ≤ b := hb; show w.heap.size ≤ b; omega
              have gE : FarE eEnd (fun b => w.heap.size ≤ b) wf AE (rdMany rdTerms nE s7).1 := hfE.keep (hq _ (by omega)) fun b hb _ => by have hb : w11.heap.size ≤ b := hb; show w.heap.size ≤ b; omega
              have lN := rdMany_length (rdNode wid) nN s5
              have lA := rdMany_length rdAct nA s6
              have lE := rdMany_length rdTerms nE s7
              have hM : TF w.heap.size wf t := by
                rw [ht]
                exact ⟨HCL.out, HBY.out, gN, gA, gE, hcN, hcA, hcE, (by show (rdMany (rdNode wid) nN s5).1.length ≤ maxLen; unfold maxLen; omega), (by show (rdMany rdAct nA s6).1.length ≤ maxLen; unfold maxLen; omega), (by show (rdMany rdTerms nE s7).1.length ≤ maxLen; unfold maxLen; omega)⟩
              have hr1 := hK.r HB1.out (by omega)
              have HF := Lib.hid (show TableR x B0 s w (.returned t.val) wf from ⟨t, rfl, by rw [← htT], hM, by rw [← htT]; exact hL.rd.other fun b hb => hof b (by omega), ⟨by rw [← hwf]; exact hr1.os, by rw [← hwf]; exact hr1.tape, by rw [← hwf]; exact hr1.output, by rw [hzf]; exact hr1.size, fun b hb hx => (hof b (by omega)).trans (hr1.block b hb hx)⟩⟩)
              have HBX := Lib.hid hbx
              have HRS := Lib.hid hres
              have HTC := Lib.hid htc
              have HHF := Lib.hid hHf
              clear hbx hres htc hHf hM hr1 gN gA gE kN kA hq hof hK htT hL ht
              go_wp2_with (first | (refine wpList_load_row rfl 27 _ rfl T rfl _ _ _ _ HBX.out Try.underlying27 rfl (tabSize' HTC.out) ?_) | (refine wpList_store_row rfl 27 _ _ rfl H t.cells.toArray rfl rfl _ _ HRS.out (tabSize' HTC.out) (by rw [tab_zero, List.size_toArray, tbC_length (by simp), List.size_toArray, TV.length HTC.out]) oneCells ?_))
              rw [hwf]
              exact bodyPost_ret (v := t.val) (results_cell_row rfl _ _ H _ _ _ (.struct (Try.prog.fieldsOf 27)) rfl HHF.out (by kernel_rfl) rfl (tabSize' HTC.out)) rfl HF.out
end Go.Proofs.Ytboaifdkoemnbaa.Pk
