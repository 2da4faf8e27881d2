/- The walk of pack.Unpack: of any bytes. -/
import Derived.Test.YtboaifdkoemnbaaJ17
import Derived.Test.YtboaifdkoemnbaaJ18
import Derived.Laws.BytesArg
import Derived.Laws.BytesString
import Derived.Laws.ResultCell
namespace Go.Proofs.Ytboaifdkoemnbaa.Pk
set_option maxRecDepth 100000
set_option linter.unusedSimpArgs false
open Go Go.RowKit Go.Proofs.Ytboaifdkoemnbaa.Sp Go.Proofs.Ytboaifdkoemnbaa.Pa Go.Proofs.Ytboaifdkoemnbaa.Te Go.Proofs.Ytboaifdkoemnbaa.Mi Go.Proofs.Ytboaifdkoemnbaa.De Go.Proofs.Ytboaifdkoemnbaa.Wo

/-- string(b) of a slice value that reads as bytes. -/
theorem conv_by {w : World} {B : Nat} {A : Option Addr} {n c : Nat} {l : List Int} (h : RY w B A n l) : (convert 30 9 (.slice A n c)).run Try.prog w = .ok (.string (strOfNums l)) w := by
  obtain ⟨h1, h2⟩ := h
  by_cases hn : 0 < n
  · obtain ⟨b, off, rfl, _, hc⟩ := h2 hn
    refine run_convert_bytes_arg w 30 5 Try.underlying30 Try.underlying5 b off n c l h1 (fun i hi => ?_) 9 Try.underlying9
    rw [hc i (by omega), List.getD_eq_getElem?_getD, List.getElem?_eq_getElem (show i < l.length by omega)]
    rfl
  · have : l = [] := List.eq_nil_of_length_eq_zero (by omega)
    subst this
    have : n = 0 := by omega
    subst this
    cases A with
    | none => exact run_convert_bytes_nil w 30 5 Try.underlying30 Try.underlying5 _ _ 9 Try.underlying9
    | some a =>
      rw [run_convert_bytes_string w 30 9 5 (some a) 0 c Try.underlying30 Try.underlying5 Try.underlying9, run_bytesToString w a 0 c [] (by have := run_loadCells_list (P := Try.prog) w a [] (fun j v hj => by simp at hj); simpa using this)]
      rfl
def UnpackOut (L : List Nat) (w : World) (e : Ending) (w' : World) : Prop := Below w.heap.size w w' ∧
  ((∃ t : TV, t.T.bytes = L ∧ packB t.T = true ∧ TF w.heap.size w' t ∧ e = .returned (.tuple #[t.val, .int .i64 0])) ∨
   (NoTab L ∧ e = .returned (.tuple #[.agg Try.zeroCells27, .int .i64 9])))
theorem tab_zsize : Try.zeroCells27.size = 259 := by rw [tab_zero, List.size_toArray, tbC_length (by simp)]
theorem tab_info : (Try.prog.info? 27).map (·.size) = some Try.zeroCells27.size := by rw [tabSize, tab_zsize]
theorem tab_one : Try.zeroCells27.all (·.oneCell') = true := by kernel_rfl
/-- What Unpack gives back: the table's cell, and the errno. -/
theorem ret_tab {fn : Func} (hf : fn.results = #[.cell 2 27, .tmp 3]) {tmps : Array Value} {w : World} {H : Nat} {cs : Array Value} {t : TypeId} (hH : w.heap[H]? = some (.cells cs t (0, 0))) (hs : (Try.prog.info? 27).map (·.size) = some cs.size) (hp : tmps.getD 2 undef = .pointer (some ⟨H, 0, none⟩)) :
    (results fn tmps).run Try.prog w = .ok (.tuple #[.agg cs, tmps.getD 3 undef]) w := by
  rw [results_cell_tmp hf, hp]
  simp only [asAddr, Sem.run_pure, Result.andThen_ok, run_loadVar_row w H t 27 cs (0, 0) (.struct (Try.prog.fieldsOf 27)) hH (by kernel_rfl) rfl hs]
/-- The bytes of a string are told by it. -/
theorem str_magic {L : List Nat} (hL : ∀ b ∈ L, b < 256) : ((strOfNums (byI L)).toList == [117, 109, 108, 116, 49]) = decide (L = magicL) := by
  have hd : (strOfNums (byI L)).toList = L.map UInt8.ofNat := by
    rw [ByteArray.toList_eq, strOfNums_data]
    unfold byI
    rw [List.map_map]
    rfl
  have key : ∀ (L M : List Nat), (∀ b ∈ L, b < 256) → (∀ b ∈ M, b < 256) → L.map UInt8.ofNat = M.map UInt8.ofNat → L = M := by
    intro L
    induction L with
    | nil => intro M _ _ h; cases M with
      | nil => rfl
      | cons _ _ => cases h
    | cons a L ih => intro M hl hm h; cases M with
      | nil => cases h
      | cons b M =>
        simp only [List.map_cons, List.cons.injEq] at h
        have ha := hl a List.mem_cons_self
        have hb := hm b List.mem_cons_self
        have e : a = b := by
          have := congrArg UInt8.toNat h.1
          simp only [UInt8.toNat_ofNat'] at this
          omega
        rw [e, ih M (fun x hx => hl x (List.mem_cons_of_mem _ hx)) (fun x hx => hm x (List.mem_cons_of_mem _ hx)) h.2]
  rw [hd]
  by_cases hm : L = magicL
  · subst hm
    rfl
  · rw [decide_eq_false hm]
    rw [beq_eq_false_iff_ne]
    intro e
    exact hm (key L magicL hL (by decide) e)
theorem ry_keepR {x B n : Nat} {A : Option Addr} {l : List Int} {w w' : World} (h : RY w B A n l) (hk : KeepR x w w') (hx : B ≤ x) (hB : B ≤ w.heap.size) : RY w' B A n l := h.keep fun p hp => World.cell?_of_block (hk.block p.block (by omega) (by omega))
/-- A reader of b[i:j]. -/
theorem rd_new {w w' : World} {b0 off0 c B i j k : Nat} {L : List Nat} (h : RY w B (some ⟨b0, off0, none⟩) L.length (byI L)) (hL : ∀ b ∈ L, b < 256) (hB : B ≤ w.heap.size) (hi : i ≤ j) (hic : i < c) (hj : j ≤ L.length) (hc : L.length ≤ c) (hk : j - i = k)
    (hw : w.alloc (.cells #[.slice (some ⟨b0, off0 + i, none⟩) k (c - i), .bool false] 62) = w') : RdS w.heap.size B ⟨(L.take j).drop i, false⟩ w' := by
  have hb : Below w.heap.size w w' := by rw [← hw]; exact (Below.refl _ _).alloc (Nat.le_refl _) _
  have hl : ((L.take j).drop i).length = k := by rw [List.length_drop, List.length_take]; omega
  refine ⟨⟨some ⟨b0, off0 + i, none⟩, c - i, ?_, ?_, by show ((L.take j).drop i).length ≤ _; omega⟩, hB, fun y hy => hL y (List.mem_of_mem_take (List.mem_of_mem_drop hy))⟩
  · show w'.heap[w.heap.size]? = some (.cells #[.slice _ ((L.take j).drop i).length _, .bool false] 62 (0, 0))
    rw [hl, ← hw]
    exact heap_alloc_new w _
  · have h1 := ry_drop (ry_take h hj) (k := i) (cap := c) (by omega) (by omega)
    rw [if_neg (by omega), byI_take, byI_drop] at h1
    simp only [Option.map_some, Go.WideShapes.add_plain] at h1
    show RY w' B _ ((L.take j).drop i).length (byI ((L.take j).drop i))
    rw [hl, ← hk]
    exact h1.keep fun p hp => hb.cell (by omega)
theorem TF.more {B B' : Nat} {w : World} {t : TV} (h : TF B w t) (hB : B' ≤ B) : TF B' w t :=
  have hk : KeepQ (fun b => B ≤ b) w w := ⟨Nat.le_refl _, fun _ _ _ => rfl⟩
  ⟨h.cls, h.byte, h.nodes.keep hk fun _ hb _ => Nat.le_trans hB hb, h.acts.keep hk fun _ hb _ => Nat.le_trans hB hb, h.ends.keep hk fun _ hb _ => Nat.le_trans hB hb, h.ca, h.cb, h.cc, h.la, h.lb, h.lc⟩
/-- A box that a table is laid in. -/
theorem tab_boxed {w w6 w7 : World} {t : TV} (h6 : w.alloc (.cells Try.zeroCells27 27) = w6) (h7 : w6.setRow w.heap.size t.cells.toArray = w7) : w7.heap[w.heap.size]? = some (.cells t.cells.toArray 27 (0, 0)) ∧ Below w.heap.size w w7 ∧ w7.heap.size = w.heap.size + 1 := by
  have hn : w6.heap[w.heap.size]? = some (.cells Try.zeroCells27 27 (0, 0)) := by rw [← h6]; exact heap_alloc_new w _
  have hb : Below w.heap.size w w6 := by rw [← h6]; exact (Below.refl _ _).alloc (Nat.le_refl _) _
  have hs : w6.heap.size = w.heap.size + 1 := by rw [← h6]; simp
  have hs7 : w7.heap.size = w6.heap.size := by rw [← h7]; simp
  refine ⟨by rw [← h7]; exact setRow_heap w6 _ _ _ _ _ hn, ⟨by rw [← h7]; exact hb.os, by rw [← h7]; exact hb.tape, by rw [← h7]; exact hb.output, by omega, fun b hlt => ?_⟩, by omega⟩
  rw [← h7, setRow_other w6 _ b _ (by omega)]
  exact hb.block b hlt
set_option maxHeartbeats 8000000 in
theorem unpack_any (A : Option Addr) (c : Nat) (L : List Nat) (w : World) (h : RY w w.heap.size A L.length (byI L)) (hL : ∀ b ∈ L, b < 256) (hn : L.length ≤ 1099511627776) (hc : L.length ≤ c) :
    Calls Try.prog 11 #[.slice A L.length c] w (UnpackOut L w) := by
  obtain ⟨H, hH⟩ : ∃ H, w.heap.size = H := ⟨_, rfl⟩
  obtain ⟨w1, hw1⟩ : ∃ w1, w.alloc (.cells Try.zeroCells27 27) = w1 := ⟨_, rfl⟩
  have hb1 : Below w.heap.size w w1 := by rw [← hw1]; exact (Below.refl _ _).alloc (Nat.le_refl _) _
  have HRES := Lib.hid (show w1.heap[H]? = some (.cells Try.zeroCells27 27 (0, 0)) from by rw [← hw1, ← hH]; exact heap_alloc_new w _)
  have hz1 : w1.heap.size = H + 1 := by rw [← hw1, ← hH]; simp
  have HB1 := Lib.hid hb1
  have HRY := Lib.hid (h.belowM hb1)
  have HBL := Lib.hid hL
  have HSH := Lib.hid hH
  clear hb1 h hL
  by_cases h9 : L.length < 9
  · have hlt : (L.length : Int) - 4 < 5 := by omega
    have HNO := Lib.hid (no_short h9)
    go_enter Try.func11, Try.ntmps11
    go_wp2_with (refine wpList_store_row rfl 27 _ _ rfl H Try.zeroCells27 rfl rfl _ _ HRES.out tab_info rfl tab_one ?_)
    rw [setRow_self _ H _ _ (0, 0) HRES.out]
    go_wp2_with (fail)
    exact bodyPost_ret (ret_tab rfl HRES.out tab_info rfl) rfl ⟨HB1.out, .inr ⟨HNO.out, rfl⟩⟩
  have hge : ¬ ((L.length : Int) - 4 < 5) := by omega
  obtain ⟨str, hstr⟩ : ∃ str, strOfNums ((byI L).take 5) = str := ⟨_, rfl⟩
  have hconv : (convert 30 9 (.slice A 5 c)).run Try.prog w1 = .ok (.string str) w1 := by rw [← hstr]; exact conv_by (ry_take HRY.out (by omega))
  have hmg : (str.toList == [117, 109, 108, 116, 49]) = decide (L.take 5 = magicL) := by
    rw [← hstr, byI_take]
    exact str_magic fun b hb => HBL.out b (List.mem_of_mem_take hb)
  clear hstr
  by_cases hm : L.take 5 = magicL
  case neg =>
    rw [decide_eq_false hm] at hmg
    have HNO := Lib.hid (no_magic hm)
    clear hm
    go_enter Try.func11, Try.ntmps11
    go_wp2_with (refine wpList_store_row rfl 27 _ _ rfl H Try.zeroCells27 rfl rfl _ _ HRES.out tab_info rfl tab_one ?_)
    rw [setRow_self _ H _ _ (0, 0) HRES.out]
    go_wp2_with (fail)
    exact bodyPost_ret (ret_tab rfl HRES.out tab_info rfl) rfl ⟨HB1.out, .inr ⟨HNO.out, rfl⟩⟩
  rw [decide_eq_true hm] at hmg
  have HM := Lib.hid hm
  obtain ⟨b0, off0, hA, _⟩ := HRY.out.2 (by omega)
  subst hA
  obtain ⟨E, hE⟩ : ∃ E, L.length - 4 = E := ⟨_, rfl⟩
  have hEi : (L.length : Int) - 4 = (E : Int) := by omega
  have hE4 : L.length - E = 4 := by omega
  have hge5 : ¬ ((E : Int) < 5) := by omega
  have hEc : E ≤ c := by omega
  obtain ⟨w2, hw2⟩ : ∃ w2, w1.alloc (.cells #[.slice (some ⟨b0, off0 + E, none⟩) 4 (c - E), .bool false] 62) = w2 := ⟨_, rfl⟩
  have hrd2 : RdS w1.heap.size w1.heap.size ⟨L.drop E, false⟩ w2 := by
    have := rd_new (j := L.length) HRY.out HBL.out (Nat.le_refl _) (by omega) (by omega) (Nat.le_refl _) hc hE4 hw2
    rwa [List.take_length] at this
  have hb2 : Below w1.heap.size w1 w2 := by rw [← hw2]; exact (Below.refl _ _).alloc (Nat.le_refl _) _
  have hz2 : w2.heap.size = H + 1 + 1 := by rw [← hw2, ← hz1]; simp
  rw [hz1] at hrd2
  have HRD2 := Lib.hid hrd2
  have HRY2 := Lib.hid (show RY w2 (H + 1) (some ⟨b0, off0, none⟩) L.length (byI L) from by rw [← hz1]; exact HRY.out.below hb2)
  have HB2 := Lib.hid (show Below w.heap.size w w2 from HB1.out.trans (hb2.mono (by omega)))
  have HRES2 := Lib.hid ((hb2.block H (by omega)).trans HRES.out)
  have HTK := Lib.hid (show (L.take E).length = E from by rw [List.length_take]; omega)
  obtain ⟨n1, hn1⟩ : ∃ n1, (rdNum ⟨L.drop E, false⟩).1 = n1 := ⟨_, rfl⟩
  obtain ⟨S, hS⟩ : ∃ S, sumL (L.take E) = S := ⟨_, rfl⟩
  have hSl : S < 4294967296 := by rw [← hS]; exact sumL_lt _
  have HN1 := Lib.hid hn1
  have HSS := Lib.hid hS
  have HCK := Lib.hid (show n1 ≠ sgn S → NoTab L from fun q => by
    refine no_check HBL.out (by omega) ?_
    rw [hE, hn1, hS]
    exact q)
  have HSG := Lib.hid (signed_any S hSl)
  obtain ⟨n2, hn2⟩ : ∃ n2, sgn S = n2 := ⟨_, rfl⟩
  rw [hn2] at HCK HSG
  have HN2 := Lib.hid hn2
  have HW2 := Lib.hid hw2
  clear hrd2 hb2 hn1 hS hn2 hSl hm hw2
  go_enter Try.func11, Try.ntmps11
  go_upto_region 5 with (fail)
  rw [HW2.out]
  obtain ⟨we, hwe⟩ : ∃ we, w2.drew = we := ⟨_, rfl⟩
  have hbe : Below w2.heap.size w2 we := by rw [← hwe]; exact (Below.refl _ _).drew
  have hRd := HRD2.out.keep hbe
  have hKR : KeepR (H + 1) w2 we := KeepR.below hbe
  refine wp_region_held_drew (S := fun _ => True) (by kernel_rfl) trivial (fun hHeld => ?_)
  rw [hwe]
  clear hbe
  refine wpAnyH_take (i := 1) (oi := { dst := some 25, op := Go.Op.move (Go.Operand.tmp 0), type := 30, pos := "pack.go:45", after := #[], guard := none }) (v := ?_) rfl (by kernel_rfl) (by kernel_rfl) (by kernel_rfl) (fun _ _ _ h => h) (Or.inl ⟨by rfl, ?_⟩) (by assumption) ?_
  rotate_left
  · intro w' hSw
    (try dsimp only at hSw)
    go_simp
    all_goals with_reducible rfl
  try simp only [Act.put, List.setIfInBounds_toArray, List.set_cons_zero, List.set_cons_succ]
  refine wpAnyH_take (i := 2) (oi := { dst := some 26, op := Go.Op.move (Go.Operand.tmp 4), type := 3, pos := "pack.go:45", after := #[], guard := none }) (v := ?_) rfl (by kernel_rfl) (by kernel_rfl) (by kernel_rfl) (fun _ _ _ h => h) (Or.inl ⟨by rfl, ?_⟩) (by assumption) ?_
  rotate_left
  · intro w' hSw
    (try dsimp only at hSw)
    go_simp
    all_goals with_reducible rfl
  try simp only [Act.put, List.setIfInBounds_toArray, List.set_cons_zero, List.set_cons_succ]
  refine wpAnyH_take (i := 3) (oi := { dst := some 27, op := Go.Op.slice 30 (Go.Operand.tmp 25) none (some (Go.Operand.tmp 26)) none, type := 30, pos := "pack.go:45", after := #[{ on := 1, ground := Go.Ground.data }, { on := 2, ground := Go.Ground.data }], guard := none }) (v := ?_) rfl (by kernel_rfl) (by kernel_rfl) (by kernel_rfl) (fun _ _ _ h => h) (Or.inl ⟨by rfl, ?_⟩) (by assumption) ?_
  rotate_left
  · intro w' hSw
    (try dsimp only at hSw)
    go_simp
    all_goals with_reducible rfl
  try simp only [Act.put, List.setIfInBounds_toArray, List.set_cons_zero, List.set_cons_succ]
  refine wpAnyH_ready (rs := [0]) (by kernel_rfl) (by simp) ?_
  refine (AllReadyH.cons (o := { dst := some 24, op := Go.Op.call { callee := Go.Callee.value (Go.Operand.func 26), args := #[Go.Operand.tmp 5], argTypes := #[62] }, type := 3, pos := "pack.go:45", after := #[], guard := none }) rfl (fun K hK => ?_) AllReadyH.nil)
  have hC := rnumber_any (H + 1) (H + 1) ⟨L.drop E, false⟩ we hRd
  go_simp
  go_wp2_with (go_at_call 26; (with_reducible refine hC.mono ?_); rintro e1 w3 ⟨rfl, hRd, hk⟩)
  clear hC
  rw [HN1.out]
  have hKR := hKR.trans hk
  have hry := (ry_take (ry_keepR HRY2.out hKR (Nat.le_refl _) (by omega)) (show E ≤ L.length by omega)).more (show H + 1 ≤ w3.heap.size by have := hKR.size; omega)
  clear hk
  refine hK.out _ _ ?_ (fun hHeld => ?_)
  · trivial
  clear hK K
  try simp only [Act.put, List.setIfInBounds_toArray, List.set_cons_zero, List.set_cons_succ]
  refine wpAnyH_ready (rs := [4]) (by kernel_rfl) (by simp) ?_
  refine (AllReadyH.cons (o := { dst := some 28, op := Go.Op.call { callee := Go.Callee.value (Go.Operand.func 17), args := #[Go.Operand.tmp 27], argTypes := #[30] }, type := 51, pos := "pack.go:45", after := #[{ on := 3, ground := Go.Ground.data }, { on := 0, ground := Go.Ground.chain }], guard := none }) rfl (fun K hK => ?_) AllReadyH.nil)
  have hC : Calls Try.prog 17 #[.slice (some ⟨b0, off0, none⟩) E c] w3 (Sp.RetW (.int .u32 ((S : Nat) : Int)) w3) := by
    have := sum_any (some ⟨b0, off0, none⟩) c (L.take E) w3 (by rw [HTK.out, ← byI_take]; exact hry) (fun b hb => HBL.out b (List.mem_of_mem_take hb)) (by rw [HTK.out]; omega)
    rwa [HTK.out, HSS.out] at this
  go_simp
  go_wp2_with (go_at_call 17; (with_reducible refine hC.mono ?_); rintro e2 w3b ⟨rfl, rfl⟩)
  clear hC
  refine hK.out _ _ ?_ (fun hHeld => ?_)
  · trivial
  clear hK K
  try simp only [Act.put, List.setIfInBounds_toArray, List.set_cons_zero, List.set_cons_succ]
  refine wpAnyH_ready (rs := [5]) (by kernel_rfl) (by simp) ?_
  refine (AllReadyH.cons (o := { dst := some 29, op := Go.Op.call { callee := Go.Callee.value (Go.Operand.func 20), args := #[Go.Operand.tmp 28], argTypes := #[51] }, type := 3, pos := "pack.go:45", after := #[{ on := 4, ground := Go.Ground.data }, { on := 4, ground := Go.Ground.chain }], guard := none }) rfl (fun K hK => ?_) AllReadyH.nil)
  have hC := HSG.out w3
  go_simp
  go_wp2_with (go_at_call 20; (with_reducible refine hC.mono ?_); rintro e3 w3c ⟨rfl, rfl⟩)
  clear hC
  refine hK.out _ _ ?_ (fun hHeld => ?_)
  · trivial
  clear hK K
  try simp only [Act.put, List.setIfInBounds_toArray, List.set_cons_zero, List.set_cons_succ]
  refine wpAnyH_take (i := 6) (oi := { dst := some 30, op := Go.Op.binOp Go.BinOp.neq 3 (Go.Operand.tmp 24) (Go.Operand.tmp 29) 3, type := 4, pos := "pack.go:45", after := #[{ on := 0, ground := Go.Ground.data }, { on := 5, ground := Go.Ground.data }], guard := none }) (v := ?_) rfl (by kernel_rfl) (by kernel_rfl) (by kernel_rfl) (fun _ _ _ h => h) (Or.inl ⟨by rfl, ?_⟩) (by assumption) ?_
  rotate_left
  · intro w' hSw
    (try dsimp only at hSw)
    go_simp
    all_goals with_reducible rfl
  try simp only [Act.put, List.setIfInBounds_toArray, List.set_cons_zero, List.set_cons_succ]
  obtain ⟨wl, rfl⟩ : ∃ wl : World, wl = w3 := ⟨_, rfl⟩
  refine wpAnyH_done (by kernel_rfl) ?_ _
  obtain ⟨w3, rfl⟩ : ∃ w3 : World, w3 = wl := ⟨_, rfl⟩
  have HRY3 := Lib.hid (ry_keepR HRY2.out hKR (Nat.le_refl _) (by omega))
  have HB3 := Lib.hid (show Below w.heap.size w w3 from HB2.out.trans (hKR.low (by omega)|>.mono (by omega)))
  have HRES3 := Lib.hid ((hKR.block H (by omega) (by omega)).trans HRES2.out)
  have hz3 := hKR.size
  clear hRd hKR hry hwe
  by_cases hck : n1 = n2
  case neg =>
    have HNO := Lib.hid (HCK.out hck)
    go_wp2_with (refine wpList_store_row rfl 27 _ _ rfl H Try.zeroCells27 rfl rfl _ _ HRES3.out tab_info rfl tab_one ?_)
    rw [setRow_self _ H _ _ (0, 0) HRES3.out]
    go_wp2_with (fail)
    exact bodyPost_ret (ret_tab rfl HRES3.out tab_info rfl) rfl ⟨HB3.out, .inr ⟨HNO.out, rfl⟩⟩
  subst hck
  have h5E : ((E : Int) - 5) = ((E - 5 : Nat) : Int) := by omega
  have h5i : (5 : Int) ≤ (E : Int) := by omega
  obtain ⟨X, hX⟩ : ∃ X, w3.heap.size = X := ⟨_, rfl⟩
  obtain ⟨w4, hw4⟩ : ∃ w4, w3.alloc (.cells #[.slice (some ⟨b0, off0 + 5, none⟩) (E - 5) (c - 5), .bool false] 62) = w4 := ⟨_, rfl⟩
  have hrd4 := rd_new (i := 5) (j := E) (k := E - 5) HRY3.out HBL.out (by omega) (by omega) (by omega) (by omega) hc rfl hw4
  rw [hX] at hrd4
  have hb4 : Below w3.heap.size w3 w4 := by rw [← hw4]; exact (Below.refl _ _).alloc (Nat.le_refl _) _
  have hz4 : w4.heap.size = X + 1 := by rw [← hw4, ← hX]; simp
  have HB4 := Lib.hid (show Below w.heap.size w w4 from HB3.out.trans (hb4.mono (by omega)))
  have HRES4 := Lib.hid ((hb4.block H (by omega)).trans HRES3.out)
  obtain ⟨R, hR⟩ : ∃ R, (L.take E).drop 5 = R := ⟨_, rfl⟩
  have hRl : R.length ≤ 1099511627776 := by rw [← hR, List.length_drop, List.length_take]; omega
  rw [hR] at hrd4
  have HCT := Lib.hid (rtable_any X (H + 1) ⟨R, false⟩ w4 hrd4 hRl)
  obtain ⟨T, hT⟩ : ∃ T, (rdTab ⟨R, false⟩).1 = T := ⟨_, rfl⟩
  obtain ⟨lf, hlf⟩ : ∃ lf, (rdTab ⟨R, false⟩).2.left = lf := ⟨_, rfl⟩
  obtain ⟨wg, hwg⟩ : ∃ wg, (rdTab ⟨R, false⟩).2.wrong = wg := ⟨_, rfl⟩
  have HNR := Lib.hid (show wg = true ∨ 0 < lf.length ∨ ¬ RightTab T → NoTab L from fun q => by
    refine no_read ?_
    rw [hE, hR, hT, hlf, hwg]
    exact q)
  have HYS := Lib.hid (show wg = false → lf = [] → RightTab T → T.bytes = L ∧ packB T = true ∧ T.cls.length = 256 from fun q1 q2 q3 => by
    have := tab_read HBL.out (by omega) HM.out (by rw [hE, HSS.out, HN1.out, HN2.out]) (by rw [hE, hR, hwg]; exact q1) (by rw [hE, hR, hlf]; exact q2) (by rw [hE, hR, hT]; exact q3)
    rwa [hE, hR, hT] at this)
  have HTT := Lib.hid hT
  have HLF := Lib.hid hlf
  have HWG := Lib.hid hwg
  have HW4 := Lib.hid hw4
  clear hrd4 hb4 hR hRl hT hlf hwg hw4
  go_upto_region 8 with (fail)
  rw [HW4.out]
  go_wp2_with (fail)
  refine HCT.out.mono ?_
  rintro e w5 ⟨t, rfl, ht, hF, hR5, hk5⟩
  rw [HTT.out] at ht
  obtain ⟨Y, hY⟩ : ∃ Y, w5.heap.size = Y := ⟨_, rfl⟩
  obtain ⟨w6, hw6⟩ : ∃ w6, w5.alloc (.cells Try.zeroCells27 27) = w6 := ⟨_, rfl⟩
  obtain ⟨w7, hw7⟩ : ∃ w7, w6.setRow Y t.cells.toArray = w7 := ⟨_, rfl⟩
  have hY6 : w6.heap[Y]? = some (.cells Try.zeroCells27 27 (0, 0)) := by rw [← hw6, ← hY]; exact heap_alloc_new w5 _
  obtain ⟨hbx, hb7, hz7⟩ := tab_boxed (w7 := w7) (t := t) hw6 (by rw [hY]; exact hw7)
  rw [hY] at hbx hz7
  have hR7 := hR5.keep hb7
  obtain ⟨A9, c9, hq1, _, _⟩ := hR7.box
  rw [HLF.out, HWG.out] at hq1
  have c0w : w7.cell? ⟨X, 0, none⟩ = some (.slice A9 lf.length c9) := by rw [cell_of_row w7 X 0 _ _ _ hq1]; rfl
  have c1w : w7.cell? ⟨X, 1, none⟩ = some (.bool wg) := by rw [cell_of_row w7 X 1 _ _ _ hq1]; rfl
  have hz5 := hk5.size
  have HB7 := Lib.hid (show Below w.heap.size w w7 from (HB4.out.trans ((hk5.low (by omega)).mono (by omega))).trans (hb7.mono (by omega)))
  have HRES7 := Lib.hid ((hb7.block H (by omega)).trans ((hk5.block H (by omega) (by omega)).trans HRES4.out))
  have HF7 := Lib.hid (show TF (X + 1) w7 t from by rw [← hz4]; exact hF.keep (KeepQ.below hb7))
  have HT7 := Lib.hid (show TW w7 Y t from ⟨hbx, HF7.out.tm⟩)
  have HY6 := Lib.hid hY6
  have HW7 := Lib.hid hw7
  have HTE := Lib.hid ht
  have hval : t.val = .agg t.cells.toArray := rfl
  rw [hval]
  clear hval hF hR5 hk5 hbx hb7 hR7 hq1 hY6 hw7 ht
  go_upto_region 9 with (refine wpList_store_row rfl 27 _ _ rfl Y t.cells.toArray rfl rfl _ _ HY6.out (tabSize' HF7.out.cls) (by rw [tab_zsize, List.size_toArray, TV.length HF7.out.cls]) oneCells ?_; rw [HW7.out])
  cases wg
  case true =>
    have HNO := Lib.hid (HNR.out (.inl rfl))
    go_wp2_with (refine wpList_store_row rfl 27 _ _ rfl H Try.zeroCells27 rfl rfl _ _ HRES7.out tab_info rfl tab_one ?_)
    rw [setRow_self _ H _ _ (0, 0) HRES7.out]
    go_wp2_with (fail)
    exact bodyPost_ret (ret_tab rfl HRES7.out tab_info rfl) rfl ⟨HB7.out, .inr ⟨HNO.out, rfl⟩⟩
  by_cases hlf : lf = []
  case neg =>
    have hpos : 0 < lf.length := List.length_pos_iff.2 hlf
    have hpos' : (0 : Int) < (lf.length : Int) := by omega
    have HNO := Lib.hid (HNR.out (.inr (.inl hpos)))
    go_wp2_with (refine wpList_store_row rfl 27 _ _ rfl H Try.zeroCells27 rfl rfl _ _ HRES7.out tab_info rfl tab_one ?_)
    rw [setRow_self _ H _ _ (0, 0) HRES7.out]
    go_wp2_with (fail)
    exact bodyPost_ret (ret_tab rfl HRES7.out tab_info rfl) rfl ⟨HB7.out, .inr ⟨HNO.out, rfl⟩⟩
  subst hlf
  have HC := Lib.hid (tcheck_any t w7 HT7.out.mem)
  by_cases hrt : RightTab T
  case neg =>
    have HNO := Lib.hid (HNR.out (.inr (.inr hrt)))
    rw [HTE.out, propB_false hrt] at HC
    clear hrt
    go_wp2_with (refine want_tab (by rfl) _ rfl Y t HT7.out rfl ?_)
    refine HC.out.mono ?_
    rintro e w8 ⟨rfl, hb8⟩
    have HB8 := Lib.hid (HB7.out.trans (hb8.mono (by omega)))
    have HRES8 := Lib.hid ((hb8.block H (by omega)).trans HRES7.out)
    clear hb8
    go_wp2_with (refine wpList_store_row rfl 27 _ _ rfl H Try.zeroCells27 rfl rfl _ _ HRES8.out tab_info rfl tab_one ?_)
    rw [setRow_self _ H _ _ (0, 0) HRES8.out]
    go_wp2_with (fail)
    exact bodyPost_ret (ret_tab rfl HRES8.out tab_info rfl) rfl ⟨HB8.out, .inr ⟨HNO.out, rfl⟩⟩
  have HYES := Lib.hid (HYS.out rfl rfl hrt)
  rw [HTE.out, propB_true hrt] at HC
  clear hrt
  go_wp2_with (refine want_tab (by rfl) _ rfl Y t HT7.out rfl ?_)
  refine HC.out.mono ?_
  rintro e w8 ⟨rfl, hb8⟩
  have HB8 := Lib.hid (HB7.out.trans (hb8.mono (by omega)))
  have HRES8 := Lib.hid ((hb8.block H (by omega)).trans HRES7.out)
  have HT8 := Lib.hid (HT7.out.below hb8)
  have hF8 := HF7.out.keep (KeepQ.below hb8)
  obtain ⟨w9, hw9⟩ : ∃ w9, w8.setRow H t.cells.toArray = w9 := ⟨_, rfl⟩
  have hz9 : w9.heap.size = w8.heap.size := by rw [← hw9]; simp
  have ho9 : ∀ b, b ≠ H → w9.heap[b]? = w8.heap[b]? := fun b hb => by rw [← hw9]; exact setRow_other w8 H b _ hb
  have HH9 := Lib.hid (show w9.heap[H]? = some (.cells t.cells.toArray 27 (0, 0)) from by rw [← hw9]; exact setRow_heap w8 H _ _ _ _ HRES8.out)
  have HF9 := Lib.hid (show TF w.heap.size w9 t from (hF8.keep ⟨by omega, fun b hb _ => ho9 b (by have hb : X + 1 ≤ b := hb; omega)⟩).more (by omega))
  have HB9 := Lib.hid (show Below w.heap.size w w9 from ⟨by rw [← hw9]; exact HB8.out.os, by rw [← hw9]; exact HB8.out.tape, by rw [← hw9]; exact HB8.out.output, by rw [hz9]; exact HB8.out.size, fun b hb => (ho9 b (by omega)).trans (HB8.out.block b hb)⟩)
  have HW9 := Lib.hid hw9
  clear hb8 hF8 hw9 ho9
  go_wp2_with (first | (refine load_tab rfl _ rfl Y t HT8.out rfl ?_) | (refine wpList_store_row rfl 27 _ _ rfl H t.cells.toArray rfl rfl _ _ HRES8.out (tabSize' HF7.out.cls) (by rw [tab_zsize, List.size_toArray, TV.length HF7.out.cls]) oneCells ?_; rw [HW9.out]))
  exact bodyPost_ret (ret_tab rfl HH9.out (tabSize' HF7.out.cls) rfl) rfl ⟨HB9.out, .inl ⟨t, by rw [HTE.out]; exact HYES.out.1, by rw [HTE.out]; exact HYES.out.2.1, HF9.out, rfl⟩⟩
end Go.Proofs.Ytboaifdkoemnbaa.Pk
