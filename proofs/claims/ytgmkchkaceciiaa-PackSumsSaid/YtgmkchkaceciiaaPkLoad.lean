/- Boxes of tables: parameters that are boxed, loads of a whole table, of its classes, guarded ones too. -/
import Derived.Test.YtgmkchkaceciiaaPkChk
import Derived.Deep.MidRow
import Derived.BigFrame
namespace Go.Proofs.Ytgmkchkaceciiaa.Pk
set_option maxRecDepth 100000
open Go Go.RowKit Go.Proofs.Ytgmkchkaceciiaa.Sp Go.Proofs.Ytgmkchkaceciiaa.Pa Go.Proofs.Ytgmkchkaceciiaa.Te Go.Proofs.Ytgmkchkaceciiaa.Mi Go.Proofs.Ytgmkchkaceciiaa.De

theorem TBox.boxed (w : World) (t : TV) : TBox (w.alloc (.cells t.cells.toArray 44)) w.heap.size t := heap_alloc_new w _
theorem TBox.below {w w' : World} {x B : Nat} {t : TV} (h : TBox w x t) (hx : x < B) (hb : Below B w w') : TBox w' x t := h.keep (hb.block x hx)
/-- A table's box, and what leads to its memory, in a world. -/
structure TW (w : World) (x : Nat) (t : TV) : Prop where
  box : TBox w x t
  mem : TM w t
theorem TW.below {w w' : World} {x : Nat} {t : TV} (h : TW w x t) (hb : Below w.heap.size w w') : TW w' x t := ⟨h.box.below h.box.lt hb, h.mem.belowM hb⟩
theorem TW.boxed {w : World} {t : TV} (h : TM w t) : TW (w.alloc (.cells t.cells.toArray 44)) w.heap.size t := ⟨TBox.boxed w t, h.belowM ((Below.refl _ _).alloc (Nat.le_refl _) _)⟩
theorem TW.cA {w : World} {x : Nat} {t : TV} (h : TW w x t) : w.cell? ⟨x, 256, none⟩ = some (.slice t.A t.T.nodes.length t.ca) := (h.box.cell 256).trans (TV.at_A h.mem.cls)
theorem TW.cB {w : World} {x : Nat} {t : TV} (h : TW w x t) : w.cell? ⟨x, 257, none⟩ = some (.slice t.B t.T.acts.length t.cb) := (h.box.cell 257).trans (TV.at_B h.mem.cls)
theorem TW.cC {w : World} {x : Nat} {t : TV} (h : TW w x t) : w.cell? ⟨x, 258, none⟩ = some (.slice t.C t.T.ends.length t.cc) := (h.box.cell 258).trans (TV.at_C h.mem.cls)
theorem tabSize : (Try.prog.info? 44).map (·.size) = some 259 := by kernel_rfl
theorem tabSize' {t : TV} (h : t.T.cls.length = 256) : (Try.prog.info? 44).map (·.size) = some t.cells.toArray.size := by rw [tabSize, List.size_toArray, TV.length h]
/-- The whole table is loaded. -/
theorem load_tab {w : World} {ops : Array Oper} {rest : List Oper} {o : Oper} {a : Act} {Q : Exit → Act → World → Prop} (hgd : o.guard = none) (x : Operand) (ho : o.op = .load 44 x)
    (g : Nat) (t : TV) (h : TW w g t) (hx : a.eval x = .pointer (some ⟨g, 0, none⟩)) (hk : wpList Try.prog ops Q rest (a.put o.dst t.val) w) : wpList Try.prog ops Q (o :: rest) a w :=
  wpList_load_row hgd 44 x ho g hx _ _ _ _ h.box Try.underlying44 rfl (tabSize' h.mem.cls) hk
theorem want_tab {w : World} {ops : Array Oper} {rest : List Oper} {o : Oper} {a : Act} {Q : Exit → Act → World → Prop} (hw : Region.wanted o (yielded ops a.tmps) = true) (x : Operand) (ho : o.op = .load 44 x)
    (g : Nat) (t : TV) (h : TW w g t) (hx : a.eval x = .pointer (some ⟨g, 0, none⟩)) (hk : wpList Try.prog ops Q rest (a.put o.dst t.val) w) : wpList Try.prog ops Q (o :: rest) a w :=
  BigFrame.wpList_want hw fun _ hK => wp_load_row 44 x ho g hx _ _ _ _ h.box Try.underlying44 rfl (tabSize' h.mem.cls) (hK _ _ hk)
/-- The ends. -/
def EnRel (t : TV) (iv : Value) : Prop := ∃ k : Nat, k ≤ t.T.ends.length ∧ iv = .int .i64 k ∧ ∀ j (hj : j < t.T.ends.length), j < k → t.T.ends[j].length ≤ 64
set_option maxHeartbeats 1000000 in
theorem endsRight_any (t : TV) (w : World) (h : TM w t) : Calls Try.prog 67 #[t.val] w (RetB (propB (∀ l ∈ t.T.ends, l.length ≤ 64)) w) := by
  have hlc := h.lc
  unfold maxLen at hlc
  obtain ⟨w1, hw1⟩ : ∃ w1, w.alloc (.cells t.cells.toArray 44) = w1 := ⟨_, rfl⟩
  have hT : TW w1 w.heap.size t := by rw [← hw1]; exact TW.boxed h
  have HB := Lib.hid (show Below w.heap.size w w1 by rw [← hw1]; exact (Below.refl _ _).alloc (Nat.le_refl _) _)
  have hc := hT.cC
  have HT := Lib.hid hT
  clear h hT
  unfold TV.val
  go_enter Try.func67, Try.ntmps67
  go_wp2_with (fail)
  go_loop [8] (fun iv => EnRel t iv) (fun i => t.T.ends.length - (intOf i).toNat)
  case atStart => exact ⟨0, Nat.zero_le _, rfl, fun j _ h => absurd h (by omega)⟩
  case round =>
    obtain ⟨k, hk, rfl, hall⟩ := hrel
    have HA := Lib.hid hall
    clear hall
    by_cases hlt : k < t.T.ends.length
    case neg =>
      have HP := Lib.hid (propB_true (p := ∀ l ∈ t.T.ends, l.length ≤ 64) fun l hl => by
        obtain ⟨j, hj, rfl⟩ := List.getElem_of_mem hl
        exact HA.out j hj (by omega))
      go_wp2_with (fail)
      go_ret
      exact ⟨ret_bool HP.out.symm, HB.out⟩
    obtain ⟨b, off, hC, hbB, A', c', d0, _, hcc, hm⟩ := HT.out.mem.ends.at_ hlt
    have HX := Lib.hid (show t.C = some ⟨b, off, none⟩ from hC)
    rw [hC] at hc ⊢
    clear hC
    unfold maxLen at hm
    by_cases h64 : t.T.ends[k].length ≤ 64
    · have HN := Lib.hid (show ∀ j (hj : j < t.T.ends.length), j < k + 1 → t.T.ends[j].length ≤ 64 from fun j hj hjk => by
        rcases Nat.lt_or_ge j k with q | q
        · exact HA.out j hj q
        · obtain rfl : j = k := by omega
          exact h64)
      go_wp2_with (fail)
      go_round
      case rel => exact ⟨k + 1, by omega, by go_num, HN.out⟩
      case measure => simp [intOf]; omega
    · have HP := Lib.hid (propB_false (p := ∀ l ∈ t.T.ends, l.length ≤ 64) fun hq => h64 (hq _ (List.getElem_mem hlt)))
      go_wp2_with (fail)
      go_ret
      exact ⟨ret_bool HP.out.symm, HB.out⟩
/-- The acts: those ahead of k are as they must be. -/
def AcRel (t : TV) (w1 : World) (iv : Value) (wr : World) : Prop := ∃ k : Nat, k ≤ t.T.acts.length ∧ iv = .int .i64 k ∧ (∀ j (hj : j < t.T.acts.length), j < k → ActOk t.T t.T.acts[j]) ∧ Below w1.heap.size w1 wr
theorem getD_at {α : Type} {l : List α} {x : Int} (h0 : 0 ≤ x) (h1 : x < l.length) : ∃ n, l[x.toNat]? = some n ∧ ∃ h : x.toNat < l.length, l[x.toNat] = n := by
  have : x.toNat < l.length := by omega
  exact ⟨_, List.getElem?_eq_getElem this, this, rfl⟩
set_option maxHeartbeats 4000000 in
theorem actsRight_any (t : TV) (w : World) (h : TM w t) : Calls Try.prog 66 #[t.val] w (RetB (propB (∀ a ∈ t.T.acts, ActOk t.T a)) w) := by
  have hlc := h.lb
  have hla := h.la
  unfold maxLen at hlc hla
  obtain ⟨w1, hw1⟩ : ∃ w1, w.alloc (.cells t.cells.toArray 44) = w1 := ⟨_, rfl⟩
  have hT : TW w1 w.heap.size t := by rw [← hw1]; exact TW.boxed h
  have HB := Lib.hid (show Below w.heap.size w w1 by rw [← hw1]; exact (Below.refl _ _).alloc (Nat.le_refl _) _)
  have hs1 : w1.heap.size = w.heap.size + 1 := by rw [← hw1]; simp
  have hcB := hT.cB
  have HT := Lib.hid hT
  clear h hT
  obtain ⟨v, hv⟩ : ∃ v, propB (∀ a ∈ t.T.acts, ActOk t.T a) = v := ⟨_, rfl⟩
  rw [hv]
  have HV := Lib.hid hv
  clear hv
  unfold TV.val
  go_enter Try.func66, Try.ntmps66
  go_wp2_with (fail)
  go_loopw [8] (fun iv wr => AcRel t w1 iv wr) (fun i _ => t.T.acts.length - (intOf i).toNat)
  case atStart => exact ⟨0, Nat.zero_le _, rfl, fun j _ h => absurd h (by omega), Below.refl _ _⟩
  case round =>
    obtain ⟨k, hk, rfl, hall, hbr⟩ := hrel
    have HA := Lib.hid hall
    have HBR := Lib.hid hbr
    have hTr := HT.out.below hbr
    have hsr := hbr.size
    have HE := Lib.hid (HB.out.trans (hbr.mono (by omega)))
    clear hall hbr
    by_cases hlt : k < t.T.acts.length
    case neg =>
      have HP := Lib.hid (HV.out.symm.trans (propB_true (p := ∀ a ∈ t.T.acts, ActOk t.T a) fun a ha => by
        obtain ⟨j, hj, rfl⟩ := List.getElem_of_mem ha
        exact HA.out j hj (by omega)))
      clear hTr
      go_wp2_with (fail)
      go_ret
      exact ⟨ret_bool HP.out.symm, HE.out⟩
    have hcA := hTr.cA
    obtain ⟨b, off, hC, hbB, d0, d1, A', c', d2, _, hcc, hm⟩ := hTr.mem.acts.at_ hlt
    have HX := Lib.hid (show t.B = some ⟨b, off, none⟩ from hC)
    have HTR := Lib.hid hTr
    obtain ⟨a, ha⟩ : ∃ a, t.T.acts[k] = a := ⟨_, rfl⟩
    have HIN := Lib.hid (show a ∈ t.T.acts by rw [← ha]; exact List.getElem_mem hlt)
    rw [ha] at d0 d1 d2 hcc hm
    have HN := Lib.hid (show ActOk t.T a → ∀ j (hj : j < t.T.acts.length), j < k + 1 → ActOk t.T t.T.acts[j] from fun hq j hj hjk => by
        rcases Nat.lt_or_ge j k with q | q
        · exact HA.out j hj q
        · obtain rfl : j = k := by omega
          exact ha ▸ hq)
    rw [hC] at hcB ⊢
    clear hC hTr ha
    unfold maxLen at hm
    obtain ⟨eat, to_, out⟩ := a
    simp only at d0 d1 d2 hcc hm
    obtain ⟨w5, hw5⟩ : ∃ w5, wr.alloc (.cells #[.int .i64 eat, .int .i64 to_, .slice A' out.length c'] 85) = w5 := ⟨_, rfl⟩
    have q0 : w5.cell? ⟨wr.heap.size, 0, none⟩ = some (.int .i64 eat) := by rw [← hw5]; simp
    have q1 : w5.cell? ⟨wr.heap.size, 1, none⟩ = some (.int .i64 to_) := by rw [← hw5]; simp
    have q2 : w5.cell? ⟨wr.heap.size, 2, none⟩ = some (.slice A' out.length c') := by rw [← hw5]; simp
    have hb5 : Below wr.heap.size wr w5 := by rw [← hw5]; exact (Below.refl _ _).alloc (Nat.le_refl _) _
    have hcA5 := (HTR.out.below hb5).cA
    have HE5 := Lib.hid (HE.out.trans (hb5.mono (by omega)))
    have HBR5 := Lib.hid (HBR.out.trans (hb5.mono (by omega)))
    have HM5 := Lib.hid (HTR.out.below hb5).mem.nodes
    have HNO : ∀ (_ : ¬ ActOk t.T (eat, to_, out)), v = false := fun hq => HV.out.symm.trans (propB_false fun hz => hq (hz _ HIN.out))
    have HNO2 := Lib.hid HNO
    clear hb5 HNO
    by_cases k1 : 1 ≤ eat
    case neg =>
      have HP := Lib.hid (HNO2.out fun q => k1 q.1)
      go_wp2_with (fail)
      go_ret
      exact ⟨ret_bool HP.out.symm, HE5.out⟩
    by_cases k2 : eat ≤ 4
    case neg =>
      have HP := Lib.hid (HNO2.out fun q => k2 q.2.1)
      go_wp2_with (fail)
      go_ret
      exact ⟨ret_bool HP.out.symm, HE5.out⟩
    by_cases k3 : 0 ≤ to_
    case neg =>
      have HP := Lib.hid (HNO2.out fun q => k3 q.2.2.1)
      go_wp2_with (fail)
      go_ret
      exact ⟨ret_bool HP.out.symm, HE5.out⟩
    by_cases k4 : to_ < t.T.nodes.length
    case neg =>
      have HP := Lib.hid (HNO2.out fun q => by
        obtain ⟨n, hn, _⟩ := q.2.2.2.1
        have h9 : to_.toNat < t.T.nodes.length := (List.getElem?_eq_some_iff.1 hn).1
        omega)
      go_wp2_with (fail)
      go_ret
      exact ⟨ret_bool HP.out.symm, HE5.out⟩
    obtain ⟨nd, hnd, hnl, hne⟩ := getD_at (l := t.T.nodes) k3 k4
    obtain ⟨j, rfl⟩ := Int.eq_ofNat_of_zero_le k3
    rw [Int.toNat_natCast] at hnl
    simp only [Int.toNat_natCast] at hnd hne
    obtain ⟨bn, offn, hAn, hbn, n0, _, _⟩ := HM5.out.at_ hnl
    rw [hne] at n0
    rw [hAn] at hcA5
    have HXN := Lib.hid hAn
    have HND := Lib.hid hnd
    have k4' : j < t.T.nodes.length := by omega
    clear hne hnd hAn
    obtain ⟨held, end_, nx⟩ := nd
    simp only at n0
    by_cases k5 : held = 0
    case neg =>
      have HP := Lib.hid (HNO2.out fun q => by
        obtain ⟨n, hn, h0⟩ := q.2.2.2.1
        rw [Int.toNat_natCast, HND.out] at hn
        injection hn with hn
        subst hn
        exact k5 h0)
      go_wp2_with (fail)
      go_ret
      exact ⟨ret_bool HP.out.symm, HE5.out⟩
    subst k5
    by_cases k6 : out.length ≤ 64
    case neg =>
      have HP := Lib.hid (HNO2.out fun q => k6 q.2.2.2.2)
      go_wp2_with (fail)
      go_ret
      exact ⟨ret_bool HP.out.symm, HE5.out⟩
    have HN2 := Lib.hid (HN.out ⟨k1, k2, k3, ⟨_, by rw [Int.toNat_natCast]; exact HND.out, rfl⟩, k6⟩)
    go_wp2_with (fail)
    go_roundw
    case rel => exact ⟨k + 1, by omega, by go_num, HN2.out, HBR5.out⟩
    case measure => simp [intOf]; omega
end Go.Proofs.Ytgmkchkaceciiaa.Pk
