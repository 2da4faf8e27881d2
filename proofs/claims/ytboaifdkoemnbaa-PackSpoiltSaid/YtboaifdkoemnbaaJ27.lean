/- Texts of this proof, joined: PkRPack, PkBehind. -/
import Derived.Test.YtboaifdkoemnbaaJ17
import Derived.Test.YtboaifdkoemnbaaJ22
import Derived.Test.YtboaifdkoemnbaaJ26
/- ref18.Pack of any table: its bytes just if it has any. -/
namespace Go.Proofs.Ytboaifdkoemnbaa.Pk
set_option maxRecDepth 100000
open Go Go.RowKit Go.Proofs.Ytboaifdkoemnbaa.Sp Go.Proofs.Ytboaifdkoemnbaa.Pa Go.Proofs.Ytboaifdkoemnbaa.Te Go.Proofs.Ytboaifdkoemnbaa.Mi Go.Proofs.Ytboaifdkoemnbaa.De Go.Proofs.Ytboaifdkoemnbaa.Wo

theorem flat_mem_len {α : Type} (f : α → List Int) {l : List α} {a : α} (h : a ∈ l) : (f a).length ≤ (l.flatMap f).length := by
  obtain ⟨j, hj, rfl⟩ := List.getElem_of_mem h
  have := flat_next f hj
  omega
theorem fit_iff {t : TmL} (hn : t.ps.length ≤ 1000000000) : (∀ x ∈ termI t, In32 x) ↔ FitT t := by
  have hc : In32 (t.ps.length : Int) := by unfold In32; omega
  unfold termI
  constructor
  · intro h
    refine ⟨h _ (by simp), h _ (by simp), h _ (by simp), h _ (by simp), h _ (by simp), fun p hp => ?_⟩
    have hm : ∀ x ∈ partI p, In32 x := fun x hx => h x (List.mem_append_right _ (List.mem_flatMap.2 ⟨p, hp, hx⟩))
    exact ⟨hm _ (by simp [partI]), hm _ (by simp [partI]), hm _ (by simp [partI]), hm _ (by simp [partI])⟩
  · intro h x hx
    rcases List.mem_append.1 hx with q | q
    · simp only [List.mem_cons, List.not_mem_nil, or_false] at q
      rcases q with rfl | rfl | rfl | rfl | rfl | rfl
      · exact h.fb
      · exact h.fd
      · exact h.ft
      · exact h.fu
      · exact h.fs
      · exact hc
    · obtain ⟨p, hp, hx2⟩ := List.mem_flatMap.1 q
      have hf := h.fps p hp
      simp only [partI, List.mem_cons, List.not_mem_nil, or_false] at hx2
      rcases hx2 with rfl | rfl | rfl | rfl
      · exact hf.1
      · exact hf.2.1
      · exact hf.2.2.1
      · exact hf.2.2.2
theorem terms_iff {l : List TmL} (hl : l.length ≤ 64) (hn : (termsI l).length ≤ 1000000000) : (∀ x ∈ termsI l, In32 x) ↔ ∀ t ∈ l, FitT t := by
  have hp : ∀ t ∈ l, t.ps.length ≤ 1000000000 := fun t ht => by
    have := flat_mem_len termI ht
    rw [termI_len] at this
    have h2 : (l.flatMap termI).length + 1 ≤ 1000000000 := hn
    omega
  constructor
  · intro h t ht
    exact (fit_iff (hp t ht)).1 fun x hx => h x (List.mem_cons_of_mem _ (List.mem_flatMap.2 ⟨t, ht, hx⟩))
  · intro h x hx
    rcases List.mem_cons.1 hx with rfl | q
    · unfold In32; omega
    · obtain ⟨t, ht, hx2⟩ := List.mem_flatMap.1 q
      exact (fit_iff (hp t ht)).2 (h t ht) x hx2
theorem node_in {T : TabL} (h : RightTab T) {n : NdL} (hn : n ∈ T.nodes) : ∀ x ∈ nodeI n, In32 x := by
  obtain ⟨_, e2, e3, e4⟩ := h.sizes.some_, h.sizes.nodes, h.sizes.acts, h.sizes.ends
  obtain ⟨_, h0, h4⟩ := h.sizes.each n hn
  obtain ⟨he, hx⟩ := h.nodes n hn
  intro x hm
  unfold In32
  rcases List.mem_cons.1 hm with rfl | hm
  · omega
  rcases List.mem_cons.1 hm with rfl | hm
  · rcases he with q | ⟨q, l, hl, _⟩
    · omega
    · have := (List.getElem?_eq_some_iff.1 hl).1
      omega
  · rcases hx x hm with q | ⟨_, ⟨q, m, hq, _⟩ | ⟨q, a, hq, _⟩⟩
    · omega
    · have := (List.getElem?_eq_some_iff.1 hq).1
      omega
    · have := (List.getElem?_eq_some_iff.1 hq).1
      omega
theorem pack_fits {T : TabL} (h : RightTab T) (hn : T.restI.length ≤ 1000000000) : packB T = true ↔ (∀ a ∈ T.acts, ∀ t ∈ a.2.2, FitT t) ∧ ∀ l ∈ T.ends, ∀ t ∈ l, FitT t := by
  have e : T.restI.length = (T.nodes.flatMap nodeI).length + ((T.acts.flatMap actI).length + (T.ends.flatMap termsI).length) := by unfold TabL.restI; rw [List.length_append, List.length_append]
  have ha : ∀ a ∈ T.acts, (termsI a.2.2).length ≤ 1000000000 := fun a ha => by
    have := flat_mem_len actI ha
    have h2 : (actI a).length = (termsI a.2.2).length + 1 + 1 := rfl
    omega
  have hl : ∀ l ∈ T.ends, (termsI l).length ≤ 1000000000 := fun l hl => by
    have := flat_mem_len termsI hl
    omega
  rw [packB_iff]
  constructor
  · rintro ⟨_, _, hr⟩
    unfold TabL.restI at hr
    refine ⟨fun a haa => (terms_iff (h.acts a haa).2.2.2.2 (ha a haa)).1 fun x hx => hr x ?_, fun l hll => (terms_iff (h.ends l hll) (hl l hll)).1 fun x hx => hr x ?_⟩
    · exact List.mem_append_right _ (List.mem_append_left _ (List.mem_flatMap.2 ⟨a, haa, List.mem_cons_of_mem _ (List.mem_cons_of_mem _ hx)⟩))
    · exact List.mem_append_right _ (List.mem_append_right _ (List.mem_flatMap.2 ⟨l, hll, hx⟩))
  · rintro ⟨h1, h2⟩
    have q1 := h.sizes.w2
    have q2 := h.sizes.nodes
    have q3 := h.sizes.acts
    have q4 := h.sizes.ends
    refine ⟨h, fun x hx => ?_, fun x hx => ?_⟩
    · unfold TabL.headI at hx
      unfold In32
      simp only [List.mem_cons, List.not_mem_nil, or_false] at hx
      rcases hx with rfl | rfl | rfl | rfl <;> omega
    · unfold TabL.restI at hx
      rcases List.mem_append.1 hx with q | q
      · obtain ⟨n, hn, hx2⟩ := List.mem_flatMap.1 q
        exact node_in h hn x hx2
      rcases List.mem_append.1 q with q | q
      · obtain ⟨a, haa, hx2⟩ := List.mem_flatMap.1 q
        obtain ⟨a1, a2, a3, ⟨nd, a4, _⟩, a5⟩ := h.acts a haa
        have a6 := (List.getElem?_eq_some_iff.1 a4).1
        rcases List.mem_cons.1 hx2 with rfl | hx2
        · unfold In32; omega
        rcases List.mem_cons.1 hx2 with rfl | hx2
        · unfold In32; omega
        exact (terms_iff a5 (ha a haa)).2 (h1 a haa) x hx2
      · obtain ⟨l, hll, hx2⟩ := List.mem_flatMap.1 q
        exact (terms_iff (h.ends l hll) (hl l hll)).2 (h2 l hll) x hx2
theorem bits_nat {n : Nat} (h : n < 4294967296) : bits (n : Int) = n := by unfold bits; omega
theorem numsB_pos (x : Int) (l : List Int) : 0 < (numsB (x :: l)).length := by rw [numsB_length, List.length_cons]; omega
def CRel (w1 : World) (L : List Nat) (cls : List Nat) (bv iv : Value) (wr : World) : Prop := ∃ (k : Nat) (v : Value), k ≤ 256 ∧ iv = .int .i64 k ∧ v = bv ∧ OB w1 v (L ++ cls.take k) wr
def ORel (w1 : World) (L : List Nat) (f : Nat → List Int) (n : Nat) (P : Nat → Prop) (bv iv : Value) (wr : World) : Prop := ∃ (k : Nat) (v : Value), k ≤ n ∧ iv = .int .i64 k ∧ v = bv ∧ OB w1 v (L ++ numsB (f k)) wr ∧ P k
def RPackOut (T : TabL) (w : World) (e : Ending) (w' : World) : Prop := Below w.heap.size w w' ∧
  ((packB T = true ∧ ∃ A c, e = .returned (.tuple #[.slice A T.bytes.length c, .bool true]) ∧ RY w' w'.heap.size A T.bytes.length (byI T.bytes) ∧ T.bytes.length ≤ c) ∨
   (packB T = false ∧ e = .returned (.tuple #[.slice none 0 0, .bool false])))
set_option maxHeartbeats 16000000 in
theorem rpack_any (t : TV) (w : World) (h : TM w t) (hR : t.T.restI.length ≤ 1000000000) : Calls Try.prog 10 #[t.val] w (RPackOut t.T w) := by
  have hcl := h.cls
  have hby := h.byte
  have hla := h.la
  have hlb := h.lb
  have hlc := h.lc
  unfold maxLen at hla hlb hlc
  obtain ⟨H, hH⟩ : ∃ H, w.heap.size = H := ⟨_, rfl⟩
  obtain ⟨w1, hw1⟩ : ∃ w1, w.alloc (.cells t.cells.toArray 27) = w1 := ⟨_, rfl⟩
  have hT : TW w1 H t := by rw [← hw1, ← hH]; exact TW.boxed h
  have hs1 : w1.heap.size = H + 1 := by rw [← hw1, ← hH]; simp
  have hb1 : Below w.heap.size w w1 := by rw [← hw1]; exact (Below.refl _ _).alloc (Nat.le_refl _) _
  have HT1 := Lib.hid hT
  have HS1 := Lib.hid hs1
  have HTW := Lib.hid (fun W (hW : Below w1.heap.size w1 W) => show TW W H t from hT.below hW)
  have HW1 := Lib.hid (fun W (hW : Below w1.heap.size w1 W) => show Below w.heap.size w W from hb1.trans (hW.mono (by rw [hH, hs1]; omega)))
  have HC := Lib.hid (check17_any t w1 hT.mem)
  have HCL := Lib.hid hcl
  have HBY := Lib.hid hby
  have hval : t.val = .agg t.cells.toArray := rfl
  clear h hT hcl hby hb1 hs1
  by_cases k1 : RightTab t.T
  case neg =>
    rw [propB_false k1] at HC
    have HP := Lib.hid (show packB t.T = false from by unfold packB; rw [propB_false k1]; rfl)
    clear k1
    rw [hval]
    clear hval
    go_enter Try.func10, Try.ntmps10
    go_wp2_with (refine load_tab rfl _ rfl H t HT1.out rfl ?_)
    refine HC.out.mono ?_
    rintro e w2 ⟨rfl, hb2⟩
    have HF := Lib.hid (HW1.out w2 hb2)
    clear hb2
    go_wp2_with (fail)
    go_ret2
    exact ⟨HF.out, .inr ⟨HP.out, rfl⟩⟩
  rw [propB_true k1] at HC
  have HK := Lib.hid k1
  have HPF := Lib.hid (pack_fits k1 hR)
  have hn1 := k1.sizes.some_
  have hwd := k1.sizes.w2
  have hn4 := k1.sizes.nodes
  have ha4 := k1.sizes.acts
  have he4 := k1.sizes.ends
  obtain ⟨hl0, hw0, h90⟩ := head_zero hn1
  obtain ⟨b0, off0, hA, hbB, h91, h92, A', c', d2, h93, hcc, hm⟩ := HT1.out.mem.nodes.at_ hl0
  rw [hw0] at d2 hm
  obtain ⟨wid, hwid⟩ : ∃ wid, t.T.wid = wid := ⟨_, rfl⟩
  rw [hwid] at d2 hm hwd
  simp only [Nat.zero_mul, Nat.add_zero] at d2
  have HXA := Lib.hid hA
  have HIH := Lib.hid (show t.T.headI = [(wid : Int), (t.T.nodes.length : Int), (t.T.acts.length : Int), (t.T.ends.length : Int)] from by unfold TabL.headI; rw [hwid])
  have HF1 := Lib.hid (fun W (hW : Below w1.heap.size w1 W) => show W.cell? ⟨H, 256, none⟩ = some (.slice (some ⟨b0, off0, none⟩) t.T.nodes.length t.ca) ∧ W.cell? ⟨H, 257, none⟩ = some (.slice t.B t.T.acts.length t.cb) ∧ W.cell? ⟨H, 258, none⟩ = some (.slice t.C t.T.ends.length t.cc) ∧ W.cell? ⟨b0, off0 + 1, none⟩ = some (.slice A' wid c') from ⟨by rw [← hA]; exact (HTW.out W hW).cA, (HTW.out W hW).cB, (HTW.out W hW).cC, (hW.cell hbB).trans d2⟩)
  have hrr : t.T.restI.length = (t.T.nodes.flatMap nodeI).length + ((t.T.acts.flatMap actI).length + (t.T.ends.flatMap termsI).length) := by unfold TabL.restI; rw [List.length_append, List.length_append]
  have HRR := Lib.hid (show (t.T.nodes.flatMap nodeI).length ≤ 1000000000 ∧ (t.T.acts.flatMap actI).length ≤ 1000000000 ∧ (t.T.ends.flatMap termsI).length ≤ 1000000000 ∧ (t.T.nodes.flatMap nodeI).length + ((t.T.acts.flatMap actI).length + (t.T.ends.flatMap termsI).length) ≤ 1000000000 from by omega)
  clear h90 h91 h92 h93 hcc k1 hA hw0 hwid hbB d2 hrr hR
  clear hl0
  unfold maxLen at hm
  rw [hval]
  clear hval
  go_enter Try.func10, Try.ntmps10
  go_wp2_with (refine load_tab rfl _ rfl H t HT1.out rfl ?_)
  refine HC.out.mono ?_
  rintro e w2 ⟨rfl, hb2⟩
  obtain ⟨w3, hw3⟩ : ∃ w3, w2.alloc (.cells #[.int .u8 117, .int .u8 109, .int .u8 108, .int .u8 116, .int .u8 49] 5 (5, 6)) = w3 := ⟨_, rfl⟩
  have hob3 : OB w1 (.slice (some ⟨w2.heap.size, 0, none⟩) 5 5) magicL w3 :=
    ⟨.inr ⟨w2.heap.size, rfl, hb2.size, by rw [← hw3]; exact heap_alloc_new w2 _⟩, by rw [← hw3]; exact hb2.trans (((Below.refl _ _).alloc (Nat.le_refl _) _).mono hb2.size)⟩
  have hcv := Lib.run_convert_bytes_const (P := Try.prog) w2 30 5 #[.int .u8 117, .int .u8 109, .int .u8 108, .int .u8 116, .int .u8 49] 5 5 Try.underlying30 Try.underlying5
  have HW3 := Lib.hid hw3
  have HOB := Lib.hid hob3
  have HL := Lib.hid (show magicL.length ≤ 5 from Nat.le_refl _)
  obtain ⟨p1, p2, p3, p4⟩ := HF1.out w3 hob3.2
  clear hob3 hb2 hw3
  go_upto_region 4 with (fail)
  try rw [HW3.out]
  clear hcv HW3
  go_wp2_with (fail)
  clear p1 p2 p3 p4
  refine (num_any (wid : Int) w3).mono ?_
  rintro e wa ⟨An, cn, rfl, hrn, hbn⟩
  have HRN := Lib.hid hrn
  have HVN := Lib.hid (HOB.out.1.belowM hbn)
  have HBN := Lib.hid (show Below w1.heap.size w1 wa from HOB.out.2.trans (hbn.mono HOB.out.2.size))
  have HLN := Lib.hid (show (magicL).length + (num4 (bits (wid : Int))).length ≤ 1099511627776 from by have := HL.out; rw [num4_length]; omega)
  clear hrn hbn
  go_wp2_with (at_builtin; refine wpList_append_B rfl _ _ rfl rfl HVN.out rfl HRN.out (by rw [num4_length]; omega) HLN.out HBN.out.size ?_; intro vh1 wh1 hn9 hg9 _; have HO9 := Lib.hid (show OB w1 vh1 ((magicL) ++ (num4 (bits (wid : Int)))) wh1 from ⟨hn9, HBN.out.trans (grown_low HVN.out HBN.out.size hg9)⟩); clear hn9 hg9; obtain ⟨p1, p2, p3, p4⟩ := HF1.out wh1 HO9.out.2)
  clear HRN HVN HBN HLN HOB
  have HOB := Lib.hid HO9.out
  clear HO9
  clear p1 p2 p3 p4
  have HL1 := Lib.hid (show (magicL ++ num4 (bits (wid : Int))).length ≤ 9 from by have := HL.out; rw [List.length_append, num4_length]; omega)
  clear HL
  have HL := Lib.hid HL1.out
  clear HL1
  refine (num_any (t.T.nodes.length : Int) wh1).mono ?_
  rintro e wa ⟨An, cn, rfl, hrn, hbn⟩
  have HRN := Lib.hid hrn
  have HVN := Lib.hid (HOB.out.1.belowM hbn)
  have HBN := Lib.hid (show Below w1.heap.size w1 wa from HOB.out.2.trans (hbn.mono HOB.out.2.size))
  have HLN := Lib.hid (show (magicL ++ num4 (bits (wid : Int))).length + (num4 (bits (t.T.nodes.length : Int))).length ≤ 1099511627776 from by have := HL.out; rw [num4_length]; omega)
  clear hrn hbn
  go_wp2_with (at_builtin; refine wpList_append_B rfl _ _ rfl rfl HVN.out rfl HRN.out (by rw [num4_length]; omega) HLN.out HBN.out.size ?_; intro vh2 wh2 hn9 hg9 _; have HO9 := Lib.hid (show OB w1 vh2 ((magicL ++ num4 (bits (wid : Int))) ++ (num4 (bits (t.T.nodes.length : Int)))) wh2 from ⟨hn9, HBN.out.trans (grown_low HVN.out HBN.out.size hg9)⟩); clear hn9 hg9; obtain ⟨p1, p2, p3, p4⟩ := HF1.out wh2 HO9.out.2)
  clear HRN HVN HBN HLN HOB
  have HOB := Lib.hid HO9.out
  clear HO9
  clear p1 p2 p3 p4
  have HL1 := Lib.hid (show (magicL ++ num4 (bits (wid : Int)) ++ num4 (bits (t.T.nodes.length : Int))).length ≤ 13 from by have := HL.out; rw [List.length_append, num4_length]; omega)
  clear HL
  have HL := Lib.hid HL1.out
  clear HL1
  refine (num_any (t.T.acts.length : Int) wh2).mono ?_
  rintro e wa ⟨An, cn, rfl, hrn, hbn⟩
  have HRN := Lib.hid hrn
  have HVN := Lib.hid (HOB.out.1.belowM hbn)
  have HBN := Lib.hid (show Below w1.heap.size w1 wa from HOB.out.2.trans (hbn.mono HOB.out.2.size))
  have HLN := Lib.hid (show (magicL ++ num4 (bits (wid : Int)) ++ num4 (bits (t.T.nodes.length : Int))).length + (num4 (bits (t.T.acts.length : Int))).length ≤ 1099511627776 from by have := HL.out; rw [num4_length]; omega)
  clear hrn hbn
  go_wp2_with (at_builtin; refine wpList_append_B rfl _ _ rfl rfl HVN.out rfl HRN.out (by rw [num4_length]; omega) HLN.out HBN.out.size ?_; intro vh3 wh3 hn9 hg9 _; have HO9 := Lib.hid (show OB w1 vh3 ((magicL ++ num4 (bits (wid : Int)) ++ num4 (bits (t.T.nodes.length : Int))) ++ (num4 (bits (t.T.acts.length : Int)))) wh3 from ⟨hn9, HBN.out.trans (grown_low HVN.out HBN.out.size hg9)⟩); clear hn9 hg9; obtain ⟨p1, p2, p3, p4⟩ := HF1.out wh3 HO9.out.2)
  clear HRN HVN HBN HLN HOB
  have HOB := Lib.hid HO9.out
  clear HO9
  clear p1 p2 p3 p4
  have HL1 := Lib.hid (show (magicL ++ num4 (bits (wid : Int)) ++ num4 (bits (t.T.nodes.length : Int)) ++ num4 (bits (t.T.acts.length : Int))).length ≤ 17 from by have := HL.out; rw [List.length_append, num4_length]; omega)
  clear HL
  have HL := Lib.hid HL1.out
  clear HL1
  refine (num_any (t.T.ends.length : Int) wh3).mono ?_
  rintro e wa ⟨An, cn, rfl, hrn, hbn⟩
  have HRN := Lib.hid hrn
  have HVN := Lib.hid (HOB.out.1.belowM hbn)
  have HBN := Lib.hid (show Below w1.heap.size w1 wa from HOB.out.2.trans (hbn.mono HOB.out.2.size))
  have HLN := Lib.hid (show (magicL ++ num4 (bits (wid : Int)) ++ num4 (bits (t.T.nodes.length : Int)) ++ num4 (bits (t.T.acts.length : Int))).length + (num4 (bits (t.T.ends.length : Int))).length ≤ 1099511627776 from by have := HL.out; rw [num4_length]; omega)
  clear hrn hbn
  go_wp2_with (at_builtin; refine wpList_append_B rfl _ _ rfl rfl HVN.out rfl HRN.out (by rw [num4_length]; omega) HLN.out HBN.out.size ?_; intro vh4 wh4 hn9 hg9 _; have HO9 := Lib.hid (show OB w1 vh4 ((magicL ++ num4 (bits (wid : Int)) ++ num4 (bits (t.T.nodes.length : Int)) ++ num4 (bits (t.T.acts.length : Int))) ++ (num4 (bits (t.T.ends.length : Int)))) wh4 from ⟨hn9, HBN.out.trans (grown_low HVN.out HBN.out.size hg9)⟩); clear hn9 hg9; obtain ⟨p1, p2, p3, p4⟩ := HF1.out wh4 HO9.out.2)
  clear HRN HVN HBN HLN HOB
  have HOB := Lib.hid HO9.out
  clear HO9
  clear p1 p2 p3 p4
  have HL1 := Lib.hid (show (magicL ++ num4 (bits (wid : Int)) ++ num4 (bits (t.T.nodes.length : Int)) ++ num4 (bits (t.T.acts.length : Int)) ++ num4 (bits (t.T.ends.length : Int))).length ≤ 21 from by have := HL.out; rw [List.length_append, num4_length]; omega)
  clear HL
  have HL := Lib.hid HL1.out
  clear HL1
  obtain ⟨L1, hL1⟩ : ∃ L1, magicL ++ numsB t.T.headI = L1 := ⟨_, rfl⟩
  have hL1b : magicL ++ num4 (bits (wid : Int)) ++ num4 (bits (t.T.nodes.length : Int)) ++ num4 (bits (t.T.acts.length : Int)) ++ num4 (bits (t.T.ends.length : Int)) = L1 := by
    rw [← hL1, HIH.out]
    simp [numsB, List.append_assoc]
  rw [hL1b] at HOB HL
  have HL1 := Lib.hid hL1
  clear hL1 hL1b
  go_loopw [4, 5] (fun bv iv wr => CRel w1 L1 t.T.cls bv iv wr) (fun _ i _ => 256 - (intOf i).toNat)
  case atStart => exact ⟨0, _, Nat.zero_le _, rfl, rfl, by simpa using HOB.out⟩
  case round =>
    clear HOB
    obtain ⟨k, bv, hk, rfl, rfl, hob⟩ := hrel
    have HOB := Lib.hid hob
    by_cases hlt : k < 256
    · as_aux_lemma =>
      obtain ⟨c, hc⟩ : ∃ c, t.T.cls[k]'(by rw [HCL.out]; exact hlt) = c := ⟨_, rfl⟩
      have hcb : c < 256 := HBY.out c (by rw [← hc]; exact List.getElem_mem _)
      have q0 : wr.cell? ⟨H, k, none⟩ = some (.int .u8 (c : Int)) := by
        rw [(HTW.out wr hob.2).box.cell k, TV.at_cls HCL.out hlt, hc]
      have htk : t.T.cls.take (k + 1) = t.T.cls.take k ++ [c] := by rw [List.take_succ_eq_append_getElem (by rw [HCL.out]; exact hlt), hc]
      obtain ⟨wq, hwq⟩ : ∃ wq, wr.alloc (.cells #[.int .u8 (c : Int)] 5) = wq := ⟨_, rfl⟩
      have hrq : RowW wr.heap.size (.slice (some ⟨wr.heap.size, 0, none⟩) 1 1) [c] wq := by
        have h1 := rowW_lit wr [c] 1 rfl (by unfold maxLen; omega)
        rw [show wr.alloc (.cells (byV [c]).toArray 5) = wq from hwq] at h1
        exact h1
      have hbq : Below wr.heap.size wr wq := by rw [← hwq]; exact (Below.refl _ _).alloc (Nat.le_refl _) _
      obtain ⟨M, hM⟩ : ∃ M, L1 ++ t.T.cls.take k = M := ⟨_, rfl⟩
      have hMl : M.length ≤ 500 := by have := HL.out; rw [← hM, List.length_append, List.length_take]; omega
      rw [hM] at HOB
      have HRN := Lib.hid hrq
      have HVN := Lib.hid (HOB.out.1.belowM hbq)
      have HBN := Lib.hid (show Below w1.heap.size w1 wq from HOB.out.2.trans (hbq.mono HOB.out.2.size))
      have HFI := Lib.hid (fun v9 w9 (h9 : OB w1 v9 (M ++ [c]) w9) => show CRel w1 L1 t.T.cls v9 (.int .i64 ((k : Int) + 1)) w9 from ⟨k + 1, v9, by omega, by go_num, rfl, by rw [htk, ← List.append_assoc, hM]; exact h9⟩)
      have HLN := Lib.hid (show M.length + [c].length ≤ 1099511627776 from by simp only [List.length_singleton]; omega)
      clear hc htk hM hrq hbq hob
      go_wp2_with (at_builtin; refine wpList_append_B (L2 := [c]) rfl _ _ rfl rfl HVN.out rfl HRN.out (Nat.succ_pos 0) HLN.out HBN.out.size ?_; intro v9 w9 hn9 hg9 _; have HO9 := Lib.hid (HFI.out v9 w9 ⟨hn9, HBN.out.trans (grown_low HVN.out HBN.out.size hg9)⟩); clear hn9 hg9)
      go_roundw
      case rel => exact HO9.out
      case measure => simp [intOf]; omega
    rw [List.take_of_length_le (by rw [HCL.out]; omega)] at HOB
    obtain ⟨L2, hL2⟩ : ∃ L2, L1 ++ t.T.cls = L2 := ⟨_, rfl⟩
    rw [hL2] at HOB
    have HL2 := Lib.hid hL2
    have HLL := Lib.hid (show L2.length ≤ 277 from by have := HL.out; rw [← hL2, List.length_append, HCL.out]; omega)
    clear hL2 hob HL
    have hobz := HOB.out
    obtain ⟨wz, rfl⟩ : ∃ wz : World, wz = wr := ⟨_, rfl⟩
    clear hobz
    go_wp2_with (fail)
    go_loopw [4, 6] (fun bv iv wr => ORel w1 L2 (fun k => (t.T.nodes.take k).flatMap nodeI) t.T.nodes.length (fun _ => True) bv iv wr) (fun _ i _ => t.T.nodes.length - (intOf i).toNat)
    case atStart => exact ⟨0, _, Nat.zero_le _, rfl, rfl, by simpa [numsB] using HOB.out, trivial⟩
    case round =>
      clear HOB
      obtain ⟨k, bv, hk, rfl, rfl, hob, _⟩ := hrel
      obtain ⟨wo, rfl⟩ : ∃ wo : World, wo = wr := ⟨_, rfl⟩
      have HOB := Lib.hid hob
      by_cases hlt : k < t.T.nodes.length
      · as_aux_lemma =>
        obtain ⟨bb, off, hA, hbB, d0, d1, A2, c2, d2, hri, hcc, hmm⟩ := HT1.out.mem.nodes.at_ hlt
        have hAA := HXA.out.symm.trans hA
        injection hAA with hAA
        injection hAA with e1 e2 _
        subst e1 e2
        have htk := flat_next nodeI hlt
        obtain ⟨nd, hnd⟩ : ∃ nd, t.T.nodes[k] = nd := ⟨_, rfl⟩
        have hts := flat_succ nodeI hlt hnd
        rw [hnd] at d0 d1 d2 hri hcc hmm htk
        obtain ⟨held, end_, nx⟩ := nd
        simp only at d0 d1 d2 hri hcc hmm
        have hnl : (nodeI (held, end_, nx)).length = 2 + nx.length := by unfold nodeI; simp; omega
        obtain ⟨M, hM⟩ : ∃ M, L2 ++ numsB ((t.T.nodes.take k).flatMap nodeI) = M := ⟨_, rfl⟩
        have hML : M.length + 8 + 4 * nx.length ≤ 4000000400 := by
          have h1 := HRR.out.1
          have h2 := HLL.out
          rw [← hM, List.length_append, numsB_length]
          omega
        have HF2 := Lib.hid (fun W (hW : Below w1.heap.size w1 W) => show W.cell? ⟨H, 256, none⟩ = some (.slice (some ⟨b0, off0, none⟩) t.T.nodes.length t.ca) ∧ W.cell? ⟨b0, off0 + k * 3, none⟩ = some (.int .i64 held) ∧ W.cell? ⟨b0, off0 + k * 3 + 2, none⟩ = some (.int .i64 end_) ∧ W.cell? ⟨b0, off0 + k * 3 + 1, none⟩ = some (.slice A2 nx.length c2) from ⟨(HF1.out W hW).1, (hW.cell hbB).trans d0, (hW.cell hbB).trans d1, (hW.cell hbB).trans d2⟩)
        have HNX := Lib.hid (fun v9 w9 (h9 : OB w1 v9 (M ++ numsB (nodeI (held, end_, nx))) w9) => show ORel w1 L2 (fun k => (t.T.nodes.take k).flatMap nodeI) t.T.nodes.length (fun _ => True) v9 (.int .i64 ((k : Int) + 1)) w9 from ⟨k + 1, v9, by omega, by go_num, rfl, by dsimp only; rw [hts, numsB_append, ← List.append_assoc, hM]; exact h9, trivial⟩)
        dsimp only at HOB
        rw [hM] at HOB
        have HRI := Lib.hid hri
        have HL := Lib.hid (show M.length ≤ 4000000400 from by omega)
        have HLM := Lib.hid hML
        obtain ⟨p1, p2, p3, p4⟩ := HF2.out wo hob.2
        unfold maxLen at hmm
        have i1 : (0 : Int) ≤ (k : Int) := Int.natCast_nonneg _
        have i2 : (k : Int) < (t.T.nodes.length : Int) := by omega
        clear hA hbB d0 d1 d2 hri hcc htk hnd hts hnl hM hML hob
        go_wp2_with (fail)
        clear p1 p2 p3 p4
        refine (num_any held wo).mono ?_
        rintro e wa ⟨An, cn, rfl, hrn, hbn⟩
        have HRN := Lib.hid hrn
        have HVN := Lib.hid (HOB.out.1.belowM hbn)
        have HBN := Lib.hid (show Below w1.heap.size w1 wa from HOB.out.2.trans (hbn.mono HOB.out.2.size))
        have HLN := Lib.hid (show (M).length + (num4 (bits held)).length ≤ 1099511627776 from by have := HL.out; rw [num4_length]; omega)
        clear hrn hbn
        go_wp2_with (at_builtin; refine wpList_append_B rfl _ _ rfl rfl HVN.out rfl HRN.out (by rw [num4_length]; omega) HLN.out HBN.out.size ?_; intro v1 wx1 hn9 hg9 _; have HO9 := Lib.hid (show OB w1 v1 ((M) ++ (num4 (bits held))) wx1 from ⟨hn9, HBN.out.trans (grown_low HVN.out HBN.out.size hg9)⟩); clear hn9 hg9; obtain ⟨p1, p2, p3, p4⟩ := HF2.out wx1 HO9.out.2)
        clear HRN HVN HBN HLN HOB
        have HOB := Lib.hid HO9.out
        clear HO9
        clear p1 p2 p3 p4
        have HL1 := Lib.hid (show (M ++ num4 (bits held)).length ≤ 4000000500 from by have := HL.out; rw [List.length_append, num4_length]; omega)
        clear HL
        have HL := Lib.hid HL1.out
        clear HL1
        refine (num_any end_ wx1).mono ?_
        rintro e wa ⟨An, cn, rfl, hrn, hbn⟩
        have HRN := Lib.hid hrn
        have HVN := Lib.hid (HOB.out.1.belowM hbn)
        have HBN := Lib.hid (show Below w1.heap.size w1 wa from HOB.out.2.trans (hbn.mono HOB.out.2.size))
        have HLN := Lib.hid (show (M ++ num4 (bits held)).length + (num4 (bits end_)).length ≤ 1099511627776 from by have := HL.out; rw [num4_length]; omega)
        clear hrn hbn
        go_wp2_with (at_builtin; refine wpList_append_B rfl _ _ rfl rfl HVN.out rfl HRN.out (by rw [num4_length]; omega) HLN.out HBN.out.size ?_; intro v2 wx2 hn9 hg9 _; have HO9 := Lib.hid (show OB w1 v2 ((M ++ num4 (bits held)) ++ (num4 (bits end_))) wx2 from ⟨hn9, HBN.out.trans (grown_low HVN.out HBN.out.size hg9)⟩); clear hn9 hg9)
        clear HRN HVN HBN HLN HOB
        have HOB := Lib.hid HO9.out
        clear HO9
        obtain ⟨M2, hM2⟩ : ∃ M2, (M ++ num4 (bits held)) ++ num4 (bits end_) = M2 := ⟨_, rfl⟩
        have HM2 := Lib.hid (show M2.length + 4 * nx.length ≤ 4000000500 from by have := HLM.out; rw [← hM2, List.length_append, List.length_append, num4_length, num4_length]; omega)
        have HE2 := Lib.hid (show M ++ numsB (nodeI (held, end_, nx)) = M2 ++ numsB nx from by rw [← hM2]; simp [nodeI, numsB_cons, List.append_assoc])
        rw [hM2] at HOB
        clear hM2 HL HLM
        go_loopw [4, 7] (fun bv iv wr => ORel w1 M2 (fun j => nx.take j) nx.length (fun _ => True) bv iv wr) (fun _ i _ => nx.length - (intOf i).toNat)
        case atStart => exact ⟨0, _, Nat.zero_le _, rfl, rfl, by simpa [numsB] using HOB.out, trivial⟩
        case round =>
          clear HOB
          obtain ⟨j, b2, hj, rfl, rfl, hob, _⟩ := hrel
          have HOB := Lib.hid hob
          obtain ⟨p1, p2, p3, p4⟩ := HF2.out wr hob.2
          by_cases hlt2 : j < nx.length
          case neg =>
            have HF := Lib.hid (HNX.out b2 wr (by
              rw [HE2.out]
              dsimp only at hob
              rw [List.take_of_length_le (by omega)] at hob
              exact hob))
            clear hob
            go_wp2_with (fail)
            go_roundw
            case rel => exact HF.out
            case measure => simp [intOf]; omega
          obtain ⟨b3, off3, hA3, hb3, y0⟩ := HRI.out.at_ hlt2
          obtain ⟨x, hx⟩ : ∃ x, nx[j] = x := ⟨_, rfl⟩
          rw [hx] at y0
          have htk : nx.take (j + 1) = nx.take j ++ [x] := by rw [List.take_succ_eq_append_getElem hlt2, hx]
          obtain ⟨N, hN⟩ : ∃ N, M2 ++ numsB (nx.take j) = N := ⟨_, rfl⟩
          dsimp only at HOB
          rw [hN] at HOB
          have HL := Lib.hid (show N.length ≤ 4000000500 from by have := HM2.out; rw [← hN, List.length_append, numsB_length, List.length_take]; omega)
          have HFI := Lib.hid (fun v9 w9 (h9 : OB w1 v9 (N ++ num4 (bits x)) w9) => show ORel w1 M2 (fun j => nx.take j) nx.length (fun _ => True) v9 (.int .i64 ((j : Int) + 1)) w9 from ⟨j + 1, v9, by omega, by go_num, rfl, by dsimp only; rw [htk, numsB_append, ← List.append_assoc, hN, numsB_cons, numsB_nil, List.append_nil]; exact h9, trivial⟩)
          have y0 := (hob.2.cell hb3).trans y0
          have HXX := Lib.hid hA3
          rw [hA3] at p4
          have j1 : (0 : Int) ≤ (j : Int) := Int.natCast_nonneg _
          have j2 : (j : Int) < (nx.length : Int) := by omega
          clear hA3 hb3 hx htk hN hob
          go_wp2_with (fail)
          clear p1 p2 p3 p4 y0
          refine (num_any x wr).mono ?_
          rintro e wa ⟨An, cn, rfl, hrn, hbn⟩
          have HRN := Lib.hid hrn
          have HVN := Lib.hid (HOB.out.1.belowM hbn)
          have HBN := Lib.hid (show Below w1.heap.size w1 wa from HOB.out.2.trans (hbn.mono HOB.out.2.size))
          have HLN := Lib.hid (show (N).length + (num4 (bits x)).length ≤ 1099511627776 from by have := HL.out; rw [num4_length]; omega)
          clear hrn hbn
          go_wp2_with (at_builtin; refine wpList_append_B rfl _ _ rfl rfl HVN.out rfl HRN.out (by rw [num4_length]; omega) HLN.out HBN.out.size ?_; intro v3 wx3 hn9 hg9 _; have HO9 := Lib.hid (show OB w1 v3 ((N) ++ (num4 (bits x))) wx3 from ⟨hn9, HBN.out.trans (grown_low HVN.out HBN.out.size hg9)⟩); clear hn9 hg9)
          clear HRN HVN HBN HLN HOB
          have HOB := Lib.hid HO9.out
          clear HO9
          have HF := Lib.hid (HFI.out v3 wx3 HOB.out)
          go_roundw
          case rel => exact HF.out
          case measure => simp [intOf]; omega
      dsimp only at HOB
      rw [List.take_of_length_le (by omega)] at HOB
      obtain ⟨L3, hL3⟩ : ∃ L3, L2 ++ numsB (t.T.nodes.flatMap nodeI) = L3 := ⟨_, rfl⟩
      rw [hL3] at HOB
      have HLL3 := Lib.hid (show L3.length ≤ 277 + 4 * (t.T.nodes.flatMap nodeI).length from by have := HLL.out; rw [← hL3, List.length_append, numsB_length]; omega)
      have HL3 := Lib.hid hL3
      obtain ⟨p1, p2, p3, p4⟩ := HF1.out wo hob.2
      clear hL3 hob HLL
      go_wp2_with (fail)
      clear p1 p2 p3 p4
      go_loopw [4, 8] (fun bv iv wr => ORel w1 L3 (fun k => (t.T.acts.take k).flatMap actI) t.T.acts.length (fun k => ∀ j (hj : j < t.T.acts.length), j < k → ∀ q ∈ t.T.acts[j].2.2, FitT q) bv iv wr) (fun _ i _ => t.T.acts.length - (intOf i).toNat)
      case atStart => exact ⟨0, _, Nat.zero_le _, rfl, rfl, by simpa [numsB] using HOB.out, fun j _ h => absurd h (by omega)⟩
      case round =>
        clear HOB
        obtain ⟨k, bv, hk, rfl, rfl, hob, hpk⟩ := hrel
        obtain ⟨wo, rfl⟩ : ∃ wo : World, wo = wr := ⟨_, rfl⟩
        have HOB := Lib.hid hob
        have HPK := Lib.hid hpk
        clear hpk
        by_cases hlt : k < t.T.acts.length
        · as_aux_lemma =>
          obtain ⟨bb, off, hA, hbB, d0, d1, Ao, co, d2, hrt, hcc, hmm⟩ := HT1.out.mem.acts.at_ hlt
          have htk := flat_next actI hlt
          obtain ⟨a, ha⟩ : ∃ a, t.T.acts[k] = a := ⟨_, rfl⟩
          have hts := flat_succ actI hlt ha
          have HIN := Lib.hid (show a ∈ t.T.acts by rw [← ha]; exact List.getElem_mem hlt)
          rw [ha] at d0 d1 d2 hrt hcc hmm htk
          obtain ⟨eat, to_, out⟩ := a
          simp only at d0 d1 d2 hrt hcc hmm
          obtain ⟨M, hM⟩ : ∃ M, L3 ++ numsB ((t.T.acts.take k).flatMap actI) = M := ⟨_, rfl⟩
          have hML : M.length + 8 + 4 * (termsI out).length ≤ 9000000400 := by
            obtain ⟨h1, h2, h3, h4⟩ := HRR.out
            have h5 := HLL3.out
            have h6 : (actI (eat, to_, out)).length = (termsI out).length + 1 + 1 := rfl
            rw [← hM, List.length_append, numsB_length]
            omega
          have HTL := Lib.hid (show (termsI out).length ≤ 1000000000 from by
            obtain ⟨h1, h2, h3, h4⟩ := HRR.out
            have h6 : (actI (eat, to_, out)).length = (termsI out).length + 1 + 1 := rfl
            omega)
          have HXB := Lib.hid hA
          have HF2 := Lib.hid (fun W (hW : Below w1.heap.size w1 W) => show W.cell? ⟨H, 257, none⟩ = some (.slice (some ⟨bb, off, none⟩) t.T.acts.length t.cb) ∧ W.cell? ⟨bb, off + k * 3, none⟩ = some (.int .i64 eat) ∧ W.cell? ⟨bb, off + k * 3 + 1, none⟩ = some (.int .i64 to_) ∧ W.cell? ⟨bb, off + k * 3 + 2, none⟩ = some (.slice Ao out.length co) from ⟨by rw [← hA]; exact (HF1.out W hW).2.1, (hW.cell hbB).trans d0, (hW.cell hbB).trans d1, (hW.cell hbB).trans d2⟩)
          have HFT := Lib.hid (fun W (hW : Below w1.heap.size w1 W) => fits18_any Ao co out W (hrt.belowM hW) hmm)
          have HTM := Lib.hid (fun W (hW : Below w1.heap.size w1 W) => terms18_any Ao co out W (hrt.belowM hW) HTL.out)
          have HNX := Lib.hid (fun (hq : ∀ q ∈ out, FitT q) v9 w9 (h9 : OB w1 v9 (M ++ numsB (actI (eat, to_, out))) w9) => show ORel w1 L3 (fun k => (t.T.acts.take k).flatMap actI) t.T.acts.length (fun k => ∀ j (hj : j < t.T.acts.length), j < k → ∀ q ∈ t.T.acts[j].2.2, FitT q) v9 (.int .i64 ((k : Int) + 1)) w9 from ⟨k + 1, v9, by omega, by go_num, rfl, by dsimp only; rw [hts, numsB_append, ← List.append_assoc, hM]; exact h9, allN (P := fun a => ∀ q ∈ a.2.2, FitT q) hlt ha HPK.out hq⟩)
          dsimp only at HOB
          rw [hM] at HOB
          have HL := Lib.hid (show M.length ≤ 9000000400 from by omega)
          have HLM := Lib.hid hML
          obtain ⟨p1, p2, p3, p4⟩ := HF2.out wo hob.2
          unfold maxLen at hmm
          have i1 : (0 : Int) ≤ (k : Int) := Int.natCast_nonneg _
          have i2 : (k : Int) < (t.T.acts.length : Int) := by omega
          have HBO := Lib.hid hob.2
          clear hA hbB d0 d1 d2 hrt hcc htk ha hts hM hML hob
          by_cases kf : ∀ q ∈ out, FitT q
          case neg =>
            have HP := Lib.hid (show packB t.T = false from by
              rcases hq : packB t.T with _ | _
              · rfl
              · exact absurd ((HPF.out.1 hq).1 _ HIN.out) kf)
            have HC2 := Lib.hid (HFT.out wo HBO.out)
            rw [propB_false kf] at HC2
            clear kf
            go_wp2_with (fail)
            refine HC2.out.mono ?_
            rintro e w9 ⟨rfl, hb9⟩
            have HF := Lib.hid (HW1.out w9 (HBO.out.trans (hb9.mono HBO.out.size)))
            clear hb9
            go_wp2_with (fail)
            go_ret2
            exact ⟨HF.out, .inr ⟨HP.out, rfl⟩⟩
          have HKF := Lib.hid kf
          have HC2 := Lib.hid (HFT.out wo HBO.out)
          rw [propB_true kf] at HC2
          clear kf
          go_wp2_with (fail)
          refine HC2.out.mono ?_
          rintro e w9 ⟨rfl, hb9⟩
          have HO9 := Lib.hid (show OB w1 bv M w9 from ⟨HOB.out.1.belowM hb9, HBO.out.trans (hb9.mono HBO.out.size)⟩)
          clear p1 p2 p3 p4 HOB hb9
          have HOB := Lib.hid HO9.out
          clear HO9
          obtain ⟨p1, p2, p3, p4⟩ := HF2.out w9 HOB.out.2
          go_wp2_with (fail)
          clear p1 p2 p3 p4
          refine (num_any eat w9).mono ?_
          rintro e wa ⟨An, cn, rfl, hrn, hbn⟩
          have HRN := Lib.hid hrn
          have HVN := Lib.hid (HOB.out.1.belowM hbn)
          have HBN := Lib.hid (show Below w1.heap.size w1 wa from HOB.out.2.trans (hbn.mono HOB.out.2.size))
          have HLN := Lib.hid (show (M).length + (num4 (bits eat)).length ≤ 1099511627776 from by have := HL.out; rw [num4_length]; omega)
          clear hrn hbn
          go_wp2_with (at_builtin; refine wpList_append_B rfl _ _ rfl rfl HVN.out rfl HRN.out (by rw [num4_length]; omega) HLN.out HBN.out.size ?_; intro v1 wx1 hn9 hg9 _; have HO9 := Lib.hid (show OB w1 v1 ((M) ++ (num4 (bits eat))) wx1 from ⟨hn9, HBN.out.trans (grown_low HVN.out HBN.out.size hg9)⟩); clear hn9 hg9; obtain ⟨p1, p2, p3, p4⟩ := HF2.out wx1 HO9.out.2)
          clear HRN HVN HBN HLN HOB
          have HOB := Lib.hid HO9.out
          clear HO9
          clear p1 p2 p3 p4
          have HL1 := Lib.hid (show (M ++ num4 (bits eat)).length ≤ 9000000500 from by have := HL.out; rw [List.length_append, num4_length]; omega)
          clear HL
          have HL := Lib.hid HL1.out
          clear HL1
          refine (num_any to_ wx1).mono ?_
          rintro e wa ⟨An, cn, rfl, hrn, hbn⟩
          have HRN := Lib.hid hrn
          have HVN := Lib.hid (HOB.out.1.belowM hbn)
          have HBN := Lib.hid (show Below w1.heap.size w1 wa from HOB.out.2.trans (hbn.mono HOB.out.2.size))
          have HLN := Lib.hid (show (M ++ num4 (bits eat)).length + (num4 (bits to_)).length ≤ 1099511627776 from by have := HL.out; rw [num4_length]; omega)
          clear hrn hbn
          go_wp2_with (at_builtin; refine wpList_append_B rfl _ _ rfl rfl HVN.out rfl HRN.out (by rw [num4_length]; omega) HLN.out HBN.out.size ?_; intro v2 wx2 hn9 hg9 _; have HO9 := Lib.hid (show OB w1 v2 ((M ++ num4 (bits eat)) ++ (num4 (bits to_))) wx2 from ⟨hn9, HBN.out.trans (grown_low HVN.out HBN.out.size hg9)⟩); clear hn9 hg9; obtain ⟨p1, p2, p3, p4⟩ := HF2.out wx2 HO9.out.2)
          clear HRN HVN HBN HLN HOB
          have HOB := Lib.hid HO9.out
          clear HO9
          clear p1 p2 p3 p4
          have HL1 := Lib.hid (show ((M ++ num4 (bits eat)) ++ num4 (bits to_)).length ≤ 9000000600 from by have := HL.out; rw [List.length_append, num4_length]; omega)
          clear HL
          have HL := Lib.hid HL1.out
          clear HL1
          refine (HTM.out wx2 HOB.out.2).mono ?_
          rintro e wa ⟨An, cn, rfl, hrn, hbn⟩
          have HRN := Lib.hid hrn
          have HVN := Lib.hid (HOB.out.1.belowM hbn)
          have HBN := Lib.hid (show Below w1.heap.size w1 wa from HOB.out.2.trans (hbn.mono HOB.out.2.size))
          have HLN := Lib.hid (show ((M ++ num4 (bits eat)) ++ num4 (bits to_)).length + (numsB (termsI out)).length ≤ 1099511627776 from by have := HL.out; have h2 := HTL.out; rw [numsB_length]; omega)
          clear hrn hbn
          go_wp2_with (at_builtin; refine wpList_append_B rfl _ _ rfl rfl HVN.out rfl HRN.out (numsB_pos _ _) HLN.out HBN.out.size ?_; intro v3 wx3 hn9 hg9 _; have HO9 := Lib.hid (show OB w1 v3 (((M ++ num4 (bits eat)) ++ num4 (bits to_)) ++ (numsB (termsI out))) wx3 from ⟨hn9, HBN.out.trans (grown_low HVN.out HBN.out.size hg9)⟩); clear hn9 hg9)
          clear HRN HVN HBN HLN HOB
          have HOB := Lib.hid HO9.out
          clear HO9
          have HF := Lib.hid (HNX.out HKF.out v3 wx3 (by
            have h9 := HOB.out
            rw [List.append_assoc, List.append_assoc] at h9
            exact h9))
          go_roundw
          case rel => exact HF.out
          case measure => simp [intOf]; omega
        dsimp only at HOB
        rw [List.take_of_length_le (by omega)] at HOB
        obtain ⟨L4, hL4⟩ : ∃ L4, L3 ++ numsB (t.T.acts.flatMap actI) = L4 := ⟨_, rfl⟩
        rw [hL4] at HOB
        have HLL4 := Lib.hid (show L4.length ≤ 277 + 4 * (t.T.nodes.flatMap nodeI).length + 4 * (t.T.acts.flatMap actI).length from by have := HLL3.out; rw [← hL4, List.length_append, numsB_length]; omega)
        have HEL4 := Lib.hid hL4
        have HALLacts := Lib.hid (show ∀ a ∈ t.T.acts, ∀ q ∈ a.2.2, FitT q from allM (P := fun a => ∀ q ∈ a.2.2, FitT q) hlt HPK.out)
        obtain ⟨p1, p2, p3, p4⟩ := HF1.out wo hob.2
        clear hL4 hob HPK
        go_wp2_with (fail)
        clear p1 p2 p3 p4
        go_loopw [4, 9] (fun bv iv wr => ORel w1 L4 (fun k => (t.T.ends.take k).flatMap termsI) t.T.ends.length (fun k => ∀ j (hj : j < t.T.ends.length), j < k → ∀ q ∈ t.T.ends[j], FitT q) bv iv wr) (fun _ i _ => t.T.ends.length - (intOf i).toNat)
        case atStart => exact ⟨0, _, Nat.zero_le _, rfl, rfl, by simpa [numsB] using HOB.out, fun j _ h => absurd h (by omega)⟩
        case round =>
          clear HOB
          obtain ⟨k, bv, hk, rfl, rfl, hob, hpk⟩ := hrel
          obtain ⟨wo, rfl⟩ : ∃ wo : World, wo = wr := ⟨_, rfl⟩
          have HOB := Lib.hid hob
          have HPK := Lib.hid hpk
          clear hpk
          by_cases hlt : k < t.T.ends.length
          · as_aux_lemma =>
            obtain ⟨bb, off, hA, hbB, Ao, co, d2, hrt, hcc, hmm⟩ := HT1.out.mem.ends.at_ hlt
            have htk := flat_next termsI hlt
            obtain ⟨a, ha⟩ : ∃ a, t.T.ends[k] = a := ⟨_, rfl⟩
            have hts := flat_succ termsI hlt ha
            have HIN := Lib.hid (show a ∈ t.T.ends by rw [← ha]; exact List.getElem_mem hlt)
            rw [ha] at d2 hrt hcc hmm htk
            obtain ⟨out, rfl⟩ : ∃ out, out = a := ⟨_, rfl⟩
            skip
            obtain ⟨M, hM⟩ : ∃ M, L4 ++ numsB ((t.T.ends.take k).flatMap termsI) = M := ⟨_, rfl⟩
            have hML : M.length + 4 * (termsI out).length ≤ 9000000400 := by
              obtain ⟨h1, h2, h3, h4⟩ := HRR.out
              have h5 := HLL4.out
              skip
              rw [← hM, List.length_append, numsB_length]
              omega
            have HTL := Lib.hid (show (termsI out).length ≤ 1000000000 from by
              obtain ⟨h1, h2, h3, h4⟩ := HRR.out
              skip
              omega)
            have HXB := Lib.hid hA
            have HF2 := Lib.hid (fun W (hW : Below w1.heap.size w1 W) => show W.cell? ⟨H, 258, none⟩ = some (.slice (some ⟨bb, off, none⟩) t.T.ends.length t.cc) ∧ W.cell? ⟨bb, off + k, none⟩ = some (.slice Ao out.length co) from ⟨by rw [← hA]; exact (HF1.out W hW).2.2.1, (hW.cell hbB).trans d2⟩)
            have HFT := Lib.hid (fun W (hW : Below w1.heap.size w1 W) => fits18_any Ao co out W (hrt.belowM hW) hmm)
            have HTM := Lib.hid (fun W (hW : Below w1.heap.size w1 W) => terms18_any Ao co out W (hrt.belowM hW) HTL.out)
            have HNX := Lib.hid (fun (hq : ∀ q ∈ out, FitT q) v9 w9 (h9 : OB w1 v9 (M ++ numsB (termsI out)) w9) => show ORel w1 L4 (fun k => (t.T.ends.take k).flatMap termsI) t.T.ends.length (fun k => ∀ j (hj : j < t.T.ends.length), j < k → ∀ q ∈ t.T.ends[j], FitT q) v9 (.int .i64 ((k : Int) + 1)) w9 from ⟨k + 1, v9, by omega, by go_num, rfl, by dsimp only; rw [hts, numsB_append, ← List.append_assoc, hM]; exact h9, allN (P := fun a => ∀ q ∈ a, FitT q) hlt ha HPK.out hq⟩)
            dsimp only at HOB
            rw [hM] at HOB
            have HL := Lib.hid (show M.length ≤ 9000000400 from by omega)
            have HLM := Lib.hid hML
            obtain ⟨p1, p4⟩ := HF2.out wo hob.2
            unfold maxLen at hmm
            have i1 : (0 : Int) ≤ (k : Int) := Int.natCast_nonneg _
            have i2 : (k : Int) < (t.T.ends.length : Int) := by omega
            have HBO := Lib.hid hob.2
            clear hA hbB d2 hrt hcc htk ha hts hM hML hob
            by_cases kf : ∀ q ∈ out, FitT q
            case neg =>
              have HP := Lib.hid (show packB t.T = false from by
                rcases hq : packB t.T with _ | _
                · rfl
                · exact absurd ((HPF.out.1 hq).2 _ HIN.out) kf)
              have HC2 := Lib.hid (HFT.out wo HBO.out)
              rw [propB_false kf] at HC2
              clear kf
              go_wp2_with (fail)
              refine HC2.out.mono ?_
              rintro e w9 ⟨rfl, hb9⟩
              have HF := Lib.hid (HW1.out w9 (HBO.out.trans (hb9.mono HBO.out.size)))
              clear hb9
              go_wp2_with (fail)
              go_ret2
              exact ⟨HF.out, .inr ⟨HP.out, rfl⟩⟩
            have HKF := Lib.hid kf
            have HC2 := Lib.hid (HFT.out wo HBO.out)
            rw [propB_true kf] at HC2
            clear kf
            go_wp2_with (fail)
            refine HC2.out.mono ?_
            rintro e w9 ⟨rfl, hb9⟩
            have HO9 := Lib.hid (show OB w1 bv M w9 from ⟨HOB.out.1.belowM hb9, HBO.out.trans (hb9.mono HBO.out.size)⟩)
            clear p1 p4 HOB hb9
            have HOB := Lib.hid HO9.out
            clear HO9
            obtain ⟨p1, p4⟩ := HF2.out w9 HOB.out.2
            go_wp2_with (fail)
            clear p1 p4
            refine (HTM.out w9 HOB.out.2).mono ?_
            rintro e wa ⟨An, cn, rfl, hrn, hbn⟩
            have HRN := Lib.hid hrn
            have HVN := Lib.hid (HOB.out.1.belowM hbn)
            have HBN := Lib.hid (show Below w1.heap.size w1 wa from HOB.out.2.trans (hbn.mono HOB.out.2.size))
            have HLN := Lib.hid (show (M).length + (numsB (termsI out)).length ≤ 1099511627776 from by have := HL.out; have h2 := HTL.out; rw [numsB_length]; omega)
            clear hrn hbn
            go_wp2_with (at_builtin; refine wpList_append_B rfl _ _ rfl rfl HVN.out rfl HRN.out (numsB_pos _ _) HLN.out HBN.out.size ?_; intro v3 wx3 hn9 hg9 _; have HO9 := Lib.hid (show OB w1 v3 ((M) ++ (numsB (termsI out))) wx3 from ⟨hn9, HBN.out.trans (grown_low HVN.out HBN.out.size hg9)⟩); clear hn9 hg9)
            clear HRN HVN HBN HLN HOB
            have HOB := Lib.hid HO9.out
            clear HO9
            have HF := Lib.hid (HNX.out HKF.out v3 wx3 (by
              have h9 := HOB.out
              skip
              exact h9))
            go_roundw
            case rel => exact HF.out
            case measure => simp [intOf]; omega
          dsimp only at HOB
          rw [List.take_of_length_le (by omega)] at HOB
          obtain ⟨L5, hL5⟩ : ∃ L5, L4 ++ numsB (t.T.ends.flatMap termsI) = L5 := ⟨_, rfl⟩
          rw [hL5] at HOB
          have HLL5 := Lib.hid (show L5.length ≤ 277 + 4 * (t.T.nodes.flatMap nodeI).length + 4 * (t.T.acts.flatMap actI).length + 4 * (t.T.ends.flatMap termsI).length from by have := HLL4.out; rw [← hL5, List.length_append, numsB_length]; omega)
          have HEL5 := Lib.hid hL5
          have HALLends := Lib.hid (show ∀ a ∈ t.T.ends, ∀ q ∈ a, FitT q from allM (P := fun a => ∀ q ∈ a, FitT q) hlt HPK.out)
          obtain ⟨p1, p2, p3, p4⟩ := HF1.out wo hob.2
          clear hL5 hob HPK
          obtain ⟨Bd, hBd⟩ : ∃ Bd, t.T.body = Bd := ⟨_, rfl⟩
          have hB5 : L5 = Bd := by
            rw [← hBd, ← HEL5.out, ← HEL4.out, ← HL3.out, ← HL2.out, ← HL1.out]
            unfold TabL.body TabL.restI
            simp only [numsB_append, List.append_assoc]
          rw [hB5] at HOB
          have HPB := Lib.hid (HPF.out.2 ⟨HALLacts.out, HALLends.out⟩)
          have HBL := Lib.hid (show ∀ b ∈ Bd, b < 256 from by rw [← hBd]; exact body_lt HBY.out)
          have HLB := Lib.hid (show Bd.length ≤ 20000000000 from by have := HLL5.out; have := HRR.out; rw [← hB5]; omega)
          have HBD := Lib.hid hBd
          obtain ⟨Af, cf, hv⟩ := HOB.out.1.shape
          subst hv
          obtain ⟨Ar, cr, he, hry, hlc⟩ := HOB.out.1.read
          injection he with eA _ eC
          subst eA eC
          obtain ⟨sm, hsm⟩ : ∃ sm, sumL Bd = sm := ⟨_, rfl⟩
          have HSUM := Lib.hid (show Calls Try.prog 25 #[.slice Af Bd.length cf] wo (Sp.RetW (.int .u32 ((sm : Nat) : Int)) wo) from by rw [← hsm]; exact rsum_any Af cf Bd wo hry HBL.out (by have := HLB.out; omega))
          have hsl : sm < 4294967296 := by rw [← hsm]; exact sumL_lt Bd
          have HSM := Lib.hid hsm
          have HL := Lib.hid (show Bd.length ≤ 20000000000 from HLB.out)
          clear hB5 hBd hry hlc hsm
          go_wp2_with (fail)
          clear p1 p2 p3 p4
          refine HSUM.out.mono ?_
          rintro e w6 ⟨rfl, rfl⟩
          go_wp2_with (fail)
          refine (num_any (sm : Int) wo).mono ?_
          rintro e wa ⟨An, cn, rfl, hrn, hbn⟩
          have HRN := Lib.hid hrn
          have HVN := Lib.hid (HOB.out.1.belowM hbn)
          have HBN := Lib.hid (show Below w1.heap.size w1 wa from HOB.out.2.trans (hbn.mono HOB.out.2.size))
          have HLN := Lib.hid (show (Bd).length + (num4 (bits (sm : Int))).length ≤ 1099511627776 from by have := HL.out; rw [num4_length]; omega)
          clear hrn hbn
          go_wp2_with (at_builtin; refine wpList_append_B rfl _ _ rfl rfl HVN.out rfl HRN.out (by rw [num4_length]; omega) HLN.out HBN.out.size ?_; intro v3 wx3 hn9 hg9 _; have HO9 := Lib.hid (show OB w1 v3 ((Bd) ++ (num4 (bits (sm : Int)))) wx3 from ⟨hn9, HBN.out.trans (grown_low HVN.out HBN.out.size hg9)⟩); clear hn9 hg9)
          clear HRN HVN HBN HLN HOB
          have HOB := Lib.hid HO9.out
          clear HO9
          have hby : Bd ++ num4 (bits (sm : Int)) = t.T.bytes := by
            unfold TabL.bytes
            rw [HBD.out, HSM.out, bits_nat hsl]
          rw [hby] at HOB
          obtain ⟨Ag, cg, hg, hry, hlc⟩ := HOB.out.1.read
          have HF := Lib.hid (show RPackOut t.T w (.returned (.tuple #[v3, .bool true])) wx3 from ⟨HW1.out wx3 HOB.out.2, .inl ⟨HPB.out, Ag, cg, by rw [hg], hry, hlc⟩⟩)
          clear hby hg hry hlc
          go_wp2_with (fail)
          go_ret2
          exact HF.out
end Go.Proofs.Ytboaifdkoemnbaa.Pk
/- The law's behind: a table's bytes with more behind them. -/
namespace Go.Proofs.Ytboaifdkoemnbaa.Pk
set_option maxRecDepth 100000
open Go Go.RowKit Go.Proofs.Ytboaifdkoemnbaa.Sp Go.Proofs.Ytboaifdkoemnbaa.Pa Go.Proofs.Ytboaifdkoemnbaa.Te Go.Proofs.Ytboaifdkoemnbaa.Mi Go.Proofs.Ytboaifdkoemnbaa.De Go.Proofs.Ytboaifdkoemnbaa.Wo

theorem wpList_append_R {w : World} {ops : Array Oper} {rest : List Oper} {o : Oper} {a : Act} {Q : Exit → Act → World → Prop} (hgd : o.guard = none) (s x : Operand)
    (ho : o.op = .call { callee := .builtin .append, args := #[s, x], argTypes := #[30, 30] })
    {bs : Nat} {v : Value} {L L2 : List Nat} {A : Option Addr} {c : Nat} (hs : a.eval s = v) (hrow : RowW bs v L w) (hx : a.eval x = .slice A L2.length c) (h2 : RY w w.heap.size A L2.length (byI L2)) (hm : 0 < L2.length) (hb : L.length + L2.length ≤ 1099511627776) (hbase : bs ≤ w.heap.size)
    (h : ∀ v' w', w'.ownsRow bs 5 1 v' (L.length + L2.length) (byV L ++ byV L2) → w.grownBy w' v.ownBlock → OwnN v v' w → wpList Try.prog ops Q rest (a.put o.dst v') w') : wpList Try.prog ops Q (o :: rest) a w := by
  obtain ⟨b, off, hA, hbB, hcell⟩ := h2.2 hm
  subst hA
  refine wpList_append_W hgd s x ho hs hrow ⟨b, off, none⟩ L2.length c (byV L2) hx (byV_length _) (fun j u hj => ?_) (fun u hu => ?_) hm hb hbase h
  · have hj2 : j < (byI L2).length := by
      rcases Nat.lt_or_ge j (byV L2).length with q | q
      · rw [byV_length] at q; rw [byI_length]; exact q
      · rw [List.getElem?_eq_none q] at hj; cases hj
    have := hcell j hj2
    rw [Go.WideShapes.add_plain, this]
    unfold byV at hj
    rw [List.getElem?_map, List.getElem?_eq_getElem hj2] at hj
    exact hj
  · obtain ⟨z, _, rfl⟩ := List.mem_map.1 hu
    rfl
theorem bytes_len2 {T : TabL} (h : T.cls.length = 256) : T.bytes.length = 281 + 4 * T.restI.length := by
  unfold TabL.bytes TabL.body
  simp only [List.length_append, numsB_length, num4_length, h]
  show 5 + (4 * 4 + (256 + 4 * T.restI.length)) + 4 = _
  omega
theorem row_empty (w : World) : RowW w.heap.size (.slice (some ⟨w.heap.size, 0, none⟩) 0 0) [] (w.alloc (.cells #[] 5)) := rowW_lit w [] 0 rfl (Nat.zero_le _)
set_option maxHeartbeats 8000000 in
theorem behind_any (A : Option Addr) (c : Nat) (L : List Nat) (B : Option Addr) (d : Nat) (M : List Nat) (w : World) (h : RY w w.heap.size A L.length (byI L)) (hL : ∀ b ∈ L, b < 256) (hl0 : 0 < L.length) (hl1 : L.length ≤ 100000000) (hM : RY w w.heap.size B M.length (byI M)) (hMb : ∀ b ∈ M, b < 256) (hm0 : 0 < M.length) (hm1 : M.length ≤ 1000) :
    Calls Try.prog 14 #[.slice A L.length c, .slice B M.length d] w (Sp.RetB true w) := by
  obtain ⟨w1, hw1⟩ : ∃ w1, w.alloc (.cells #[] 5) = w1 := ⟨_, rfl⟩
  have hr1 : RowW w.heap.size (.slice (some ⟨w.heap.size, 0, none⟩) 0 0) [] w1 := by rw [← hw1]; exact row_empty w
  have hb1 : Below w.heap.size w w1 := by rw [← hw1]; exact (Below.refl _ _).alloc (Nat.le_refl _) _
  have HR1 := Lib.hid hr1
  have HB1 := Lib.hid hb1
  have HY1 := Lib.hid (h.belowM hb1)
  have HM := Lib.hid hM
  have HLM := Lib.hid (show ∀ b ∈ L ++ M, b < 256 from fun b hb => by
    rcases List.mem_append.1 hb with q | q
    · exact hL b q
    · exact hMb b q)
  have HZ1 := Lib.hid hb1.size
  have HL0 := Lib.hid hl0
  have HM0 := Lib.hid hm0
  clear h hL hM hMb hr1 hb1 hl0 hm0
  go_enter Try.func14, Try.ntmps14
  obtain ⟨N, hN⟩ : ∃ N, L ++ M = N := ⟨_, rfl⟩
  have HN := Lib.hid hN
  have HNL := Lib.hid (show N.length ≤ 100001000 from by rw [← hN, List.length_append]; omega)
  rw [hN] at HLM
  have HRN := Lib.hid (fun v3 w3 (h : w3.ownsRow w.heap.size 5 1 v3 (L.length + M.length) (byV L ++ byV M)) => show RowW w.heap.size v3 N w3 from .inl (by rw [← hN, List.length_append, byV_append]; exact h))
  have HRE := Lib.hid (fun v2 w2 (h : w2.ownsRow w.heap.size 5 1 v2 (([] : List Nat).length + L.length) (byV [] ++ byV L)) => show RowW w.heap.size v2 L w2 from .inl (by have e : ([] : List Nat).length + L.length = L.length := Nat.zero_add _; rw [e] at h; exact h))
  clear hN
  go_wp2_with (first
    | (at_builtin; refine wpList_append_R (L := []) rfl _ _ rfl rfl HR1.out rfl HY1.out HL0.out (by simp only [List.length_nil]; omega) HZ1.out ?_; intro v2 w2 ho2 hg2 hn2; have HR2 := Lib.hid (HRE.out v2 w2 ho2); have HB2 := Lib.hid (HB1.out.trans (grown_low HR1.out HZ1.out hg2)); have HY2 := Lib.hid (HM.out.belowM HB2.out); have HZ2 := Lib.hid HB2.out.size; clear ho2 hg2 hn2)
    | (at_builtin; refine wpList_append_R rfl _ _ rfl rfl HR2.out rfl HY2.out HM0.out (by omega) HZ2.out ?_; intro v3 w3 ho3 hg3 hn3; have HR3 := Lib.hid (HRN.out v3 w3 ho3); have HB3 := Lib.hid (HB2.out.trans (grown_low HR2.out HZ2.out hg3)); clear ho3 hg3 hn3; obtain ⟨A3, c3, hv3⟩ := HR3.out.shape; subst hv3))
  obtain ⟨A4, c4, he, hry, hlc⟩ := HR3.out.read
  injection he with eA _ eC
  subst eA eC
  have HC3 := Lib.hid (unpack_any A3 c3 N w3 hry HLM.out (by have := HNL.out; omega) hlc)
  have HRY := Lib.hid hry
  clear hry hlc
  refine HC3.out.mono ?_
  rintro e w4 ⟨hb4, h4⟩
  have HB4 := Lib.hid (HB3.out.trans (hb4.mono HB3.out.size))
  have HRY4 := Lib.hid (HRY.out.belowM hb4)
  obtain ⟨Y, hY⟩ : ∃ Y, w4.heap.size = Y := ⟨_, rfl⟩
  obtain ⟨w6, hw6⟩ : ∃ w6, w4.alloc (.cells Try.zeroCells27 27) = w6 := ⟨_, rfl⟩
  have hY6 : w6.heap[Y]? = some (.cells Try.zeroCells27 27 (0, 0)) := by rw [← hw6, ← hY]; exact heap_alloc_new w4 _
  have hb6 : Below w4.heap.size w4 w6 := by rw [← hw6]; exact (Below.refl _ _).alloc (Nat.le_refl _) _
  have HY6 := Lib.hid hY6
  rcases h4 with ⟨t2, hbt, hp2, hF2, rfl⟩ | ⟨hno, rfl⟩
  · obtain ⟨w7, hw7⟩ : ∃ w7, w6.setRow Y t2.cells.toArray = w7 := ⟨_, rfl⟩
    obtain ⟨hbx, hb7, hz7⟩ := tab_boxed (w7 := w7) (t := t2) hw6 (by rw [hY]; exact hw7)
    rw [hY] at hbx hz7
    have HT7 := Lib.hid (show TW w7 Y t2 from ⟨hbx, (hF2.keep (KeepQ.below hb7)).tm⟩)
    have HB7 := Lib.hid (HB4.out.trans (hb7.mono HB4.out.size))
    have HRY7 := Lib.hid (HRY4.out.belowM hb7)
    have HW7 := Lib.hid hw7
    have hln : t2.T.restI.length ≤ 1000000000 := by
      have := bytes_len2 hF2.cls
      have h9 := HNL.out
      rw [hbt] at this
      omega
    have HC8 := Lib.hid (rpack_any t2 w7 HT7.out.mem hln)
    have HP2 := Lib.hid hp2
    have HBT := Lib.hid hbt
    have hval : t2.val = .agg t2.cells.toArray := rfl
    rw [hval]
    rw [hval] at HC8
    clear hval hb4 hbt hp2 hF2 hbx hb7 hY6 hb6 hw7 hln
    go_upto_region 3 with (refine wpList_store_row rfl 27 _ _ rfl Y t2.cells.toArray rfl rfl _ _ HY6.out (tabSize' HT7.out.mem.cls) (by rw [tab_zsize, List.size_toArray, TV.length HT7.out.mem.cls]) oneCells ?_; rw [HW7.out])
    go_wp2_with (refine load_tab rfl _ rfl Y t2 HT7.out rfl ?_)
    refine HC8.out.mono ?_
    rintro e w8 ⟨hb8, h8⟩
    have HB8 := Lib.hid (HB7.out.trans (hb8.mono HB7.out.size))
    rcases h8 with ⟨_, A8, c8, rfl, hry8, hlc8⟩ | ⟨hno, _⟩
    case inr => rw [HP2.out] at hno; cases hno
    rw [HBT.out] at hry8
    obtain ⟨S, hS⟩ : ∃ S, strOfNums (byI N) = S := ⟨_, rfl⟩
    have hk1 := conv_by (c := c8) hry8
    have hk2 := conv_by (c := c3) (HRY7.out.belowM hb8)
    rw [hS] at hk1 hk2
    rw [HBT.out]
    clear hb8 hry8 hlc8 hS
    go_wp2_with (fail)
    go_ret
    exact ⟨rfl, HB8.out⟩
  · have HB6 := Lib.hid (HB4.out.trans (hb6.mono HB4.out.size))
    clear hb4 hno hY6 hb6
    go_upto_region 3 with (refine wpList_store_row rfl 27 _ _ rfl Y Try.zeroCells27 rfl rfl _ _ HY6.out tab_info rfl tab_one ?_; rw [setRow_self _ Y _ _ (0, 0) HY6.out])
    go_wp2_with (fail)
    go_ret
    exact ⟨rfl, HB6.out⟩
end Go.Proofs.Ytboaifdkoemnbaa.Pk
