/- The walks of minterm.Class, of the reference's Class and Same, of the law's great. -/
import Derived.Test.YtgmkchkaceciiaaMiBase
import Derived.Test.YtgmkchkaceciiaaSpAsk
import Derived.Test.YtgmkchkaceciiaaSpNums
import Derived.BigQuiet
namespace Go.Proofs.Ytgmkchkaceciiaa.Mi
set_option maxRecDepth 100000
open Go Go.RowKit Go.Proofs.Ytgmkchkaceciiaa.Sp

theorem below_nextM {w W W' : World} (h1 : Below w.heap.size w W) (h2 : Below W.heap.size W W') : Below w.heap.size w W' := h1.trans (h2.mono h1.size)
theorem memB_t {l : List Span} {x : Int} (h : mem l x) : memB l x = true := by unfold memB; exact @decide_eq_true _ (Classical.propDecidable _) h
theorem memB_f {l : List Span} {x : Int} (h : ¬ mem l x) : memB l x = false := by unfold memB; exact @decide_eq_false _ (Classical.propDecidable _) h
theorem memB_iff {l : List Span} {x : Int} : memB l x = true ↔ mem l x := by
  by_cases h : mem l x
  · simp [memB_t h, h]
  · simp [memB_f h, h]
/-- The place of the first list that has a number; -1. -/
noncomputable def classOf (fam : List (List Span)) (x : Int) : Int := match fam.findIdx? (fun l => memB l x) with | some i => (i : Int) | none => -1
theorem class_at {fam : List (List Span)} {x : Int} {k : Nat} (hk : k < fam.length) (h : mem fam[k] x) (hb : ∀ j (hj : j < fam.length), j < k → ¬ mem fam[j] x) : classOf fam x = (k : Int) := by
  unfold classOf
  rw [List.findIdx?_eq_some_iff_getElem.2 ⟨hk, memB_t h, fun j hj => by
    have := hb j (by omega) hj
    rw [memB_f this]
    simp⟩]
theorem class_none {fam : List (List Span)} {x : Int} (hb : ∀ j (hj : j < fam.length), ¬ mem fam[j] x) : classOf fam x = -1 := by
  unfold classOf
  rw [List.findIdx?_eq_none_iff.2 fun l hl => by
    obtain ⟨j, hj, rfl⟩ := List.getElem_of_mem hl
    exact memB_f (hb j hj)]
theorem class_range (fam : List (List Span)) (x : Int) : -1 ≤ classOf fam x ∧ classOf fam x < fam.length := by
  unfold classOf
  cases h : fam.findIdx? (fun l => memB l x) with
  | none => simp only; omega
  | some i =>
    obtain ⟨hi, _⟩ := List.findIdx?_eq_some_iff_getElem.1 h
    simp only
    omega
set_option maxHeartbeats 1000000 in
theorem cls1_any (A : Option Addr) (n c bx : Nat) (l : List Span) (x : Int) (w : World) (h : RS w w.heap.size A n l) (hn : n ≤ 1099511627776) (hx : w.cell? ⟨bx, 0, none⟩ = some (.int .i64 x)) :
    Calls Try.prog 79 #[.slice A n c, .pointer (some ⟨bx, 0, none⟩)] w (RetB (memB l x) w) := by
  have HH := Lib.hid (has_any A n c l x w h hn)
  clear h
  go_enter Try.func79, Try.ntmps79
  go_wp2_with (fail)
  refine HH.out.mono ?_
  rintro e w1 ⟨rfl, hb⟩
  go_wp2_with (fail)
  go_ret
  exact ⟨rfl, hb⟩
def IdxRel (fam : List (List Span)) (x : Int) (w : World) (i : Value) (wr : World) : Prop := ∃ k : Nat, k ≤ fam.length ∧ i = .int .i64 k ∧ (∀ j (hj : j < fam.length), j < k → ¬ mem fam[j] x) ∧ Below w.heap.size w wr
theorem ret_n {a b : Int} {w W : World} (h : a = b) (hb : Below w.heap.size w W) : RetI b w (.returned (.int .i64 a)) W := ⟨by rw [h], hb⟩
set_option maxHeartbeats 2000000 in
theorem index_any (A : Option Addr) (c bx : Nat) (fam : List (List Span)) (x : Int) (w : World) (h : RGs w A fam.length fam) (hl : fam.length ≤ 1000000) (hs : ∀ l ∈ fam, l.length ≤ 1000000000) (hbx : bx < w.heap.size) (hx : w.cell? ⟨bx, 0, none⟩ = some (.int .i64 x)) :
    Calls Try.prog 78 #[.slice A fam.length c, .func (.func 79) #[] #[.pointer (some ⟨bx, 0, none⟩)]] w (RetI (classOf fam x) w) := by
  have eg : ∀ args w, (callFunc 79 args).run Try.prog w = .ok (.enter 79 args) w := enters_of Try.func79 (by kernel_rfl) rfl
  have H := Lib.hid h
  have HS := Lib.hid hs
  clear h hs
  go_enter Try.func78, Try.ntmps78
  go_wp2_with (fail)
  go_loopw [8] (fun i wr => IdxRel fam x w i wr) (fun i _ => fam.length - (intOf i).toNat)
  case atStart => exact ⟨0, Nat.zero_le _, rfl, fun j _ h => absurd h (by omega), Below.refl _ _⟩
  case round =>
    obtain ⟨k, hk, rfl, hno, hb⟩ := hrel
    by_cases hlt : k < fam.length
    · obtain ⟨b, off, Aj, cj, hA, hbB, hcj, hrj, _, _⟩ := (H.out.belowM hb).at_ hlt
      have hxr := (hb.cell (p := ⟨bx, 0, none⟩) hbx).trans hx
      have HC := Lib.hid (cls1_any Aj fam[k].length cj bx fam[k] x wr hrj (by have := HS.out _ (List.getElem_mem hlt); omega) hxr)
      have HB := Lib.hid hb
      have HN := Lib.hid hno
      rw [hA]
      clear hA hrj hb hno
      obtain ⟨nk, hnk⟩ : ∃ nk, fam[k].length = nk := ⟨_, rfl⟩
      rw [hnk] at hcj HC
      clear hnk
      by_cases hm : mem fam[k] x
      · rw [memB_t hm] at HC
        have HR := Lib.hid (class_at hlt hm HN.out)
        clear hm
        go_wp2_with (go_at_call 79; refine HC.out.mono ?_; rintro e w2 ⟨rfl, hb2⟩)
        go_ret
        exact ret_n HR.out.symm (below_nextM HB.out hb2)
      · rw [memB_f hm] at HC
        have HR := Lib.hid (show ∀ j (hj : j < fam.length), j < k + 1 → ¬ mem fam[j] x from fun j hj hjk => by
          rcases Nat.lt_or_ge j k with q | q
          · exact HN.out j hj q
          · obtain rfl : j = k := by omega
            exact hm)
        clear hm
        go_wp2_with (go_at_call 79; refine HC.out.mono ?_; rintro e w2 ⟨rfl, hb2⟩)
        go_roundw
        case rel => exact ⟨k + 1, by omega, by go_num, HR.out, below_nextM HB.out hb2⟩
        case measure => simp [intOf]; omega
    · have HR := Lib.hid (class_none (fam := fam) (x := x) fun j hj => hno j hj (by omega))
      clear hno
      go_wp2_with (fail)
      go_ret
      exact ret_n HR.out.symm hb
set_option maxHeartbeats 1000000 in
theorem class_any (A : Option Addr) (c : Nat) (fam : List (List Span)) (x : Int) (w : World) (h : RGs w A fam.length fam) (hl : fam.length ≤ 1000000) (hs : ∀ l ∈ fam, l.length ≤ 1000000000) :
    Calls Try.prog 51 #[.slice A fam.length c, .int .i64 x] w (RetI (classOf fam x) w) := by
  obtain ⟨w1, hw1⟩ : ∃ w1, w.alloc (.cells #[.int .i64 x] 3) = w1 := ⟨_, rfl⟩
  have hb1 : Below w.heap.size w w1 := by rw [← hw1]; exact (Below.refl _ _).alloc (Nat.le_refl _) _
  have hs1 : w1.heap.size = w.heap.size + 1 := by rw [← hw1]; simp
  have hx1 : w1.cell? ⟨w.heap.size, 0, none⟩ = some (.int .i64 x) := by rw [← hw1]; simp
  have HI := Lib.hid (index_any A c w.heap.size fam x w1 (h.belowM hb1) hl hs (by omega) hx1)
  have HB := Lib.hid hb1
  clear h hs hb1 hx1
  go_enter Try.func51, Try.ntmps51
  go_wp2_with (fail)
  refine HI.out.mono ?_
  rintro e w2 ⟨rfl, hb2⟩
  go_wp2_with (fail)
  go_ret
  exact ⟨rfl, below_nextM HB.out hb2⟩
def RClsRel (fam : List (List Span)) (x : Int) (w : World) (i : Value) (wr : World) : Prop := ∃ k : Nat, k ≤ fam.length ∧ i = .int .i64 k ∧ (∀ j (hj : j < fam.length), j < k → ¬ mem fam[j] x) ∧ w = wr
theorem ret_w {a b : Int} {w : World} (h : a = b) : RetW (.int .i64 b) w (.returned (.int .i64 a)) w := ⟨by rw [h], rfl⟩
def MGRel (fam : List (List Span)) (w : World) (i : Value) (wr : World) : Prop := ∃ k : Nat, k ≤ fam.length ∧ i = .int .i64 k ∧ (∀ l ∈ fam.take k, l.length ≤ 30) ∧ Below w.heap.size w wr
set_option maxHeartbeats 1000000 in
theorem mgreat_any (A : Option Addr) (c : Nat) (fam : List (List Span)) (bb : Bool) (w : World) (h : RGs w A fam.length fam) (hl : fam.length ≤ maxLen) (hs : ∀ l ∈ fam, l.length ≤ maxLen) (hb : bb = true ↔ 30 < fam.length ∨ ∃ l ∈ fam, 30 < l.length) :
    Calls Try.prog 24 #[.slice A fam.length c] w (RetB bb w) := by
  unfold maxLen at hl hs
  have HS := Lib.hid hs
  have HBB := Lib.hid hb
  have H := Lib.hid h
  clear hb hs h
  by_cases g1 : 30 < fam.length
  · have HT := Lib.hid (HBB.out.2 (.inl g1))
    go_enter Try.func24, Try.ntmps24
    go_wp2_with (fail)
    go_ret
    exact ⟨ret_bool HT.out.symm, Below.refl _ _⟩
  · go_enter Try.func24, Try.ntmps24
    go_wp2_with (fail)
    go_loopw [3] (fun i wr => MGRel fam w i wr) (fun i _ => fam.length - (intOf i).toNat)
    case atStart => exact ⟨0, Nat.zero_le _, rfl, fun m hm => by simp at hm, Below.refl _ _⟩
    case round =>
      obtain ⟨k, hk, rfl, hsm, hb⟩ := hrel
      have HSM := Lib.hid hsm
      clear hsm
      by_cases hlt : k < fam.length
      · obtain ⟨b, off, Aj, cj, hA, hbB, hcj, _, _, _⟩ := (H.out.belowM hb).at_ hlt
        obtain ⟨m, hm⟩ : ∃ m, fam[k].length = m := ⟨_, rfl⟩
        have hm1 := HS.out _ (List.getElem_mem hlt)
        rw [hm] at hcj hm1
        have HM := Lib.hid hm
        rw [hA]
        clear hm hA
        by_cases hgt : 30 < m
        · have HT := Lib.hid (HBB.out.2 (.inr ⟨fam[k], List.getElem_mem hlt, by rw [HM.out]; exact hgt⟩))
          go_wp2_with (fail)
          go_ret
          exact ⟨ret_bool HT.out.symm, hb⟩
        · have HNX := Lib.hid (show ∀ l ∈ fam.take (k + 1), l.length ≤ 30 from fun n hn => by
            rw [List.take_succ_eq_append_getElem hlt, List.mem_append, List.mem_singleton] at hn
            rcases hn with hn | rfl
            · exact HSM.out n hn
            · rw [HM.out]; omega)
          have HB := Lib.hid hb
          clear hb
          go_wp2_with (fail)
          go_roundw
          case rel => exact ⟨k + 1, by omega, by go_num, HNX.out, HB.out⟩
          case measure => simp [intOf]; omega
      · have HT := Lib.hid (show bb = false from by
          cases e : bb
          · rfl
          · rcases HBB.out.1 e with q | ⟨m, hm, hgt⟩
            · omega
            · have := HSM.out m (by rw [List.take_of_length_le (by omega)]; exact hm)
              omega)
        have HB := Lib.hid hb
        clear hb
        go_wp2_with (fail)
        go_ret
        exact ⟨ret_bool HT.out.symm, HB.out⟩
end Go.Proofs.Ytgmkchkaceciiaa.Mi
