/- The walks of the statements' helpers (great, awake, copied) and of ref.Norm. -/
import Derived.Test.YtgmkchkaceciiaaSpMake0
import Derived.Test.YtgmkchkaceciiaaSpNums
import Derived.Test.YtgmkchkaceciiaaSpClone
import Derived.Test.YtgmkchkaceciiaaSpAsk
import Derived.Laws.AppendOwnNone
namespace Go.Proofs.Ytgmkchkaceciiaa.Sp
set_option maxRecDepth 100000
open Go Go.RowKit

/-- The slices' lengths in a list of slices, block g. -/
def Lens (w : World) (g : Nat) (ns : List Nat) : Prop := ∀ (j : Nat) (h : j < ns.length), ∃ A c, w.cell? ⟨g, j, none⟩ = some (.slice A ns[j] c)
set_option maxHeartbeats 400000 in
theorem great_any (g c : Nat) (ns : List Nat) (b : Bool) (w : World) (h : Lens w g ns) (hl : ns.length ≤ 1000) (hb : b = true ↔ ∃ n ∈ ns, 300 < n) (hn : ∀ n ∈ ns, n ≤ 9223372036854775807) :
    Calls Try.prog 11 #[.slice (some ⟨g, 0, none⟩) ns.length c] w (RetW (.bool b) w) := by
  have HB := Lib.hid hb; clear hb
  have HN := Lib.hid hn; clear hn
  go_enter Try.func11, Try.ntmps11
  go_wp2_with (fail)
  go_loop [3] (fun i => ∃ k : Nat, k ≤ ns.length ∧ i = .int .i64 k ∧ ∀ n ∈ ns.take k, n ≤ 300) (fun i => ns.length - (intOf i).toNat)
  case atStart => exact ⟨0, Nat.zero_le _, rfl, by simp⟩
  case round =>
    obtain ⟨k, hk, rfl, hp⟩ := hrel
    have HP := Lib.hid hp; clear hp
    by_cases hlt : k < ns.length
    · obtain ⟨A, c1, hc⟩ := h k hlt
      obtain ⟨m, hm⟩ : ∃ m, ns[k] = m := ⟨_, rfl⟩
      rw [hm] at hc
      have hm1 : m ≤ 9223372036854775807 := by rw [← hm]; exact HN.out _ (List.getElem_mem hlt)
      have HM := Lib.hid hm; clear hm
      by_cases hgt : 300 < m
      · have hb1 : b = true := HB.out.2 ⟨m, by rw [← HM.out]; exact List.getElem_mem hlt, hgt⟩
        have HB1 := Lib.hid hb1; clear hb1
        go_wp2_with (fail)
        go_ret
        exact ⟨ret_bool HB1.out.symm, rfl⟩
      · go_wp2_with (fail)
        go_round
        case rel =>
          refine ⟨k + 1, by omega, by go_num, fun n hn => ?_⟩
          rw [List.take_succ_eq_append_getElem hlt] at hn
          rcases List.mem_append.1 hn with hn | hn
          · exact HP.out n hn
          · obtain rfl := List.mem_singleton.1 hn
            rw [HM.out]; omega
        case measure => simp [intOf]; omega
    · have hb1 : b = false := by
        cases hbb : b
        · rfl
        · obtain ⟨n, hn, hgt⟩ := HB.out.1 hbb
          have := HP.out n (by rw [List.take_of_length_le (by omega)]; exact hn)
          omega
      have HB1 := Lib.hid hb1; clear hb1
      go_wp2_with (fail)
      go_ret
      exact ⟨ret_bool HB1.out.symm, rfl⟩

theorem lit_RS {w : World} {g B : Nat} {lo hi : Int} (hg : g < B) (h : w.heap[g]? = some (.cells #[.int .i64 lo, .int .i64 hi] 61)) : RS w B (some ⟨g, 0, none⟩) 1 [(lo, hi)] := by
  refine ⟨rfl, fun _ => ⟨g, 0, rfl, hg, fun j hj => ?_⟩⟩
  have : j = 0 := by simp at hj; exact hj
  subst this
  have hb : Blk w g 61 #[.int .i64 lo, .int .i64 hi] := h
  exact ⟨hb.cell 0, hb.cell 1⟩
theorem awake_set : Is [(0, 2), (5, 9)] fun x => mem [(0, 9)] x ∧ ¬ mem [(3, 4)] x := by
  refine ⟨⟨by simp, by simp [Ok]⟩, fun x => ?_⟩
  show mem ([(0, 2)] ++ [(5, 9)]) x ↔ (mem [(0, 9)] x ∧ ¬ mem [(3, 4)] x)
  rw [mem_append, mem_one, mem_one, mem_one, mem_one]
  unfold Rng
  simp only
  omega
attribute [local go_sem] span_guard span_eq
set_option maxHeartbeats 1000000 in
theorem awake_any (w : World) : Calls Try.prog 12 #[] w (RetB true w) := by
  go_enter Try.func12, Try.ntmps12
  go_wp2_with (fail)
  refine (minus_any (some ⟨w.heap.size, 0, none⟩) (some ⟨w.heap.size + 1, 0, none⟩) 1 1 1 1 [(0, 9)] [(3, 4)] _ (lit_RS (by simp; omega) ?h1) (lit_RS (by simp) ?h2) (by omega) (by omega) (by omega) (by omega)).mono ?_
  case h1 => rw [Below.heap_alloc _ _ _ (by simp)]; exact heap_alloc_new w _
  case h2 => simpa using heap_alloc_new (w.alloc (.cells #[.int .i64 0, .int .i64 9] 61)) (.cells #[.int .i64 3, .int .i64 4] 61)
  rintro e w1 ⟨v, out, rfl, his, ho, hb1⟩
  obtain rfl : out = [(0, 2), (5, 9)] := his.eq awake_set fun _ => Iff.rfl
  obtain ⟨A1, c1, hv, hc1, hrs⟩ := own_RS ho
  subst hv
  obtain ⟨b, off, lo1, hi1, hA1, hb1B, ⟨_, e1⟩, h11, h12⟩ := hrs.at_ (k := 0) (by simp)
  obtain ⟨b', off', lo2, hi2, hA2, hb2B, ⟨_, e2⟩, h21, h22⟩ := hrs.at_ (k := 1) (by simp)
  rw [hA1] at hA2
  injection hA2 with hA2
  injection hA2 with q1 q2 _
  subst q1 q2
  injection e1 with q1 q2
  subst q1 q2
  injection e2 with q1 q2
  subst q1 q2
  subst hA1
  simp only [Nat.zero_mul, Nat.one_mul, Nat.add_zero] at h11 h12 h21 h22
  have hpl : Plain [((0 : Int), (2 : Int)), (5, 9)] := awake_set.1
  have HCK := Lib.hid (fun W (hW : RS W W.heap.size (some ⟨b, off, none⟩) 2 [(0, 2), (5, 9)]) => check_any (some ⟨b, off, none⟩) 2 c1 [(0, 2), (5, 9)] W hW (by omega))
  rw [plainB_true hpl] at HCK
  have HRS := Lib.hid hrs; clear hrs
  have HCN := Lib.hid (fun W (hW : RS W W.heap.size (some ⟨b, off, none⟩) 2 [(0, 2), (5, 9)]) => count_any (some ⟨b, off, none⟩) 2 c1 [(0, 2), (5, 9)] [(0, 2), (5, 9)] W hW (by omega) hc1 (Is.self hpl))
  clear his hpl ho
  simp only [List.length_cons, List.length_nil]
  go_wp2_with (fail)
  refine (HCK.out _ HRS.out).mono ?_
  rintro e w2 ⟨rfl, hb2⟩
  have HRS2 := Lib.hid (HRS.out.belowM hb2)
  go_wp2_with (fail)
  refine (HCN.out _ HRS2.out).mono ?_
  rintro e w3 ⟨rfl, hb3⟩
  simp only [cnt]
  go_wp2_with (fail)
  go_ret
  exact ⟨rfl, ((((Below.refl w.heap.size w).alloc (Nat.le_refl _) _).alloc (by simp) _).trans (hb1.mono (by simp; omega))).trans ((hb2.mono (by have := hb1.size; simp at this; omega)).trans (hb3.mono (by have := hb1.size; have := hb2.size; simp at *; omega)))⟩

def CopyOut (l : List Span) (w : World) (e : Ending) (w' : World) : Prop := ∃ A c, e = .returned (.slice A l.length c) ∧ l.length ≤ c ∧ RS w' w'.heap.size A l.length l ∧ Below w.heap.size w w'
set_option maxHeartbeats 400000 in
theorem copied_any (A : Option Addr) (c : Nat) (l : List Span) (w : World) (h : RS w w.heap.size A l.length l) (hn : l.length ≤ 68719476736) (hnil : A = none → l = [] ∧ c = 0) :
    Calls Try.prog 13 #[.slice A l.length c] w (CopyOut l w) := by
  obtain ⟨i0, hi0, hz0, hz1, hz2⟩ := info_parts infoSpan
  have hown0 := Lib.hid (World.ownsRow_made (e := 61) (size := 2) w #[] 0 (Nat.le_refl w.heap.size) (by unfold maxLen; omega) rfl)
  rcases A with _ | ad
  · obtain ⟨rfl, rfl⟩ := hnil rfl
    simp only [List.length_nil]
    go_enter Try.func13, Try.ntmps13
    go_wp2_with (at_builtin; go_must (refine wpList_append_own_none rfl _ _ 22 rfl w.heap.size 61 i0 2 Try.underlying22 hi0 _ 0 [] rfl hown0.out rfl ?_))
    go_ret
    exact ⟨some ⟨w.heap.size, 0, none⟩, 0, rfl, Nat.le_refl _, RS.nil_ _ _ _, (Below.refl _ _).alloc (Nat.le_refl _) _⟩
  · have HR := Lib.hid ((h.below ((Below.refl w.heap.size w).alloc (Nat.le_refl _) (.cells #[] 61)))); clear h
    go_enter Try.func13, Try.ntmps13
    go_wp2_with (at_builtin; go_must (refine wpList_append_own _ rfl _ _ 22 rfl w.heap.size 61 i0 _ 2 16 Try.underlying22 hi0 hz0 hz1 hz2 rfl (by decide) _ 0 [] rfl hown0.out ad l.length c (flat l) rfl (flat_length l) (RS_news HR.out) (flat_one l) ?c3 ?c4 ?c5 ?_))
    case c3 => simp only [maxLen]; omega
    case c4 => omega
    case c5 => simp only [World.size_alloc]; omega
    intro v1 w1 hown1 hg1 _
    have ho : OwnsL w1 w.heap.size v1 l := by
      unfold OwnsL
      simpa using hown1
    have HB := Lib.hid (((Below.refl w.heap.size w).alloc (Nat.le_refl _) (.cells #[] 61)).grown hg1 (by simp) (fun k hk => (World.ownsRow.lt hown0.out k hk).1))
    obtain ⟨A1, c1, hv, hc1, hrs⟩ := own_RS ho
    subst hv
    have HR1 := Lib.hid hrs
    clear hown1 hg1 ho hrs
    go_wp2_with (fail)
    go_ret
    exact ⟨A1, c1, rfl, hc1, HR1.out, HB.out⟩

theorem inP0_nil (l : List Span) (x : Int) : (Rng x ∧ inP 0 (memB l x) (memB [] x) = true) ↔ mem l x := by
  rw [memB_false (mem_nil x)]
  have : inP 0 (memB l x) false = memB l x := by cases memB l x <;> rfl
  rw [this, memB_iff]
  exact ⟨fun h => h.2, fun h => ⟨h.1, h⟩⟩
end Go.Proofs.Ytgmkchkaceciiaa.Sp
