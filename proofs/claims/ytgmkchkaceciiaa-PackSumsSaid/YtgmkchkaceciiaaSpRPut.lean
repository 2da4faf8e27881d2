/- The walk of ref.put: a number more, at its place in a rising list that the caller owns. -/
import Derived.Test.YtgmkchkaceciiaaSpJoin
namespace Go.Proofs.Ytgmkchkaceciiaa.Sp
set_option maxRecDepth 100000
open Go Go.RowKit

def Srt (xs : List Int) : Prop := xs.Pairwise (· < ·)
def OwnsI (w : World) (base : Nat) (v : Value) (xs : List Int) : Prop := w.ownsRow base 3 1 v xs.length (xs.map (Value.int .i64))
theorem infoInt : (Try.prog.info? 3).map (fun i => (i.zero, i.size, i.bytes)) = some (some (.int .i64 0), 1, 8) := by kernel_rfl
theorem Srt.lt {xs : List Int} (h : Srt xs) {i j : Nat} (hij : i < j) (hj : j < xs.length) : xs[i] < xs[j] := List.pairwise_iff_getElem.1 h i j (by omega) hj hij
theorem Srt.ins {xs : List Int} (h : Srt xs) {x : Int} {p : Nat} (hp : p ≤ xs.length) (h1 : ∀ (i : Nat) (hi : i < xs.length), i < p → xs[i] < x) (h2 : ∀ (i : Nat) (hi : i < xs.length), p ≤ i → x < xs[i]) : Srt (xs.take p ++ x :: xs.drop p) := by
  unfold Srt
  rw [← List.take_append_drop p xs] at h
  obtain ⟨a, b, c⟩ := List.pairwise_append.1 h
  have d1 : ∀ y ∈ xs.take p, y < x := by
    intro y hy
    obtain ⟨i, hi, rfl⟩ := List.getElem_of_mem hy
    rw [List.length_take] at hi
    rw [List.getElem_take]
    exact h1 i (by omega) (by omega)
  have d2 : ∀ y ∈ xs.drop p, x < y := by
    intro y hy
    obtain ⟨i, hi, rfl⟩ := List.getElem_of_mem hy
    rw [List.length_drop] at hi
    rw [List.getElem_drop]
    exact h2 (p + i) (by omega) (by omega)
  refine List.pairwise_append.2 ⟨a, List.pairwise_cons.2 ⟨d2, b⟩, ?_⟩
  intro y hy z hz
  rcases List.mem_cons.1 hz with rfl | hz
  · exact d1 y hy
  · exact c y hy z hz
theorem mem_ins {xs : List Int} {x y : Int} (p : Nat) : y ∈ xs.take p ++ x :: xs.drop p ↔ y = x ∨ y ∈ xs := by
  have e : y ∈ xs ↔ y ∈ xs.take p ∨ y ∈ xs.drop p := by rw [← List.mem_append, List.take_append_drop]
  rw [List.mem_append, List.mem_cons, e]
  constructor
  · rintro (h | h | h)
    · exact .inr (.inl h)
    · exact .inl h
    · exact .inr (.inr h)
  · rintro (h | h | h)
    · exact .inr (.inl h)
    · exact .inl h
    · exact .inr (.inr h)

structure BS (xs : List Int) (x : Int) (lo hi : Nat) : Prop where
  le : lo ≤ hi
  top : hi ≤ xs.length
  below : ∀ (i : Nat) (h : i < xs.length), i < lo → xs[i] < x
  above : ∀ (i : Nat) (h : i < xs.length), hi ≤ i → x ≤ xs[i]
theorem BS.start (xs : List Int) (x : Int) : BS xs x 0 xs.length := ⟨Nat.zero_le _, Nat.le_refl _, fun _ _ h => by omega, fun _ _ h => by omega⟩
theorem BS.right {xs : List Int} {x : Int} {lo hi k : Nat} (h : BS xs x lo hi) (hs : Srt xs) (h1 : lo ≤ k) (h2 : k < hi) (hk : ∃ hl : k < xs.length, xs[k] < x) : BS xs x (k + 1) hi := by
  obtain ⟨hl, hk⟩ := hk
  refine ⟨by omega, h.top, fun i hi' hlt => ?_, h.above⟩
  by_cases e : i = k
  · subst e; exact hk
  · have := hs.lt (show i < k by omega) hl
    omega
theorem BS.left {xs : List Int} {x : Int} {lo hi k : Nat} (h : BS xs x lo hi) (hs : Srt xs) (h1 : lo ≤ k) (h2 : k < hi) (hk : ∃ hl : k < xs.length, x ≤ xs[k]) : BS xs x lo k := by
  obtain ⟨hl, hk⟩ := hk
  refine ⟨h1, by omega, h.below, fun i hi' hlt => ?_⟩
  by_cases e : i = k
  · subst e; exact hk
  · have := hs.lt (show k < i by omega) hi'
    omega
theorem own_cell {w : World} {base g cap : Nat} {xs : List Int} (h : OwnsI w base (.slice (some ⟨g, 0, none⟩) xs.length cap) xs) {k : Nat} (hk : k < xs.length) : w.cell? ⟨g, k, none⟩ = some (.int .i64 xs[k]) := by
  rw [World.ownsRow.cellAt h k (by omega)]
  simp [hk]

def RPutOut (w : World) (base : Nat) (xs : List Int) (x : Int) (e : Ending) (w' : World) : Prop := ∃ v' ys, e = .returned v' ∧ OwnsI w' base v' ys ∧ Srt ys ∧ (∀ y, y ∈ ys ↔ y = x ∨ y ∈ xs) ∧ ys.length ≤ xs.length + 1 ∧ Below base w w'
def ShiftRel (xs : List Int) (g cap base p : Nat) (w : World) (i : Value) (wr : World) : Prop := ∃ (k : Nat) (u : Int), p ≤ k ∧ k ≤ xs.length ∧ i = .int .i64 k ∧ OwnsI wr base (.slice (some ⟨g, 0, none⟩) (xs.take k ++ u :: xs.drop k).length cap) (xs.take k ++ u :: xs.drop k) ∧ Below base w wr
theorem len_ins (xs : List Int) (u : Int) {k : Nat} (hk : k ≤ xs.length) : (xs.take k ++ u :: xs.drop k).length = xs.length + 1 := by
  simp only [List.length_append, List.length_take, List.length_cons, List.length_drop]; omega
theorem shift_step (xs : List Int) (u : Int) {k : Nat} (hk : k + 1 ≤ xs.length) : ((xs.take (k + 1) ++ u :: xs.drop (k + 1)).map (Value.int .i64)).set (k + 1) (.int .i64 xs[k]) = (xs.take k ++ xs[k] :: xs.drop k).map (Value.int .i64) := by
  rw [← List.map_set]
  congr 1
  rw [List.set_append_right _ _ (by rw [List.length_take]; omega), List.length_take, Nat.min_eq_left hk, Nat.sub_self, List.set_cons_zero]
  rw [List.take_succ_eq_append_getElem (by omega), List.drop_eq_getElem_cons (i := k) (by omega), List.append_assoc]
  rfl
theorem ins_step (xs : List Int) (u x : Int) {k : Nat} (hk : k ≤ xs.length) : ((xs.take k ++ u :: xs.drop k).map (Value.int .i64)).set k (.int .i64 x) = (xs.take k ++ x :: xs.drop k).map (Value.int .i64) := by
  rw [← List.map_set]
  congr 1
  rw [List.set_append_right _ _ (by rw [List.length_take]; omega), List.length_take, Nat.min_eq_left hk, Nat.sub_self, List.set_cons_zero]
theorem get_ins (xs : List Int) (u : Int) {k : Nat} (hk : k + 1 ≤ xs.length) : ∃ h : k < (xs.take (k + 1) ++ u :: xs.drop (k + 1)).length, (xs.take (k + 1) ++ u :: xs.drop (k + 1))[k] = xs[k] := by
  refine ⟨by rw [len_ins _ _ hk]; omega, ?_⟩
  rw [List.getElem_append_left (by rw [List.length_take]; omega), List.getElem_take]

set_option maxHeartbeats 1000000 in
theorem rput_any (base g cap : Nat) (xs : List Int) (x : Int) (w : World) (hown : OwnsI w base (.slice (some ⟨g, 0, none⟩) xs.length cap) xs) (hbase : base ≤ w.heap.size) (hs : Srt xs) (hlen : xs.length ≤ 1099511627776) :
    Calls Try.prog 70 #[.slice (some ⟨g, 0, none⟩) xs.length cap, .int .i64 x] w (RPutOut w base xs x) := by
  obtain ⟨i0, hi0, hz0, hz1, hz2⟩ := info_parts infoInt
  have HO := Lib.hid hown; clear hown
  have HS := Lib.hid hs; clear hs
  go_enter Try.func70, Try.ntmps70
  go_wp2_with (fail)
  go_loop [5, 6] (fun a b => ∃ lo hi : Nat, a = .int .i64 lo ∧ b = .int .i64 hi ∧ BS xs x lo hi) (fun a b => (intOf b).toNat - (intOf a).toNat)
  case atStart => exact ⟨0, xs.length, rfl, rfl, BS.start xs x⟩
  case round =>
    obtain ⟨lo, hi, rfl, rfl, hb⟩ := hrel
    have hle := hb.le
    have htop := hb.top
    have HB := Lib.hid hb; clear hb
    by_cases hlt : lo < hi
    · obtain ⟨y, hy⟩ : ∃ y, xs[(lo + hi) / 2]'(by omega) = y := ⟨_, rfl⟩
      have hc : w.cell? ⟨g, (lo + hi) / 2, none⟩ = some (.int .i64 y) := by rw [own_cell HO.out (by omega), hy]
      have HY := Lib.hid hy; clear hy
      by_cases hyx : y < x
      · go_wp2_with (fail)
        go_round
        case rel => exact ⟨(lo + hi) / 2 + 1, hi, by go_num, rfl, HB.out.right HS.out (by omega) (by omega) ⟨by omega, by rw [HY.out]; exact hyx⟩⟩
        case measure => simp [intOf]; omega
      · go_wp2_with (fail)
        go_round
        case rel => exact ⟨lo, (lo + hi) / 2, rfl, by go_num, HB.out.left HS.out (by omega) (by omega) ⟨by omega, by rw [HY.out]; omega⟩⟩
        case measure => simp [intOf]; omega
    · obtain rfl : lo = hi := by omega
      by_cases hin : lo < xs.length
      · obtain ⟨y, hy⟩ : ∃ y, xs[lo] = y := ⟨_, rfl⟩
        have hc : w.cell? ⟨g, lo, none⟩ = some (.int .i64 y) := by rw [own_cell HO.out hin, hy]
        have HY0 := Lib.hid hy; clear hy
        by_cases hyx : y = x
        · subst hyx
          go_wp2_with (fail)
          go_ret
          refine ⟨_, xs, rfl, HO.out, HS.out, fun z => ⟨.inr, ?_⟩, by omega, Below.refl _ _⟩
          rintro (rfl | h)
          · rw [← HY0.out]; exact List.getElem_mem hin
          · exact h
        · have hd : (y == x) = false := by simpa using hyx
          have HN := Lib.hid hyx; clear hyx
          go_wp2_with (at_builtin; go_must (refine wpList_append_own _ rfl _ _ 63 rfl base 3 i0 _ 1 8 Try.underlying63 hi0 hz0 hz1 hz2 rfl (by decide) _ xs.length (xs.map (Value.int .i64)) rfl (HO.out.alloc _) ⟨w.heap.size, 0, none⟩ 1 1 [.int .i64 0] rfl rfl (cell_one_new _ _ _) ?c2 ?c3 ?c4 ?c5 ?_))
          case c2 => rfl
          case c3 => simp only [maxLen]; omega
          case c4 => omega
          case c5 => omega
          intro v1 w1 hown1 hg1 _
          obtain ⟨g1, cap1, hv, hbg, hl1⟩ := hown1.form (by omega)
          rw [hv] at hown1
          rw [hv]
          have hB1 : Below base w w1 := ((Below.refl base w).alloc hbase _).grown hg1 (by simp; omega) (fun k hk => (HO.out.lt k hk).1)
          have HB1 := Lib.hid hB1; clear hB1
          have h0 : OwnsI w1 base (.slice (some ⟨g1, 0, none⟩) (xs.take xs.length ++ 0 :: xs.drop xs.length).length cap1) (xs.take xs.length ++ 0 :: xs.drop xs.length) := by
            unfold OwnsI
            rw [len_ins _ _ (Nat.le_refl _), List.take_length, List.drop_length, List.map_append]
            exact hown1
          have H0 := Lib.hid h0; clear h0
          clear hown1 hg1 hl1 hv
          go_wp2_with (fail)
          go_loopw [8] (fun i wr => ShiftRel xs g1 cap1 base lo w i wr) (fun i _ => (intOf i).toNat)
          case atStart => exact ⟨xs.length, 0, htop, Nat.le_refl _, rfl, H0.out, HB1.out⟩
          case round =>
            obtain ⟨k, u, hpk, hkn, rfl, hos, hbs⟩ := hrel
            have hlen2 := len_ins xs u hkn
            have hoc := hos
            rw [hlen2] at hoc
            by_cases hkp : lo < k
            · rcases k with _ | m
              · omega
              · obtain ⟨hm1, hm2⟩ := get_ins xs u hkn
                have hc1 : wr.cell? ⟨g1, m, none⟩ = some (.int .i64 xs[m]) := by rw [own_cell hos hm1, hm2]
                obtain ⟨o2, hc2⟩ : ∃ o, wr.cell? ⟨g1, m + 1, none⟩ = some o := ⟨_, own_cell hos (show m + 1 < _ by rw [hlen2]; omega)⟩
                have hfz := World.ownsRow.frozenAt hos (m + 1)
                have hst := World.ownsRow.stored hos (m + 1) (.int .i64 xs[m])
                rw [shift_step xs u hkn] at hst
                have HST := Lib.hid hst.1
                have HL2 := Lib.hid hlen2
                generalize hy : xs[m] = y at *
                clear hst hlen2 hos hoc hm1 hm2 hy
                go_wp2_with (fail)
                go_roundw
                case rel => exact ⟨m, y, by omega, by omega, rfl, by have := HST.out; unfold OwnsI; rw [len_ins _ _ (by omega)]; rw [HL2.out] at this; exact this, hbs.setCell hbg _⟩
                case measure => simp [intOf]
            · obtain rfl : k = lo := by omega
              obtain ⟨o2, hc2⟩ : ∃ o, wr.cell? ⟨g1, k, none⟩ = some o := ⟨_, own_cell hos (show k < _ by rw [hlen2]; omega)⟩
              have hfz := World.ownsRow.frozenAt hos k
              have hst := World.ownsRow.stored hos k (.int .i64 x)
              rw [ins_step xs u x hkn] at hst
              have HST := Lib.hid hst.1
              have HL2 := Lib.hid hlen2
              clear hst hlen2 hos hoc
              go_wp2_with (fail)
              go_ret
              refine ⟨_, xs.take k ++ x :: xs.drop k, rfl, ?_, HS.out.ins htop HB.out.below ?_, fun y => mem_ins k, by rw [len_ins _ _ htop]; exact Nat.le_refl _, hbs.setCell hbg _⟩
              · have := HST.out
                unfold OwnsI; rw [len_ins _ _ htop]; rw [HL2.out] at this; exact this
              · intro i hi hle
                have h1 := HB.out.above i hi hle
                have h2 := HB.out.above k hin (Nat.le_refl _)
                rw [HY0.out] at h2
                have h3 := HN.out
                by_cases e : i = k
                · subst e; rw [HY0.out]; omega
                · have h4 := HS.out.lt (show k < i by omega) hi
                  rw [HY0.out] at h4
                  omega
      · have hin2 : xs.length ≤ lo := by omega
        go_wp2_with (at_builtin; go_must (refine wpList_append_own _ rfl _ _ 63 rfl base 3 i0 _ 1 8 Try.underlying63 hi0 hz0 hz1 hz2 rfl (by decide) _ xs.length (xs.map (Value.int .i64)) rfl (HO.out.alloc _) ⟨w.heap.size, 0, none⟩ 1 1 [.int .i64 0] rfl rfl (cell_one_new _ _ _) ?c2 ?c3 ?c4 ?c5 ?_))
        case c2 => rfl
        case c3 => simp only [maxLen]; omega
        case c4 => omega
        case c5 => omega
        intro v1 w1 hown1 hg1 _
        obtain ⟨g1, cap1, hv, hbg, hl1⟩ := hown1.form (by omega)
        rw [hv] at hown1
        rw [hv]
        have hB1 : Below base w w1 := ((Below.refl base w).alloc hbase _).grown hg1 (by simp; omega) (fun k hk => (HO.out.lt k hk).1)
        have HB1 := Lib.hid hB1; clear hB1
        have h0 : OwnsI w1 base (.slice (some ⟨g1, 0, none⟩) (xs.take xs.length ++ 0 :: xs.drop xs.length).length cap1) (xs.take xs.length ++ 0 :: xs.drop xs.length) := by
          unfold OwnsI
          rw [len_ins _ _ (Nat.le_refl _), List.take_length, List.drop_length, List.map_append]
          exact hown1
        have H0 := Lib.hid h0; clear h0
        clear hown1 hg1 hl1 hv
        go_wp2_with (fail)
        go_loopw [8] (fun i wr => ShiftRel xs g1 cap1 base lo w i wr) (fun i _ => (intOf i).toNat)
        case atStart => exact ⟨xs.length, 0, htop, Nat.le_refl _, rfl, H0.out, HB1.out⟩
        case round =>
          obtain ⟨k, u, hpk, hkn, rfl, hos, hbs⟩ := hrel
          have hlen2 := len_ins xs u hkn
          have hoc := hos
          rw [hlen2] at hoc
          by_cases hkp : lo < k
          · omega
          · obtain rfl : k = lo := by omega
            obtain ⟨o2, hc2⟩ : ∃ o, wr.cell? ⟨g1, k, none⟩ = some o := ⟨_, own_cell hos (show k < _ by rw [hlen2]; omega)⟩
            have hfz := World.ownsRow.frozenAt hos k
            have hst := World.ownsRow.stored hos k (.int .i64 x)
            rw [ins_step xs u x hkn] at hst
            have HST := Lib.hid hst.1
            have HL2 := Lib.hid hlen2
            clear hst hlen2 hos hoc
            go_wp2_with (fail)
            go_ret
            refine ⟨_, xs.take k ++ x :: xs.drop k, rfl, ?_, HS.out.ins htop HB.out.below ?_, fun y => mem_ins k, by rw [len_ins _ _ htop]; exact Nat.le_refl _, hbs.setCell hbg _⟩
            · have := HST.out
              unfold OwnsI; rw [len_ins _ _ htop]; rw [HL2.out] at this; exact this
            · intro i hi hle; omega
end Go.Proofs.Ytgmkchkaceciiaa.Sp
