/- The walk of the reference's Repair. -/
import Derived.Test.YtjhgboncipnkeaaDoorUtRScan
import Derived.Test.YtjhgboncipnkeaaDoorUtDecode
namespace Go.Proofs.YtjhgboncipnkeaaDoor.Ut
set_option maxRecDepth 100000
open Go Go.RowKit Go.Proofs.YtjhgboncipnkeaaDoor.Wo

theorem own_below {w w' : World} {base e size n : Nat} {v : Value} {xs : List Value} (h : w.ownsRow base e size v n xs) (hb : Below w.heap.size w w') : w'.ownsRow base e size v n xs := by
  refine h.kept (row := none) ⟨hb.os, hb.tape, hb.output, hb.size, fun k hk _ => hb.block k hk⟩ ?_
  rcases h.2 with ⟨rfl, _⟩ | ⟨g, cap, cur, rfl, _⟩
  · exact .inl rfl
  · exact .inr (by simp [Value.ownBlock])
def RRepRel (l : List Int) (w1 : World) (v ok at_ : Value) (wr : World) : Prop :=
  ∃ (pos : Nat) (pre : List Int) (b : Bool), pos ≤ l.length ∧ at_ = .int .i64 pos ∧ ok = .bool b ∧ wr.ownsRow w1.heap.size 21 1 v pre.length (runesV pre) ∧ repL l = pre ++ repL (l.drop pos) ∧ okL l = (b && okL (l.drop pos)) ∧ Below w1.heap.size w1 wr
def RRepOut (l : List Int) (w : World) (e : Ending) (w' : World) : Prop := ∃ v, e = .returned (.tuple #[v, .bool (okL l)]) ∧ RunesOut (repL l) w v w'
set_option maxHeartbeats 4000000 in
theorem refrepair_any (A : Option Addr) (c : Nat) (l : List Int) (w : World) (h : RY w w.heap.size A l.length l) (hl : ByteL l) (hc : l.length ≤ c) (hm : l.length ≤ 1099511627776) :
    Calls Tryd.prog 16 #[.slice A l.length c] w (RRepOut l w) := by
  obtain ⟨i0, hi, hz0, hz1, hz2⟩ := info_parts infoRune
  have HSC := Lib.hid (fun W (hW : Below w.heap.size w W) k (hk : k < l.length) => refscan_any A l.length c l k W (h.belowM hW) hl hc hm hk)
  have HLR := Lib.hid (repL_len _ l hl (Nat.le_refl _))
  have HL := Lib.hid hl
  clear h hl
  go_enter Tryd.func16, Tryd.ntmps16
  go_wp2_with (fail)
  go_loopw [4, 5, 6] (fun v ok at_ wr => RRepRel l w v ok at_ wr) (fun _ _ at_ _ => l.length - (intOf at_).toNat)
  case atStart => exact ⟨0, [], true, Nat.zero_le _, rfl, rfl, World.ownsRow_nil _ _ _ _, rfl, rfl, Below.refl _ _⟩
  case round =>
    obtain ⟨pos, pre, b, hp, rfl, rfl, hrow, hrep, hok, hb⟩ := hrel
    have HROW := Lib.hid hrow
    have HREP := Lib.hid hrep
    have HOK := Lib.hid hok
    have HB := Lib.hid hb
    have hsz := hb.size
    clear hrow hrep hok hb
    by_cases hlt : pos < l.length
    · have hne : l.drop pos ≠ [] := fun e => by have := congrArg List.length e; rw [List.length_drop, List.length_nil] at this; omega
      have hps := scan_pos (HL.out.drop pos) hne
      obtain ⟨e1, e2⟩ := repL_cons (HL.out.drop pos) hne
      have hS := HSC.out wr HB.out pos hlt
      obtain ⟨X, z, ok, hX⟩ : ∃ X z ok, scanL (l.drop pos) = (X, z, ok) := ⟨_, _, _, rfl⟩
      rw [hX] at hS e1 e2 hps
      simp only at e1 e2 hps
      rw [List.length_drop] at hps
      rw [List.drop_drop] at e1 e2
      obtain ⟨q, rfl⟩ := Int.eq_ofNat_of_zero_le (by omega : 0 ≤ z)
      rw [Int.toNat_natCast] at hps e1 e2
      have hpre : pre.length ≤ 1099511627776 := by
        have := congrArg List.length HREP.out
        rw [List.length_append] at this
        have := HLR.out
        omega
      have E1 := Lib.hid (show repL l = (pre ++ [X]) ++ repL (l.drop (pos + q)) by rw [HREP.out, e1, List.append_assoc]; rfl)
      have E2 := Lib.hid (show okL l = ((b && ok) && okL (l.drop (pos + q))) by rw [HOK.out, e2, Bool.and_assoc])
      have HS := Lib.hid hS
      have hq1 : 1 ≤ q := by omega
      have hq2 : pos + q ≤ l.length := by omega
      clear hne e1 e2 hX hS hps
      go_wp2_with (fail)
      refine HS.out.mono ?_
      rintro e w2 ⟨rfl, hb2⟩
      have HB2 := Lib.hid (HB.out.trans (hb2.mono hsz))
      have hrow2 := own_below HROW.out hb2
      have HROW2 := Lib.hid hrow2
      have hsz2 := HB2.out.size
      clear hb2 hrow2
      go_wp2_with (at_builtin; go_must (refine wpList_append_own_at _ rfl _ _ 31 rfl w.heap.size 21 i0 _ 1 4 Tryd.underlying31 hi hz0 hz1 hz2 rfl (by decide) _ pre.length (runesV pre) rfl (HROW2.out.alloc _) ⟨w2.heap.size, 0, none⟩ 1 1 [.int .i32 X] rfl rfl ?c1 ?c2 ?c3 ?c4 ?c5 ?_))
      case c1 => exact World.news_of_block (cs := #[.int .i32 X]) (t := 21) (fr := (0, 0)) (heap_alloc_new w2 _)
      case c2 => simp [Value.oneCell']
      case c3 => simp only [maxLen]; omega
      case c4 => omega
      case c5 => simp; omega
      intro v9 w9 hown9 hg9 _ hat9
      have HO9 := Lib.hid hown9
      have HB9 := Lib.hid (((HB2.out.alloc (by omega) (.cells #[.int .i32 X] 21))).grown hg9 (by simp; omega) (fun k hk => (HROW2.out.lt k hk).1))
      clear hown9 hg9 hat9
      cases b
      all_goals
        go_wp2_with (fail)
        go_roundw
        case rel => exact ⟨pos + q, pre ++ [X], _, hq2, by go_num, rfl, by rw [List.length_append]; unfold runesV at *; rw [List.map_append]; exact HO9.out, E1.out, E2.out, HB9.out⟩
        case measure => simp [intOf]; omega
    · obtain rfl : pos = l.length := by omega
      have e1 := HREP.out
      have e2 := HOK.out
      rw [List.drop_length, repL_nil, List.append_nil] at e1
      rw [List.drop_length, okL_nil, Bool.and_true] at e2
      have E1 := Lib.hid e1
      have E2 := Lib.hid e2
      clear e1 e2
      go_wp2_with (fail)
      go_ret2
      refine ⟨_, by rw [E2.out]; rfl, ?_⟩
      rw [E1.out]
      exact runes_out HROW.out HB.out
end Go.Proofs.YtjhgboncipnkeaaDoor.Ut
