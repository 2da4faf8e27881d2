/- The walk of ref.Make, where it is asked for what the first has alone. -/
import Derived.Test.YtgmkchkaceciiaaSpMake
namespace Go.Proofs.Ytgmkchkaceciiaa.Sp
set_option maxRecDepth 100000
open Go Go.RowKit

set_option maxRecDepth 100000 in
set_option maxHeartbeats 16000000 in
theorem rmake2 (A A' : Option Addr) (n n' c c' : Nat) (l r : List Span) (w : World) (h : RS w w.heap.size A n l) (h' : RS w w.heap.size A' n' r) (hn : n ≤ 68719476736) (hn' : n' ≤ 68719476736) :
    Calls Try.prog 14 #[.slice A n c, .slice A' n' c', .int .i64 2] w (SetOut (fun x => Rng x ∧ inP 2 (memB l x) (memB r x) = true) w) := by
  obtain ⟨i0, hi0, hz0, hz1, hz2⟩ := info_parts infoSpan
  go_enter Try.func14, Try.ntmps14
  go_wp2_with (fail)
  refine (rborders_any A A' n n' c c' l r _ h h' hn hn').mono ?_
  rintro e w1 ⟨g, cap, bs, rfl, ho1, hB, hb1⟩
  have hz1' := hb1.size
  have hgs := (ho1.lt g rfl).2
  have hrl := h.belowM hb1
  have hrr := h'.belowM hb1
  have hfew := hB.few
  rw [List.length_append, h.1, h'.1] at hfew
  have HS := Lib.hid (segs_of hB 2); clear hB
  have HO1 := Lib.hid ho1; clear ho1
  go_wp2_with (fail)
  go_loopw [7, 9] (fun out i wr => MakeRel bs (fun x => inP 2 (memB l x) (memB r x) = true) w1.heap.size w1 out i wr) (fun _ i _ => bs.length - (intOf i).toNat)
  case atStart => exact ⟨0, [], none, 0, Nat.zero_le _, rfl, rfl, World.ownsRow_nil _ _ _ _, MakeInv.start HS.out, Below.refl _ _⟩
  case round =>
    obtain ⟨k, o, Ao, co, hk, rfl, rfl, ho, hi, hb⟩ := hrel
    have hz := hb.size
    have HO := Lib.hid ho; clear ho
    have HI := Lib.hid hi; clear hi
    by_cases hlt : k < bs.length
    · obtain ⟨y, hy⟩ : ∃ y, bs[k] = y := ⟨_, rfl⟩
      have hcy : wr.cell? ⟨g, k, none⟩ = some (.int .i64 y) := by rw [hb.cell (p := ⟨g, k, none⟩) hgs, own_cell HO1.out hlt, hy]
      have hyr : -1073741824 ≤ y ∧ y ≤ 1073741824 := by have := HS.out.rng _ (List.getElem_mem hlt); rw [hy] at this; exact this
      have hgw : g < wr.heap.size := by omega
      have hoL := HI.out.plain.short
      have HY := Lib.hid hy; clear hy
      obtain ⟨bx, hbx⟩ : ∃ bx, memB l y = bx := ⟨_, rfl⟩
      obtain ⟨bY, hby⟩ : ∃ bY, memB r y = bY := ⟨_, rfl⟩
      have HX := Lib.hid (fun nq => rhas_any A n c l y (wr.drewN nq) ((hrl.below hb).more hz) (by omega))
      have HYY := Lib.hid (fun nq => rhas_any A' n' c' r y (wr.drewN nq) ((hrr.below hb).more hz) (by omega))
      rw [hbx] at HX
      rw [hby] at HYY
      have HBX := Lib.hid hbx; clear hbx
      have HBY := Lib.hid hby; clear hby
      cases bx
      · cases bY
        · go_wp2_with (fail)
          go_quiet ((first | (go_at_call_of 40 (Value.slice A n c); exact quiet_left (HX.out _)) | (go_at_call_of 40 (Value.slice A' n' c'); exact quiet_left (HYY.out _))))
          go_wp2_with (fail)
          go_roundw
          case rel => exact ⟨k + 1, o, Ao, co, by omega, by go_num, rfl, HO.out, HI.out.skip HS.out hlt (by show ¬ inP 2 (memB l bs[k]) (memB r bs[k]) = true; rw [HY.out, HBX.out, HBY.out]; decide), below_drewN hb _⟩
          case measure => simp [intOf]; omega
        · go_wp2_with (fail)
          go_quiet ((first | (go_at_call_of 40 (Value.slice A n c); exact quiet_left (HX.out _)) | (go_at_call_of 40 (Value.slice A' n' c'); exact quiet_left (HYY.out _))))
          go_wp2_with (fail)
          go_roundw
          case rel => exact ⟨k + 1, o, Ao, co, by omega, by go_num, rfl, HO.out, HI.out.skip HS.out hlt (by show ¬ inP 2 (memB l bs[k]) (memB r bs[k]) = true; rw [HY.out, HBX.out, HBY.out]; decide), below_drewN hb _⟩
          case measure => simp [intOf]; omega
      · cases bY
        · by_cases hk1 : k + 1 < bs.length
          · obtain ⟨z, hz'⟩ : ∃ z, bs[k + 1] = z := ⟨_, rfl⟩
            have hcz : wr.cell? ⟨g, k + 1, none⟩ = some (.int .i64 z) := by rw [hb.cell (p := ⟨g, k + 1, none⟩) hgs, own_cell HO1.out hk1, hz']
            have hzr : -1073741824 ≤ z ∧ z ≤ 1073741824 := by have := HS.out.rng _ (List.getElem_mem hk1); rw [hz'] at this; exact this
            have HT := Lib.hid (show segEnd bs k (z - 1) from ⟨fun _ => by rw [hz'], fun h => absurd hk1 h⟩)
            clear hz'
            rcases List.eq_nil_or_concat o with rfl | ⟨o, ⟨rl, rh⟩, rfl⟩
            · have hd0 : decide ((0 : Int) < ((0 : Nat) : Int)) = false := by simp
              simp only [List.length_nil]
              go_wp2_with (fail)
              go_quiet ((first | (go_at_call_of 40 (Value.slice A n c); exact quiet_left (HX.out _)) | (go_at_call_of 40 (Value.slice A' n' c'); exact quiet_left (HYY.out _))))
              go_wp2_with (fail)
              go_quiet (fail)
              go_wp2_with (at_builtin; go_must (refine wpList_append_own _ rfl _ _ 22 rfl w1.heap.size 61 i0 _ 2 16 Try.underlying22 hi0 hz0 hz1 hz2 rfl (by decide) _ ([]).length (flat ([])) rfl (by exact World.ownsRow.alloc HO.out _) ⟨wr.heap.size, 0, none⟩ 1 1 [.int .i64 y, .int .i64 (z - 1)] rfl rfl (cell_two _ _ _ _) ?c2 ?c3 ?c4 ?c5 ?_))
              case c2 => intro u hu; simp at hu; rcases hu with rfl | rfl <;> rfl
              case c3 => simp only [List.length_nil, maxLen]; omega
              case c4 => simp only [List.length_nil]; omega
              case c5 => simp only [World.size_alloc]; exact Nat.le_succ_of_le hz
              intro v1 w4 hown1 hg1 _
              have hown2 : OwnsL w4 w1.heap.size v1 ([] ++ [(y, z - 1)]) := by
                unfold OwnsL; rw [flat_append, List.length_append]; exact hown1
              have HG1 := Lib.hid (((below_drewN hb _).alloc hz _).grown hg1 (by simp; omega) (own_ge HO.out))
              obtain ⟨A5, c5, hv5, _, _⟩ := own_RS hown2
              subst hv5
              have HO5 := Lib.hid hown2; clear hown2 hown1 hg1
              go_wp2_with (fail)
              go_roundw
              case rel => exact ⟨k + 1, _, A5, c5, by omega, by go_num, rfl, HO5.out, by have := HI.out.more HS.out hlt (by show inP 2 (memB l bs[k]) (memB r bs[k]) = true; rw [HY.out, HBX.out, HBY.out]; rfl) HT.out (fun r hr => by simp at hr); rwa [HY.out] at this, HG1.out⟩
              case measure => simp [intOf]; omega
            · simp only [List.concat_eq_append] at *
              have hoK := HI.out.plain.short
              obtain ⟨g2, hA2, hbg, hgl⟩ := own_of_form HO.out (by simp)
              subst hA2
              have hcr := own_last HO.out
              have hfz := World.ownsRow.frozenAt HO.out (o.length * 2 + 1)
              simp only [List.length_append, List.length_singleton] at *
              have hrb : -1073741824 ≤ rh ∧ rh ≤ 1073741824 := by have := HI.out.plain.2 (rl, rh) (by simp); unfold Ok at this; simp only at this; omega
              have hd0 : decide ((0 : Int) < ((o.length + 1 : Nat) : Int)) = true := by simp
              generalize hj : o.length = j at *
              have HJ := Lib.hid hj; clear hj
              by_cases e : rh = y - 1
              · have hd1 : (rh == y - 1) = true := by simpa using e
                have HE := Lib.hid e; clear e
                go_wp2_with (fail)
                go_quiet ((first | (go_at_call_of 40 (Value.slice A n c); exact quiet_left (HX.out _)) | (go_at_call_of 40 (Value.slice A' n' c'); exact quiet_left (HYY.out _))))
                go_wp2_with (fail)
                go_quiet (fail)
                go_wp2_with (fail)
                go_roundw
                case rel => exact ⟨k + 1, o ++ [(rl, z - 1)], _, co, by omega, by go_num, by simp only [List.length_append, List.length_singleton, HJ.out], own_turn0 HO.out HJ.out _, HI.out.extend HS.out hlt (by show inP 2 (memB l bs[k]) (memB r bs[k]) = true; rw [HY.out, HBX.out, HBY.out]; rfl) HT.out (by rw [HY.out]; exact HE.out), (below_drewN hb _).setCell hbg _⟩
                case measure => simp [intOf]; omega
              · have hd1 : (rh == y - 1) = false := by simpa using e
                have HE := Lib.hid e; clear e
                go_wp2_with (fail)
                go_quiet ((first | (go_at_call_of 40 (Value.slice A n c); exact quiet_left (HX.out _)) | (go_at_call_of 40 (Value.slice A' n' c'); exact quiet_left (HYY.out _))))
                go_wp2_with (fail)
                go_quiet (fail)
                go_wp2_with (at_builtin; go_must (refine wpList_append_own _ rfl _ _ 22 rfl w1.heap.size 61 i0 _ 2 16 Try.underlying22 hi0 hz0 hz1 hz2 rfl (by decide) _ (o ++ [(rl, rh)]).length (flat (o ++ [(rl, rh)])) rfl (by exact World.ownsRow.alloc HO.out _) ⟨wr.heap.size, 0, none⟩ 1 1 [.int .i64 y, .int .i64 (z - 1)] rfl rfl (cell_two _ _ _ _) ?c2 ?c3 ?c4 ?c5 ?_))
                case c2 => intro u hu; simp at hu; rcases hu with rfl | rfl <;> rfl
                case c3 => have := HJ.out; simp only [List.length_append, List.length_singleton, maxLen]; omega
                case c4 => have := HJ.out; simp only [List.length_append, List.length_singleton]; omega
                case c5 => simp only [World.size_alloc]; exact Nat.le_succ_of_le hz
                intro v1 w4 hown1 hg1 _
                have hown2 : OwnsL w4 w1.heap.size v1 (o ++ [(rl, rh)] ++ [(y, z - 1)]) := by
                  unfold OwnsL; rw [flat_append, List.length_append, List.length_append]; exact hown1
                have HG1 := Lib.hid (((below_drewN hb _).alloc hz _).grown hg1 (by simp; omega) (own_ge HO.out))
                obtain ⟨A5, c5, hv5, _, _⟩ := own_RS hown2
                subst hv5
                have HO5 := Lib.hid hown2; clear hown2 hown1 hg1
                go_wp2_with (fail)
                go_roundw
                case rel => exact ⟨k + 1, _, A5, c5, by omega, by go_num, rfl, HO5.out, by have := HI.out.more HS.out hlt (by show inP 2 (memB l bs[k]) (memB r bs[k]) = true; rw [HY.out, HBX.out, HBY.out]; rfl) HT.out (fun r hr => by simp at hr; subst hr; rw [HY.out]; exact HE.out); rwa [HY.out] at this, HG1.out⟩
                case measure => simp [intOf]; omega
          · have HT := Lib.hid (show segEnd bs k 1073741824 from ⟨fun h => absurd h hk1, fun _ => rfl⟩)
            rcases List.eq_nil_or_concat o with rfl | ⟨o, ⟨rl, rh⟩, rfl⟩
            · have hd0 : decide ((0 : Int) < ((0 : Nat) : Int)) = false := by simp
              simp only [List.length_nil]
              go_wp2_with (fail)
              go_quiet ((first | (go_at_call_of 40 (Value.slice A n c); exact quiet_left (HX.out _)) | (go_at_call_of 40 (Value.slice A' n' c'); exact quiet_left (HYY.out _))))
              go_wp2_with (fail)
              go_quiet (fail)
              go_wp2_with (at_builtin; go_must (refine wpList_append_own _ rfl _ _ 22 rfl w1.heap.size 61 i0 _ 2 16 Try.underlying22 hi0 hz0 hz1 hz2 rfl (by decide) _ ([]).length (flat ([])) rfl (by exact World.ownsRow.alloc HO.out _) ⟨wr.heap.size, 0, none⟩ 1 1 [.int .i64 y, .int .i64 (1073741824)] rfl rfl (cell_two _ _ _ _) ?c2 ?c3 ?c4 ?c5 ?_))
              case c2 => intro u hu; simp at hu; rcases hu with rfl | rfl <;> rfl
              case c3 => simp only [List.length_nil, maxLen]; omega
              case c4 => simp only [List.length_nil]; omega
              case c5 => simp only [World.size_alloc]; exact Nat.le_succ_of_le hz
              intro v1 w4 hown1 hg1 _
              have hown2 : OwnsL w4 w1.heap.size v1 ([] ++ [(y, 1073741824)]) := by
                unfold OwnsL; rw [flat_append, List.length_append]; exact hown1
              have HG1 := Lib.hid (((below_drewN hb _).alloc hz _).grown hg1 (by simp; omega) (own_ge HO.out))
              obtain ⟨A5, c5, hv5, _, _⟩ := own_RS hown2
              subst hv5
              have HO5 := Lib.hid hown2; clear hown2 hown1 hg1
              go_wp2_with (fail)
              go_roundw
              case rel => exact ⟨k + 1, _, A5, c5, by omega, by go_num, rfl, HO5.out, by have := HI.out.more HS.out hlt (by show inP 2 (memB l bs[k]) (memB r bs[k]) = true; rw [HY.out, HBX.out, HBY.out]; rfl) HT.out (fun r hr => by simp at hr); rwa [HY.out] at this, HG1.out⟩
              case measure => simp [intOf]; omega
            · simp only [List.concat_eq_append] at *
              have hoK := HI.out.plain.short
              obtain ⟨g2, hA2, hbg, hgl⟩ := own_of_form HO.out (by simp)
              subst hA2
              have hcr := own_last HO.out
              have hfz := World.ownsRow.frozenAt HO.out (o.length * 2 + 1)
              simp only [List.length_append, List.length_singleton] at *
              have hrb : -1073741824 ≤ rh ∧ rh ≤ 1073741824 := by have := HI.out.plain.2 (rl, rh) (by simp); unfold Ok at this; simp only at this; omega
              have hd0 : decide ((0 : Int) < ((o.length + 1 : Nat) : Int)) = true := by simp
              generalize hj : o.length = j at *
              have HJ := Lib.hid hj; clear hj
              by_cases e : rh = y - 1
              · have hd1 : (rh == y - 1) = true := by simpa using e
                have HE := Lib.hid e; clear e
                go_wp2_with (fail)
                go_quiet ((first | (go_at_call_of 40 (Value.slice A n c); exact quiet_left (HX.out _)) | (go_at_call_of 40 (Value.slice A' n' c'); exact quiet_left (HYY.out _))))
                go_wp2_with (fail)
                go_quiet (fail)
                go_wp2_with (fail)
                go_roundw
                case rel => exact ⟨k + 1, o ++ [(rl, 1073741824)], _, co, by omega, by go_num, by simp only [List.length_append, List.length_singleton, HJ.out], own_turn0 HO.out HJ.out _, HI.out.extend HS.out hlt (by show inP 2 (memB l bs[k]) (memB r bs[k]) = true; rw [HY.out, HBX.out, HBY.out]; rfl) HT.out (by rw [HY.out]; exact HE.out), (below_drewN hb _).setCell hbg _⟩
                case measure => simp [intOf]; omega
              · have hd1 : (rh == y - 1) = false := by simpa using e
                have HE := Lib.hid e; clear e
                go_wp2_with (fail)
                go_quiet ((first | (go_at_call_of 40 (Value.slice A n c); exact quiet_left (HX.out _)) | (go_at_call_of 40 (Value.slice A' n' c'); exact quiet_left (HYY.out _))))
                go_wp2_with (fail)
                go_quiet (fail)
                go_wp2_with (at_builtin; go_must (refine wpList_append_own _ rfl _ _ 22 rfl w1.heap.size 61 i0 _ 2 16 Try.underlying22 hi0 hz0 hz1 hz2 rfl (by decide) _ (o ++ [(rl, rh)]).length (flat (o ++ [(rl, rh)])) rfl (by exact World.ownsRow.alloc HO.out _) ⟨wr.heap.size, 0, none⟩ 1 1 [.int .i64 y, .int .i64 (1073741824)] rfl rfl (cell_two _ _ _ _) ?c2 ?c3 ?c4 ?c5 ?_))
                case c2 => intro u hu; simp at hu; rcases hu with rfl | rfl <;> rfl
                case c3 => have := HJ.out; simp only [List.length_append, List.length_singleton, maxLen]; omega
                case c4 => have := HJ.out; simp only [List.length_append, List.length_singleton]; omega
                case c5 => simp only [World.size_alloc]; exact Nat.le_succ_of_le hz
                intro v1 w4 hown1 hg1 _
                have hown2 : OwnsL w4 w1.heap.size v1 (o ++ [(rl, rh)] ++ [(y, 1073741824)]) := by
                  unfold OwnsL; rw [flat_append, List.length_append, List.length_append]; exact hown1
                have HG1 := Lib.hid (((below_drewN hb _).alloc hz _).grown hg1 (by simp; omega) (own_ge HO.out))
                obtain ⟨A5, c5, hv5, _, _⟩ := own_RS hown2
                subst hv5
                have HO5 := Lib.hid hown2; clear hown2 hown1 hg1
                go_wp2_with (fail)
                go_roundw
                case rel => exact ⟨k + 1, _, A5, c5, by omega, by go_num, rfl, HO5.out, by have := HI.out.more HS.out hlt (by show inP 2 (memB l bs[k]) (memB r bs[k]) = true; rw [HY.out, HBX.out, HBY.out]; rfl) HT.out (fun r hr => by simp at hr; subst hr; rw [HY.out]; exact HE.out); rwa [HY.out] at this, HG1.out⟩
                case measure => simp [intOf]; omega
        · go_wp2_with (fail)
          go_quiet ((first | (go_at_call_of 40 (Value.slice A n c); exact quiet_left (HX.out _)) | (go_at_call_of 40 (Value.slice A' n' c'); exact quiet_left (HYY.out _))))
          go_wp2_with (fail)
          go_roundw
          case rel => exact ⟨k + 1, o, Ao, co, by omega, by go_num, rfl, HO.out, HI.out.skip HS.out hlt (by show ¬ inP 2 (memB l bs[k]) (memB r bs[k]) = true; rw [HY.out, HBX.out, HBY.out]; decide), below_drewN hb _⟩
          case measure => simp [intOf]; omega
    · have HD := Lib.hid (HI.out.done (show bs.length ≤ k by omega))
      go_wp2_with (fail)
      go_ret
      exact ⟨_, o, rfl, HD.out, own_mono HO.out (by omega), hb1.trans (hb.mono (by omega))⟩

end Go.Proofs.Ytgmkchkaceciiaa.Sp
