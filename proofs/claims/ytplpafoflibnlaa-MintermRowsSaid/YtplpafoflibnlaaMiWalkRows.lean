/- The walk of MintermRows. -/
import Derived.Test.YtplpafoflibnlaaMiLeast
import Derived.Test.YtplpafoflibnlaaMiAwake
namespace Go.Proofs.Ytplpafoflibnlaa.Mi
set_option maxRecDepth 100000
open Go Go.RowKit Go.Proofs.Ytplpafoflibnlaa.Sp

def allTo (fam : List (List Span)) (k : Nat) : Prop := ∀ j, j < k → 0 ≤ rowAt fam j
def RwRel (fam : List (List Span)) (w2 : World) (a i : Value) (wr : World) : Prop := ∃ (k : Nat) (b : Bool), k ≤ 256 ∧ i = .int .i64 k ∧ a = .bool b ∧ (b = true ↔ allTo fam k) ∧ w2 = wr
theorem allTo_succ {fam : List (List Span)} {k : Nat} : allTo fam (k + 1) ↔ allTo fam k ∧ 0 ≤ rowAt fam k :=
  ⟨fun h => ⟨fun j hj => h j (by omega), h k (by omega)⟩, fun h j hj => by
    by_cases e : j = k
    · subst e; exact h.2
    · exact h.1 j (by omega)⟩
def Rw2Rel (w2 : World) (i : Value) (wr : World) : Prop := ∃ k : Nat, k ≤ 256 ∧ i = .int .i64 k ∧ Below w2.heap.size w2 wr
set_option maxHeartbeats 8000000 in
theorem walk_MintermRows (A : Option Addr) (c : Nat) (fam : List (List Span)) (w : World) (h : RGs w A fam.length fam) (hl : fam.length ≤ maxLen) (hs : ∀ l ∈ fam, l.length ≤ maxLen) :
    Calls Try.prog 8 #[.slice A fam.length c] w (RetB true w) := by
  by_cases hg : 30 < fam.length ∨ ∃ l ∈ fam, 30 < l.length
  · have HG := Lib.hid (mgreat_any A c fam true w h hl hs ⟨fun _ => hg, fun _ => rfl⟩)
    clear h hl hs hg
    go_enter Try.func8, Try.ntmps8
    go_wp2_with (fail)
    refine HG.out.mono ?_
    rintro e w1 ⟨rfl, hb1⟩
    go_wp2_with (fail)
    refine (awake_any _).mono ?_
    rintro e w2 ⟨rfl, hb2⟩
    go_wp2_with (fail)
    go_ret
    exact ⟨rfl, below_nextM hb1 hb2⟩
  · have HG := Lib.hid (mgreat_any A c fam false w h hl hs ⟨fun q => (by cases q), fun q => absurd q hg⟩)
    have hl2 : fam.length ≤ 30 := by omega
    have hs2 : ∀ l ∈ fam, l.length ≤ 30 := fun l hm => by
      rcases Nat.lt_or_ge 30 l.length with q | q
      · exact absurd (.inr ⟨l, hm, q⟩) hg
      · exact q
    have HS := Lib.hid (show ∀ l ∈ fam, l.length ≤ 1000000000 from fun l hm => by have := hs2 l hm; omega)
    have H := Lib.hid h
    clear h hs hg hs2 hl
    go_enter Try.func8, Try.ntmps8
    go_wp2_with (fail)
    refine HG.out.mono ?_
    rintro e w1 ⟨rfl, hb1⟩
    have HL := Lib.hid (row_any A c fam w1 (H.out.belowM hb1) (by omega) HS.out)
    have HB1 := Lib.hid hb1
    clear hb1
    go_wp2_with (fail)
    refine HL.out.mono ?_
    rintro e w2 ⟨hor, hb2⟩
    have HB2 := Lib.hid (below_nextM HB1.out hb2)
    have HR2 := Lib.hid (H.out.belowM HB2.out)
    clear hb2
    rcases hor with ⟨g, cap, xs, rfl, hxl, hxs, hpos, ho⟩ | ⟨rfl, hno⟩
    · have HO := Lib.hid ho
      have HX := Lib.hid hxs
      have HP := Lib.hid hpos
      clear ho hxs hpos
      go_wp2_with (fail)
      go_loopw [5, 6] (fun a i wr => RwRel fam w2 a i wr) (fun _ i _ => 256 - (intOf i).toNat)
      case atStart => exact ⟨0, true, Nat.zero_le _, rfl, rfl, ⟨fun _ j hj => absurd hj (by omega), fun _ => rfl⟩, rfl⟩
      case round =>
        obtain ⟨k, b, hk, rfl, rfl, hb, rfl⟩ := hrel
        by_cases hlt : k < 256
        · have hz := HP.out k hlt
          have HC := Lib.hid (rclass_any A c fam (k : Int) w2 HR2.out (by omega) HS.out)
          have hbt : b = true := hb.2 fun j hj => HP.out j (by omega)
          have HN := Lib.hid (show allTo fam (k + 1) from fun j hj => HP.out j (by omega))
          unfold rowAt at hz
          obtain ⟨z, hze⟩ : ∃ z, classOf fam (k : Int) = z := ⟨_, rfl⟩
          rw [hze] at HC hz
          subst hbt
          clear hb hze
          go_wp2_with (fail)
          refine HC.out.mono ?_
          rintro e w3 ⟨rfl, rfl⟩
          go_wp2_with (fail)
          go_roundw
          case rel => exact ⟨k + 1, true, by omega, by go_num, rfl, ⟨fun _ => HN.out, fun _ => rfl⟩, rfl⟩
          case measure => simp [intOf]; omega
        · have hbt : b = true := hb.2 fun j hj => HP.out j (by omega)
          subst hbt
          clear hb
          go_wp2_with (fail)
          go_loopw [7] (fun i wr => Rw2Rel w2 i wr) (fun i _ => 256 - (intOf i).toNat)
          case atStart => exact ⟨0, Nat.zero_le _, rfl, Below.refl _ _⟩
          case round =>
            obtain ⟨k2, hk2, rfl, hb⟩ := hrel
            by_cases hlt2 : k2 < 256
            · have HC := Lib.hid (fun nq => rclass_any A c fam (k2 : Int) (wr.drewN nq) (HR2.out.belowM (below_drewN hb nq)) (by omega) HS.out)
              have hc2 := ownN_cell hxl (ownN_below HO.out hb) hlt2
              rw [HX.out k2 hlt2] at hc2
              unfold rowAt at hc2
              have hz := HP.out k2 hlt2
              have hz2 := class_range fam (k2 : Int)
              unfold rowAt at hz
              obtain ⟨z, hze⟩ : ∃ z, classOf fam (k2 : Int) = z := ⟨_, rfl⟩
              rw [hze] at HC hc2 hz hz2
              have hwz : IntKind.i64.wrap z = z := IntWalk.i64_in _ (by omega)
              have HB := Lib.hid hb
              clear hze hb
              go_wp2_with (fail)
              go_quiet ((go_at_call 31; exact quiet_left (HC.out _)))
              go_wp2_with (fail)
              go_roundw
              case rel => exact ⟨k2 + 1, by omega, by go_num, below_drewN HB.out _⟩
              case measure => simp [intOf]; omega
            · have HB := Lib.hid (below_nextM HB2.out hb)
              clear hb
              go_wp2_with (fail)
              refine (awake_any _).mono ?_
              rintro e w5 ⟨rfl, hb5⟩
              go_wp2_with (fail)
              go_ret
              exact ⟨rfl, below_nextM HB.out hb5⟩
    · obtain ⟨j0, hj0, hjn⟩ := hno
      have HJ := Lib.hid hjn
      clear hjn
      go_wp2_with (fail)
      go_loopw [5, 6] (fun a i wr => RwRel fam w2 a i wr) (fun _ i _ => 256 - (intOf i).toNat)
      case atStart => exact ⟨0, true, Nat.zero_le _, rfl, rfl, ⟨fun _ j hj => absurd hj (by omega), fun _ => rfl⟩, rfl⟩
      case round =>
        obtain ⟨k, b, hk, rfl, rfl, hb, rfl⟩ := hrel
        have HBB := Lib.hid hb
        clear hb
        by_cases hlt : k < 256
        · have HC := Lib.hid (rclass_any A c fam (k : Int) w2 HR2.out (by omega) HS.out)
          have HAS := Lib.hid (allTo_succ (fam := fam) (k := k))
          have HRA := Lib.hid (show rowAt fam k = classOf fam (k : Int) from rfl)
          obtain ⟨z, hze⟩ : ∃ z, classOf fam (k : Int) = z := ⟨_, rfl⟩
          rw [hze] at HC HRA
          clear hze
          cases b with
          | false =>
            go_wp2_with (fail)
            go_roundw
            case rel => exact ⟨k + 1, false, by omega, by go_num, rfl, ⟨fun q => (by cases q), fun q => HBB.out.2 (HAS.out.1 q).1⟩, rfl⟩
            case measure => simp [intOf]; omega
          | true =>
            by_cases hz : 0 ≤ z
            · have hz' : decide (0 ≤ z) = true := decide_eq_true hz
              have HN := Lib.hid (HAS.out.2 ⟨HBB.out.1 rfl, by rw [HRA.out]; exact hz⟩)
              go_wp2_with (fail)
              refine HC.out.mono ?_
              rintro e w3 ⟨rfl, rfl⟩
              go_wp2_with (fail)
              go_roundw
              case rel => exact ⟨k + 1, true, by omega, by go_num, rfl, ⟨fun _ => HN.out, fun _ => rfl⟩, rfl⟩
              case measure => simp [intOf]; omega
            · have hz' : decide (0 ≤ z) = false := decide_eq_false hz
              have HN := Lib.hid (show ¬ allTo fam (k + 1) from fun q => hz (by have := (HAS.out.1 q).2; rw [HRA.out] at this; exact this))
              go_wp2_with (fail)
              refine HC.out.mono ?_
              rintro e w3 ⟨rfl, rfl⟩
              go_wp2_with (fail)
              go_roundw
              case rel => exact ⟨k + 1, false, by omega, by go_num, rfl, ⟨fun q => (by cases q), fun q => absurd q HN.out⟩, rfl⟩
              case measure => simp [intOf]; omega
        · have hbf : b = false := by
            cases e : b with
            | false => rfl
            | true =>
              have := HBB.out.1 e j0 (by omega)
              have := HJ.out
              omega
          subst hbf
          go_wp2_with (fail)
          refine (awake_any _).mono ?_
          rintro e w5 ⟨rfl, hb5⟩
          go_wp2_with (fail)
          go_ret
          exact ⟨rfl, below_nextM HB2.out hb5⟩
end Go.Proofs.Ytplpafoflibnlaa.Mi
