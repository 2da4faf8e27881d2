/- The walks of part.Same and of the part statements' helpers. -/
import Derived.Test.YtldpoaknddhjfaaPaPre
namespace Go.Proofs.Ytldpoaknddhjfaa.Pa
set_option maxRecDepth 100000
open Go Go.RowKit Go.Proofs.Ytldpoaknddhjfaa.Sp

theorem val_small (x : Int) : valI 0 2 0 x = x % 4 := by
  unfold valI
  rw [pw_zero, show pw 2 = 4 from rfl]
  simp
theorem dom_small {s : List Span} (x : Int) : DomS 0 2 0 s x ↔ mem s x ∧ 0 ≤ x ∧ x ≤ 2097151 := by
  unfold DomS
  exact ⟨fun h => h.2, fun h => ⟨by decide, h⟩⟩
theorem img_ex : Is [((0 : Int), (1 : Int)), (3, 3)] (ImgS 0 2 0 [(3, 5)]) := by
  refine ⟨⟨by simp, by simp [Ok]⟩, fun y => ?_⟩
  show mem ([(0, 1)] ++ [(3, 3)]) y ↔ _
  rw [mem_append, mem_one, mem_one]
  unfold ImgS Rng
  simp only [dom_small, val_small, mem_one, Rng]
  constructor
  · intro h
    rcases (show y = 0 ∨ y = 1 ∨ y = 3 from by omega) with rfl | rfl | rfl
    · exact ⟨4, by omega, by omega⟩
    · exact ⟨5, by omega, by omega⟩
    · exact ⟨3, by omega, by omega⟩
  · rintro ⟨x, hx, rfl⟩
    omega
theorem pre_ex : Is [((3 : Int), (3 : Int)), (7, 7)] (PreS 0 2 0 [(0, 9)] [(3, 3)]) := by
  refine ⟨⟨by simp, by simp [Ok]⟩, fun y => ?_⟩
  show mem ([(3, 3)] ++ [(7, 7)]) y ↔ _
  rw [mem_append, mem_one, mem_one]
  unfold PreS Rng
  simp only [dom_small, val_small, mem_one, Rng]
  omega

attribute [local go_sem] span_guard span_eq
set_option maxHeartbeats 4000000 in
theorem pawake_any (w : World) : Calls Try.prog 10 #[] w (RetB true w) := by
  have HV := Lib.hid (fun W => value_any 0 6 6 8 8191 W (by decide))
  rw [show valP 6 6 8 8191 = (16128, true) by decide] at HV
  go_enter Try.func10, Try.ntmps10
  go_wp2_with (fail)
  refine (HV.out _).mono ?_
  rintro e w1 ⟨rfl, hb1⟩
  have HB1 := Lib.hid hb1
  clear hb1
  go_wp2_with (fail)
  refine (image_any 0 0 2 0 (some ⟨w1.heap.size, 0, none⟩) 1 1 [(3, 5)] _ (lit_RS (by simp) (heap_alloc_new w1 _)) (by omega) (by omega)).mono ?_
  rintro e w2 ⟨v2, o2, rfl, his2, ho2, hb2⟩
  obtain rfl : o2 = [(0, 1), (3, 3)] := his2.eq img_ex fun _ => Iff.rfl
  obtain ⟨A2, c2, hv2, hc2, hr2⟩ := own_RS ho2
  subst hv2
  have HB2 := Lib.hid ((HB1.out.trans ((Below.refl _ _).alloc HB1.out.size _)).trans (hb2.mono (by have := HB1.out.size; simp; omega)))
  clear his2 ho2 hb2
  go_wp2_with (fail)
  refine (pre_any 0 0 2 0 (some ⟨w2.heap.size, 0, none⟩) (some ⟨w2.heap.size + 1, 0, none⟩) 1 1 1 1 [(0, 9)] [(3, 3)] _ (lit_RS (by simp; omega) ?h1) (lit_RS (by simp) ?h2) (by omega) (by omega) (by omega) (by omega)).mono ?_
  case h1 => rw [Below.heap_alloc _ _ _ (by simp)]; exact heap_alloc_new w2 _
  case h2 => exact two_new w2 _ _
  rintro e w3 ⟨v3, o3, rfl, his3, ho3, hb3⟩
  obtain rfl : o3 = [(3, 3), (7, 7)] := his3.eq pre_ex fun _ => Iff.rfl
  obtain ⟨A3, c3, hv3, hc3, hr3⟩ := own_RS ho3
  subst hv3
  have hb23 : Below w2.heap.size w2 w3 := (((Below.refl _ _).alloc (Nat.le_refl _) _).alloc (by simp) _).trans (hb3.mono (by simp; omega))
  have HB3 := Lib.hid (HB2.out.trans (hb23.mono HB2.out.size))
  have hr2' := hr2.belowM hb23
  obtain ⟨b, off, lo1, hi1, hA1, hb1B, ⟨_, e1⟩, h11, h12⟩ := hr2'.at_ (k := 1) (by simp)
  obtain ⟨b', off', lo2, hi2, hA2, hb2B, ⟨_, e2⟩, h21, h22⟩ := hr3.at_ (k := 1) (by simp)
  injection e1 with q1 q2
  subst q1 q2
  injection e2 with q1 q2
  subst q1 q2
  subst hA1 hA2
  simp only [Nat.one_mul] at h11 h12 h21 h22
  simp only [List.length_cons, List.length_nil]
  clear his3 ho3 hb3 hr2 hr2' hr3 hb23
  go_wp2_with (fail)
  go_ret
  exact ⟨rfl, HB3.out⟩
end Go.Proofs.Ytldpoaknddhjfaa.Pa
