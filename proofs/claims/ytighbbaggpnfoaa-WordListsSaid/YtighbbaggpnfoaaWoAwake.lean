/- The walk of the statements' helper awake. -/
import Derived.Test.YtighbbaggpnfoaaWoFun
namespace Go.Proofs.Ytighbbaggpnfoaa.Wo
set_option maxRecDepth 100000
open Go Go.RowKit

theorem example_runes : runes ⟨#[97, 255, 195, 188]⟩ = [97, 65533, 252] := by decide +kernel
set_option maxHeartbeats 1000000 in
theorem awake_any (w : World) : Calls Try.prog 4 #[] w (RetB true w) := by
  have H := of_any ⟨#[97, 255, 195, 188]⟩ w (by decide)
  rw [example_runes] at H
  have HO := Lib.hid H; clear H
  go_enter Try.func4, Try.ntmps4
  go_wp2_with (fail)
  refine HO.out.mono ?_
  rintro e w1 ⟨A, c, rfl, hc, hr, hn, hb⟩
  obtain ⟨b, off, x0, hA, hbB, ⟨_, e0⟩, h0⟩ := hr.at_ (k := 0) (by simp)
  obtain ⟨b', off', x1, hA1, _, ⟨_, e1⟩, h1⟩ := hr.at_ (k := 1) (by simp)
  obtain ⟨b2, off2, x2, hA2, _, ⟨_, e2⟩, h2⟩ := hr.at_ (k := 2) (by simp)
  rw [hA] at hA1 hA2
  injection hA1 with hA1
  injection hA1 with q1 q2 _
  subst q1 q2
  injection hA2 with hA2
  injection hA2 with q1 q2 _
  subst q1 q2
  simp at e0 e1 e2
  subst e0 e1 e2
  subst hA
  have HC := Lib.hid (wcmp_any (some ⟨b, off, none⟩) (some ⟨b, off, none⟩) c c [97, 65533, 252] [97, 65533] w1 hr (hr.take (k := 2) (by simp)) (by simp) (by simp))
  rw [show cmpL [97, 65533, 252] [97, 65533] = 1 from by decide] at HC
  have HI := Lib.hid (in_any 1 255 w1)
  rw [show inS 1 255 = true from by decide] at HI
  simp only [Nat.add_zero] at h0
  simp only [List.length_cons, List.length_nil] at hc ⊢
  clear hr hn
  go_wp2_with (fail)
  refine HC.out.mono ?_
  rintro e w2 ⟨rfl, rfl⟩
  go_wp2_with (fail)
  refine HI.out.mono ?_
  rintro e w2 ⟨rfl, rfl⟩
  go_wp2_with (fail)
  go_ret
  exact ⟨rfl, hb⟩
end Go.Proofs.Ytighbbaggpnfoaa.Wo
