/- The statements' helper awake. -/
import Derived.Test.YtjhgboncipnkeaaDoorUtEnc
namespace Go.Proofs.YtjhgboncipnkeaaDoor.Ut
set_option maxRecDepth 100000
open Go Go.RowKit Go.Shelf Go.Proofs.YtjhgboncipnkeaaDoor.Wo

theorem rep_ex1 : repL [97, 226, 130, 98] = [97, 65533, 98] := by decide
theorem rep_ex2 : repL [240, 128, 128] = [65533, 65533, 65533] := by decide
theorem enc_ex : encB 252 = [195, 188] := by decide
theorem byte_ex1 : ByteL [97, 226, 130, 98] := by unfold ByteL; decide
theorem byte_ex2 : ByteL [240, 128, 128] := by unfold ByteL; decide
set_option maxHeartbeats 4000000 in
theorem awake_any (w : World) (hT : Tabs w) : Calls Tryd.prog 13 #[] w (RetB true w) := by
  have H1 := Lib.hid (fun (A : Option Addr) c W (hW : RY W W.heap.size A 4 [97, 226, 130, 98]) (hc : 4 ≤ c) (hb : Below w.heap.size w W) => (by
    have := repair_any A 4 c [97, 226, 130, 98] W hW byte_ex1 (by omega) hc (hT.below hb hT.2.2)
    rw [rep_ex1] at this
    exact this : Calls Tryd.prog 20 #[.slice A 4 c] W (RepOut [97, 65533, 98] W)))
  have H2 := Lib.hid (fun (A : Option Addr) c W (hW : RY W W.heap.size A 3 [240, 128, 128]) (hc : 3 ≤ c) (hb : Below w.heap.size w W) => (by
    have := repair_any A 3 c [240, 128, 128] W hW byte_ex2 (by omega) hc (hT.below hb hT.2.2)
    rw [rep_ex2] at this
    exact this : Calls Tryd.prog 20 #[.slice A 3 c] W (RepOut [65533, 65533, 65533] W)))
  have H3 := Lib.hid (fun W => (by
    have := encode_any 252 W (by omega) (by omega)
    rw [enc_ex] at this
    exact this : Calls Tryd.prog 10 #[.int .i32 252] W (EncOut [195, 188] W)))
  clear hT
  go_enter Tryd.func13, Tryd.ntmps13
  go_wp2_with (fail)
  refine (H1.out _ _ _ (new_RY [97, 226, 130, 98] 4 rfl rfl) (by omega) ((Below.refl _ _).alloc (Nat.le_refl _) _)).mono ?_
  rintro e w1 ⟨v1, rfl, A1, c1, rfl, hr1, hc1, -, hb1⟩
  have hbw1 : Below w.heap.size w w1 := ((Below.refl _ _).alloc (Nat.le_refl _) _).trans (hb1.mono (by simp))
  have HR1 := Lib.hid hr1
  have HB1 := Lib.hid hbw1
  clear hr1 hb1 hbw1
  go_wp2_with (fail)
  refine (H2.out _ _ _ (new_RY [240, 128, 128] 3 rfl rfl) (by omega) (HB1.out.alloc HB1.out.size _)).mono ?_
  rintro e w2 ⟨v2, rfl, A2, c2, rfl, hr2, hc2, -, hb2⟩
  have hb12 : Below w1.heap.size w1 w2 := ((Below.refl _ _).alloc (Nat.le_refl _) _).trans (hb2.mono (by simp))
  have HB2 := Lib.hid (HB1.out.trans (hb12.mono HB1.out.size))
  have hr1' := HR1.out.belowM hb12
  obtain ⟨b, off, x1, rfl, hbB, ⟨hl1, e1⟩, q1⟩ := hr1'.at_ (k := 1) (by simp)
  obtain ⟨b', off', x2, e, _, ⟨hl2, e2⟩, q2⟩ := hr1'.at_ (k := 2) (by simp)
  injection e with e
  injection e with e3 e4
  subst e3 e4
  simp only [List.getElem_cons_succ, List.getElem_cons_zero] at e1 e2
  subst e1 e2
  clear hr2 hb2 hb12 hr1' hl1 hl2 hbB
  go_wp2_with (fail)
  refine (H3.out _).mono ?_
  rintro e w3 ⟨v3, rfl, A3, c3, rfl, hr3, hc3, -, hb3⟩
  have hcv : (convert 22 9 (.slice A3 2 c3)).run Tryd.prog w3 = .ok (.string { data := #[195, 188] }) w3 := conv_bytes hr3
  have HB3 := Lib.hid (HB2.out.trans (hb3.mono HB2.out.size))
  clear hr3 hb3
  go_wp2_with (fail)
  go_ret
  exact ⟨rfl, HB3.out⟩
/-- What the reference's bytes are, with the list by name. -/
def RefOut (l : List Int) (w : World) (e : Ending) (w' : World) : Prop := ∃ A c, e = .returned (.slice A l.length c) ∧ RY w' w'.heap.size A l.length l ∧ Below w.heap.size w w'
theorem refbytes_any (x : Int) (w : World) : Calls Tryd.prog 11 #[.int .i32 x] w (RefOut (encB x) w) := rbytes_any x w
end Go.Proofs.YtjhgboncipnkeaaDoor.Ut
