/- The walks of part.Image and part.Same. -/
import Derived.Test.YtldpoaknddhjfaaPaImgMath
namespace Go.Proofs.Ytldpoaknddhjfaa.Pa
set_option maxRecDepth 100000
open Go Go.RowKit Go.Proofs.Ytldpoaknddhjfaa.Sp

def ImgRel (d t : Int) (p : List Span) (w2 : World) (v i : Value) (wr : World) : Prop := ∃ k : Nat, k ≤ p.length ∧ i = .int .i64 k ∧ OwnsL wr w2.heap.size v (takL d t (p.take k)) ∧ Below w2.heap.size w2 wr
set_option maxHeartbeats 2000000 in
theorem image_any (a d t u : Int) (A : Option Addr) (n c : Nat) (s : List Span) (w : World) (h : RS w w.heap.size A n s) (hn : n ≤ 1099511627776) (hc : n ≤ c) :
    Calls Try.prog 15 #[prt a d t u, .slice A n c] w (SetOut (ImgS d t u s) w) := by
  have HV := Lib.hid (fun W (hW : RS W W.heap.size A n s) => valued_any a d t u A n c s W hW hn hc)
  have H := Lib.hid h
  obtain ⟨w0, hw0⟩ : ∃ w0, w.alloc (.cells #[.int .i64 a, .int .i64 d, .int .i64 t, .int .i64 u] 23) = w0 := ⟨_, rfl⟩
  have hbw : Below w.heap.size w w0 := by rw [← hw0]; exact (Below.refl _ w).alloc (Nat.le_refl _) _
  have hz0 : w0.heap.size = w.heap.size + 1 := by rw [← hw0]; simp
  have q0 : ∀ (W : World), Below w0.heap.size w0 W → W.cell? ⟨w.heap.size, 0, none⟩ = some (.int .i64 a) ∧ W.cell? ⟨w.heap.size, 1, none⟩ = some (.int .i64 d) ∧ W.cell? ⟨w.heap.size, 2, none⟩ = some (.int .i64 t) ∧ W.cell? ⟨w.heap.size, 3, none⟩ = some (.int .i64 u) := by
    rw [← hw0]; exact fun W hW => boxed4 hW
  obtain ⟨q1, q2, q3, q4⟩ := q0 w0 (Below.refl _ _)
  have Q0 := Lib.hid q0
  have HW := Lib.hid hbw
  clear h q0 hbw hn hc
  go_enter Try.func15, Try.ntmps15
  go_wp2_with (fail)
  refine (HV.out _ (H.out.belowM HW.out)).mono ?_
  rintro e w2 ⟨v2, p, rfl, his, ho, hb2⟩
  obtain ⟨A2, c2, hv2, hc2, hr2⟩ := own_RS ho
  subst hv2
  have hz2 := hb2.size
  have hs := his.1.short
  have HI := Lib.hid his
  have HR := Lib.hid hr2
  have HB2 := Lib.hid hb2
  have hlow : p ≠ [] → Bits d t u ∧ Low p := fun hp => by
    have hl : Low p := low_of his.1 fun x hx => ((his.2 x).1 hx).2.2
    obtain ⟨q, l, rfl⟩ := List.exists_cons_of_ne_nil hp
    obtain ⟨x1, x2, x3⟩ := his.1.2 q (by simp)
    exact ⟨((his.2 q.1).1 ⟨by unfold Rng; omega, q, by simp, Int.le_refl _, x1⟩).1, hl⟩
  have HL := Lib.hid hlow
  clear q1 q2 q3 q4 hw0 his hr2 ho hb2 hlow HV
  go_wp2_with (fail)
  go_loopw [5, 12] (fun v i wr => ImgRel d t p w2 v i wr) (fun _ i _ => p.length - (intOf i).toNat)
  case atStart => exact ⟨0, Nat.zero_le _, rfl, World.ownsRow_nil _ _ _ _, Below.refl _ _⟩
  case round =>
    obtain ⟨k, hk, rfl, ho, hb⟩ := hrel
    have hz := hb.size
    have HO := Lib.hid ho
    have HB := Lib.hid hb
    by_cases hlt : k < p.length
    · obtain ⟨b, off, lo, hi, hA, hbB, hlk, hc1, hc2'⟩ := (HR.out.below hb).at_ hlt
      have hbs : b < wr.heap.size := by omega
      obtain ⟨hbits, hl⟩ := HL.out (fun e => by rw [e] at hlt; simp at hlt)
      have hq := hl p[k] (List.getElem_mem hlt)
      have hq0 : 0 ≤ lo ∧ lo ≤ hi ∧ hi ≤ 2097151 := by obtain ⟨hl1, e1⟩ := hlk; rw [e1] at hq; exact hq
      have HNX := Lib.hid (takL_next (d := d) (t := t) hlk)
      have hlen := takL_len d t (p.take k)
      rw [List.length_take] at hlen
      have HBI := Lib.hid hbits
      obtain ⟨r0, r1, r2, r3⟩ := Q0.out wr (HB2.out.trans (hb.mono hz2))
      have hwz : w.heap.size < wr.heap.size := by omega
      clear hlk hq hl hbits ho hb
      subst hA
      go_wp2_with (fail)
      refine (take_any w2.heap.size _ (takL d t (p.take k)) a d t u lo hi _ (show OwnsL _ _ _ _ from World.ownsRow.alloc HO.out _) (by simp; omega) (by omega) HBI.out hq0.1 hq0.2.1 hq0.2.2).mono ?_
      rintro e w3 ⟨v3, rfl, ho3, hb3⟩
      have HO3 := Lib.hid ho3
      have HB3 := Lib.hid ((HB.out.alloc hz _).trans hb3)
      clear ho3 hb3
      go_wp2_with (fail)
      go_roundw
      case rel => exact ⟨k + 1, by omega, by go_num, by rw [HNX.out]; exact HO3.out, HB3.out⟩
      case measure => simp [intOf]; omega
    · have hT : p.take k = p := List.take_of_length_le (by omega)
      rw [hT] at ho
      obtain ⟨A5, c5, hv5, hc5, hr5⟩ := own_RS ho
      subst hv5
      have hlen := takL_len d t p
      have hbB : Below w0.heap.size w0 wr := HB2.out.trans (hb.mono hz2)
      obtain ⟨r0, r1, r2, r3⟩ := Q0.out wr hbB
      have HR5 := Lib.hid hr5
      have HBB := Lib.hid hbB
      have HWB := Lib.hid (HW.out.trans (hbB.mono (by omega)))
      have hwz : w.heap.size < wr.heap.size := by have := hbB.size; omega
      clear hT ho hr5 hb HO hbB HB
      go_wp2_with (fail)
      go_region_held3 (fun w' => w'.cell? ⟨w.heap.size, 0, none⟩ = some (.int .i64 a) ∧ w'.cell? ⟨w.heap.size, 1, none⟩ = some (.int .i64 d) ∧ w'.cell? ⟨w.heap.size, 2, none⟩ = some (.int .i64 t) ∧ w'.cell? ⟨w.heap.size, 3, none⟩ = some (.int .i64 u))
        (first
          | go_keep
          | (go_split_ands; refine ⟨?_, ?_, ?_, ?_⟩; all_goals (rw [hb7.cell (by simp; omega)]; assumption))
          | (go_split_ands; refine ⟨?_, ?_, ?_, ?_⟩; all_goals (rw [hb6.cell (by simp; omega)]; assumption)))
        (first
          | (go_at_call 20; refine (norm_any A5 (takL d t p).length c5 (takL d t p) _ (HR5.out.belowM (Below.refl _ wr).drew) (by omega)).mono ?_; rintro e w6 ⟨v6, tk, rfl, his6, ho6, hb6⟩; have hz6 : wr.heap.size ≤ w6.heap.size := by (have := hb6.size; simpa using this))
          | (go_at_call 19; refine (raise_any a d t u wr.heap.size v6 tk _ (own_mono ho6 (by simp)) hz6 his6.1 (fun hne => ?_)).mono ?_; (· exact bits_up HI.out his6 hne); rintro e w7 ⟨v7, rfl, ho7, hb7⟩))
      have HIM := Lib.hid (img_is HI.out his6)
      have HO7 := Lib.hid (own_mono ho7 (Nat.le_of_lt hwz))
      have HB7 := Lib.hid ((HWB.out.drew.trans (hb6.mono (by simp; omega))).trans (hb7.mono (Nat.le_of_lt hwz)))
      clear ho7 hb7 ho6 hb6 his6
      go_wp2_with (fail)
      go_ret
      exact ⟨v7, _, rfl, HIM.out, HO7.out, HB7.out⟩
end Go.Proofs.Ytldpoaknddhjfaa.Pa
