/- The walks of term.Const, term.Copy, the document's Same (of two terms that are the same), the law's great. -/
import Derived.Test.YtgmkchkaceciiaaTeBase
namespace Go.Proofs.Ytgmkchkaceciiaa.Te
set_option maxRecDepth 100000
open Go Go.RowKit Go.Proofs.Ytgmkchkaceciiaa.Sp Go.Proofs.Ytgmkchkaceciiaa.Pa

/-- A term is returned, whose parts are l. -/
def RetT (b d t u s : Int) (l : List PT) (w : World) (e : Ending) (w' : World) : Prop :=
  ∃ A c, e = .returned (trm b d t u s A l.length c) ∧ RP w' w'.heap.size A l.length l ∧ l.length ≤ c ∧ Below w.heap.size w w'

def RetN0 (b d t u s : Int) (w : World) (e : Ending) (w' : World) : Prop := e = .returned (trm b d t u s none 0 0) ∧ Below w.heap.size w w'
theorem row_one {w : World} {a d t u : Int} {ty : TypeId} : RP (w.alloc (.cells #[.int .i64 a, .int .i64 d, .int .i64 t, .int .i64 u] ty)) (w.heap.size + 1) (some ⟨w.heap.size, 0, none⟩) 1 [(a, d, t, u)] :=
  ⟨rfl, fun _ => ⟨w.heap.size, 0, rfl, by omega, fun j hj => by
    obtain rfl : j = 0 := by simp at hj; omega
    refine ⟨?_, ?_, ?_, ?_⟩ <;> simp⟩⟩
def SRel (l : List PT) (B : Nat) (w2 : World) (iv : Value) (wr : World) : Prop := ∃ k : Nat, k ≤ l.length ∧ iv = .int .i64 k ∧ Below B w2 wr
attribute [local go_sem] part_guard part_eqN
set_option maxHeartbeats 4000000 in
theorem rsame_eq (b d t u s : Int) (A B : Option Addr) (n c e : Nat) (l : List PT) (w : World) (h : RP w w.heap.size A n l) (h' : RP w w.heap.size B n l) (hn : n ≤ maxLen) :
    Calls Try.prog 91 #[trm b d t u s A n c, trm b d t u s B n e] w (RetB true w) := by
  unfold maxLen at hn
  have hlen := h.1
  subst hlen
  have hb1 : Below w.heap.size w (w.alloc (.cells (tcells b d t u s A l.length c) 114)) := (Below.refl _ w).alloc (Nat.le_refl _) _
  obtain ⟨w1, hw1⟩ : ∃ w1, w.alloc (.cells (tcells b d t u s A l.length c) 114) = w1 := ⟨_, rfl⟩
  have hs1 : w1.heap.size = w.heap.size + 1 := by rw [← hw1]; simp
  have hbw : Below w1.heap.size w1 (w1.alloc (.cells (tcells b d t u s B l.length e) 114)) := (Below.refl _ w1).alloc (Nat.le_refl _) _
  obtain ⟨w0, hw0⟩ : ∃ w0, w1.alloc (.cells (tcells b d t u s B l.length e) 114) = w0 := ⟨_, rfl⟩
  have hs0 : w0.heap.size = w.heap.size + 1 + 1 := by rw [← hw0]; simp [hs1]
  have X5 := Lib.hid (fun W (hb : Below w0.heap.size w0 W) => show Boxed6 W w.heap.size b d t u s A l.length c from by
    rw [← hw1] at hbw hw0
    rw [← hw0] at hb
    exact boxed6 (((Below.refl _ _).alloc (Nat.le_refl _) _).trans (hb.mono (by simp))))
  have X6 := Lib.hid (fun W (hb : Below w0.heap.size w0 W) => show Boxed6 W w1.heap.size b d t u s B l.length e from by rw [← hw0] at hb; exact boxed6 hb)
  rw [hw0] at hbw
  rw [hw1] at hb1
  have HW := Lib.hid (hb1.trans (hbw.mono hb1.size))
  have H := Lib.hid (h.belowM HW.out)
  have H' := Lib.hid (h'.belowM HW.out)
  obtain ⟨r0, r1, r2, r3, r4, r5⟩ := X5.out w0 (Below.refl _ _)
  obtain ⟨q0, q1, q2, q3, q4, q5⟩ := X6.out w0 (Below.refl _ _)
  rw [hs1] at X6 q0 q1 q2 q3 q4 q5
  clear h h' hbw hb1
  go_enter Try.func91, Try.ntmps91
  go_wp2_with (fail)
  go_loopw [5] (fun i wr => SRel l w0.heap.size w0 i wr) (fun i _ => l.length - (intOf i).toNat)
  case atStart => exact ⟨0, Nat.zero_le _, rfl, Below.refl _ _⟩
  case round =>
    obtain ⟨k, hk, rfl, hb⟩ := hrel
    have HB := Lib.hid hb
    have hz := hb.size
    obtain ⟨y0, y1, y2, y3, y4, y5⟩ := X5.out wr hb
    obtain ⟨z0, z1, z2, z3, z4, z5⟩ := X6.out wr hb
    clear r0 r1 r2 r3 r4 r5 q0 q1 q2 q3 q4 q5
    by_cases hlt : k < l.length
    · obtain ⟨bb, off, a', d', t', u', hA', hbB, hlk, c1, c2, c3, c4⟩ := (H.out.below hb).at_ hlt
      obtain ⟨bb', off', a'', d'', t'', u'', hA'', hbB', hlk', c1', c2', c3', c4'⟩ := (H'.out.below hb).at_ hlt
      subst hA' hA''
      obtain ⟨hl, e1⟩ := hlk
      obtain ⟨_, e2⟩ := hlk'
      rw [e1] at e2
      injection e2 with f1 f2
      injection f2 with f2 f3
      injection f3 with f3 f4
      subst f1 f2 f3 f4
      clear e1 hb
      go_wp2_with (fail)
      go_quiet (fail)
      go_wp2_with (fail)
      go_roundw
      case rel => exact ⟨k + 1, by omega, by go_num, below_drewN HB.out _⟩
      case measure => simp [intOf]; omega
    · have hkl : k = l.length := by omega
      subst hkl
      clear hb
      go_wp2_with (fail)
      go_ret
      exact ⟨rfl, HW.out.trans (HB.out.mono HW.out.size)⟩
end Go.Proofs.Ytgmkchkaceciiaa.Te
