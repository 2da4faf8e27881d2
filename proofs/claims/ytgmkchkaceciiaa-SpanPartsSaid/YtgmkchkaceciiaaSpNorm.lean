/- The walks of span.Norm and span.plain: the one plain list of a set. -/
import Derived.Test.YtgmkchkaceciiaaSpSort
import Derived.Test.YtgmkchkaceciiaaSpJoin
import Derived.Test.YtgmkchkaceciiaaSpGrow
namespace Go.Proofs.Ytgmkchkaceciiaa.Sp
set_option maxRecDepth 100000
open Go Go.RowKit Go.Shelf

theorem sort_none (p : Option Addr) (cap : Nat) (fv : Value) (w : World) : Calls Try.prog 47 #[.slice p 0 cap, fv] w fun e w' => e = .returned (.tuple #[]) ∧ w = w' := by
  have hcon := AnyF.slices_SortFunc_none sortSp p cap fv w
  change Calls Try.prog 47 _ _ _ at hcon
  exact hcon.mono fun _ _ ⟨he, hw⟩ => ⟨he, hw.symm⟩

def LayRel (l : List Span) (base n : Nat) (w : World) (v i : Value) (wr : World) : Prop := ∃ (k : Nat) (out : List Span), k ≤ n ∧ i = .int .i64 k ∧ LayInv l k out ∧ OwnsL wr base v out ∧ Below base w wr
/-- The result is the plain list of the set S, in memory of the call's own. -/
def SetOut (S : Int → Prop) (w : World) (e : Ending) (w' : World) : Prop := ∃ v out, e = .returned v ∧ Is out S ∧ OwnsL w' w.heap.size v out ∧ Below w.heap.size w w'
theorem lay_next {l out : List Span} {k : Nat} {lo hi : Int} (h : LayInv l k out) (hk : ∃ hl : k < l.length, l[k] = (lo, hi)) : LayInv l (k + 1) (putL out lo hi) := by
  obtain ⟨hl, e⟩ := hk
  have := h.next hl
  rw [e] at this
  exact this

set_option maxHeartbeats 1000000 in
theorem norm_any (A : Option Addr) (n c : Nat) (l : List Span) (w : World) (h : RS w w.heap.size A n l) (hn : n ≤ 1099511627776) :
    Calls Try.prog 21 #[.slice A n c] w (SetOut (mem l) w) := by
  go_enter Try.func21, Try.ntmps21
  go_wp2_with (fail)
  refine (grow_any _ _ (by omega) (by omega)).mono ?_
  rintro e w0 ⟨v0, rfl, ho0, hb0⟩
  have HO0 := Lib.hid ho0; clear ho0
  go_wp2_with (fail)
  go_loopw [3, 11] (fun v i wr => LayRel l w.heap.size n w v i wr) (fun _ i _ => n - (intOf i).toNat)
  case atStart => exact ⟨0, [], Nat.zero_le _, rfl, LayInv.start l, HO0.out, hb0⟩
  case round =>
    obtain ⟨k, out, hk, rfl, hi, ho, hb⟩ := hrel
    have hfew := hi.few
    have hz := hb.size
    have HI := Lib.hid hi; clear hi
    have HO := Lib.hid ho; clear ho
    by_cases hlt : k < n
    · obtain ⟨b, off, lo, hi, hA, hbB, hlk, hc1, hc2⟩ := (h.below hb).at_ hlt
      have hbs : b < wr.heap.size := by omega
      have HL := Lib.hid hlk; clear hlk
      subst hA
      have hput := fun X => put_any w.heap.size u3 out lo hi (wr.alloc X) (World.ownsRow.alloc HO.out X) (by simp; omega) (by omega)
      have HP := Lib.hid hput; clear hput
      go_wp2_with (go_at_call 45; go_must (refine (HP.out _).mono ?_); rintro e w1 ⟨v1, rfl, ho1, hb1⟩)
      go_roundw
      case rel => exact ⟨k + 1, _, by omega, by go_num, lay_next HI.out HL.out, ho1, (hb.alloc hz _).trans hb1⟩
      case measure => simp [intOf]; omega
    · have hkn : k = n := by omega
      have hset : ∀ x, mem out x ↔ mem l x := fun x => by rw [HI.out.set, List.take_of_length_le (by have := h.1; omega)]
      have HSET := Lib.hid hset; clear hset
      by_cases he : out = []
      · have ho2 := HO.out
        rw [he] at ho2
        obtain ⟨hx1, h2 | ⟨g, cap, cur, hv, hx2⟩⟩ := ho2
        · obtain ⟨rfl, _⟩ := h2
          go_wp2_with (fail)
          refine (sort_none none 0 _ _).mono ?_
          rintro e w1 ⟨rfl, rfl⟩
          go_wp2_with (fail)
          refine (join_none _).mono ?_
          rintro e w1 ⟨rfl, rfl⟩
          go_wp2_with (fail)
          go_ret
          exact ⟨_, [], rfl, ⟨Plain.nil, fun x => by rw [← HSET.out x, he]⟩, World.ownsRow_nil _ _ _ _, hb⟩
        · have ho1 : OwnsL wr w.heap.size (.slice (some ⟨g, 0, none⟩) ([] : List Span).length cap) [] := ⟨hx1, .inr ⟨g, cap, cur, rfl, hx2⟩⟩
          have HO1 := Lib.hid ho1; clear ho1 hx1 hx2
          subst hv
          go_wp2_with (fail)
          refine (sort_none _ cap _ _).mono ?_
          rintro e w1 ⟨rfl, rfl⟩
          go_wp2_with (fail)
          refine (join_any w.heap.size g cap [] _ HO1.out (by omega) List.Pairwise.nil (fun p hp => by cases hp) (by simp)).mono ?_
          rintro e w2 ⟨v2, out2, rfl, his, ho2, hb2⟩
          have HIS := Lib.hid his; clear his
          go_wp2_with (fail)
          go_ret
          exact ⟨v2, out2, rfl, HIS.out.congr fun x => by rw [← HSET.out x, he], ho2, hb.trans hb2⟩
      · obtain ⟨g, cap, hv, hbg, hgl⟩ := World.ownsRow.form HO.out (by cases out; exact absurd rfl he; simp)
        subst hv
        go_wp2_with (fail)
        refine (sort_any w.heap.size g cap out _ HO.out hz (by omega)).mono ?_
        rintro e w1 ⟨rfl, d', hp, hs, ho1, hb1⟩
        have hz1 := hb1.size
        have hlp := hp.length_eq
        have HSO := Lib.hid hs; clear hs
        have HPE := Lib.hid hp; clear hp
        have HO1 := Lib.hid ho1; clear ho1
        have HLP := Lib.hid hlp; clear hlp
        rw [← HLP.out]
        go_wp2_with (fail)
        refine (join_any w.heap.size g cap d' _ HO1.out (by omega) HSO.out (fun p hp => HI.out.ok p (HPE.out.mem_iff.1 hp)) (by rw [HLP.out]; omega)).mono ?_
        rintro e w2 ⟨v2, out2, rfl, his, ho2, hb2⟩
        have HIS := Lib.hid his; clear his
        go_wp2_with (fail)
        go_ret
        exact ⟨v2, out2, rfl, HIS.out.congr fun x => (mem_perm HPE.out x).trans (HSET.out x), ho2, (hb.trans hb1).trans hb2⟩

/-- A slice that reads as the plain list of the set S; it may be one that was handed in. -/
def PlainOut (S : Int → Prop) (w : World) (e : Ending) (w' : World) : Prop := ∃ A n c out, e = .returned (.slice A n c) ∧ Is out S ∧ RS w' w'.heap.size A n out ∧ n ≤ 1073741825 ∧ n ≤ c ∧ Below w.heap.size w w'
theorem own_RS {w : World} {base : Nat} {v : Value} {out : List Span} (h : OwnsL w base v out) : ∃ A c, v = .slice A out.length c ∧ out.length ≤ c ∧ RS w w.heap.size A out.length out := by
  obtain ⟨h1, h2⟩ := h
  rcases h2 with ⟨hv, hn⟩ | ⟨g, cap, cur, hv, hr⟩
  · have : out = [] := List.eq_nil_of_length_eq_zero hn
    subst this
    exact ⟨none, 0, hv, Nat.le_refl _, RS.nil_ _ _ _⟩
  · refine ⟨some ⟨g, 0, none⟩, cap, hv, hr.2.2.1, RS.of_own (base := base) (e := 61) (c := cap) ⟨h1, .inr ⟨g, cap, cur, rfl, hr⟩⟩⟩
set_option maxHeartbeats 400000 in
theorem plain_any (A : Option Addr) (n c : Nat) (l : List Span) (w : World) (h : RS w w.heap.size A n l) (hn : n ≤ 1099511627776) (hc : n ≤ c) :
    Calls Try.prog 42 #[.slice A n c] w (PlainOut (mem l) w) := by
  by_cases hp : Plain l
  · have hb := plainB_true hp
    have hs : n ≤ 1073741825 := by rw [← h.1]; exact hp.short
    have H := check_any A n c l w h hn
    rw [hb] at H
    have H2 := Lib.hid H; clear H hb
    go_enter Try.func42, Try.ntmps42
    go_wp2_with (go_at_call 38; go_must (refine H2.out.mono ?_); rintro e w1 ⟨rfl, hb1⟩)
    go_ret
    exact ⟨A, n, c, l, rfl, Is.self hp, h.belowM hb1, hs, hc, hb1⟩
  · have hb := plainB_false hp
    have H := check_any A n c l w h hn
    rw [hb] at H
    have H2 := Lib.hid H; clear H hb
    go_enter Try.func42, Try.ntmps42
    go_wp2_with (fail)
    refine H2.out.mono ?_
    rintro e w1 ⟨rfl, hb1⟩
    go_wp2_with (fail)
    refine (norm_any A n c l _ (h.belowM hb1) hn).mono ?_
    rintro e w2 ⟨v, out, rfl, his, ho, hb2⟩
    obtain ⟨A', c', hv, hc', hrs⟩ := own_RS ho
    subst hv
    go_wp2_with (fail)
    go_ret
    exact ⟨A', out.length, c', out, rfl, his, hrs, his.1.short, hc', hb1.trans (hb2.mono hb1.size)⟩
end Go.Proofs.Ytgmkchkaceciiaa.Sp
