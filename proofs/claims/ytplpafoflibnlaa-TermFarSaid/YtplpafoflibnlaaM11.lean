/- Texts of this proof, joined: SpNorm, SpMinus, SpMake, SpMake0, SpNums, SpClone, SpMake1. -/
import Derived.Test.YtplpafoflibnlaaM3
import Derived.Test.YtplpafoflibnlaaM6
import Derived.Test.YtplpafoflibnlaaM8
import Derived.Test.YtplpafoflibnlaaM10
import Derived.OwnWalk
/- The walks of span.Norm and span.plain: the one plain list of a set. -/
namespace Go.Proofs.Ytplpafoflibnlaa.Sp
set_option maxRecDepth 100000
open Go Go.RowKit Go.Shelf

theorem sort_none (p : Option Addr) (cap : Nat) (fv : Value) (w : World) : Calls Try.prog 77 #[.slice p 0 cap, fv] w fun e w' => e = .returned (.tuple #[]) ∧ w = w' := by
  have hcon := AnyF.slices_SortFunc_none sortSp p cap fv w
  change Calls Try.prog 77 _ _ _ at hcon
  exact hcon.mono fun _ _ ⟨he, hw⟩ => ⟨he, hw.symm⟩

def LayRel (l : List Span) (base n : Nat) (w : World) (v i : Value) (wr : World) : Prop := ∃ (k : Nat) (out : List Span), k ≤ n ∧ i = .int .i64 k ∧ LayInv l k out ∧ OwnsL wr base v out ∧ Below base w wr
/-- The result is the plain list of the set S, in memory of the call's own. -/
def SetOut (S : Int → Prop) (w : World) (e : Ending) (w' : World) : Prop := ∃ v out, e = .returned v ∧ Is out S ∧ OwnsL w' w.heap.size v out ∧ Below w.heap.size w w'
theorem lay_next {l out : List Span} {k : Nat} {lo hi : Int} (h : LayInv l k out) (hk : ∃ hl : k < l.length, l[k] = (lo, hi)) : LayInv l (k + 1) (putL out lo hi) := by
  obtain ⟨hl, e⟩ := hk
  have := h.next hl
  rw [e] at this
  exact this

set_option maxHeartbeats 1000000 in
theorem norm_any (A : Option Addr) (n c : Nat) (l : List Span) (w : World) (h : RS w w.heap.size A n l) (hn : n ≤ 1099511627776) :
    Calls Try.prog 43 #[.slice A n c] w (SetOut (mem l) w) := by
  go_enter Try.func43, Try.ntmps43
  go_wp2_with (fail)
  refine (grow_any _ _ (by omega) (by omega)).mono ?_
  rintro e w0 ⟨v0, rfl, ho0, hb0⟩
  have HO0 := Lib.hid ho0; clear ho0
  go_wp2_with (fail)
  go_loopw [3, 11] (fun v i wr => LayRel l w.heap.size n w v i wr) (fun _ i _ => n - (intOf i).toNat)
  case atStart => exact ⟨0, [], Nat.zero_le _, rfl, LayInv.start l, HO0.out, hb0⟩
  case round =>
    obtain ⟨k, out, hk, rfl, hi, ho, hb⟩ := hrel
    have hfew := hi.few
    have hz := hb.size
    have HI := Lib.hid hi; clear hi
    have HO := Lib.hid ho; clear ho
    by_cases hlt : k < n
    · obtain ⟨b, off, lo, hi, hA, hbB, hlk, hc1, hc2⟩ := (h.below hb).at_ hlt
      have hbs : b < wr.heap.size := by omega
      have HL := Lib.hid hlk; clear hlk
      subst hA
      have hput := fun X => put_any w.heap.size u3 out lo hi (wr.alloc X) (World.ownsRow.alloc HO.out X) (by simp; omega) (by omega)
      have HP := Lib.hid hput; clear hput
      go_wp2_with (go_at_call 65; go_must (refine (HP.out _).mono ?_); rintro e w1 ⟨v1, rfl, ho1, hb1⟩)
      go_roundw
      case rel => exact ⟨k + 1, _, by omega, by go_num, lay_next HI.out HL.out, ho1, (hb.alloc hz _).trans hb1⟩
      case measure => simp [intOf]; omega
    · have hkn : k = n := by omega
      have hset : ∀ x, mem out x ↔ mem l x := fun x => by rw [HI.out.set, List.take_of_length_le (by have := h.1; omega)]
      have HSET := Lib.hid hset; clear hset
      by_cases he : out = []
      · have ho2 := HO.out
        rw [he] at ho2
        obtain ⟨hx1, h2 | ⟨g, cap, cur, hv, hx2⟩⟩ := ho2
        · obtain ⟨rfl, _⟩ := h2
          go_wp2_with (fail)
          refine (sort_none none 0 _ _).mono ?_
          rintro e w1 ⟨rfl, rfl⟩
          go_wp2_with (fail)
          refine (join_none _).mono ?_
          rintro e w1 ⟨rfl, rfl⟩
          go_wp2_with (fail)
          go_ret
          exact ⟨_, [], rfl, ⟨Plain.nil, fun x => by rw [← HSET.out x, he]⟩, World.ownsRow_nil _ _ _ _, hb⟩
        · have ho1 : OwnsL wr w.heap.size (.slice (some ⟨g, 0, none⟩) ([] : List Span).length cap) [] := ⟨hx1, .inr ⟨g, cap, cur, rfl, hx2⟩⟩
          have HO1 := Lib.hid ho1; clear ho1 hx1 hx2
          subst hv
          go_wp2_with (fail)
          refine (sort_none _ cap _ _).mono ?_
          rintro e w1 ⟨rfl, rfl⟩
          go_wp2_with (fail)
          refine (join_any w.heap.size g cap [] _ HO1.out (by omega) List.Pairwise.nil (fun p hp => by cases hp) (by simp)).mono ?_
          rintro e w2 ⟨v2, out2, rfl, his, ho2, hb2⟩
          have HIS := Lib.hid his; clear his
          go_wp2_with (fail)
          go_ret
          exact ⟨v2, out2, rfl, HIS.out.congr fun x => by rw [← HSET.out x, he], ho2, hb.trans hb2⟩
      · obtain ⟨g, cap, hv, hbg, hgl⟩ := World.ownsRow.form HO.out (by cases out; exact absurd rfl he; simp)
        subst hv
        go_wp2_with (fail)
        refine (sort_any w.heap.size g cap out _ HO.out hz (by omega)).mono ?_
        rintro e w1 ⟨rfl, d', hp, hs, ho1, hb1⟩
        have hz1 := hb1.size
        have hlp := hp.length_eq
        have HSO := Lib.hid hs; clear hs
        have HPE := Lib.hid hp; clear hp
        have HO1 := Lib.hid ho1; clear ho1
        have HLP := Lib.hid hlp; clear hlp
        rw [← HLP.out]
        go_wp2_with (fail)
        refine (join_any w.heap.size g cap d' _ HO1.out (by omega) HSO.out (fun p hp => HI.out.ok p (HPE.out.mem_iff.1 hp)) (by rw [HLP.out]; omega)).mono ?_
        rintro e w2 ⟨v2, out2, rfl, his, ho2, hb2⟩
        have HIS := Lib.hid his; clear his
        go_wp2_with (fail)
        go_ret
        exact ⟨v2, out2, rfl, HIS.out.congr fun x => (mem_perm HPE.out x).trans (HSET.out x), ho2, (hb.trans hb1).trans hb2⟩

/-- A slice that reads as the plain list of the set S; it may be one that was handed in. -/
def PlainOut (S : Int → Prop) (w : World) (e : Ending) (w' : World) : Prop := ∃ A n c out, e = .returned (.slice A n c) ∧ Is out S ∧ RS w' w'.heap.size A n out ∧ n ≤ 1073741825 ∧ n ≤ c ∧ Below w.heap.size w w'
theorem own_RS {w : World} {base : Nat} {v : Value} {out : List Span} (h : OwnsL w base v out) : ∃ A c, v = .slice A out.length c ∧ out.length ≤ c ∧ RS w w.heap.size A out.length out := by
  obtain ⟨h1, h2⟩ := h
  rcases h2 with ⟨hv, hn⟩ | ⟨g, cap, cur, hv, hr⟩
  · have : out = [] := List.eq_nil_of_length_eq_zero hn
    subst this
    exact ⟨none, 0, hv, Nat.le_refl _, RS.nil_ _ _ _⟩
  · refine ⟨some ⟨g, 0, none⟩, cap, hv, hr.2.2.1, RS.of_own (base := base) (e := 60) (c := cap) ⟨h1, .inr ⟨g, cap, cur, rfl, hr⟩⟩⟩
set_option maxHeartbeats 400000 in
theorem plain_any (A : Option Addr) (n c : Nat) (l : List Span) (w : World) (h : RS w w.heap.size A n l) (hn : n ≤ 1099511627776) (hc : n ≤ c) :
    Calls Try.prog 62 #[.slice A n c] w (PlainOut (mem l) w) := by
  by_cases hp : Plain l
  · have hb := plainB_true hp
    have hs : n ≤ 1073741825 := by rw [← h.1]; exact hp.short
    have H := check_any A n c l w h hn
    rw [hb] at H
    have H2 := Lib.hid H; clear H hb
    go_enter Try.func62, Try.ntmps62
    go_wp2_with (go_at_call 91; go_must (refine H2.out.mono ?_); rintro e w1 ⟨rfl, hb1⟩)
    go_ret
    exact ⟨A, n, c, l, rfl, Is.self hp, h.belowM hb1, hs, hc, hb1⟩
  · have hb := plainB_false hp
    have H := check_any A n c l w h hn
    rw [hb] at H
    have H2 := Lib.hid H; clear H hb
    go_enter Try.func62, Try.ntmps62
    go_wp2_with (fail)
    refine H2.out.mono ?_
    rintro e w1 ⟨rfl, hb1⟩
    go_wp2_with (fail)
    refine (norm_any A n c l _ (h.belowM hb1) hn).mono ?_
    rintro e w2 ⟨v, out, rfl, his, ho, hb2⟩
    obtain ⟨A', c', hv, hc', hrs⟩ := own_RS ho
    subst hv
    go_wp2_with (fail)
    go_ret
    exact ⟨A', out.length, c', out, rfl, his, hrs, his.1.short, hc', hb1.trans (hb2.mono hb1.size)⟩
end Go.Proofs.Ytplpafoflibnlaa.Sp
/- The walks of span.Minus and span.Within. -/
namespace Go.Proofs.Ytplpafoflibnlaa.Sp
set_option maxRecDepth 100000
open Go Go.RowKit

theorem own_mono {w : World} {base base' : Nat} {v : Value} {xs : List Span} (h : OwnsL w base v xs) (hb : base' ≤ base) : OwnsL w base' v xs := by
  obtain ⟨h1, h2⟩ := h
  refine ⟨h1, ?_⟩
  rcases h2 with h2 | ⟨g, cap, cur, hv, hg, hr⟩
  · exact .inl h2
  · exact .inr ⟨g, cap, cur, hv, by omega, hr⟩
end Go.Proofs.Ytplpafoflibnlaa.Sp
/- The walk of ref.Make. -/
namespace Go.Proofs.Ytplpafoflibnlaa.Sp
set_option maxRecDepth 100000
open Go Go.RowKit

theorem quiet_left {P : Program} {f : FuncId} {args : Array Value} {w : World} {n : Nat} {v : Value} (h : Calls P f args (w.drewN n) (RetW v (w.drewN n))) : Calls P f args (w.drewN n) fun e w'' => e = .returned v ∧ ∃ m, w'' = w.drewN m :=
  h.mono fun _ _ ⟨he, hm⟩ => ⟨he, n, hm.symm⟩
def MakeRel (bs : List Int) (P : Int → Prop) (B : Nat) (w1 : World) (out i : Value) (wr : World) : Prop :=
  ∃ (k : Nat) (o : List Span) (A : Option Addr) (c : Nat), k ≤ bs.length ∧ i = .int .i64 k ∧ out = .slice A o.length c ∧ OwnsL wr B (.slice A o.length c) o ∧ MakeInv bs P k o ∧ Below B w1 wr

theorem own_last {w : World} {base g cap : Nat} {o : List Span} {rl rh : Int} (h : OwnsL w base (.slice (some ⟨g, 0, none⟩) (o ++ [(rl, rh)]).length cap) (o ++ [(rl, rh)])) : w.cell? ⟨g, o.length * 2 + 1, none⟩ = some (.int .i64 rh) := by
  rw [World.ownsRow.cellAt h _ (by simp; omega)]
  have := (flat_at (o ++ [(rl, rh)]) o.length (by simp)).2
  rw [show o.length * 2 + 1 = 2 * o.length + 1 from by omega, this, List.getElem_append_right (by omega)]
  simp
theorem own_turn {w : World} {base g cap : Nat} {o : List Span} {rl rh to : Int} (h : OwnsL w base (.slice (some ⟨g, 0, none⟩) (o ++ [(rl, rh)]).length cap) (o ++ [(rl, rh)])) :
    OwnsL (w.setCell ⟨g, o.length * 2 + 1, none⟩ (.int .i64 to)) base (.slice (some ⟨g, 0, none⟩) (o ++ [(rl, to)]).length cap) (o ++ [(rl, to)]) := by
  have h1 := (World.ownsRow.stored h (o.length * 2 + 1) (.int .i64 to)).1
  have e : (flat (o ++ [(rl, rh)])).set (o.length * 2 + 1) (.int .i64 to) = flat (o ++ [(rl, to)]) := by
    rw [flat_append, flat_append, List.set_append_right _ _ (by rw [flat_length]; omega), flat_length]
    rw [show o.length * 2 + 1 - o.length * 2 = 1 from by omega]
    rfl
  rw [e] at h1
  unfold OwnsL
  simp only [List.length_append, List.length_singleton] at h1 ⊢
  exact h1
theorem own_turn0 {w : World} {base g cap j : Nat} {o : List Span} {rl rh : Int} (h : OwnsL w base (.slice (some ⟨g, 0, none⟩) (j + 1) cap) (o ++ [(rl, rh)])) (hj : o.length = j) (to : Int) :
    OwnsL (w.setCell ⟨g, j * 2 + 1, none⟩ (.int .i64 to)) base (.slice (some ⟨g, 0, none⟩) (o ++ [(rl, to)]).length cap) (o ++ [(rl, to)]) := by
  subst hj
  exact own_turn (by simpa using h)
theorem own_of_form {w : World} {base : Nat} {A : Option Addr} {c : Nat} {o : List Span} (h : OwnsL w base (.slice A o.length c) o) (hp : 0 < o.length) : ∃ g, A = some ⟨g, 0, none⟩ ∧ base ≤ g ∧ g < w.heap.size := by
  obtain ⟨g, cap, hv, hb, hl⟩ := World.ownsRow.form h hp
  injection hv with hA
  exact ⟨g, hA, hb, hl⟩

end Go.Proofs.Ytplpafoflibnlaa.Sp
/- The walk of ref.Make, where it is asked for the union. -/
namespace Go.Proofs.Ytplpafoflibnlaa.Sp
set_option maxRecDepth 100000
open Go Go.RowKit

set_option maxRecDepth 100000 in
set_option maxHeartbeats 16000000 in
theorem rmake0 (A A' : Option Addr) (n n' c c' : Nat) (l r : List Span) (w : World) (h : RS w w.heap.size A n l) (h' : RS w w.heap.size A' n' r) (hn : n ≤ 68719476736) (hn' : n' ≤ 68719476736) :
    Calls Try.prog 37 #[.slice A n c, .slice A' n' c', .int .i64 0] w (SetOut (fun x => Rng x ∧ inP 0 (memB l x) (memB r x) = true) w) := by
  obtain ⟨i0, hi0, hz0, hz1, hz2⟩ := info_parts infoSpan
  go_enter Try.func37, Try.ntmps37
  go_wp2_with (fail)
  refine (rborders_any A A' n n' c c' l r _ h h' hn hn').mono ?_
  rintro e w1 ⟨g, cap, bs, rfl, ho1, hB, hb1⟩
  have hz1' := hb1.size
  have hgs := (ho1.lt g rfl).2
  have hrl := h.belowM hb1
  have hrr := h'.belowM hb1
  have hfew := hB.few
  rw [List.length_append, h.1, h'.1] at hfew
  have HS := Lib.hid (segs_of hB 0); clear hB
  have HO1 := Lib.hid ho1; clear ho1
  go_wp2_with (fail)
  go_loopw [7, 9] (fun out i wr => MakeRel bs (fun x => inP 0 (memB l x) (memB r x) = true) w1.heap.size w1 out i wr) (fun _ i _ => bs.length - (intOf i).toNat)
  case atStart => exact ⟨0, [], none, 0, Nat.zero_le _, rfl, rfl, World.ownsRow_nil _ _ _ _, MakeInv.start HS.out, Below.refl _ _⟩
  case round =>
    obtain ⟨k, o, Ao, co, hk, rfl, rfl, ho, hi, hb⟩ := hrel
    have hz := hb.size
    have HO := Lib.hid ho; clear ho
    have HI := Lib.hid hi; clear hi
    by_cases hlt : k < bs.length
    · obtain ⟨y, hy⟩ : ∃ y, bs[k] = y := ⟨_, rfl⟩
      have hcy : wr.cell? ⟨g, k, none⟩ = some (.int .i64 y) := by rw [hb.cell (p := ⟨g, k, none⟩) hgs, own_cell HO1.out hlt, hy]
      have hyr : -1073741824 ≤ y ∧ y ≤ 1073741824 := by have := HS.out.rng _ (List.getElem_mem hlt); rw [hy] at this; exact this
      have hgw : g < wr.heap.size := by omega
      have hoL := HI.out.plain.short
      have HY := Lib.hid hy; clear hy
      obtain ⟨bx, hbx⟩ : ∃ bx, memB l y = bx := ⟨_, rfl⟩
      obtain ⟨bY, hby⟩ : ∃ bY, memB r y = bY := ⟨_, rfl⟩
      have HX := Lib.hid (fun nq => rhas_any A n c l y (wr.drewN nq) ((hrl.below hb).more hz) (by omega))
      have HYY := Lib.hid (fun nq => rhas_any A' n' c' r y (wr.drewN nq) ((hrr.below hb).more hz) (by omega))
      rw [hbx] at HX
      rw [hby] at HYY
      have HBX := Lib.hid hbx; clear hbx
      have HBY := Lib.hid hby; clear hby
      cases bx
      · cases bY
        · go_wp2_with (fail)
          go_quiet ((first | (go_at_call_of 47 (Value.slice A n c); exact quiet_left (HX.out _)) | (go_at_call_of 47 (Value.slice A' n' c'); exact quiet_left (HYY.out _))))
          go_wp2_with (fail)
          go_roundw
          case rel => exact ⟨k + 1, o, Ao, co, by omega, by go_num, rfl, HO.out, HI.out.skip HS.out hlt (by show ¬ inP 0 (memB l bs[k]) (memB r bs[k]) = true; rw [HY.out, HBX.out, HBY.out]; decide), below_drewN hb _⟩
          case measure => simp [intOf]; omega
        · by_cases hk1 : k + 1 < bs.length
          · obtain ⟨z, hz'⟩ : ∃ z, bs[k + 1] = z := ⟨_, rfl⟩
            have hcz : wr.cell? ⟨g, k + 1, none⟩ = some (.int .i64 z) := by rw [hb.cell (p := ⟨g, k + 1, none⟩) hgs, own_cell HO1.out hk1, hz']
            have hzr : -1073741824 ≤ z ∧ z ≤ 1073741824 := by have := HS.out.rng _ (List.getElem_mem hk1); rw [hz'] at this; exact this
            have HT := Lib.hid (show segEnd bs k (z - 1) from ⟨fun _ => by rw [hz'], fun h => absurd hk1 h⟩)
            clear hz'
            rcases List.eq_nil_or_concat o with rfl | ⟨o, ⟨rl, rh⟩, rfl⟩
            · have hd0 : decide ((0 : Int) < ((0 : Nat) : Int)) = false := by simp
              simp only [List.length_nil]
              go_wp2_with (fail)
              go_quiet ((first | (go_at_call_of 47 (Value.slice A n c); exact quiet_left (HX.out _)) | (go_at_call_of 47 (Value.slice A' n' c'); exact quiet_left (HYY.out _))))
              go_wp2_with (fail)
              go_quiet (fail)
              go_wp2_with (at_builtin; go_must (refine wpList_append_own _ rfl _ _ 25 rfl w1.heap.size 60 i0 _ 2 16 Try.underlying25 hi0 hz0 hz1 hz2 rfl (by decide) _ ([]).length (flat ([])) rfl (by exact World.ownsRow.alloc HO.out _) ⟨wr.heap.size, 0, none⟩ 1 1 [.int .i64 y, .int .i64 (z - 1)] rfl rfl (cell_two _ _ _ _) ?c2 ?c3 ?c4 ?c5 ?_))
              case c2 => intro u hu; simp at hu; rcases hu with rfl | rfl <;> rfl
              case c3 => simp only [List.length_nil, maxLen]; omega
              case c4 => simp only [List.length_nil]; omega
              case c5 => simp only [World.size_alloc]; exact Nat.le_succ_of_le hz
              intro v1 w4 hown1 hg1 _
              have hown2 : OwnsL w4 w1.heap.size v1 ([] ++ [(y, z - 1)]) := by
                unfold OwnsL; rw [flat_append, List.length_append]; exact hown1
              have HG1 := Lib.hid (((below_drewN hb _).alloc hz _).grown hg1 (by simp; omega) (own_ge HO.out))
              obtain ⟨A5, c5, hv5, _, _⟩ := own_RS hown2
              subst hv5
              have HO5 := Lib.hid hown2; clear hown2 hown1 hg1
              go_wp2_with (fail)
              go_roundw
              case rel => exact ⟨k + 1, _, A5, c5, by omega, by go_num, rfl, HO5.out, by have := HI.out.more HS.out hlt (by show inP 0 (memB l bs[k]) (memB r bs[k]) = true; rw [HY.out, HBX.out, HBY.out]; rfl) HT.out (fun r hr => by simp at hr); rwa [HY.out] at this, HG1.out⟩
              case measure => simp [intOf]; omega
            · simp only [List.concat_eq_append] at *
              have hoK := HI.out.plain.short
              obtain ⟨g2, hA2, hbg, hgl⟩ := own_of_form HO.out (by simp)
              subst hA2
              have hcr := own_last HO.out
              have hfz := World.ownsRow.frozenAt HO.out (o.length * 2 + 1)
              simp only [List.length_append, List.length_singleton] at *
              have hrb : -1073741824 ≤ rh ∧ rh ≤ 1073741824 := by have := HI.out.plain.2 (rl, rh) (by simp); unfold Ok at this; simp only at this; omega
              have hd0 : decide ((0 : Int) < ((o.length + 1 : Nat) : Int)) = true := by simp
              generalize hj : o.length = j at *
              have HJ := Lib.hid hj; clear hj
              by_cases e : rh = y - 1
              · have hd1 : (rh == y - 1) = true := by simpa using e
                have HE := Lib.hid e; clear e
                go_wp2_with (fail)
                go_quiet ((first | (go_at_call_of 47 (Value.slice A n c); exact quiet_left (HX.out _)) | (go_at_call_of 47 (Value.slice A' n' c'); exact quiet_left (HYY.out _))))
                go_wp2_with (fail)
                go_quiet (fail)
                go_wp2_with (fail)
                go_roundw
                case rel => exact ⟨k + 1, o ++ [(rl, z - 1)], _, co, by omega, by go_num, by simp only [List.length_append, List.length_singleton, HJ.out], own_turn0 HO.out HJ.out _, HI.out.extend HS.out hlt (by show inP 0 (memB l bs[k]) (memB r bs[k]) = true; rw [HY.out, HBX.out, HBY.out]; rfl) HT.out (by rw [HY.out]; exact HE.out), (below_drewN hb _).setCell hbg _⟩
                case measure => simp [intOf]; omega
              · have hd1 : (rh == y - 1) = false := by simpa using e
                have HE := Lib.hid e; clear e
                go_wp2_with (fail)
                go_quiet ((first | (go_at_call_of 47 (Value.slice A n c); exact quiet_left (HX.out _)) | (go_at_call_of 47 (Value.slice A' n' c'); exact quiet_left (HYY.out _))))
                go_wp2_with (fail)
                go_quiet (fail)
                go_wp2_with (at_builtin; go_must (refine wpList_append_own _ rfl _ _ 25 rfl w1.heap.size 60 i0 _ 2 16 Try.underlying25 hi0 hz0 hz1 hz2 rfl (by decide) _ (o ++ [(rl, rh)]).length (flat (o ++ [(rl, rh)])) rfl (by exact World.ownsRow.alloc HO.out _) ⟨wr.heap.size, 0, none⟩ 1 1 [.int .i64 y, .int .i64 (z - 1)] rfl rfl (cell_two _ _ _ _) ?c2 ?c3 ?c4 ?c5 ?_))
                case c2 => intro u hu; simp at hu; rcases hu with rfl | rfl <;> rfl
                case c3 => have := HJ.out; simp only [List.length_append, List.length_singleton, maxLen]; omega
                case c4 => have := HJ.out; simp only [List.length_append, List.length_singleton]; omega
                case c5 => simp only [World.size_alloc]; exact Nat.le_succ_of_le hz
                intro v1 w4 hown1 hg1 _
                have hown2 : OwnsL w4 w1.heap.size v1 (o ++ [(rl, rh)] ++ [(y, z - 1)]) := by
                  unfold OwnsL; rw [flat_append, List.length_append, List.length_append]; exact hown1
                have HG1 := Lib.hid (((below_drewN hb _).alloc hz _).grown hg1 (by simp; omega) (own_ge HO.out))
                obtain ⟨A5, c5, hv5, _, _⟩ := own_RS hown2
                subst hv5
                have HO5 := Lib.hid hown2; clear hown2 hown1 hg1
                go_wp2_with (fail)
                go_roundw
                case rel => exact ⟨k + 1, _, A5, c5, by omega, by go_num, rfl, HO5.out, by have := HI.out.more HS.out hlt (by show inP 0 (memB l bs[k]) (memB r bs[k]) = true; rw [HY.out, HBX.out, HBY.out]; rfl) HT.out (fun r hr => by simp at hr; subst hr; rw [HY.out]; exact HE.out); rwa [HY.out] at this, HG1.out⟩
                case measure => simp [intOf]; omega
          · have HT := Lib.hid (show segEnd bs k 1073741824 from ⟨fun h => absurd h hk1, fun _ => rfl⟩)
            rcases List.eq_nil_or_concat o with rfl | ⟨o, ⟨rl, rh⟩, rfl⟩
            · have hd0 : decide ((0 : Int) < ((0 : Nat) : Int)) = false := by simp
              simp only [List.length_nil]
              go_wp2_with (fail)
              go_quiet ((first | (go_at_call_of 47 (Value.slice A n c); exact quiet_left (HX.out _)) | (go_at_call_of 47 (Value.slice A' n' c'); exact quiet_left (HYY.out _))))
              go_wp2_with (fail)
              go_quiet (fail)
              go_wp2_with (at_builtin; go_must (refine wpList_append_own _ rfl _ _ 25 rfl w1.heap.size 60 i0 _ 2 16 Try.underlying25 hi0 hz0 hz1 hz2 rfl (by decide) _ ([]).length (flat ([])) rfl (by exact World.ownsRow.alloc HO.out _) ⟨wr.heap.size, 0, none⟩ 1 1 [.int .i64 y, .int .i64 (1073741824)] rfl rfl (cell_two _ _ _ _) ?c2 ?c3 ?c4 ?c5 ?_))
              case c2 => intro u hu; simp at hu; rcases hu with rfl | rfl <;> rfl
              case c3 => simp only [List.length_nil, maxLen]; omega
              case c4 => simp only [List.length_nil]; omega
              case c5 => simp only [World.size_alloc]; exact Nat.le_succ_of_le hz
              intro v1 w4 hown1 hg1 _
              have hown2 : OwnsL w4 w1.heap.size v1 ([] ++ [(y, 1073741824)]) := by
                unfold OwnsL; rw [flat_append, List.length_append]; exact hown1
              have HG1 := Lib.hid (((below_drewN hb _).alloc hz _).grown hg1 (by simp; omega) (own_ge HO.out))
              obtain ⟨A5, c5, hv5, _, _⟩ := own_RS hown2
              subst hv5
              have HO5 := Lib.hid hown2; clear hown2 hown1 hg1
              go_wp2_with (fail)
              go_roundw
              case rel => exact ⟨k + 1, _, A5, c5, by omega, by go_num, rfl, HO5.out, by have := HI.out.more HS.out hlt (by show inP 0 (memB l bs[k]) (memB r bs[k]) = true; rw [HY.out, HBX.out, HBY.out]; rfl) HT.out (fun r hr => by simp at hr); rwa [HY.out] at this, HG1.out⟩
              case measure => simp [intOf]; omega
            · simp only [List.concat_eq_append] at *
              have hoK := HI.out.plain.short
              obtain ⟨g2, hA2, hbg, hgl⟩ := own_of_form HO.out (by simp)
              subst hA2
              have hcr := own_last HO.out
              have hfz := World.ownsRow.frozenAt HO.out (o.length * 2 + 1)
              simp only [List.length_append, List.length_singleton] at *
              have hrb : -1073741824 ≤ rh ∧ rh ≤ 1073741824 := by have := HI.out.plain.2 (rl, rh) (by simp); unfold Ok at this; simp only at this; omega
              have hd0 : decide ((0 : Int) < ((o.length + 1 : Nat) : Int)) = true := by simp
              generalize hj : o.length = j at *
              have HJ := Lib.hid hj; clear hj
              by_cases e : rh = y - 1
              · have hd1 : (rh == y - 1) = true := by simpa using e
                have HE := Lib.hid e; clear e
                go_wp2_with (fail)
                go_quiet ((first | (go_at_call_of 47 (Value.slice A n c); exact quiet_left (HX.out _)) | (go_at_call_of 47 (Value.slice A' n' c'); exact quiet_left (HYY.out _))))
                go_wp2_with (fail)
                go_quiet (fail)
                go_wp2_with (fail)
                go_roundw
                case rel => exact ⟨k + 1, o ++ [(rl, 1073741824)], _, co, by omega, by go_num, by simp only [List.length_append, List.length_singleton, HJ.out], own_turn0 HO.out HJ.out _, HI.out.extend HS.out hlt (by show inP 0 (memB l bs[k]) (memB r bs[k]) = true; rw [HY.out, HBX.out, HBY.out]; rfl) HT.out (by rw [HY.out]; exact HE.out), (below_drewN hb _).setCell hbg _⟩
                case measure => simp [intOf]; omega
              · have hd1 : (rh == y - 1) = false := by simpa using e
                have HE := Lib.hid e; clear e
                go_wp2_with (fail)
                go_quiet ((first | (go_at_call_of 47 (Value.slice A n c); exact quiet_left (HX.out _)) | (go_at_call_of 47 (Value.slice A' n' c'); exact quiet_left (HYY.out _))))
                go_wp2_with (fail)
                go_quiet (fail)
                go_wp2_with (at_builtin; go_must (refine wpList_append_own _ rfl _ _ 25 rfl w1.heap.size 60 i0 _ 2 16 Try.underlying25 hi0 hz0 hz1 hz2 rfl (by decide) _ (o ++ [(rl, rh)]).length (flat (o ++ [(rl, rh)])) rfl (by exact World.ownsRow.alloc HO.out _) ⟨wr.heap.size, 0, none⟩ 1 1 [.int .i64 y, .int .i64 (1073741824)] rfl rfl (cell_two _ _ _ _) ?c2 ?c3 ?c4 ?c5 ?_))
                case c2 => intro u hu; simp at hu; rcases hu with rfl | rfl <;> rfl
                case c3 => have := HJ.out; simp only [List.length_append, List.length_singleton, maxLen]; omega
                case c4 => have := HJ.out; simp only [List.length_append, List.length_singleton]; omega
                case c5 => simp only [World.size_alloc]; exact Nat.le_succ_of_le hz
                intro v1 w4 hown1 hg1 _
                have hown2 : OwnsL w4 w1.heap.size v1 (o ++ [(rl, rh)] ++ [(y, 1073741824)]) := by
                  unfold OwnsL; rw [flat_append, List.length_append, List.length_append]; exact hown1
                have HG1 := Lib.hid (((below_drewN hb _).alloc hz _).grown hg1 (by simp; omega) (own_ge HO.out))
                obtain ⟨A5, c5, hv5, _, _⟩ := own_RS hown2
                subst hv5
                have HO5 := Lib.hid hown2; clear hown2 hown1 hg1
                go_wp2_with (fail)
                go_roundw
                case rel => exact ⟨k + 1, _, A5, c5, by omega, by go_num, rfl, HO5.out, by have := HI.out.more HS.out hlt (by show inP 0 (memB l bs[k]) (memB r bs[k]) = true; rw [HY.out, HBX.out, HBY.out]; rfl) HT.out (fun r hr => by simp at hr; subst hr; rw [HY.out]; exact HE.out); rwa [HY.out] at this, HG1.out⟩
                case measure => simp [intOf]; omega
      · by_cases hk1 : k + 1 < bs.length
        · obtain ⟨z, hz'⟩ : ∃ z, bs[k + 1] = z := ⟨_, rfl⟩
          have hcz : wr.cell? ⟨g, k + 1, none⟩ = some (.int .i64 z) := by rw [hb.cell (p := ⟨g, k + 1, none⟩) hgs, own_cell HO1.out hk1, hz']
          have hzr : -1073741824 ≤ z ∧ z ≤ 1073741824 := by have := HS.out.rng _ (List.getElem_mem hk1); rw [hz'] at this; exact this
          have HT := Lib.hid (show segEnd bs k (z - 1) from ⟨fun _ => by rw [hz'], fun h => absurd hk1 h⟩)
          clear hz'
          rcases List.eq_nil_or_concat o with rfl | ⟨o, ⟨rl, rh⟩, rfl⟩
          · have hd0 : decide ((0 : Int) < ((0 : Nat) : Int)) = false := by simp
            simp only [List.length_nil]
            go_wp2_with (fail)
            go_quiet ((first | (go_at_call_of 47 (Value.slice A n c); exact quiet_left (HX.out _)) | (go_at_call_of 47 (Value.slice A' n' c'); exact quiet_left (HYY.out _))))
            go_wp2_with (fail)
            go_quiet (fail)
            go_wp2_with (at_builtin; go_must (refine wpList_append_own _ rfl _ _ 25 rfl w1.heap.size 60 i0 _ 2 16 Try.underlying25 hi0 hz0 hz1 hz2 rfl (by decide) _ ([]).length (flat ([])) rfl (by exact World.ownsRow.alloc HO.out _) ⟨wr.heap.size, 0, none⟩ 1 1 [.int .i64 y, .int .i64 (z - 1)] rfl rfl (cell_two _ _ _ _) ?c2 ?c3 ?c4 ?c5 ?_))
            case c2 => intro u hu; simp at hu; rcases hu with rfl | rfl <;> rfl
            case c3 => simp only [List.length_nil, maxLen]; omega
            case c4 => simp only [List.length_nil]; omega
            case c5 => simp only [World.size_alloc]; exact Nat.le_succ_of_le hz
            intro v1 w4 hown1 hg1 _
            have hown2 : OwnsL w4 w1.heap.size v1 ([] ++ [(y, z - 1)]) := by
              unfold OwnsL; rw [flat_append, List.length_append]; exact hown1
            have HG1 := Lib.hid (((below_drewN hb _).alloc hz _).grown hg1 (by simp; omega) (own_ge HO.out))
            obtain ⟨A5, c5, hv5, _, _⟩ := own_RS hown2
            subst hv5
            have HO5 := Lib.hid hown2; clear hown2 hown1 hg1
            go_wp2_with (fail)
            go_roundw
            case rel => exact ⟨k + 1, _, A5, c5, by omega, by go_num, rfl, HO5.out, by have := HI.out.more HS.out hlt (by show inP 0 (memB l bs[k]) (memB r bs[k]) = true; rw [HY.out, HBX.out, HBY.out]; cases bY <;> rfl) HT.out (fun r hr => by simp at hr); rwa [HY.out] at this, HG1.out⟩
            case measure => simp [intOf]; omega
          · simp only [List.concat_eq_append] at *
            have hoK := HI.out.plain.short
            obtain ⟨g2, hA2, hbg, hgl⟩ := own_of_form HO.out (by simp)
            subst hA2
            have hcr := own_last HO.out
            have hfz := World.ownsRow.frozenAt HO.out (o.length * 2 + 1)
            simp only [List.length_append, List.length_singleton] at *
            have hrb : -1073741824 ≤ rh ∧ rh ≤ 1073741824 := by have := HI.out.plain.2 (rl, rh) (by simp); unfold Ok at this; simp only at this; omega
            have hd0 : decide ((0 : Int) < ((o.length + 1 : Nat) : Int)) = true := by simp
            generalize hj : o.length = j at *
            have HJ := Lib.hid hj; clear hj
            by_cases e : rh = y - 1
            · have hd1 : (rh == y - 1) = true := by simpa using e
              have HE := Lib.hid e; clear e
              go_wp2_with (fail)
              go_quiet ((first | (go_at_call_of 47 (Value.slice A n c); exact quiet_left (HX.out _)) | (go_at_call_of 47 (Value.slice A' n' c'); exact quiet_left (HYY.out _))))
              go_wp2_with (fail)
              go_quiet (fail)
              go_wp2_with (fail)
              go_roundw
              case rel => exact ⟨k + 1, o ++ [(rl, z - 1)], _, co, by omega, by go_num, by simp only [List.length_append, List.length_singleton, HJ.out], own_turn0 HO.out HJ.out _, HI.out.extend HS.out hlt (by show inP 0 (memB l bs[k]) (memB r bs[k]) = true; rw [HY.out, HBX.out, HBY.out]; cases bY <;> rfl) HT.out (by rw [HY.out]; exact HE.out), (below_drewN hb _).setCell hbg _⟩
              case measure => simp [intOf]; omega
            · have hd1 : (rh == y - 1) = false := by simpa using e
              have HE := Lib.hid e; clear e
              go_wp2_with (fail)
              go_quiet ((first | (go_at_call_of 47 (Value.slice A n c); exact quiet_left (HX.out _)) | (go_at_call_of 47 (Value.slice A' n' c'); exact quiet_left (HYY.out _))))
              go_wp2_with (fail)
              go_quiet (fail)
              go_wp2_with (at_builtin; go_must (refine wpList_append_own _ rfl _ _ 25 rfl w1.heap.size 60 i0 _ 2 16 Try.underlying25 hi0 hz0 hz1 hz2 rfl (by decide) _ (o ++ [(rl, rh)]).length (flat (o ++ [(rl, rh)])) rfl (by exact World.ownsRow.alloc HO.out _) ⟨wr.heap.size, 0, none⟩ 1 1 [.int .i64 y, .int .i64 (z - 1)] rfl rfl (cell_two _ _ _ _) ?c2 ?c3 ?c4 ?c5 ?_))
              case c2 => intro u hu; simp at hu; rcases hu with rfl | rfl <;> rfl
              case c3 => have := HJ.out; simp only [List.length_append, List.length_singleton, maxLen]; omega
              case c4 => have := HJ.out; simp only [List.length_append, List.length_singleton]; omega
              case c5 => simp only [World.size_alloc]; exact Nat.le_succ_of_le hz
              intro v1 w4 hown1 hg1 _
              have hown2 : OwnsL w4 w1.heap.size v1 (o ++ [(rl, rh)] ++ [(y, z - 1)]) := by
                unfold OwnsL; rw [flat_append, List.length_append, List.length_append]; exact hown1
              have HG1 := Lib.hid (((below_drewN hb _).alloc hz _).grown hg1 (by simp; omega) (own_ge HO.out))
              obtain ⟨A5, c5, hv5, _, _⟩ := own_RS hown2
              subst hv5
              have HO5 := Lib.hid hown2; clear hown2 hown1 hg1
              go_wp2_with (fail)
              go_roundw
              case rel => exact ⟨k + 1, _, A5, c5, by omega, by go_num, rfl, HO5.out, by have := HI.out.more HS.out hlt (by show inP 0 (memB l bs[k]) (memB r bs[k]) = true; rw [HY.out, HBX.out, HBY.out]; cases bY <;> rfl) HT.out (fun r hr => by simp at hr; subst hr; rw [HY.out]; exact HE.out); rwa [HY.out] at this, HG1.out⟩
              case measure => simp [intOf]; omega
        · have HT := Lib.hid (show segEnd bs k 1073741824 from ⟨fun h => absurd h hk1, fun _ => rfl⟩)
          rcases List.eq_nil_or_concat o with rfl | ⟨o, ⟨rl, rh⟩, rfl⟩
          · have hd0 : decide ((0 : Int) < ((0 : Nat) : Int)) = false := by simp
            simp only [List.length_nil]
            go_wp2_with (fail)
            go_quiet ((first | (go_at_call_of 47 (Value.slice A n c); exact quiet_left (HX.out _)) | (go_at_call_of 47 (Value.slice A' n' c'); exact quiet_left (HYY.out _))))
            go_wp2_with (fail)
            go_quiet (fail)
            go_wp2_with (at_builtin; go_must (refine wpList_append_own _ rfl _ _ 25 rfl w1.heap.size 60 i0 _ 2 16 Try.underlying25 hi0 hz0 hz1 hz2 rfl (by decide) _ ([]).length (flat ([])) rfl (by exact World.ownsRow.alloc HO.out _) ⟨wr.heap.size, 0, none⟩ 1 1 [.int .i64 y, .int .i64 (1073741824)] rfl rfl (cell_two _ _ _ _) ?c2 ?c3 ?c4 ?c5 ?_))
            case c2 => intro u hu; simp at hu; rcases hu with rfl | rfl <;> rfl
            case c3 => simp only [List.length_nil, maxLen]; omega
            case c4 => simp only [List.length_nil]; omega
            case c5 => simp only [World.size_alloc]; exact Nat.le_succ_of_le hz
            intro v1 w4 hown1 hg1 _
            have hown2 : OwnsL w4 w1.heap.size v1 ([] ++ [(y, 1073741824)]) := by
              unfold OwnsL; rw [flat_append, List.length_append]; exact hown1
            have HG1 := Lib.hid (((below_drewN hb _).alloc hz _).grown hg1 (by simp; omega) (own_ge HO.out))
            obtain ⟨A5, c5, hv5, _, _⟩ := own_RS hown2
            subst hv5
            have HO5 := Lib.hid hown2; clear hown2 hown1 hg1
            go_wp2_with (fail)
            go_roundw
            case rel => exact ⟨k + 1, _, A5, c5, by omega, by go_num, rfl, HO5.out, by have := HI.out.more HS.out hlt (by show inP 0 (memB l bs[k]) (memB r bs[k]) = true; rw [HY.out, HBX.out, HBY.out]; cases bY <;> rfl) HT.out (fun r hr => by simp at hr); rwa [HY.out] at this, HG1.out⟩
            case measure => simp [intOf]; omega
          · simp only [List.concat_eq_append] at *
            have hoK := HI.out.plain.short
            obtain ⟨g2, hA2, hbg, hgl⟩ := own_of_form HO.out (by simp)
            subst hA2
            have hcr := own_last HO.out
            have hfz := World.ownsRow.frozenAt HO.out (o.length * 2 + 1)
            simp only [List.length_append, List.length_singleton] at *
            have hrb : -1073741824 ≤ rh ∧ rh ≤ 1073741824 := by have := HI.out.plain.2 (rl, rh) (by simp); unfold Ok at this; simp only at this; omega
            have hd0 : decide ((0 : Int) < ((o.length + 1 : Nat) : Int)) = true := by simp
            generalize hj : o.length = j at *
            have HJ := Lib.hid hj; clear hj
            by_cases e : rh = y - 1
            · have hd1 : (rh == y - 1) = true := by simpa using e
              have HE := Lib.hid e; clear e
              go_wp2_with (fail)
              go_quiet ((first | (go_at_call_of 47 (Value.slice A n c); exact quiet_left (HX.out _)) | (go_at_call_of 47 (Value.slice A' n' c'); exact quiet_left (HYY.out _))))
              go_wp2_with (fail)
              go_quiet (fail)
              go_wp2_with (fail)
              go_roundw
              case rel => exact ⟨k + 1, o ++ [(rl, 1073741824)], _, co, by omega, by go_num, by simp only [List.length_append, List.length_singleton, HJ.out], own_turn0 HO.out HJ.out _, HI.out.extend HS.out hlt (by show inP 0 (memB l bs[k]) (memB r bs[k]) = true; rw [HY.out, HBX.out, HBY.out]; cases bY <;> rfl) HT.out (by rw [HY.out]; exact HE.out), (below_drewN hb _).setCell hbg _⟩
              case measure => simp [intOf]; omega
            · have hd1 : (rh == y - 1) = false := by simpa using e
              have HE := Lib.hid e; clear e
              go_wp2_with (fail)
              go_quiet ((first | (go_at_call_of 47 (Value.slice A n c); exact quiet_left (HX.out _)) | (go_at_call_of 47 (Value.slice A' n' c'); exact quiet_left (HYY.out _))))
              go_wp2_with (fail)
              go_quiet (fail)
              go_wp2_with (at_builtin; go_must (refine wpList_append_own _ rfl _ _ 25 rfl w1.heap.size 60 i0 _ 2 16 Try.underlying25 hi0 hz0 hz1 hz2 rfl (by decide) _ (o ++ [(rl, rh)]).length (flat (o ++ [(rl, rh)])) rfl (by exact World.ownsRow.alloc HO.out _) ⟨wr.heap.size, 0, none⟩ 1 1 [.int .i64 y, .int .i64 (1073741824)] rfl rfl (cell_two _ _ _ _) ?c2 ?c3 ?c4 ?c5 ?_))
              case c2 => intro u hu; simp at hu; rcases hu with rfl | rfl <;> rfl
              case c3 => have := HJ.out; simp only [List.length_append, List.length_singleton, maxLen]; omega
              case c4 => have := HJ.out; simp only [List.length_append, List.length_singleton]; omega
              case c5 => simp only [World.size_alloc]; exact Nat.le_succ_of_le hz
              intro v1 w4 hown1 hg1 _
              have hown2 : OwnsL w4 w1.heap.size v1 (o ++ [(rl, rh)] ++ [(y, 1073741824)]) := by
                unfold OwnsL; rw [flat_append, List.length_append, List.length_append]; exact hown1
              have HG1 := Lib.hid (((below_drewN hb _).alloc hz _).grown hg1 (by simp; omega) (own_ge HO.out))
              obtain ⟨A5, c5, hv5, _, _⟩ := own_RS hown2
              subst hv5
              have HO5 := Lib.hid hown2; clear hown2 hown1 hg1
              go_wp2_with (fail)
              go_roundw
              case rel => exact ⟨k + 1, _, A5, c5, by omega, by go_num, rfl, HO5.out, by have := HI.out.more HS.out hlt (by show inP 0 (memB l bs[k]) (memB r bs[k]) = true; rw [HY.out, HBX.out, HBY.out]; cases bY <;> rfl) HT.out (fun r hr => by simp at hr; subst hr; rw [HY.out]; exact HE.out); rwa [HY.out] at this, HG1.out⟩
              case measure => simp [intOf]; omega
    · have HD := Lib.hid (HI.out.done (show bs.length ≤ k by omega))
      go_wp2_with (fail)
      go_ret
      exact ⟨_, o, rfl, HD.out, own_mono HO.out (by omega), hb1.trans (hb.mono (by omega))⟩

end Go.Proofs.Ytplpafoflibnlaa.Sp
/- The walks of span.Count, First, Last, At and Move. -/
namespace Go.Proofs.Ytplpafoflibnlaa.Sp
set_option maxRecDepth 100000
open Go Go.RowKit

def RetI (v : Int) (w : World) (e : Ending) (w' : World) : Prop := e = .returned (.int .i64 v) ∧ Below w.heap.size w w'
theorem ret_int {a b : Int} (h : a = b) : Ending.returned (.int .i64 a) = .returned (.int .i64 b) := by rw [h]
theorem cnt_take {p : List Span} {k : Nat} {lo hi : Int} (hk : ∃ hl : k < p.length, p[k] = (lo, hi)) : cnt (p.take (k + 1)) = cnt (p.take k) + (hi - lo + 1) := by
  obtain ⟨hl, e⟩ := hk
  rw [List.take_succ_eq_append_getElem hl, e, cnt_append]
  simp only [cnt]; omega

end Go.Proofs.Ytplpafoflibnlaa.Sp
/- The walk of slices.Clone at spans. -/
namespace Go.Proofs.Ytplpafoflibnlaa.Sp
set_option maxRecDepth 100000
open Go Go.RowKit

theorem RS_news {w : World} {B n : Nat} {ad : Addr} {l : List Span} (h : RS w B (some ad) n l) : ∀ j u, (flat l)[j]? = some u → w.cell? (ad.add j) = some u := by
  intro j u hu
  have hj : j < l.length * 2 := by
    rcases Nat.lt_or_ge j (l.length * 2) with h1 | h1
    · exact h1
    · rw [List.getElem?_eq_none (by rw [flat_length]; exact h1)] at hu; cases hu
  obtain ⟨b, off, hA, _, hc⟩ := h.2 (by rw [← h.1]; omega)
  injection hA with hA
  subst hA
  have h1 : j / 2 < l.length := by omega
  have h2 := flat_at l (j / 2) h1
  have h3 := hc (j / 2) h1
  rw [Go.WideShapes.add_plain]
  rcases Nat.mod_two_eq_zero_or_one j with e | e
  · rw [show j = 2 * (j / 2) from by omega] at hu
    rw [h2.1] at hu
    rw [show off + j = off + j / 2 * 2 from by omega, h3.1]; exact hu
  · rw [show j = 2 * (j / 2) + 1 from by omega] at hu
    rw [h2.2] at hu
    rw [show off + j = off + j / 2 * 2 + 1 from by omega, h3.2]; exact hu
theorem flat_one (l : List Span) : ∀ u ∈ flat l, u.oneCell' = true := by
  intro u hu
  obtain ⟨p, _, hp⟩ := List.mem_flatMap.1 hu
  simp [encS] at hp
  rcases hp with rfl | rfl <;> rfl
theorem span_nil : ∀ (w : World) (a : Option Addr) (n c n' c' : Nat), (binOp .eql 25 (.slice a n c) (.slice none n' c')).run Try.prog w = .ok (.bool a.isNone) w := fun w a n c n' c' => Lib.run_eql_slice_nil w _ _ a n c n' c' Try.underlying25
def CloneS (l : List Span) (w : World) (e : Ending) (w' : World) : Prop := ∃ v, e = .returned v ∧ OwnsL w' w.heap.size v l ∧ Below w.heap.size w w'
set_option maxHeartbeats 1000000 in
theorem cloneS_any (A : Option Addr) (c : Nat) (l : List Span) (w : World) (h : RS w w.heap.size A l.length l) (hn : l.length ≤ 68719476736) (hnil : A = none → l = [] ∧ c = 0) :
    Calls Try.prog 95 #[.slice A l.length c] w (CloneS l w) := by
  have q := span_nil
  rcases A with _ | ad
  · obtain ⟨rfl, rfl⟩ := hnil rfl
    simp only [List.length_nil]
    go_enter Try.func95, Try.ntmps95
    go_wp2_with (fail)
    go_ret
    exact ⟨_, rfl, World.ownsRow_nil _ _ _ _, Below.refl _ _⟩
  · obtain ⟨i0, hi0, hz0, hz1, hz2⟩ := info_parts infoSpan
    have hown0 := Lib.hid (World.ownsRow_made (e := 60) (size := 2) w #[] 0 (Nat.le_refl w.heap.size) (by unfold maxLen; omega) rfl)
    have HR := Lib.hid ((h.below ((Below.refl w.heap.size w).alloc (Nat.le_refl _) (.cells #[] 60)))); clear h
    go_enter Try.func95, Try.ntmps95
    go_wp2_with (at_builtin; go_must (refine wpList_append_own _ rfl _ _ 25 rfl w.heap.size 60 i0 _ 2 16 Try.underlying25 hi0 hz0 hz1 hz2 rfl (by decide) _ 0 [] rfl hown0.out ad l.length c (flat l) rfl (flat_length l) (RS_news HR.out) (flat_one l) ?c3 ?c4 ?c5 ?_))
    case c3 => simp only [maxLen]; omega
    case c4 => omega
    case c5 => simp only [World.size_alloc]; omega
    intro v1 w1 hown1 hg1 _
    have ho : OwnsL w1 w.heap.size v1 l := by
      unfold OwnsL
      simpa using hown1
    have HB := Lib.hid (((Below.refl w.heap.size w).alloc (Nat.le_refl _) (.cells #[] 60)).grown hg1 (by simp) (fun k hk => (World.ownsRow.lt hown0.out k hk).1))
    obtain ⟨A1, c1, hv, hc1, hrs⟩ := own_RS ho
    subst hv
    have HO := Lib.hid ho
    clear hown1 hg1 ho hrs
    go_wp2_with (fail)
    go_ret
    exact ⟨_, rfl, HO.out, HB.out⟩
end Go.Proofs.Ytplpafoflibnlaa.Sp
/- The walk of ref.Make, where it is asked for what is in both. -/
namespace Go.Proofs.Ytplpafoflibnlaa.Sp
set_option maxRecDepth 100000
open Go Go.RowKit

set_option maxRecDepth 100000 in
set_option maxHeartbeats 16000000 in
theorem rmake1 (A A' : Option Addr) (n n' c c' : Nat) (l r : List Span) (w : World) (h : RS w w.heap.size A n l) (h' : RS w w.heap.size A' n' r) (hn : n ≤ 68719476736) (hn' : n' ≤ 68719476736) :
    Calls Try.prog 37 #[.slice A n c, .slice A' n' c', .int .i64 1] w (SetOut (fun x => Rng x ∧ inP 1 (memB l x) (memB r x) = true) w) := by
  obtain ⟨i0, hi0, hz0, hz1, hz2⟩ := info_parts infoSpan
  go_enter Try.func37, Try.ntmps37
  go_wp2_with (fail)
  refine (rborders_any A A' n n' c c' l r _ h h' hn hn').mono ?_
  rintro e w1 ⟨g, cap, bs, rfl, ho1, hB, hb1⟩
  have hz1' := hb1.size
  have hgs := (ho1.lt g rfl).2
  have hrl := h.belowM hb1
  have hrr := h'.belowM hb1
  have hfew := hB.few
  rw [List.length_append, h.1, h'.1] at hfew
  have HS := Lib.hid (segs_of hB 1); clear hB
  have HO1 := Lib.hid ho1; clear ho1
  go_wp2_with (fail)
  go_loopw [7, 9] (fun out i wr => MakeRel bs (fun x => inP 1 (memB l x) (memB r x) = true) w1.heap.size w1 out i wr) (fun _ i _ => bs.length - (intOf i).toNat)
  case atStart => exact ⟨0, [], none, 0, Nat.zero_le _, rfl, rfl, World.ownsRow_nil _ _ _ _, MakeInv.start HS.out, Below.refl _ _⟩
  case round =>
    obtain ⟨k, o, Ao, co, hk, rfl, rfl, ho, hi, hb⟩ := hrel
    have hz := hb.size
    have HO := Lib.hid ho; clear ho
    have HI := Lib.hid hi; clear hi
    by_cases hlt : k < bs.length
    · obtain ⟨y, hy⟩ : ∃ y, bs[k] = y := ⟨_, rfl⟩
      have hcy : wr.cell? ⟨g, k, none⟩ = some (.int .i64 y) := by rw [hb.cell (p := ⟨g, k, none⟩) hgs, own_cell HO1.out hlt, hy]
      have hyr : -1073741824 ≤ y ∧ y ≤ 1073741824 := by have := HS.out.rng _ (List.getElem_mem hlt); rw [hy] at this; exact this
      have hgw : g < wr.heap.size := by omega
      have hoL := HI.out.plain.short
      have HY := Lib.hid hy; clear hy
      obtain ⟨bx, hbx⟩ : ∃ bx, memB l y = bx := ⟨_, rfl⟩
      obtain ⟨bY, hby⟩ : ∃ bY, memB r y = bY := ⟨_, rfl⟩
      have HX := Lib.hid (fun nq => rhas_any A n c l y (wr.drewN nq) ((hrl.below hb).more hz) (by omega))
      have HYY := Lib.hid (fun nq => rhas_any A' n' c' r y (wr.drewN nq) ((hrr.below hb).more hz) (by omega))
      rw [hbx] at HX
      rw [hby] at HYY
      have HBX := Lib.hid hbx; clear hbx
      have HBY := Lib.hid hby; clear hby
      cases bx
      · cases bY
        · go_wp2_with (fail)
          go_quiet ((first | (go_at_call_of 47 (Value.slice A n c); exact quiet_left (HX.out _)) | (go_at_call_of 47 (Value.slice A' n' c'); exact quiet_left (HYY.out _))))
          go_wp2_with (fail)
          go_roundw
          case rel => exact ⟨k + 1, o, Ao, co, by omega, by go_num, rfl, HO.out, HI.out.skip HS.out hlt (by show ¬ inP 1 (memB l bs[k]) (memB r bs[k]) = true; rw [HY.out, HBX.out, HBY.out]; decide), below_drewN hb _⟩
          case measure => simp [intOf]; omega
        · go_wp2_with (fail)
          go_quiet ((first | (go_at_call_of 47 (Value.slice A n c); exact quiet_left (HX.out _)) | (go_at_call_of 47 (Value.slice A' n' c'); exact quiet_left (HYY.out _))))
          go_wp2_with (fail)
          go_roundw
          case rel => exact ⟨k + 1, o, Ao, co, by omega, by go_num, rfl, HO.out, HI.out.skip HS.out hlt (by show ¬ inP 1 (memB l bs[k]) (memB r bs[k]) = true; rw [HY.out, HBX.out, HBY.out]; decide), below_drewN hb _⟩
          case measure => simp [intOf]; omega
      · cases bY
        · go_wp2_with (fail)
          go_quiet ((first | (go_at_call_of 47 (Value.slice A n c); exact quiet_left (HX.out _)) | (go_at_call_of 47 (Value.slice A' n' c'); exact quiet_left (HYY.out _))))
          go_wp2_with (fail)
          go_roundw
          case rel => exact ⟨k + 1, o, Ao, co, by omega, by go_num, rfl, HO.out, HI.out.skip HS.out hlt (by show ¬ inP 1 (memB l bs[k]) (memB r bs[k]) = true; rw [HY.out, HBX.out, HBY.out]; decide), below_drewN hb _⟩
          case measure => simp [intOf]; omega
        · by_cases hk1 : k + 1 < bs.length
          · obtain ⟨z, hz'⟩ : ∃ z, bs[k + 1] = z := ⟨_, rfl⟩
            have hcz : wr.cell? ⟨g, k + 1, none⟩ = some (.int .i64 z) := by rw [hb.cell (p := ⟨g, k + 1, none⟩) hgs, own_cell HO1.out hk1, hz']
            have hzr : -1073741824 ≤ z ∧ z ≤ 1073741824 := by have := HS.out.rng _ (List.getElem_mem hk1); rw [hz'] at this; exact this
            have HT := Lib.hid (show segEnd bs k (z - 1) from ⟨fun _ => by rw [hz'], fun h => absurd hk1 h⟩)
            clear hz'
            rcases List.eq_nil_or_concat o with rfl | ⟨o, ⟨rl, rh⟩, rfl⟩
            · have hd0 : decide ((0 : Int) < ((0 : Nat) : Int)) = false := by simp
              simp only [List.length_nil]
              go_wp2_with (fail)
              go_quiet ((first | (go_at_call_of 47 (Value.slice A n c); exact quiet_left (HX.out _)) | (go_at_call_of 47 (Value.slice A' n' c'); exact quiet_left (HYY.out _))))
              go_wp2_with (fail)
              go_quiet (fail)
              go_wp2_with (at_builtin; go_must (refine wpList_append_own _ rfl _ _ 25 rfl w1.heap.size 60 i0 _ 2 16 Try.underlying25 hi0 hz0 hz1 hz2 rfl (by decide) _ ([]).length (flat ([])) rfl (by exact World.ownsRow.alloc HO.out _) ⟨wr.heap.size, 0, none⟩ 1 1 [.int .i64 y, .int .i64 (z - 1)] rfl rfl (cell_two _ _ _ _) ?c2 ?c3 ?c4 ?c5 ?_))
              case c2 => intro u hu; simp at hu; rcases hu with rfl | rfl <;> rfl
              case c3 => simp only [List.length_nil, maxLen]; omega
              case c4 => simp only [List.length_nil]; omega
              case c5 => simp only [World.size_alloc]; exact Nat.le_succ_of_le hz
              intro v1 w4 hown1 hg1 _
              have hown2 : OwnsL w4 w1.heap.size v1 ([] ++ [(y, z - 1)]) := by
                unfold OwnsL; rw [flat_append, List.length_append]; exact hown1
              have HG1 := Lib.hid (((below_drewN hb _).alloc hz _).grown hg1 (by simp; omega) (own_ge HO.out))
              obtain ⟨A5, c5, hv5, _, _⟩ := own_RS hown2
              subst hv5
              have HO5 := Lib.hid hown2; clear hown2 hown1 hg1
              go_wp2_with (fail)
              go_roundw
              case rel => exact ⟨k + 1, _, A5, c5, by omega, by go_num, rfl, HO5.out, by have := HI.out.more HS.out hlt (by show inP 1 (memB l bs[k]) (memB r bs[k]) = true; rw [HY.out, HBX.out, HBY.out]; rfl) HT.out (fun r hr => by simp at hr); rwa [HY.out] at this, HG1.out⟩
              case measure => simp [intOf]; omega
            · simp only [List.concat_eq_append] at *
              have hoK := HI.out.plain.short
              obtain ⟨g2, hA2, hbg, hgl⟩ := own_of_form HO.out (by simp)
              subst hA2
              have hcr := own_last HO.out
              have hfz := World.ownsRow.frozenAt HO.out (o.length * 2 + 1)
              simp only [List.length_append, List.length_singleton] at *
              have hrb : -1073741824 ≤ rh ∧ rh ≤ 1073741824 := by have := HI.out.plain.2 (rl, rh) (by simp); unfold Ok at this; simp only at this; omega
              have hd0 : decide ((0 : Int) < ((o.length + 1 : Nat) : Int)) = true := by simp
              generalize hj : o.length = j at *
              have HJ := Lib.hid hj; clear hj
              by_cases e : rh = y - 1
              · have hd1 : (rh == y - 1) = true := by simpa using e
                have HE := Lib.hid e; clear e
                go_wp2_with (fail)
                go_quiet ((first | (go_at_call_of 47 (Value.slice A n c); exact quiet_left (HX.out _)) | (go_at_call_of 47 (Value.slice A' n' c'); exact quiet_left (HYY.out _))))
                go_wp2_with (fail)
                go_quiet (fail)
                go_wp2_with (fail)
                go_roundw
                case rel => exact ⟨k + 1, o ++ [(rl, z - 1)], _, co, by omega, by go_num, by simp only [List.length_append, List.length_singleton, HJ.out], own_turn0 HO.out HJ.out _, HI.out.extend HS.out hlt (by show inP 1 (memB l bs[k]) (memB r bs[k]) = true; rw [HY.out, HBX.out, HBY.out]; rfl) HT.out (by rw [HY.out]; exact HE.out), (below_drewN hb _).setCell hbg _⟩
                case measure => simp [intOf]; omega
              · have hd1 : (rh == y - 1) = false := by simpa using e
                have HE := Lib.hid e; clear e
                go_wp2_with (fail)
                go_quiet ((first | (go_at_call_of 47 (Value.slice A n c); exact quiet_left (HX.out _)) | (go_at_call_of 47 (Value.slice A' n' c'); exact quiet_left (HYY.out _))))
                go_wp2_with (fail)
                go_quiet (fail)
                go_wp2_with (at_builtin; go_must (refine wpList_append_own _ rfl _ _ 25 rfl w1.heap.size 60 i0 _ 2 16 Try.underlying25 hi0 hz0 hz1 hz2 rfl (by decide) _ (o ++ [(rl, rh)]).length (flat (o ++ [(rl, rh)])) rfl (by exact World.ownsRow.alloc HO.out _) ⟨wr.heap.size, 0, none⟩ 1 1 [.int .i64 y, .int .i64 (z - 1)] rfl rfl (cell_two _ _ _ _) ?c2 ?c3 ?c4 ?c5 ?_))
                case c2 => intro u hu; simp at hu; rcases hu with rfl | rfl <;> rfl
                case c3 => have := HJ.out; simp only [List.length_append, List.length_singleton, maxLen]; omega
                case c4 => have := HJ.out; simp only [List.length_append, List.length_singleton]; omega
                case c5 => simp only [World.size_alloc]; exact Nat.le_succ_of_le hz
                intro v1 w4 hown1 hg1 _
                have hown2 : OwnsL w4 w1.heap.size v1 (o ++ [(rl, rh)] ++ [(y, z - 1)]) := by
                  unfold OwnsL; rw [flat_append, List.length_append, List.length_append]; exact hown1
                have HG1 := Lib.hid (((below_drewN hb _).alloc hz _).grown hg1 (by simp; omega) (own_ge HO.out))
                obtain ⟨A5, c5, hv5, _, _⟩ := own_RS hown2
                subst hv5
                have HO5 := Lib.hid hown2; clear hown2 hown1 hg1
                go_wp2_with (fail)
                go_roundw
                case rel => exact ⟨k + 1, _, A5, c5, by omega, by go_num, rfl, HO5.out, by have := HI.out.more HS.out hlt (by show inP 1 (memB l bs[k]) (memB r bs[k]) = true; rw [HY.out, HBX.out, HBY.out]; rfl) HT.out (fun r hr => by simp at hr; subst hr; rw [HY.out]; exact HE.out); rwa [HY.out] at this, HG1.out⟩
                case measure => simp [intOf]; omega
          · have HT := Lib.hid (show segEnd bs k 1073741824 from ⟨fun h => absurd h hk1, fun _ => rfl⟩)
            rcases List.eq_nil_or_concat o with rfl | ⟨o, ⟨rl, rh⟩, rfl⟩
            · have hd0 : decide ((0 : Int) < ((0 : Nat) : Int)) = false := by simp
              simp only [List.length_nil]
              go_wp2_with (fail)
              go_quiet ((first | (go_at_call_of 47 (Value.slice A n c); exact quiet_left (HX.out _)) | (go_at_call_of 47 (Value.slice A' n' c'); exact quiet_left (HYY.out _))))
              go_wp2_with (fail)
              go_quiet (fail)
              go_wp2_with (at_builtin; go_must (refine wpList_append_own _ rfl _ _ 25 rfl w1.heap.size 60 i0 _ 2 16 Try.underlying25 hi0 hz0 hz1 hz2 rfl (by decide) _ ([]).length (flat ([])) rfl (by exact World.ownsRow.alloc HO.out _) ⟨wr.heap.size, 0, none⟩ 1 1 [.int .i64 y, .int .i64 (1073741824)] rfl rfl (cell_two _ _ _ _) ?c2 ?c3 ?c4 ?c5 ?_))
              case c2 => intro u hu; simp at hu; rcases hu with rfl | rfl <;> rfl
              case c3 => simp only [List.length_nil, maxLen]; omega
              case c4 => simp only [List.length_nil]; omega
              case c5 => simp only [World.size_alloc]; exact Nat.le_succ_of_le hz
              intro v1 w4 hown1 hg1 _
              have hown2 : OwnsL w4 w1.heap.size v1 ([] ++ [(y, 1073741824)]) := by
                unfold OwnsL; rw [flat_append, List.length_append]; exact hown1
              have HG1 := Lib.hid (((below_drewN hb _).alloc hz _).grown hg1 (by simp; omega) (own_ge HO.out))
              obtain ⟨A5, c5, hv5, _, _⟩ := own_RS hown2
              subst hv5
              have HO5 := Lib.hid hown2; clear hown2 hown1 hg1
              go_wp2_with (fail)
              go_roundw
              case rel => exact ⟨k + 1, _, A5, c5, by omega, by go_num, rfl, HO5.out, by have := HI.out.more HS.out hlt (by show inP 1 (memB l bs[k]) (memB r bs[k]) = true; rw [HY.out, HBX.out, HBY.out]; rfl) HT.out (fun r hr => by simp at hr); rwa [HY.out] at this, HG1.out⟩
              case measure => simp [intOf]; omega
            · simp only [List.concat_eq_append] at *
              have hoK := HI.out.plain.short
              obtain ⟨g2, hA2, hbg, hgl⟩ := own_of_form HO.out (by simp)
              subst hA2
              have hcr := own_last HO.out
              have hfz := World.ownsRow.frozenAt HO.out (o.length * 2 + 1)
              simp only [List.length_append, List.length_singleton] at *
              have hrb : -1073741824 ≤ rh ∧ rh ≤ 1073741824 := by have := HI.out.plain.2 (rl, rh) (by simp); unfold Ok at this; simp only at this; omega
              have hd0 : decide ((0 : Int) < ((o.length + 1 : Nat) : Int)) = true := by simp
              generalize hj : o.length = j at *
              have HJ := Lib.hid hj; clear hj
              by_cases e : rh = y - 1
              · have hd1 : (rh == y - 1) = true := by simpa using e
                have HE := Lib.hid e; clear e
                go_wp2_with (fail)
                go_quiet ((first | (go_at_call_of 47 (Value.slice A n c); exact quiet_left (HX.out _)) | (go_at_call_of 47 (Value.slice A' n' c'); exact quiet_left (HYY.out _))))
                go_wp2_with (fail)
                go_quiet (fail)
                go_wp2_with (fail)
                go_roundw
                case rel => exact ⟨k + 1, o ++ [(rl, 1073741824)], _, co, by omega, by go_num, by simp only [List.length_append, List.length_singleton, HJ.out], own_turn0 HO.out HJ.out _, HI.out.extend HS.out hlt (by show inP 1 (memB l bs[k]) (memB r bs[k]) = true; rw [HY.out, HBX.out, HBY.out]; rfl) HT.out (by rw [HY.out]; exact HE.out), (below_drewN hb _).setCell hbg _⟩
                case measure => simp [intOf]; omega
              · have hd1 : (rh == y - 1) = false := by simpa using e
                have HE := Lib.hid e; clear e
                go_wp2_with (fail)
                go_quiet ((first | (go_at_call_of 47 (Value.slice A n c); exact quiet_left (HX.out _)) | (go_at_call_of 47 (Value.slice A' n' c'); exact quiet_left (HYY.out _))))
                go_wp2_with (fail)
                go_quiet (fail)
                go_wp2_with (at_builtin; go_must (refine wpList_append_own _ rfl _ _ 25 rfl w1.heap.size 60 i0 _ 2 16 Try.underlying25 hi0 hz0 hz1 hz2 rfl (by decide) _ (o ++ [(rl, rh)]).length (flat (o ++ [(rl, rh)])) rfl (by exact World.ownsRow.alloc HO.out _) ⟨wr.heap.size, 0, none⟩ 1 1 [.int .i64 y, .int .i64 (1073741824)] rfl rfl (cell_two _ _ _ _) ?c2 ?c3 ?c4 ?c5 ?_))
                case c2 => intro u hu; simp at hu; rcases hu with rfl | rfl <;> rfl
                case c3 => have := HJ.out; simp only [List.length_append, List.length_singleton, maxLen]; omega
                case c4 => have := HJ.out; simp only [List.length_append, List.length_singleton]; omega
                case c5 => simp only [World.size_alloc]; exact Nat.le_succ_of_le hz
                intro v1 w4 hown1 hg1 _
                have hown2 : OwnsL w4 w1.heap.size v1 (o ++ [(rl, rh)] ++ [(y, 1073741824)]) := by
                  unfold OwnsL; rw [flat_append, List.length_append, List.length_append]; exact hown1
                have HG1 := Lib.hid (((below_drewN hb _).alloc hz _).grown hg1 (by simp; omega) (own_ge HO.out))
                obtain ⟨A5, c5, hv5, _, _⟩ := own_RS hown2
                subst hv5
                have HO5 := Lib.hid hown2; clear hown2 hown1 hg1
                go_wp2_with (fail)
                go_roundw
                case rel => exact ⟨k + 1, _, A5, c5, by omega, by go_num, rfl, HO5.out, by have := HI.out.more HS.out hlt (by show inP 1 (memB l bs[k]) (memB r bs[k]) = true; rw [HY.out, HBX.out, HBY.out]; rfl) HT.out (fun r hr => by simp at hr; subst hr; rw [HY.out]; exact HE.out); rwa [HY.out] at this, HG1.out⟩
                case measure => simp [intOf]; omega
    · have HD := Lib.hid (HI.out.done (show bs.length ≤ k by omega))
      go_wp2_with (fail)
      go_ret
      exact ⟨_, o, rfl, HD.out, own_mono HO.out (by omega), hb1.trans (hb.mono (by omega))⟩

end Go.Proofs.Ytplpafoflibnlaa.Sp
