/- Texts of this proof, joined: TeHit, TeAsked, TePre, TeRPre, TeRPre2. -/
import Derived.Test.YtplpafoflibnlaaM11
import Derived.Test.YtplpafoflibnlaaM12
import Derived.Test.YtplpafoflibnlaaM14
import Derived.Test.YtplpafoflibnlaaM15
import Derived.Test.YtplpafoflibnlaaM17
import Derived.StillTailTactics
/- The walk of term.hit. -/
namespace Go.Proofs.Ytplpafoflibnlaa.Te
set_option maxRecDepth 100000
open Go Go.RowKit Go.Proofs.Ytplpafoflibnlaa.Sp Go.Proofs.Ytplpafoflibnlaa.Pa

def HitS (g : List Span) (last : Int) (has : Bool) (v gr x : Int) (new : List Span) : Prop := new.length ≤ 50 ∧ HitSpec g last has v gr x new
theorem rs_grown {w w' : World} {A : Option Addr} {n : Nat} {l : List Span} {r : Option Nat} (h : RS w w.heap.size A n l) (hg : w.grownBy w' r) (hne : ∀ b off, A = some ⟨b, off, none⟩ → some b ≠ r) : RS w' w'.heap.size A n l :=
  ⟨h.1, fun hn => by
    obtain ⟨b, off, e, hb, hc⟩ := h.2 hn
    have k : ∀ i, w'.cell? ⟨b, i, none⟩ = w.cell? ⟨b, i, none⟩ := fun i => World.cell?_of_block (hg.block b hb (hne b off e))
    exact ⟨b, off, e, by have := hg.size; omega, fun j hj => ⟨(k _).trans (hc j hj).1, (k _).trans (hc j hj).2⟩⟩⟩
theorem memB_true {l : List Span} {x : Int} (h : mem l x) : memB l x = true := by unfold memB; simp [h]
theorem memB_false {l : List Span} {x : Int} (h : ¬ mem l x) : memB l x = false := by unfold memB; simp [h]
theorem own_RS2 {w : World} {base : Nat} {v : Value} {out : List Span} (h : OwnsL w base v out) : ∃ A c, v = .slice A out.length c ∧ out.length ≤ c ∧ RS w w.heap.size A out.length out ∧ ∀ b off, A = some ⟨b, off, none⟩ → base ≤ b := by
  have h0 := h
  obtain ⟨h1, h2⟩ := h
  rcases h2 with ⟨hv, hn⟩ | ⟨g, cap, cur, hv, hr⟩
  · have : out = [] := List.eq_nil_of_length_eq_zero hn
    subst this
    exact ⟨none, 0, hv, Nat.le_refl _, RS.nil_ _ _ _, fun _ _ e => by cases e⟩
  · refine ⟨some ⟨g, 0, none⟩, cap, hv, hr.2.2.1, RS.of_own (base := base) (e := 60) (c := cap) ⟨h1, .inr ⟨g, cap, cur, rfl, hr⟩⟩, fun b off e => ?_⟩
    injection e with e
    injection e with e _ _
    have := hr.1
    omega
def HRel (base : Nat) (xs m : List Span) (val gr x last : Int) (gf : Nat) (w : World) (r0 : Option Nat) (Am : Option Addr) (v i : Value) (wr : World) : Prop :=
  ∃ k : Nat, k ≤ m.length ∧ i = .int .i64 k ∧ OwnsL wr base v (xs ++ (m.take k).map (hitF val gr x)) ∧ Below base w wr ∧ w.grownBy wr r0 ∧ (v.ownBlock = r0 ∨ ∃ g, v.ownBlock = some g ∧ w.heap.size ≤ g) ∧
    (wr.cell? ⟨gf, 0, none⟩ = some (.int .i64 last) ∧ wr.cell? ⟨gf, 1, none⟩ = some (.bool true) ∧ wr.cell? ⟨gf, 2, none⟩ = some (.int .i64 val) ∧ wr.cell? ⟨gf, 3, none⟩ = some (.int .i64 gr)) ∧ RS wr wr.heap.size Am m.length m ∧ v.ownBlock ≠ some gf ∧ (∀ b off, Am = some ⟨b, off, none⟩ → some b ≠ v.ownBlock) ∧ gf < wr.heap.size
theorem grown_over {w wr w6 w8 : World} {r0 r1 : Option Nat} (h1 : w.grownBy wr r0) (h2 : Below wr.heap.size wr w6) (h3 : w6.grownBy w8 r1) (hr : r1 = r0 ∨ ∃ g, r1 = some g ∧ w.heap.size ≤ g) : w.grownBy w8 r0 :=
  ⟨(h3.os.trans h2.os).trans h1.os, (h3.tape.trans h2.tape).trans h1.tape, (h3.output.trans h2.output).trans h1.output, Nat.le_trans h1.size (Nat.le_trans h2.size h3.size), fun k hk hne => by
    have a := h1.size
    have b := h2.size
    refine ((h3.block k (by omega) (fun e => ?_)).trans (h2.block k (by omega))).trans (h1.block k hk hne)
    rcases hr with hr | ⟨g, hr, hg⟩
    · exact hne (e.trans hr)
    · rw [hr] at e
      injection e with e
      omega⟩
set_option maxHeartbeats 4000000 in
theorem hit_any (base : Nat) (v : Value) (xs : List Span) (last : Int) (has : Bool) (val gr x : Int) (Aw : Option Addr) (cw : Nat) (W g : List Span) (w : World) (hown : OwnsL w base v xs) (hbase : base ≤ w.heap.size) (hlen : xs.length ≤ 1000000000000) (hW : RS w w.heap.size Aw W.length W) (hcw : W.length ≤ cw) (his : Is W (mem g)) (hfew : W.length ≤ 50) (hx0 : 0 ≤ x) (hx : x ≤ last) (hl : last ≤ 1114111) (hg0 : 0 ≤ gr) (hg1 : gr ≤ 21990232555520) (hv : R64 val) (hP : gr * (last - x) ≤ 66060288) :
    Calls Try.prog 45 #[v, .agg (scells last has val gr), .int .i64 x, .slice Aw W.length cw] w (LaidOut base v xs (HitS g last has val gr x) w) := by
  obtain ⟨i0, hi0, hz0, hz1, hz2⟩ := info_parts infoSpan
  have HO := Lib.hid hown
  have hvlt : ∀ k, v.ownBlock = some k → k < w.heap.size := fun k hk => (World.ownsRow.lt hown k hk).2
  clear hown
  obtain ⟨w0, hw0⟩ : ∃ w0, w.alloc (.cells (scells last has val gr) 73) = w0 := ⟨_, rfl⟩
  have hs0 : w0.heap.size = w.heap.size + 1 := by rw [← hw0]; simp
  have hb0 : Below w.heap.size w w0 := by rw [← hw0]; exact (Below.refl _ _).alloc (Nat.le_refl _) _
  have Z := Lib.hid (fun W (hb : Below w0.heap.size w0 W) => show W.cell? ⟨w.heap.size, 0, none⟩ = some (.int .i64 last) ∧ W.cell? ⟨w.heap.size, 1, none⟩ = some (.bool has) ∧ W.cell? ⟨w.heap.size, 2, none⟩ = some (.int .i64 val) ∧ W.cell? ⟨w.heap.size, 3, none⟩ = some (.int .i64 gr) from by rw [← hw0] at hb; exact boxed4 hb)
  obtain ⟨z0, z1, z2, z3⟩ := Z.out w0 (Below.refl _ _)
  have HB0 := Lib.hid hb0
  cases has
  · go_enter Try.func45, Try.ntmps45
    go_wp2_with (fail)
    go_ret
    exact ⟨v, [], rfl, by rw [List.append_nil]; exact ownS_below HO.out HB0.out, HB0.out.mono hbase, ⟨Nat.zero_le _, hit_no⟩, below_grown HB0.out _, .inl rfl⟩
  by_cases hgr : gr = 0
  · subst hgr
    have HH := Lib.hid (fun W' h => has_any Aw W.length cw W val W' h (by omega))
    by_cases hm : mem W val
    · rw [memB_true hm] at HH
      have HM := Lib.hid (hit_flat (last := last) (x := x) hv ((his.2 _).1 hm))
      go_enter Try.func45, Try.ntmps45
      go_wp2_with (fail)
      refine (HH.out _ (hW.belowM HB0.out)).mono ?_
      rintro q1 w1 ⟨rfl, hb1⟩
      clear z0 z1 z2 z3
      obtain ⟨z0, z1, z2, z3⟩ := Z.out w1 hb1
      obtain ⟨w2, hw2⟩ : ∃ w2, w1.alloc (.cells #[.int .i64 x, .int .i64 last] 60) = w2 := ⟨_, rfl⟩
      have hc2 : ∀ j u, [Value.int .i64 x, .int .i64 last][j]? = some u → w2.cell? ((⟨w1.heap.size, 0, none⟩ : Addr).add j) = some u := by rw [← hw2]; exact cell_two _ _ _ _
      have hs1 := hb1.size
      have hs2 : w2.heap.size = w1.heap.size + 1 := by rw [← hw2]; simp
      have H2 := Lib.hid (show Below w.heap.size w w2 by rw [← hw2]; exact below_al (below_next HB0.out hb1) _)
      have HC2 := Lib.hid hc2
      clear hc2 hb1
      go_wp2_with (at_builtin; go_must (refine wpList_append_own_at _ rfl _ _ 25 rfl base 60 i0 _ 2 16 Try.underlying25 hi0 hz0 hz1 hz2 rfl (by decide) v xs.length (flat xs) rfl (ownS_below HO.out H2.out) ⟨w1.heap.size, 0, none⟩ 1 1 [.int .i64 x, .int .i64 last] rfl rfl HC2.out ?c2 ?c3 ?c4 ?c5 ?_))
      case c2 => first | exact ⟨rfl, rfl⟩ | exact flat_one [(_, _)] | rfl
      case c3 => simp only [maxLen]; omega
      case c4 => omega
      case c5 => omega
      intro v8 w8 hown8 hg8 _ hat
      have HAT := Lib.hid hat; clear hat
      go_wp2_with (fail)
      go_ret
      refine ⟨v8, [(x, last)], rfl, ownS_more hown8, (H2.out.mono hbase).grown hg8 (by omega) (own_ge HO.out), ⟨by simp, HM.out⟩, grown_trans H2.out hg8, ?_⟩
      rcases HAT.out with e | e
      · exact .inl (by rw [e])
      · exact .inr ⟨_, e, by have := H2.out.size; omega⟩
    · rw [memB_false hm] at HH
      have HM := Lib.hid (hit_flat0 (last := last) (x := x) hv (fun h => hm ((his.2 _).2 h)))
      go_enter Try.func45, Try.ntmps45
      go_wp2_with (fail)
      refine (HH.out _ (hW.belowM HB0.out)).mono ?_
      rintro q1 w1 ⟨rfl, hb1⟩
      go_wp2_with (fail)
      go_ret
      have h2 := below_next HB0.out hb1
      exact ⟨v, [], rfl, by rw [List.append_nil]; exact ownS_below HO.out h2, h2.mono hbase, ⟨Nat.zero_le _, HM.out⟩, below_grown h2 _, .inl rfl⟩
  have hgr' : (gr == 0) = false := by simpa using hgr
  have hgp : 0 < gr := by omega
  have hP0 : 0 ≤ gr * (last - x) := Int.mul_nonneg hg0 (by omega)
  have hwl : IntKind.i64.wrap (last - x) = last - x := IntWalk.i64_in _ (by omega)
  have hwP : IntKind.i64.wrap (gr * (last - x)) = gr * (last - x) := IntWalk.i64_in _ (by omega)
  have HG := Lib.hid (fun m (hm : Is m (fun z => mem W z ∧ mem [(val, wrap64 (val + gr * (last - x)))] z)) => hit_grow his hm hgp hv hx hP)
  obtain ⟨hiV, hhi⟩ : ∃ q, wrap64 (val + gr * (last - x)) = q := ⟨_, rfl⟩
  have hwv : IntKind.i64.wrap (val + gr * (last - x)) = hiV := by rw [← hhi]; unfold wrap64; exact IntKind.wrap_i64 _
  have hhiB : val ≤ hiV → hiV ≤ val + 66060288 := fun hh => by
    rw [← hhi] at hh ⊢
    unfold R64 at hv
    unfold wrap64 at hh ⊢
    generalize gr * (last - x) = P at *
    omega
  rw [hhi] at HG
  obtain ⟨w1, hw1⟩ : ∃ w1, w0.alloc (.cells #[.int .i64 val, .int .i64 hiV] 60) = w1 := ⟨_, rfl⟩
  have hs1 : w1.heap.size = w0.heap.size + 1 := by rw [← hw1]; simp
  have h01 : Below w0.heap.size w0 w1 := by rw [← hw1]; exact (Below.refl _ _).alloc (Nat.le_refl _) _
  have hr1 : RS w1 w1.heap.size (some ⟨w0.heap.size, 0, none⟩) 1 [(val, hiV)] := ⟨rfl, fun _ => ⟨w0.heap.size, 0, rfl, by omega, fun j hj => by
    obtain rfl : j = 0 := by simp at hj; omega
    rw [← hw1]
    constructor <;> simp⟩⟩
  have HME := Lib.hid (meet_any Aw (some ⟨w0.heap.size, 0, none⟩) W.length 1 cw 1 W [(val, hiV)] w1 (hW.belowM (below_next hb0 h01)) hr1 (by omega) (by omega) hcw (by omega))
  rw [hs0] at HME
  have H01 := Lib.hid h01
  clear hr1 h01 hb0 hhi
  go_enter Try.func45, Try.ntmps45
  go_wp2_with (fail)
  refine HME.out.mono ?_
  rintro q3 w3 ⟨vm, m, rfl, hm, hom, hb3⟩
  obtain ⟨Am, cm, rfl, hcm, hrm, hgem⟩ := own_RS2 hom
  have hmfew : m.length ≤ 50 := Nat.le_trans (meet_few hm) hfew
  have HM := Lib.hid hm
  have HHS := Lib.hid (HG.out m hm)
  have hb03 := below_next H01.out hb3
  have hs3 := hb3.size
  have HB3 := Lib.hid (below_next HB0.out hb03)
  have HRM := Lib.hid hrm
  have HZ3 := Lib.hid (Z.out w3 hb03)
  clear hm hom hb3 hrm hb03 z0 z1 z2 z3
  go_wp2_with (fail)
  go_loopw [0, 47] (fun v' i wr => HRel base xs m val gr x last w.heap.size w v.ownBlock Am v' i wr) (fun _ i _ => m.length - (intOf i).toNat)
  case atStart => exact ⟨0, Nat.zero_le _, rfl, by rw [List.take_zero, List.map_nil, List.append_nil]; exact ownS_below HO.out HB3.out, HB3.out.mono hbase, below_grown HB3.out _, .inl rfl, HZ3.out, HRM.out, fun e => by have := hvlt _ e; omega, fun b off e h => by have := hvlt _ h.symm; have := hgem b off e; omega, by omega⟩
  case round =>
    obtain ⟨k, hk, rfl, ho, hb, hgw, hrow, ⟨z0, z1, z2, z3⟩, hrm, hnf, hnm, hgf⟩ := hrel
    have hzw := hgw.size
    have hlenk : (xs ++ (m.take k).map (hitF val gr x)).length ≤ 1000000000050 := by
      rw [List.length_append, List.length_map, List.length_take]
      omega
    have HO2 := Lib.hid ho
    have HB := Lib.hid hb
    have HGW := Lib.hid hgw
    have HROW := Lib.hid hrow
    have HRM2 := Lib.hid hrm
    have HNF := Lib.hid hnf
    have HNM := Lib.hid hnm
    have HZ := Lib.hid (show ∀ i u, wr.cell? ⟨w.heap.size, i, none⟩ = some u → wr.cell? ⟨w.heap.size, i, none⟩ = some u from fun _ _ h => h)
    by_cases hlt : k < m.length
    · obtain ⟨b1, off, lo, hi, hAm, hbB, hlk, c1, c2⟩ := hrm.at_ hlt
      have hAmE := hAm
      have hpc : val ≤ lo ∧ lo ≤ hi ∧ hi ≤ hiV ∧ -1073741824 ≤ lo ∧ hi ≤ 1073741824 := by
        obtain ⟨_, e⟩ := hlk
        have := meet_piece HM.out (List.getElem_mem hlt)
        rw [e] at this
        exact this
      have hhb := hhiB (by omega)
      have HNX := Lib.hid (show xs ++ (m.take (k + 1)).map (hitF val gr x) = (xs ++ (m.take k).map (hitF val gr x)) ++ [hitF val gr x (lo, hi)] from by
        obtain ⟨hl, e⟩ := hlk
        rw [List.take_succ_eq_append_getElem hl, List.map_append, e, List.append_assoc]
        rfl)
      have e1 : IntKind.i64.wrap (lo - val) = lo - val := IntWalk.i64_in _ (by omega)
      have e2 : IntKind.i64.wrap (lo - val + gr) = lo - val + gr := IntWalk.i64_in _ (by omega)
      have e3 : IntKind.i64.wrap (lo - val + gr - 1) = lo - val + gr - 1 := IntWalk.i64_in _ (by omega)
      have e4 : (lo - val + gr - 1).tdiv gr = (lo - val + gr - 1) / gr := Int.tdiv_eq_ediv_of_nonneg (by omega)
      have q0 : 0 ≤ (lo - val + gr - 1) / gr := Int.ediv_nonneg (by omega) (by omega)
      have q1 : (lo - val + gr - 1) / gr ≤ lo - val + gr - 1 := Int.ediv_le_self _ (by omega)
      have e5 : IntKind.i64.wrap (hi - val) = hi - val := IntWalk.i64_in _ (by omega)
      have e6 : (hi - val).tdiv gr = (hi - val) / gr := Int.tdiv_eq_ediv_of_nonneg (by omega)
      have q2 : 0 ≤ (hi - val) / gr := Int.ediv_nonneg (by omega) (by omega)
      have q3 : (hi - val) / gr ≤ hi - val := Int.ediv_le_self _ (by omega)
      have HF := Lib.hid (show hitF val gr x (lo, hi) = (x + (lo - val + gr - 1) / gr, x + (hi - val) / gr) from rfl)
      obtain ⟨Q1, hQ1⟩ : ∃ q, (lo - val + gr - 1) / gr = q := ⟨_, rfl⟩
      obtain ⟨Q2, hQ2⟩ : ∃ q, (hi - val) / gr = q := ⟨_, rfl⟩
      rw [hQ1] at e4 q0 q1 HF
      rw [hQ2] at e6 q2 q3 HF
      have e7 : IntKind.i64.wrap Q1 = Q1 := IntWalk.i64_in _ (by omega)
      have e8 : IntKind.i64.wrap Q2 = Q2 := IntWalk.i64_in _ (by omega)
      have e7' : wrap64 Q1 = Q1 := IntWalk.wrap64_in _ (by omega)
      have e8' : wrap64 Q2 = Q2 := IntWalk.wrap64_in _ (by omega)
      have e9 : IntKind.i64.wrap (x + Q1) = x + Q1 := IntWalk.i64_in _ (by omega)
      have e10 : IntKind.i64.wrap (x + Q2) = x + Q2 := IntWalk.i64_in _ (by omega)
      obtain ⟨w5, hw5⟩ : ∃ w5, wr.alloc (.cells #[.int .i64 lo, .int .i64 hi] 60) = w5 := ⟨_, rfl⟩
      have hs5 : w5.heap.size = wr.heap.size + 1 := by rw [← hw5]; simp
      have h5 : Below wr.heap.size wr w5 := by rw [← hw5]; exact (Below.refl _ _).alloc (Nat.le_refl _) _
      have y0 : w5.cell? ⟨wr.heap.size, 0, none⟩ = some (.int .i64 lo) := by rw [← hw5]; simp
      have y1 : w5.cell? ⟨wr.heap.size, 1, none⟩ = some (.int .i64 hi) := by rw [← hw5]; simp
      have u2 : w5.cell? ⟨w.heap.size, 2, none⟩ = some (.int .i64 val) := (h5.cell hgf).trans z2
      have u3 : w5.cell? ⟨w.heap.size, 3, none⟩ = some (.int .i64 gr) := (h5.cell hgf).trans z3
      have H6 := Lib.hid (show Below wr.heap.size wr (w5.alloc (.cells #[.int .i64 (x + Q1), .int .i64 (x + Q2)] 60)).drew from (below_al h5 _).drew)
      have hZ6 := fun (p : Addr) (u : Value) (hp : p.block < wr.heap.size) (hu : wr.cell? p = some u) => (H6.out.cell hp).trans hu
      have HZ6 := Lib.hid (And.intro (hZ6 ⟨w.heap.size, 0, none⟩ _ hgf z0) (And.intro (hZ6 ⟨w.heap.size, 1, none⟩ _ hgf z1) (And.intro (hZ6 ⟨w.heap.size, 2, none⟩ _ hgf z2) (hZ6 ⟨w.heap.size, 3, none⟩ _ hgf z3))))
      have hlen2 : (xs ++ (m.take k).map (hitF val gr x)).length = xs.length + k := by rw [List.length_append, List.length_map, List.length_take]; omega
      have HLEN := Lib.hid hlen2
      obtain ⟨X, hX⟩ : ∃ X, xs ++ (m.take k).map (hitF val gr x) = X := ⟨_, rfl⟩
      rw [hX] at HO2 HNX HLEN
      have hk5 : w5.heap.size ≠ w.heap.size := by omega
      have hag : u0.ownBlock ≠ some wr.heap.size := fun e => by have := (HO2.out.lt _ e).2; omega
      have hag2 : u0.ownBlock ≠ some w.heap.size := hnf
      clear hZ6 hlen2 hX
      rw [hAm]
      clear h5 ho hb hgw hrow hrm hnf hnm hlk hAm hQ1 hQ2 hpc z0 z1 z2 z3
      have i1 : (0 : Int) ≤ (k : Int) := Int.natCast_nonneg _
      have i2 : (k : Int) < (m.length : Int) := by omega
      go_wp2_with (fail)
      go_region_held3 (fun w' => w'.cell? ⟨wr.heap.size, 0, none⟩ = some (.int .i64 lo) ∧ w'.cell? ⟨wr.heap.size, 1, none⟩ = some (.int .i64 hi) ∧ w'.cell? ⟨w.heap.size, 2, none⟩ = some (.int .i64 val) ∧ w'.cell? ⟨w.heap.size, 3, none⟩ = some (.int .i64 gr))
        (first
          | go_keep
          | (go_split_ands
             refine ⟨?_, ?_, ?_, ?_⟩
             · (rw [hgrow.cell_far _ (by simp; omega) (Ne.symm hag)]; assumption)
             · (rw [hgrow.cell_far _ (by simp; omega) (Ne.symm hag)]; assumption)
             · (rw [hgrow.cell_far _ (by simp; omega) (Ne.symm hag2)]; assumption)
             · (rw [hgrow.cell_far _ (by simp; omega) (Ne.symm hag2)]; assumption)))
        ((refine step_append_lies _ (by rfl) _ _ _ (by rfl) base 60 i0 _ 2 16 Try.underlying25 hi0 hz0 hz1 hz2 rfl (by omega) u0 X.length (flat X) (by rfl) (ownS_below HO2.out H6.out)
            ⟨wr.heap.size + 1, 0, none⟩ 1 1 [.int .i64 (x + Q1), .int .i64 (x + Q2)] (by rfl) (by rfl) (by rw [← hs5]; exact World.news_of_block (cs := #[.int .i64 (x + Q1), .int .i64 (x + Q2)]) (t := 60) (fr := (0, 0)) (heap_alloc_new w5 _)) (by simp [Value.oneCell'])
            (by omega) (by rw [HLEN.out]; simp only [maxLen]; omega) (by rw [HLEN.out]; omega) (by simp; omega) (w5.heap.size + 1) (by simp) ?_; intro gg cap w8 hown8 hgrow hat hlt8))
      have hg8 := hgrow
      have hg8s : wr.heap.size ≤ w8.heap.size := by have := H6.out.size; have := hg8.size; omega
      have ho8 : OwnsL w8 base (.slice (some ⟨gg, 0, none⟩) (X.length + 1) cap) (X ++ [(x + Q1, x + Q2)]) := ownS_more hown8
      rw [← HF.out, ← HNX.out] at ho8
      have HO8 := Lib.hid ho8
      have HB8 := Lib.hid ((HB.out.trans (H6.out.mono (by omega))).grown hg8 (by have := H6.out.size; omega) (own_ge HO2.out))
      have HK8 := Lib.hid (show (w8.cell? ⟨w.heap.size, 0, none⟩ = some (.int .i64 last) ∧ w8.cell? ⟨w.heap.size, 1, none⟩ = some (.bool true) ∧ w8.cell? ⟨w.heap.size, 2, none⟩ = some (.int .i64 val) ∧ w8.cell? ⟨w.heap.size, 3, none⟩ = some (.int .i64 gr)) from
        ⟨hg8.cell HZ6.out.1 (fun e => HNF.out e.symm), hg8.cell HZ6.out.2.1 (fun e => HNF.out e.symm), hg8.cell HZ6.out.2.2.1 (fun e => HNF.out e.symm), hg8.cell HZ6.out.2.2.2 (fun e => HNF.out e.symm)⟩)
      have HRM8 := Lib.hid (rs_grown (HRM2.out.belowM H6.out) hg8 HNM.out)
      have hmb : ∀ b off, Am = some ⟨b, off, none⟩ → b < wr.heap.size := fun b off e => by
        rw [hAmE] at e
        injection e with e
        injection e with e _ _
        omega
      have HGW8 := Lib.hid (grown_over HGW.out H6.out hg8 HROW.out)
      have HV8 := Lib.hid (show (some gg = v.ownBlock ∨ ∃ g, some gg = some g ∧ w.heap.size ≤ g) ∧ some gg ≠ some w.heap.size ∧ (∀ b off, Am = some ⟨b, off, none⟩ → some b ≠ some gg) from by
        rcases hat with e | e
        · rw [← e]
          exact ⟨HROW.out, HNF.out, HNM.out⟩
        · exact ⟨.inr ⟨_, rfl, by omega⟩, fun q => by injection q with q; omega, fun b off hb q => by injection q with q; have := hmb b off hb; omega⟩)
      rw [hAmE] at HRM8 HV8
      clear hown8 hg8 hgrow hat ho8 hmb c1 c2 y0 y1 u2 u3
      go_wp2_with (fail)
      go_roundw
      case rel => exact ⟨k + 1, by omega, by go_num, HO8.out, HB8.out, HGW8.out, HV8.out.1, HK8.out, HRM8.out, HV8.out.2.1, HV8.out.2.2, by omega⟩
      case measure => simp [intOf]; omega
    · have hkl : k = m.length := by omega
      subst hkl
      have HO9 := Lib.hid (show OwnsL wr base _ (xs ++ m.map (hitF val gr x)) from by rw [List.take_length] at ho; exact ho)
      clear ho hb hgw hrow hrm hnf hnm
      go_wp2_with (fail)
      go_ret
      exact ⟨_, m.map (hitF val gr x), rfl, HO9.out, HB.out, ⟨by rw [List.length_map]; exact hmfew, HHS.out⟩, HGW.out, HROW.out⟩
end Go.Proofs.Ytplpafoflibnlaa.Te
/- The walk of term.asked. -/
namespace Go.Proofs.Ytplpafoflibnlaa.Te
set_option maxRecDepth 100000
open Go Go.RowKit Go.Proofs.Ytplpafoflibnlaa.Sp Go.Proofs.Ytplpafoflibnlaa.Pa

structure TM where
  b : Int
  d : Int
  t : Int
  u : Int
  s : Int
  A : Option Addr
  c : Nat
  l : List PT
/-- Terms in a row, in a world. -/
def RTs (w : World) (g off : Nat) (ts : List TM) : Prop := ∀ (j : Nat) (h : j < ts.length), w.cell? ⟨g, off + j * 6, none⟩ = some (.int .i64 ts[j].b) ∧ w.cell? ⟨g, off + j * 6 + 1, none⟩ = some (.int .i64 ts[j].d) ∧ w.cell? ⟨g, off + j * 6 + 2, none⟩ = some (.int .i64 ts[j].t) ∧ w.cell? ⟨g, off + j * 6 + 3, none⟩ = some (.int .i64 ts[j].u) ∧ w.cell? ⟨g, off + j * 6 + 4, none⟩ = some (.int .i64 ts[j].s) ∧ w.cell? ⟨g, off + j * 6 + 5, none⟩ = some (.slice ts[j].A ts[j].l.length ts[j].c)
theorem RTs.below {w w' : World} {g off B : Nat} {ts : List TM} (h : RTs w g off ts) (hb : Below B w w') (hg : g < B) : RTs w' g off ts := fun j hj => by
  obtain ⟨h0, h1, h2, h3, h4, h5⟩ := h j hj
  exact ⟨(hb.cell hg).trans h0, (hb.cell hg).trans h1, (hb.cell hg).trans h2, (hb.cell hg).trans h3, (hb.cell hg).trans h4, (hb.cell hg).trans h5⟩
def okT (x : TM) : Prop := partsB 1 x.l = true ∧ Bits x.d x.t x.u
theorem right_outer (d t u : Int) : rightB 0 d t u 1 = decide (Bits d t u) := by
  unfold rightB
  by_cases h : Bits d t u
  · rw [decide_eq_true h, decide_eq_true ⟨by omega, by omega, h⟩]
  · rw [decide_eq_false h, decide_eq_false (fun q => h q.2.2)]
def KRel (ts : List TM) (w : World) (iv : Value) (wr : World) : Prop := ∃ k : Nat, k ≤ ts.length ∧ iv = .int .i64 k ∧ (∀ x ∈ ts.take k, okT x) ∧ Below w.heap.size w wr
set_option maxHeartbeats 4000000 in
theorem asked_any (As : Option Addr) (cs : Nat) (sl : List Span) (g off ct : Nat) (ts : List TM) (w : World) (hs : RS w w.heap.size As sl.length sl) (hcs : sl.length ≤ cs) (hsl : sl.length ≤ 1000000) (hts : RTs w g off ts) (hg : g < w.heap.size) (hn : ts.length ≤ 100) (hp : ∀ x ∈ ts, RP w w.heap.size x.A x.l.length x.l ∧ x.l.length ≤ maxLen) :
    Calls Try.prog 42 #[.slice As sl.length cs, .slice (some ⟨g, off, none⟩) ts.length ct] w (PlainOut (fun y => (∀ x ∈ ts, okT x) ∧ mem sl y ∧ mem [(0, 1114111)] y) w) := by
  have HTS := Lib.hid hts
  have HP := Lib.hid hp
  have HSS := Lib.hid hs
  clear hts hp hs
  go_enter Try.func42, Try.ntmps42
  go_wp2_with (fail)
  go_loopw [9] (fun i wr => KRel ts w i wr) (fun i _ => ts.length - (intOf i).toNat)
  case atStart => exact ⟨0, Nat.zero_le _, rfl, fun x hx => by simp at hx, Below.refl _ _⟩
  case round =>
    obtain ⟨k, hk, rfl, hok, hb⟩ := hrel
    have HOK := Lib.hid hok
    have HB := Lib.hid hb
    have hz := hb.size
    clear hok
    by_cases hlt : k < ts.length
    · obtain ⟨c0, c1, c2, c3, c4, c5⟩ := (HTS.out.below hb hg) k hlt
      obtain ⟨hrp, hml⟩ := HP.out _ (List.getElem_mem hlt)
      have HNX := Lib.hid (show okT ts[k] → ∀ x ∈ ts.take (k + 1), okT x from fun hq x hx => by
        rw [List.take_succ_eq_append_getElem hlt, List.mem_append] at hx
        rcases hx with hx | hx
        · exact HOK.out x hx
        · rw [List.mem_singleton] at hx
          subst hx
          exact hq)
      have HNO := Lib.hid (show ¬ okT ts[k] → ∀ y, ¬ ((∀ x ∈ ts, okT x) ∧ mem sl y ∧ mem [(0, 1114111)] y) from fun hq y hy => hq (hy.1 _ (List.getElem_mem hlt)))
      obtain ⟨⟨b, d, t, u, s, A, c, l⟩, hT⟩ : ∃ x, ts[k] = x := ⟨_, rfl⟩
      rw [hT] at c0 c1 c2 c3 c4 c5 hrp hml HNX HNO
      dsimp only at c0 c1 c2 c3 c4 c5 hrp hml
      obtain ⟨w5, hw5⟩ : ∃ w5, wr.alloc (.cells (tcells b d t u s A l.length c) 24) = w5 := ⟨_, rfl⟩
      have h5 : Below wr.heap.size wr w5 := by rw [← hw5]; exact (Below.refl _ _).alloc (Nat.le_refl _) _
      have X6 := Lib.hid (fun W (hb : Below w5.heap.size w5 W) => show Boxed6 W wr.heap.size b d t u s A l.length c from by rw [← hw5] at hb; exact boxed6 hb)
      obtain ⟨q0, q1, q2, q3, q4, q5⟩ := X6.out w5 (Below.refl _ _)
      have HTP := Lib.hid (tparts_any b d t u s A l.length c l 1 w5 (hrp.belowM (hb.trans (h5.mono hz))) hml)
      have H5 := Lib.hid h5
      clear hT hrp hml h5 hb
      rcases hpb : partsB 1 l with _ | _
      · rw [hpb] at HTP
        have HNO2 := Lib.hid (HNO.out (fun q => by have := q.1; dsimp only at this; rw [hpb] at this; cases this))
        clear hpb
        go_wp2_with (fail)
        refine HTP.out.mono ?_
        rintro q6 w6 ⟨rfl, hb6⟩
        go_wp2_with (fail)
        go_ret
        exact ⟨none, 0, 0, [], rfl, ⟨Plain.nil, fun y => ⟨fun h => (by obtain ⟨_, p, hp, _⟩ := h; cases hp), fun h => absurd h (HNO2.out y)⟩⟩, RS.nil_ _ _ _, by omega, by omega, HB.out.trans ((below_next H5.out hb6).mono hz)⟩
      · rw [hpb] at HTP
        have HRO := Lib.hid (right_any 0 d t u 1)
        rw [right_outer] at HRO
        by_cases hB : Bits d t u
        · rw [decide_eq_true hB] at HRO
          have HN2 := Lib.hid (HNX.out ⟨hpb, hB⟩)
          clear hpb hB
          go_wp2_with (fail)
          refine HTP.out.mono ?_
          rintro q6 w6 ⟨rfl, hb6⟩
          have H6 := Lib.hid (below_next H5.out hb6)
          clear q0 q1 q2 q3 q4 q5
          obtain ⟨q0, q1, q2, q3, q4, q5⟩ := X6.out w6 hb6
          clear hb6
          go_wp2_with (fail)
          refine (outer_any b d t u s A l.length c _).mono ?_
          rintro q7 w7 ⟨rfl, hb7⟩
          have H7 := Lib.hid (below_next H6.out hb7)
          clear hb7 q0 q1 q2 q3 q4 q5
          go_wp2_with (fail)
          refine (HRO.out _).mono ?_
          rintro q8 w8 ⟨rfl, hb8⟩
          have H8 := Lib.hid (HB.out.trans ((below_next H7.out hb8).mono hz))
          clear hb8 c0 c1 c2 c3 c4 c5
          go_wp2_with (fail)
          go_roundw
          case rel => exact ⟨k + 1, by omega, by go_num, HN2.out, H8.out⟩
          case measure => simp [intOf]; omega
        · rw [decide_eq_false hB] at HRO
          have HNO2 := Lib.hid (HNO.out (fun q => hB q.2))
          clear hpb hB
          go_wp2_with (fail)
          refine HTP.out.mono ?_
          rintro q6 w6 ⟨rfl, hb6⟩
          have H6 := Lib.hid (below_next H5.out hb6)
          clear q0 q1 q2 q3 q4 q5
          obtain ⟨q0, q1, q2, q3, q4, q5⟩ := X6.out w6 hb6
          clear hb6
          go_wp2_with (fail)
          refine (outer_any b d t u s A l.length c _).mono ?_
          rintro q7 w7 ⟨rfl, hb7⟩
          have H7 := Lib.hid (below_next H6.out hb7)
          clear hb7 q0 q1 q2 q3 q4 q5
          go_wp2_with (fail)
          refine (HRO.out _).mono ?_
          rintro q8 w8 ⟨rfl, hb8⟩
          have H8 := Lib.hid (HB.out.trans ((below_next H7.out hb8).mono hz))
          clear hb8
          go_wp2_with (fail)
          go_ret
          exact ⟨none, 0, 0, [], rfl, ⟨Plain.nil, fun y => ⟨fun h => (by obtain ⟨_, p, hp, _⟩ := h; cases hp), fun h => absurd h (HNO2.out y)⟩⟩, RS.nil_ _ _ _, by omega, by omega, H8.out⟩
    · have hkl : k = ts.length := by omega
      subst hkl
      rw [List.take_length] at HOK
      go_wp2_with (fail)
      refine (symbols_any _).mono ?_
      rintro q6 w6 ⟨B6, rfl, hr6, hb6⟩
      have h06 := below_next HB.out (by exact hb6)
      have HM := Lib.hid (meet_any As B6 sl.length 1 cs 1 sl [(0, 1114111)] w6 (HSS.out.belowM h06) hr6 (by omega) (by omega) hcs (by omega))
      have H06 := Lib.hid h06
      clear hr6 hb6 h06 hb
      go_wp2_with (fail)
      refine HM.out.mono ?_
      rintro q7 w7 ⟨v7, o7, rfl, his, ho7, hb7⟩
      obtain ⟨A7, c7, rfl, hc7, hr7⟩ := own_RS ho7
      have HI := Lib.hid his
      have HR := Lib.hid hr7
      have H7 := Lib.hid (below_next H06.out hb7)
      clear his ho7 hr7 hb7
      go_wp2_with (fail)
      go_ret
      exact ⟨A7, _, c7, o7, rfl, HI.out.congr fun y => ⟨fun h => ⟨HOK.out, h⟩, fun h => h.2⟩, HR.out, HI.out.1.short, hc7, H7.out⟩
end Go.Proofs.Ytplpafoflibnlaa.Te
/- The walk of term.Pre. -/
namespace Go.Proofs.Ytplpafoflibnlaa.Te
set_option maxRecDepth 100000
open Go Go.RowKit Go.Proofs.Ytplpafoflibnlaa.Sp Go.Proofs.Ytplpafoflibnlaa.Pa

/-- y's value is told, and in g. -/
def PQ (b d t u s : Int) (l : List PT) (g : List Span) (y : Int) : Prop := ∃ v, valueT b d t u s l [y] = (v, true) ∧ mem g v
theorem not_ok {b d t u s : Int} {l : List PT} {y v : Int} (h : valueT b d t u s l [y] = (v, true)) : partsB 1 l = true ∧ Bits d t u := by
  obtain ⟨_, a2, a3⟩ := value_true h
  exact ⟨a2, (whole_true a3).2.1⟩
theorem box_row {w : World} {base : Nat} {v : Value} {xs : List Span} (h : OwnsL w base v xs) : ∀ k, v.ownBlock = some k → k < w.heap.size := fun k hk => (World.ownsRow.lt h k hk).2
/-- Between the rounds over the spans. -/
def OutR (Q : Int → Prop) (own : List Span) (w3 : World) (v iv : Value) (wr : World) : Prop :=
  ∃ (k X : Nat) (xs : List Span), k ≤ own.length ∧ iv = .int .i64 k ∧ OwnsL wr w3.heap.size v xs ∧ Below w3.heap.size w3 wr ∧ xs.length ≤ 50 * X ∧ X ≤ 1114112 ∧ (∀ p ∈ own.drop k, (X : Int) ≤ p.1) ∧ (∀ y, inL xs y ↔ inL (own.take k) y ∧ Q y)
/-- Within a span. -/
def InR (Q : Int → Prop) (xs0 : List Span) (lo hi : Int) (gr : Nat) (w3 : World) (v xv : Value) (wr : World) : Prop :=
  ∃ (x : Nat) (xs : List Span), lo ≤ x ∧ (x : Int) ≤ hi + 1 ∧ xv = .int .i64 x ∧ OwnsL wr w3.heap.size v xs ∧ Below w3.heap.size w3 wr ∧ xs.length ≤ 50 * x ∧ (∀ y, inL xs y ↔ inL xs0 y ∨ (lo ≤ y ∧ y < x ∧ Q y)) ∧ wr.cell? ⟨gr, 1, none⟩ = some (.int .i64 hi) ∧ v.ownBlock ≠ some gr ∧ gr < wr.heap.size
theorem cell_grown {w w' : World} {r : Option Nat} {g i : Nat} {u : Value} (hg : w.grownBy w' r) (hne : r ≠ some g) (h : w.cell? ⟨g, i, none⟩ = some u) : w'.cell? ⟨g, i, none⟩ = some u := hg.cell h (fun e => hne e.symm)
theorem BoxS.store0 {W : World} {g : Nat} {a v r : Int} {h : Bool} (q : BoxS W g a h v r) (a' : Int) : ∃ w5, W.setCell ⟨g, 0, none⟩ (.int .i64 a') = w5 ∧ BoxS w5 g a' h v r ∧ (∀ B, B ≤ g → Below B W w5) ∧ FarB W w5 g := by
  obtain ⟨⟨g0, g1, g2, g3⟩, hf⟩ := q
  refine ⟨_, rfl, ⟨⟨?_, ?_, ?_, ?_⟩, fun i hi => ?_⟩, fun B hB => (Below.refl _ _).setCell (by simpa using hB) _, (FarB.refl _ _).set _⟩
  case refine_5 => simp only [set_frozen]; exact hf i hi
  all_goals simp [go_sem, g0, g1, g2, g3]
theorem pq_step {b d t u s : Int} {l : List PT} {gl new xs xs0 : List Span} {x : Nat} {lo M fl fv fg : Int} {fh : Bool} (hM : M ≤ fl) (_hxM : (x : Int) ≤ M) (hlo : lo ≤ x)
    (hv : ∀ y, (x : Int) ≤ y → y ≤ fl → valueT b d t u s l [y] = if fh = true then (wrap64 (fv + fg * (y - x)), true) else (0, false))
    (hn : HitSpec gl M fh fv fg x new) (hin : ∀ y, inL xs y ↔ inL xs0 y ∨ (lo ≤ y ∧ y < x ∧ PQ b d t u s l gl y)) (y : Int) : inL (xs ++ new) y ↔ inL xs0 y ∨ (lo ≤ y ∧ y < M + 1 ∧ PQ b d t u s l gl y) := by
  have key : (x : Int) ≤ y → y ≤ M → (PQ b d t u s l gl y ↔ fh = true ∧ mem gl (wrap64 (fv + fg * (y - x)))) := fun h1 h2 => by
    unfold PQ
    rw [hv y h1 (by omega)]
    cases fh
    · simp
    · simp
  rw [inL_append, hin, hn]
  constructor
  · rintro ((h | ⟨h1, h2, h3⟩) | ⟨h1, h2, h3, h4⟩)
    · exact .inl h
    · exact .inr ⟨h1, by omega, h3⟩
    · exact .inr ⟨by omega, by omega, (key h1 h2).2 ⟨h3, h4⟩⟩
  · rintro (h | ⟨h1, h2, h3⟩)
    · exact .inl (.inl h)
    · by_cases hx : y < x
      · exact .inl (.inr ⟨h1, hx, h3⟩)
      · have := (key (by omega) (by omega)).1 h3
        exact .inr ⟨by omega, by omega, this.1, this.2⟩
theorem take_in {own : List Span} {k : Nat} {lo hi : Int} (hk : ∃ hl : k < own.length, own[k] = (lo, hi)) (y : Int) : inL (own.take (k + 1)) y ↔ inL (own.take k) y ∨ (lo ≤ y ∧ y ≤ hi) := by
  obtain ⟨hl, e⟩ := hk
  rw [List.take_succ_eq_append_getElem hl, inL_append, e, inL_one]
set_option maxHeartbeats 8000000 in
theorem pre_any (b d t u s : Int) (A : Option Addr) (c : Nat) (l : List PT) (As : Option Addr) (cs : Nat) (sl : List Span) (Ag : Option Addr) (cg : Nat) (gl : List Span) (w : World)
    (h : RP w w.heap.size A l.length l) (hl : l.length ≤ 20) (hs : R64 s) (hS : RS w w.heap.size As sl.length sl) (hcs : sl.length ≤ cs) (hsl : sl.length ≤ 50) (hG : RS w w.heap.size Ag gl.length gl) (hgl : gl.length ≤ 50) :
    Calls Try.prog 17 #[trm b d t u s A l.length c, .slice As sl.length cs, .slice Ag gl.length cg] w (SetOut (fun y => mem sl y ∧ Sy y ∧ PQ b d t u s l gl y) w) := by
  obtain ⟨w0, hw0⟩ : ∃ w0, w.alloc (.cells (tcells b d t u s A l.length c) 24) = w0 := ⟨_, rfl⟩
  have hs0 : w0.heap.size = w.heap.size + 1 := by rw [← hw0]; simp
  have hb0 : Below w.heap.size w w0 := by rw [← hw0]; exact (Below.refl _ _).alloc (Nat.le_refl _) _
  have XT := Lib.hid (fun W (hb : Below w0.heap.size w0 W) => show Boxed6 W w.heap.size b d t u s A l.length c from by rw [← hw0] at hb; exact boxed6 hb)
  obtain ⟨w1, hw1⟩ : ∃ w1, w0.alloc (.cells (tcells b d t u s A l.length c) 24) = w1 := ⟨_, rfl⟩
  have hs1 : w1.heap.size = w0.heap.size + 1 := by rw [← hw1]; simp
  have h01 : Below w0.heap.size w0 w1 := by rw [← hw1]; exact (Below.refl _ _).alloc (Nat.le_refl _) _
  have hb1 := below_next hb0 h01
  have hrt : RTs w1 (w.heap.size + 1) 0 [⟨b, d, t, u, s, A, c, l⟩] := fun j hj => by
    obtain rfl : j = 0 := by simp at hj; omega
    have q := boxed6 (w := w0) (w1 := w1) (b := b) (d := d) (t := t) (u := u) (s := s) (A := A) (n := l.length) (c := c) (ty := 24) (by rw [hw1]; exact Below.refl _ _)
    rw [hs0] at q
    exact q
  have HK := Lib.hid (asked_any As cs sl (w.heap.size + 1) 0 1 [⟨b, d, t, u, s, A, c, l⟩] w1 (hS.belowM hb1) hcs (by omega) hrt (by omega) (by simp) (fun x hx => by
    rw [List.mem_singleton] at hx
    subst hx
    exact ⟨h.belowM hb1, by unfold maxLen; dsimp only; omega⟩))
  simp only [List.length_singleton] at HK
  have H1 := Lib.hid (h.belowM hb1)
  have HG1 := Lib.hid (hG.belowM hb1)
  have H01 := Lib.hid h01
  have HB1 := Lib.hid hb1
  obtain ⟨q0, q1, q2, q3, q4, q5⟩ := XT.out w0 (Below.refl _ _)
  clear h hS hG hb0 h01 hb1 hrt
  go_enter Try.func17, Try.ntmps17
  go_wp2_with (fail)
  refine HK.out.mono ?_
  rintro qq2 w2 ⟨A2, n2, c2, own, rfl, hio, hr2, hn2, hc2, hb2⟩
  have HN := Lib.hid (norm_any Ag gl.length cg gl w2 (HG1.out.belowM hb2) (by omega))
  have HIO := Lib.hid hio
  have H02 := Lib.hid (below_next H01.out hb2)
  have HR2 := Lib.hid hr2
  have hz2 := hb2.size
  have HB2 := Lib.hid (below_next HB1.out hb2)
  have H2 := Lib.hid (H1.out.belowM hb2)
  clear hio hr2 hb2 q0 q1 q2 q3 q4 q5
  go_wp2_with (fail)
  refine HN.out.mono ?_
  rintro qq3 w3 ⟨v3, W, rfl, hiW, ho3, hb3⟩
  obtain ⟨AW, cW, rfl, hcW, hrW⟩ := own_RS ho3
  have hWf := Nat.le_trans (norm_few hiW) hgl
  have HIW := Lib.hid hiW
  have HRW := Lib.hid hrW
  have HR3 := Lib.hid (HR2.out.belowM hb3)
  have H03 := Lib.hid (below_next H02.out hb3)
  have hz3 := hb3.size
  have HB3 := Lib.hid (below_next HB2.out hb3)
  have H3 := Lib.hid (H2.out.belowM hb3)
  have hn2' : own.length = n2 := HR2.out.1
  subst hn2'
  clear hiW ho3 hrW hb3
  go_wp2_with (fail)
  go_loopw [9, 22] (fun v i wr => OutR (PQ b d t u s l gl) own w3 v i wr) (fun _ i _ => own.length - (intOf i).toNat)
  case atStart => exact ⟨0, 0, [], Nat.zero_le _, rfl, World.ownsRow_nil _ _ _ _, Below.refl _ _, by simp, by omega, fun p hp => by
    have hok := HIO.out.1.2 p (by simpa using hp)
    have := (HIO.out.2 p.1).1 ⟨by have := hok.2.1; have := hok.2.2; have := hok.1; unfold Rng; omega, p, by simpa using hp, Int.le_refl _, hok.1⟩
    obtain ⟨_, q, hq, a, bq⟩ := this.2.2
    rw [List.mem_singleton] at hq
    subst hq
    exact a, fun y => ⟨fun q => absurd q inL_nil, fun q => absurd q.1 (by simp [inL])⟩⟩
  case round =>
    obtain ⟨wo, rfl⟩ : ∃ wo : World, wo = wr := ⟨_, rfl⟩
    obtain ⟨k, X, xs0, hk, rfl, ho, hb, hlen, hX, hdrop, hin⟩ := hrel
    have hz := hb.size
    have HO := Lib.hid ho
    have HB := Lib.hid hb
    have HIN := Lib.hid hin
    by_cases hlt : k < own.length
    · obtain ⟨b1, off, lo, hi, hA2, hbB, hlk, c1, c2'⟩ := (HR3.out.below hb).at_ hlt
      subst hA2
      have hlk2 := hlk
      obtain ⟨_, hlk2⟩ := hlk2
      have hok := HIO.out.1.2 _ (List.getElem_mem hlt)
      rw [hlk2] at hok
      have hmem : ∀ y, lo ≤ y → y ≤ hi → (okT ⟨b, d, t, u, s, A, c, l⟩) ∧ mem sl y ∧ Sy y := fun y h1 h2 => by
        have := (HIO.out.2 y).1 ⟨by have := hok.2.1; have := hok.2.2; unfold Rng; omega, (lo, hi), by rw [← hlk2]; exact List.getElem_mem hlt, h1, h2⟩
        obtain ⟨_, q, hq, a, bq⟩ := this.2.2
        rw [List.mem_singleton] at hq
        subst hq
        exact ⟨this.1 _ (List.mem_singleton.2 rfl), this.2.1, a, bq⟩
      have hlohi : lo ≤ hi := hok.1
      have hloS := (hmem lo (Int.le_refl _) hlohi).2.2
      have hhiS := (hmem hi hlohi (Int.le_refl _)).2.2
      have hokT := (hmem lo (Int.le_refl _) hlohi).1
      have hXlo : (X : Int) ≤ lo := by
        have := hdrop own[k] (by rw [List.drop_eq_getElem_cons hlt]; exact List.mem_cons_self ..)
        rw [hlk2] at this
        exact this
      have HDR := Lib.hid (show ∀ p ∈ own.drop (k + 1), hi + 1 ≤ p.1 from fun p hp => by
        have := (HIO.out.1.at_ hlt).2 p hp
        rw [hlk2] at this
        dsimp only at this
        omega)
      have HTK := Lib.hid (take_in hlk)
      obtain ⟨lo', hlo'⟩ := Int.eq_ofNat_of_zero_le hloS.1
      subst hlo'
      have hok2 := hokT
      obtain ⟨hpB, hBo⟩ := hok2
      dsimp only at hpB hBo
      obtain ⟨w5, hw5⟩ : ∃ w5, wo.alloc (.cells #[.int .i64 lo', .int .i64 hi] 60) = w5 := ⟨_, rfl⟩
      have hs5 : w5.heap.size = wo.heap.size + 1 := by rw [← hw5]; simp
      have h5 : Below wo.heap.size wo w5 := by rw [← hw5]; exact (Below.refl _ _).alloc (Nat.le_refl _) _
      have y0 : w5.cell? ⟨wo.heap.size, 0, none⟩ = some (.int .i64 lo') := by rw [← hw5]; simp
      have y1 : w5.cell? ⟨wo.heap.size, 1, none⟩ = some (.int .i64 hi) := by rw [← hw5]; simp
      have H5 := Lib.hid h5
      have hvne : ∀ k', u9.ownBlock = some k' → k' < wo.heap.size := box_row ho
      have HATS := Lib.hid (show InR (PQ b d t u s l gl) xs0 lo' hi wo.heap.size w3 u9 (.int .i64 lo') w5 from
        ⟨lo', xs0, Int.le_refl _, by omega, rfl, ownS_below HO.out h5, HB.out.trans (h5.mono hz), by omega, fun y => ⟨fun q => .inl q, fun q => by
          rcases q with q | q
          · exact q
          · omega⟩, y1, fun e => by have := hvne _ e; omega, by omega⟩)
      clear ho hb hin hdrop hlk hmem hok h5 hvne
      go_wp2_with (fail)
      go_loopw [9, 12] (fun v xv wr' => InR (PQ b d t u s l gl) xs0 lo' hi wo.heap.size w3 v xv wr') (fun _ xv _ => (hi + 1 - intOf xv).toNat)
      case atStart => exact HATS.out
      case round =>
        obtain ⟨x, xs, hx0, hx1, rfl, ho, hb, hlx, hin, hc1, hne, hgr⟩ := hrel
        have hz6 := hb.size
        have HO2 := Lib.hid ho
        have HB2' := Lib.hid hb
        have HIN2 := Lib.hid hin
        have hvlt : ∀ k', u9.ownBlock = some k' → k' < wr.heap.size := box_row ho
        by_cases hle : (x : Int) ≤ hi
        · have hxS : Sy x := ⟨by omega, by have := hhiS.2; omega⟩
          have hak := along_ok (b := b) hs hl hpB hBo hxS
          have HAL := Lib.hid (along_any b d t u s A c l x wr (H3.out.belowM hb) hl hs hpB hBo hxS)
          obtain ⟨f, hf⟩ : ∃ f, alongT b d t u s l x = f := ⟨_, rfl⟩
          rw [hf] at hak HAL
          obtain ⟨fl, fh, fv, fg⟩ := f
          obtain ⟨ha1, ha2, ha3, ha4, ha5, ha6⟩ := hak
          dsimp only at ha1 ha2 ha3 ha4 ha5 ha6
          have HA6 := Lib.hid (fun y h1 h2 => (ha6 y h1 h2).2)
          obtain ⟨M, hM⟩ : ∃ M, (if hi < fl then hi else fl) = M := ⟨_, rfl⟩
          have hM2 : min fl hi = M := by rw [← hM]; split <;> omega
          have hMx : (x : Int) ≤ M := by omega
          have hMf : M ≤ fl := by omega
          have hMh : M ≤ hi := by omega
          have hPM : fg * (M - x) ≤ 66060288 := (ha6 M hMx hMf).1
          obtain ⟨q0, q1, q2, q3, q4, q5⟩ := XT.out wr (below_next H03.out hb)
          clear ho hb hin hf ha6
          go_wp2_with (fail)
          refine HAL.out.mono ?_
          rintro qq6 w6 ⟨rfl, hb6⟩
          dsimp only
          have hs6 := hb6.size
          have hBX := BoxS.new w6 fl fh fv fg 73
          obtain ⟨w7, hw7⟩ : ∃ w7, w6.alloc (.cells (scells fl fh fv fg) 73) = w7 := ⟨_, rfl⟩
          rw [hw7] at hBX
          have hs7 : w7.heap.size = w6.heap.size + 1 := by rw [← hw7]; simp
          have h67 : Below wr.heap.size wr w7 := by rw [← hw7]; exact below_al hb6 _
          obtain ⟨w8, hw8, hF8, hL8, hN8⟩ := hBX.store0 M
          obtain ⟨⟨f0, f1, f2, f3⟩, ff⟩ := hBX
          have ff0 := ff 0 (by omega)
          have c17 : w7.cell? ⟨wo.heap.size, 1, none⟩ = some (.int .i64 hi) := (h67.cell hgr).trans hc1
          have h68 : Below wr.heap.size wr w8 := h67.trans (hL8 _ (by omega))
          have c18 : w8.cell? ⟨wo.heap.size, 1, none⟩ = some (.int .i64 hi) := (h68.cell hgr).trans hc1
          have hs8 : w8.heap.size = w7.heap.size := hN8.2
          obtain ⟨⟨p0, p1, p2, p3⟩, _⟩ := hF8
          have HHT := Lib.hid (hit_any w3.heap.size u9 xs M fh fv fg x AW cW W gl w8 (ownS_below HO2.out h68) (by omega) (by omega) (HRW.out.belowM (HB2'.out.trans (h68.mono hz6))) hcW HIW.out hWf (by omega) hMx (by omega) ha3 ha4 ha5 hPM)
          have H68 := Lib.hid h68
          clear hb6 h67 h68 q0 q1 q2 q3 q4 q5 hL8 hN8 ff
          go_wp2_with (fail)
          refine HHT.out.mono ?_
          rintro qq9 w9 ⟨v9, new, rfl, ho9, hb9, ⟨hnew, hspec⟩, hg9, hgrew⟩
          have m0 : w9.cell? ⟨w6.heap.size, 0, none⟩ = some (.int .i64 M) := cell_grown hg9 (fun e => by have := hvlt _ e; omega) p0
          have c19 : w9.cell? ⟨wo.heap.size, 1, none⟩ = some (.int .i64 hi) := cell_grown hg9 hne c18
          have hne9 : v9.ownBlock ≠ some wo.heap.size := by
            rcases hgrew with e | ⟨g9, e, hge⟩
            · rw [e]; exact hne
            · rw [e]
              intro q
              injection q with q
              omega
          have hs9 := hg9.size
          have HIN9 := Lib.hid (pq_step hMf hMx hx0 HA6.out hspec HIN2.out)
          have HO9 := Lib.hid ho9
          have HB9 := Lib.hid ((HB2'.out.trans (H68.out.mono hz6)).trans hb9)
          have hwM : IntKind.i64.wrap (M + 1) = M + 1 := IntWalk.i64_in _ (by omega)
          obtain ⟨X2, hX2⟩ : ∃ X2 : Nat, M + 1 = (X2 : Int) := ⟨(M + 1).toNat, by omega⟩
          have HLN := Lib.hid (show (xs ++ new).length ≤ 50 * X2 by rw [List.length_append]; omega)
          clear ho9 hb9 hspec hg9 hgrew p0 p1 p2 p3 f0 f1 f2 f3 ff0 c17 c18 hnew
          go_wp2_with (fail)
          go_roundw
          case rel => exact ⟨X2, xs ++ new, by omega, by omega, by first | rw [hX2] | go_num, HO9.out, HB9.out, HLN.out, fun y => by rw [HIN9.out y, hX2], c19, hne9, by omega⟩
          case measure => simp [intOf]; omega
        · have hxe : (x : Int) = hi + 1 := by omega
          have HFIN := Lib.hid (show ∀ y, inL xs y ↔ inL (own.take (k + 1)) y ∧ PQ b d t u s l gl y from fun y => by
            rw [HIN2.out y, HTK.out y, HIN.out y]
            constructor
            · rintro (h | ⟨h1, h2, h3⟩)
              · exact ⟨.inl h.1, h.2⟩
              · exact ⟨.inr ⟨h1, by omega⟩, h3⟩
            · rintro ⟨h1 | ⟨h1, h2⟩, h3⟩
              · exact .inl ⟨h1, h3⟩
              · exact .inr ⟨h1, by omega, h3⟩)
          clear ho hb hin
          go_wp2_with (fail)
          go_roundw
          case rel => exact ⟨k + 1, x, xs, by omega, by go_num, HO2.out, HB2'.out, hlx, by have := hhiS.2; omega, fun p hp => by have := HDR.out p hp; omega, HFIN.out⟩
          case measure => simp [intOf]; omega
    · have hkl : k = own.length := by omega
      subst hkl
      rw [List.take_length] at hin
      obtain ⟨A9, c9, hv9, hc9, hr9⟩ := own_RS ho
      subst hv9
      have HN9 := Lib.hid (norm_any A9 xs0.length c9 xs0 _ hr9 (by omega))
      have HFIN := Lib.hid (show ∀ y, mem xs0 y ↔ mem sl y ∧ Sy y ∧ PQ b d t u s l gl y from fun y => by
        have e1 : mem xs0 y ↔ Rng y ∧ inL xs0 y := Iff.rfl
        have e2 : mem own y ↔ Rng y ∧ inL own y := Iff.rfl
        have e3 := HIO.out.2 y
        have e4 : mem [(0, 1114111)] y ↔ Rng y ∧ Sy y := by unfold mem Sy; simp
        rw [e1, hin]
        dsimp only at e3
        rw [e2, e4] at e3
        constructor
        · rintro ⟨h1, h2, h3⟩
          have := e3.1 ⟨h1, h2⟩
          exact ⟨this.2.1, this.2.2.2, h3⟩
        · rintro ⟨h1, h2, v, h3, h4⟩
          have hk2 := not_ok h3
          have := e3.2 ⟨fun x hx => by rw [List.mem_singleton] at hx; subst hx; exact hk2, h1, h1.1, h2⟩
          exact ⟨this.1, this.2, v, h3, h4⟩)
      have HBf := Lib.hid (HB3.out.trans (hb.mono HB3.out.size))
      have hzf := HB3.out.size
      clear ho hb hin hdrop hr9
      go_wp2_with (fail)
      refine HN9.out.mono ?_
      rintro qq10 w10 ⟨v10, o10, rfl, hi10, ho10, hb10⟩
      have HI10 := Lib.hid hi10
      clear hi10
      go_wp2_with (fail)
      go_ret
      exact ⟨v10, o10, rfl, HI10.out.congr HFIN.out, own_mono ho10 (by omega), HBf.out.trans (hb10.mono (by omega))⟩
end Go.Proofs.Ytplpafoflibnlaa.Te
/- The walks of the document's Symbols, add and Pre. -/
namespace Go.Proofs.Ytplpafoflibnlaa.Te
set_option maxRecDepth 100000
open Go Go.RowKit Go.Proofs.Ytplpafoflibnlaa.Sp Go.Proofs.Ytplpafoflibnlaa.Pa

set_option maxHeartbeats 1000000 in
theorem rsymbols_any (A : Option Addr) (c : Nat) (l : List Span) (w : World) (h : RS w w.heap.size A l.length l) (hn : l.length ≤ 1000000) :
    Calls Try.prog 14 #[.slice A l.length c] w (SetOut (fun y => mem l y ∧ Sy y) w) := by
  obtain ⟨w1, hw1⟩ : ∃ w1, w.alloc (.cells #[.int .i64 0, .int .i64 1114111] 60) = w1 := ⟨_, rfl⟩
  have hs1 : w1.heap.size = w.heap.size + 1 := by rw [← hw1]; simp
  have h01 : Below w.heap.size w w1 := by rw [← hw1]; exact (Below.refl _ _).alloc (Nat.le_refl _) _
  have hr1 : RS w1 w1.heap.size (some ⟨w.heap.size, 0, none⟩) 1 [(0, 1114111)] := ⟨rfl, fun _ => ⟨w.heap.size, 0, rfl, by omega, fun j hj => by
    obtain rfl : j = 0 := by simp at hj; omega
    rw [← hw1]
    constructor <;> simp⟩⟩
  have HM := Lib.hid (rmake1 A (some ⟨w.heap.size, 0, none⟩) l.length 1 c 1 l [(0, 1114111)] w1 (h.belowM h01) hr1 (by omega) (by omega))
  have H01 := Lib.hid h01
  have HE := Lib.hid (show ∀ y, (Rng y ∧ inP 1 (memB l y) (memB [(0, 1114111)] y) = true) ↔ mem l y ∧ Sy y from fun y => by
    have e4 : mem [(0, 1114111)] y ↔ Rng y ∧ Sy y := by unfold mem Sy; simp
    unfold inP
    simp only [if_true, Bool.and_eq_true, memB_iff]
    rw [e4]
    exact ⟨fun q => ⟨q.2.1, q.2.2.2⟩, fun q => ⟨q.1.1, q.1, q.1.1, q.2⟩⟩)
  clear h hr1 h01
  go_enter Try.func14, Try.ntmps14
  go_wp2_with (fail)
  refine HM.out.mono ?_
  rintro q2 w2 ⟨v2, o2, rfl, hi2, ho2, hb2⟩
  have HI := Lib.hid hi2
  clear hi2
  go_wp2_with (fail)
  go_ret
  exact ⟨v2, o2, rfl, HI.out.congr HE.out, own_mono ho2 (by omega), below_next H01.out hb2⟩

/-- A number more behind a rising list of spans. -/
def addL (xs : List Span) (x : Int) : List Span := match xs.reverse with
  | [] => [(x, x)]
  | (lo, hi) :: r => if hi = x - 1 then r.reverse ++ [(lo, x)] else xs ++ [(x, x)]
theorem addL_nil (x : Int) : addL [] x = [(x, x)] := rfl
theorem addL_snoc (ys : List Span) (lo hi x : Int) : addL (ys ++ [(lo, hi)]) x = if hi = x - 1 then ys ++ [(lo, x)] else ys ++ [(lo, hi)] ++ [(x, x)] := by
  unfold addL
  rw [List.reverse_append]
  simp
theorem snoc_cases (xs : List Span) : xs = [] ∨ ∃ ys lo hi, xs = ys ++ [(lo, hi)] := by
  rcases List.eq_nil_or_concat xs with h | ⟨ys, ⟨lo, hi⟩, h⟩
  · exact .inl h
  · exact .inr ⟨ys, lo, hi, by rw [h, List.concat_eq_append]⟩
/-- What the loops keep: a plain list of numbers below x. -/
def RisL (xs : List Span) (x : Int) : Prop := Plain xs ∧ ∀ p ∈ xs, p.2 < x
theorem addL_ok {xs : List Span} {x : Int} (h : RisL xs x) (hx : Sy x) : RisL (addL xs x) (x + 1) ∧ ∀ y, inL (addL xs x) y ↔ inL xs y ∨ y = x := by
  obtain ⟨hp, hlt⟩ := h
  unfold Sy at hx
  rcases snoc_cases xs with rfl | ⟨ys, lo, hi, rfl⟩
  · rw [addL_nil]
    refine ⟨⟨Plain.snoc (l := []) Plain.nil ⟨Int.le_refl _, by omega, by omega⟩ (fun q hq => by cases hq), fun p hp => ?_⟩, fun y => ?_⟩
    · rw [List.mem_singleton] at hp
      subst hp
      omega
    · rw [inL_one]
      constructor
      · intro h; exact .inr (by omega)
      · rintro (h | h)
        · exact absurd h inL_nil
        · omega
  · rw [addL_snoc]
    obtain ⟨py, pl, pg⟩ := hp.append
    have hok : Ok (lo, hi) := pl.2 _ (List.mem_singleton.2 rfl)
    have hhi := hlt (lo, hi) (List.mem_append_right _ (List.mem_singleton.2 rfl))
    obtain ⟨o1, o2, o3⟩ := hok
    dsimp only at hhi o1 o2 o3
    split
    · rename_i he
      subst he
      refine ⟨⟨Plain.snoc py ⟨by dsimp only; omega, o2, by dsimp only; omega⟩ (fun q hq => by have := pg q hq (lo, x - 1) (List.mem_singleton.2 rfl); dsimp only at this ⊢; exact this), fun p hp => ?_⟩, fun y => ?_⟩
      · rcases List.mem_append.1 hp with hp | hp
        · have := hlt p (List.mem_append_left _ hp); omega
        · rw [List.mem_singleton] at hp
          subst hp
          dsimp only
          omega
      · rw [inL_append, inL_append, inL_one, inL_one]
        constructor
        · rintro (h | h)
          · exact .inl (.inl h)
          · by_cases e : y = x
            · exact .inr e
            · exact .inl (.inr (by omega))
        · rintro ((h | h) | h)
          · exact .inl h
          · exact .inr (by omega)
          · exact .inr (by omega)
    · rename_i he
      refine ⟨⟨Plain.snoc hp ⟨Int.le_refl _, by dsimp only; omega, by dsimp only; omega⟩ (fun q hq => ?_), fun p hp => ?_⟩, fun y => ?_⟩
      · rcases List.mem_append.1 hq with hq | hq
        · have := pg q hq _ (List.mem_singleton.2 rfl)
          dsimp only at this ⊢
          omega
        · rw [List.mem_singleton] at hq
          subst hq
          dsimp only
          omega
      · rcases List.mem_append.1 hp with hp | hp
        · have := hlt p hp; omega
        · rw [List.mem_singleton] at hp
          subst hp
          dsimp only
          omega
      · rw [inL_append (l := ys ++ [(lo, hi)]), inL_one]
        constructor
        · rintro (h | h)
          · exact .inl h
          · exact .inr (by omega)
        · rintro (h | h)
          · exact .inl h
          · exact .inr (by omega)
def AddOut (base : Nat) (xs : List Span) (w : World) (e : Ending) (w' : World) : Prop := ∃ v', e = .returned v' ∧ OwnsL w' base v' xs ∧ Below base w w'
set_option maxHeartbeats 2000000 in
theorem add_any (base : Nat) (v : Value) (xs : List Span) (x : Int) (w : World) (hown : OwnsL w base v xs) (hbase : base ≤ w.heap.size) (hlen : xs.length ≤ 1000000000000) (hx : Sy x) :
    Calls Try.prog 48 #[v, .int .i64 x] w (AddOut base (addL xs x) w) := by
  obtain ⟨i0, hi0, hz0, hz1, hz2⟩ := info_parts infoSpan
  have hwx : IntKind.i64.wrap (x - 1) = x - 1 := IntWalk.i64_in _ (by unfold Sy at hx; omega)
  rcases snoc_cases xs with rfl | ⟨ys, lo, hi, rfl⟩
  · obtain ⟨A, c, rfl, hc, hr⟩ := own_RS hown
    simp only [List.length_nil] at *
    have HO := Lib.hid hown
    clear hown hr
    go_enter Try.func48, Try.ntmps48
    go_wp2_with (at_builtin; go_must (refine wpList_append_own _ rfl _ _ 25 rfl base 60 i0 _ 2 16 Try.underlying25 hi0 hz0 hz1 hz2 rfl (by decide) (.slice A 0 c) 0 [] rfl (World.ownsRow.alloc HO.out _) ⟨w.heap.size, 0, none⟩ 1 1 [.int .i64 x, .int .i64 x] rfl rfl (cell_two _ _ _ _) ?c2 ?c3 ?c4 ?c5 ?_))
    case c2 => first | exact ⟨rfl, rfl⟩ | exact flat_one [(_, _)] | rfl
    case c3 => simp only [maxLen]; omega
    case c4 => omega
    case c5 => first | omega | (simp only [World.size_alloc]; omega)
    intro v1 w1 hown1 hg1 _
    go_wp2_with (fail)
    go_ret
    exact ⟨v1, rfl, ownS_more (l := []) hown1, ((Below.refl base w).alloc hbase _).grown hg1 (by simp; omega) (own_ge HO.out)⟩
  · obtain ⟨A, c, rfl, hc, hr⟩ := own_RS hown
    obtain ⟨g, rfl, hbg, hgl⟩ := own_of_form hown (by simp)
    have hlast := own_last hown
    have hj : (ys ++ [(lo, hi)]).length = ys.length + 1 := by simp
    have HE := Lib.hid (addL_snoc ys lo hi x)
    have HO := Lib.hid hown
    have hfz : w.frozen? ⟨g, ys.length * 2 + 1, none⟩ = false := World.ownsRow.frozenAt hown _
    rw [hj] at hlen
    obtain ⟨j, hjE⟩ : ∃ j, ys.length = j := ⟨_, rfl⟩
    rw [hjE] at hj hlen hlast hfz
    have hw1 : IntKind.i64.wrap (((j + 1 : Nat) : Int) - 1) = (j : Int) := by rw [IntWalk.i64_in _ (by omega)]; omega
    have hw1' : IntKind.i64.wrap ((j : Int) + 1 - 1) = (j : Int) := by rw [IntWalk.i64_in _ (by omega)]; omega
    have hpos : decide ((0 : Int) < ((j + 1 : Nat) : Int)) = true := decide_eq_true (by omega)
    have hpos' : decide ((0 : Int) < (j : Int) + 1) = true := decide_eq_true (by omega)
    have HJ := Lib.hid hjE
    rw [hj]
    clear hown hr
    by_cases he : hi = x - 1
    · have he' : (hi == x - 1) = true := by simp [he]
      have HE2 := Lib.hid (HE.out.trans (if_pos he))
      have HT := Lib.hid (own_turn0 (j := j) (by rw [← hj]; exact HO.out) hjE x)
      clear hj hjE he
      go_enter Try.func48, Try.ntmps48
      go_wp2_with (fail)
      go_ret
      refine ⟨_, rfl, ?_, (Below.refl base w).setCell (by simp only; omega) _⟩
      rw [HE2.out]
      have := HT.out
      rw [List.length_append, HJ.out] at this
      exact this
    · have he' : (hi == x - 1) = false := by simp [he]
      have HE2 := Lib.hid (HE.out.trans (if_neg he))
      have HO2 := Lib.hid (show w.ownsRow base 60 2 (.slice (some ⟨g, 0, none⟩) (j + 1) c) (j + 1) (flat (ys ++ [(lo, hi)])) from by rw [← hj]; exact HO.out)
      have HJ1 := Lib.hid hj
      clear hj hjE he
      go_enter Try.func48, Try.ntmps48
      go_wp2_with (at_builtin; go_must (refine wpList_append_own _ rfl _ _ 25 rfl base 60 i0 _ 2 16 Try.underlying25 hi0 hz0 hz1 hz2 rfl (by decide) (.slice (some ⟨g, 0, none⟩) (j + 1) c) (j + 1) (flat (ys ++ [(lo, hi)])) rfl (World.ownsRow.alloc HO2.out _) ⟨w.heap.size, 0, none⟩ 1 1 [.int .i64 x, .int .i64 x] rfl rfl (cell_two _ _ _ _) ?c2 ?c3 ?c4 ?c5 ?_))
      case c2 => first | exact ⟨rfl, rfl⟩ | exact flat_one [(_, _)] | rfl
      case c3 => simp only [maxLen]; omega
      case c4 => omega
      case c5 => first | omega | (simp only [World.size_alloc]; omega)
      intro v1 w1 hown1 hg1 _
      go_wp2_with (fail)
      go_ret
      refine ⟨v1, rfl, ?_, ((Below.refl base w).alloc hbase _).grown hg1 (by simp; omega) (World.ownsRow.lt HO2.out · · |>.1)⟩
      rw [HE2.out]
      exact ownS_more (by rw [HJ1.out]; exact hown1)
end Go.Proofs.Ytplpafoflibnlaa.Te
/- The walk of the document's Pre. -/
namespace Go.Proofs.Ytplpafoflibnlaa.Te
set_option maxRecDepth 100000
open Go Go.RowKit Go.Proofs.Ytplpafoflibnlaa.Sp Go.Proofs.Ytplpafoflibnlaa.Pa

theorem rune_of {v : Int} (h0 : 0 ≤ v) (h1 : v ≤ 1114111) : IntKind.i32.wrap v = v := IntWalk.i32_in _ (by omega)
theorem rr_sym {W : World} {g : Nat} {x : Int} (h0 : W.cell? ⟨g, 0, none⟩ = some (.int .i32 x)) (hg : g < W.heap.size) (h1 : -2147483648 ≤ x) (h2 : x ≤ 2147483647) : RR W W.heap.size (some ⟨g, 0, none⟩) 1 [x] :=
  ⟨rfl, fun y hy => by simp at hy; omega, fun _ => ⟨g, 0, rfl, hg, fun j hj => by
    obtain rfl : j = 0 := by simp at hj; omega
    exact h0⟩⟩
def ROut (Q : Int → Prop) (m : List Span) (w2 : World) (v iv : Value) (wr : World) : Prop :=
  ∃ (k X : Nat) (xs : List Span), k ≤ m.length ∧ iv = .int .i64 k ∧ OwnsL wr w2.heap.size v xs ∧ Below w2.heap.size w2 wr ∧ RisL xs X ∧ (∀ p ∈ m.drop k, (X : Int) ≤ p.1) ∧ (∀ y, inL xs y ↔ inL (m.take k) y ∧ Q y)
def RIn (Q : Int → Prop) (xs0 : List Span) (lo hi : Int) (w2 : World) (v xv : Value) (wr : World) : Prop :=
  ∃ (x : Nat) (xs : List Span), lo ≤ x ∧ (x : Int) ≤ hi + 1 ∧ xv = .int .i64 x ∧ OwnsL wr w2.heap.size v xs ∧ Below w2.heap.size w2 wr ∧ RisL xs x ∧ (∀ y, inL xs y ↔ inL xs0 y ∨ (lo ≤ y ∧ y < x ∧ Q y))
theorem rin_yes {Q : Int → Prop} {xs xs0 : List Span} {lo : Int} {x : Nat} (hlo : lo ≤ x) (hr : RisL xs x) (hx : Sy x) (hq : Q x) (hin : ∀ y, inL xs y ↔ inL xs0 y ∨ (lo ≤ y ∧ y < x ∧ Q y)) :
    RisL (addL xs x) ((x + 1 : Nat) : Int) ∧ ∀ y, inL (addL xs x) y ↔ inL xs0 y ∨ (lo ≤ y ∧ y < ((x + 1 : Nat) : Int) ∧ Q y) := by
  obtain ⟨h1, h2⟩ := addL_ok hr hx
  refine ⟨by rw [Int.natCast_add]; exact h1, fun y => ?_⟩
  rw [h2, hin]
  constructor
  · rintro ((h | ⟨a, b, c⟩) | h)
    · exact .inl h
    · exact .inr ⟨a, by omega, c⟩
    · subst h
      exact .inr ⟨hlo, by omega, hq⟩
  · rintro (h | ⟨a, b, c⟩)
    · exact .inl (.inl h)
    · by_cases e : y = x
      · exact .inr e
      · exact .inl (.inr ⟨a, by omega, c⟩)
theorem rin_no {Q : Int → Prop} {xs xs0 : List Span} {lo : Int} {x : Nat} (hr : RisL xs x) (hq : ¬ Q x) (hin : ∀ y, inL xs y ↔ inL xs0 y ∨ (lo ≤ y ∧ y < x ∧ Q y)) :
    RisL xs ((x + 1 : Nat) : Int) ∧ ∀ y, inL xs y ↔ inL xs0 y ∨ (lo ≤ y ∧ y < ((x + 1 : Nat) : Int) ∧ Q y) := by
  refine ⟨⟨hr.1, fun p hp => by have := hr.2 p hp; omega⟩, fun y => ?_⟩
  rw [hin]
  constructor
  · rintro (h | ⟨a, b, c⟩)
    · exact .inl h
    · exact .inr ⟨a, by omega, c⟩
  · rintro (h | ⟨a, b, c⟩)
    · exact .inl h
    · by_cases e : y = x
      · subst e
        exact absurd c hq
      · exact .inr ⟨a, by omega, c⟩
theorem rlen {xs : List Span} {x : Int} (h : RisL xs x) : xs.length ≤ 1000000000000 := by have := h.1.short; omega
set_option maxHeartbeats 8000000 in
theorem rpre_any (b d t u s : Int) (A : Option Addr) (c : Nat) (l : List PT) (As : Option Addr) (cs : Nat) (sl : List Span) (Ag : Option Addr) (cg : Nat) (gl : List Span) (w : World)
    (h : RP w w.heap.size A l.length l) (hl : l.length ≤ 20) (hS : RS w w.heap.size As sl.length sl) (hsl : sl.length ≤ 50) (hG : RS w w.heap.size Ag gl.length gl) (hgl : gl.length ≤ 50) :
    Calls Try.prog 18 #[trm b d t u s A l.length c, .slice As sl.length cs, .slice Ag gl.length cg] w (SetOut (fun y => mem sl y ∧ Sy y ∧ PQ b d t u s l gl y) w) := by
  obtain ⟨w0, hw0⟩ : ∃ w0, w.alloc (.cells (tcells b d t u s A l.length c) 24) = w0 := ⟨_, rfl⟩
  have hs0 : w0.heap.size = w.heap.size + 1 := by rw [← hw0]; simp
  have hb0 : Below w.heap.size w w0 := by rw [← hw0]; exact (Below.refl _ _).alloc (Nat.le_refl _) _
  have XT := Lib.hid (fun W (hb : Below w0.heap.size w0 W) => show Boxed6 W w.heap.size b d t u s A l.length c from by rw [← hw0] at hb; exact boxed6 hb)
  have HS := Lib.hid (rsymbols_any As cs sl w0 (hS.belowM hb0) (by omega))
  have H0 := Lib.hid (h.belowM hb0)
  have HG0 := Lib.hid (hG.belowM hb0)
  have HB0 := Lib.hid hb0
  clear h hS hG hb0
  go_enter Try.func18, Try.ntmps18
  go_wp2_with (fail)
  refine HS.out.mono ?_
  rintro qq2 w2 ⟨v2, m, rfl, him, ho2, hb2⟩
  obtain ⟨A2, c2, rfl, hc2, hr2⟩ := own_RS ho2
  have HIM := Lib.hid him
  have HR2 := Lib.hid hr2
  have HB2 := Lib.hid hb2
  have hz2 := hb2.size
  clear him ho2 hr2 hb2
  go_wp2_with (fail)
  go_loopw [8, 9] (fun v i wr => ROut (PQ b d t u s l gl) m w2 v i wr) (fun _ i _ => m.length - (intOf i).toNat)
  case atStart => exact ⟨0, 0, [], Nat.zero_le _, rfl, World.ownsRow_nil _ _ _ _, Below.refl _ _, ⟨Plain.nil, fun p hp => by cases hp⟩, fun p hp => by
    have hok := HIM.out.1.2 p (by simpa using hp)
    have := (HIM.out.2 p.1).1 ⟨by have := hok.2.1; have := hok.2.2; have := hok.1; unfold Rng; omega, p, by simpa using hp, Int.le_refl _, hok.1⟩
    exact this.2.1, fun y => ⟨fun q => absurd q inL_nil, fun q => absurd q.1 (by simp [inL])⟩⟩
  case round =>
    obtain ⟨wo, rfl⟩ : ∃ wo : World, wo = wr := ⟨_, rfl⟩
    obtain ⟨k, X, xs0, hk, rfl, ho, hb, hris, hdrop, hin⟩ := hrel
    have HIN := Lib.hid hin
    have hms := HIM.out.1.short
    by_cases hlt : k < m.length
    · obtain ⟨b1, off, lo, hi, hA2, hbB, hlk, c1, c2'⟩ := (HR2.out.below hb).at_ hlt
      subst hA2
      have hlk2 := hlk
      obtain ⟨_, hlk2⟩ := hlk2
      have hok := HIM.out.1.2 _ (List.getElem_mem hlt)
      rw [hlk2] at hok
      have hmem : ∀ y, lo ≤ y → y ≤ hi → Sy y := fun y h1 h2 =>
        ((HIM.out.2 y).1 ⟨by have := hok.2.1; have := hok.2.2; unfold Rng; omega, (lo, hi), by rw [← hlk2]; exact List.getElem_mem hlt, h1, h2⟩).2
      have hlohi : lo ≤ hi := hok.1
      have hloS := hmem lo (Int.le_refl _) hlohi
      have hhiS := hmem hi hlohi (Int.le_refl _)
      have hXlo : (X : Int) ≤ lo := by
        have := hdrop m[k] (by rw [List.drop_eq_getElem_cons hlt]; exact List.mem_cons_self ..)
        rw [hlk2] at this
        exact this
      have HDR := Lib.hid (show ∀ p ∈ m.drop (k + 1), hi + 1 ≤ p.1 from fun p hp => by
        have := (HIM.out.1.at_ hlt).2 p hp
        rw [hlk2] at this
        dsimp only at this
        omega)
      have HTK := Lib.hid (take_in hlk)
      have HCE := Lib.hid (show ∀ W, Below w2.heap.size w2 W → W.cell? ⟨b1, off + k * 2 + 1, none⟩ = some (.int .i64 hi) from fun W hW => by
        obtain ⟨b1', off', lo1, hi1, hA, _, hlk1, _, c2''⟩ := (HR2.out.below hW).at_ hlt
        injection hA with hA
        injection hA with e1 e2 _
        subst e1 e2
        obtain ⟨_, e3⟩ := hlk1
        rw [hlk2] at e3
        injection e3 with _ e4
        rw [c2'', e4])
      obtain ⟨lo', hlo'⟩ := Int.eq_ofNat_of_zero_le hloS.1
      subst hlo'
      have HATS := Lib.hid (show RIn (PQ b d t u s l gl) xs0 lo' hi w2 u8 (.int .i64 lo') wo from
        ⟨lo', xs0, Int.le_refl _, by omega, rfl, ho, hb, ⟨hris.1, fun p hp => by have := hris.2 p hp; omega⟩, fun y => ⟨fun q => .inl q, fun q => by
          rcases q with q | q
          · exact q
          · omega⟩⟩)
      clear ho hb hin hdrop hlk hmem hok hris
      go_wp2_with (fail)
      go_loopw [8, 10] (fun v xv wr' => RIn (PQ b d t u s l gl) xs0 lo' hi w2 v xv wr') (fun _ xv _ => (hi + 1 - intOf xv).toNat)
      case atStart => exact HATS.out
      case round =>
        obtain ⟨x, xs, hx0, hx1, rfl, ho, hb, hris, hin⟩ := hrel
        have hz6 := hb.size
        have HO2 := Lib.hid ho
        have HB2' := Lib.hid hb
        have HIN2 := Lib.hid hin
        have HRIS := Lib.hid hris
        have e1 := HCE.out wr hb
        by_cases hle : (x : Int) ≤ hi
        · have hxS : Sy x := ⟨by omega, by have := hhiS.2; omega⟩
          have hwr : IntKind.i32.wrap (x : Int) = x := rune_of hxS.1 hxS.2
          have hxb : (x : Int) ≤ 1114111 := hxS.2
          obtain ⟨q0, q1, q2, q3, q4, q5⟩ := XT.out wr (below_next HB2.out hb)
          obtain ⟨w5, hw5⟩ : ∃ w5, wr.alloc (.cells #[.int .i32 (x : Int)] 21) = w5 := ⟨_, rfl⟩
          have hs5 : w5.heap.size = wr.heap.size + 1 := by rw [← hw5]; simp
          have h5 : Below wr.heap.size wr w5 := by rw [← hw5]; exact (Below.refl _ _).alloc (Nat.le_refl _) _
          have hr5 : RR w5 w5.heap.size (some ⟨wr.heap.size, 0, none⟩) 1 [(x : Int)] := rr_sym (by rw [← hw5]; simp) (by omega) (by have := hxS.1; omega) (by have := hxS.2; omega)
          have HV := Lib.hid (rtvalue_any b d t u s A (some ⟨wr.heap.size, 0, none⟩) l.length c 1 1 l [(x : Int)] w5 ((H0.out.belowM HB2.out).belowM (hb.trans (h5.mono hz6))) (by unfold maxLen; omega) hr5 (by unfold maxLen; omega))
          have HQ := Lib.hid (show PQ b d t u s l gl x ↔ ∃ v, valueT b d t u s l [(x : Int)] = (v, true) ∧ mem gl v from Iff.rfl)
          obtain ⟨⟨vv, ok⟩, hvv⟩ : ∃ q, valueT b d t u s l [(x : Int)] = q := ⟨_, rfl⟩
          rw [hvv] at HV HQ
          have H5 := Lib.hid (hb.trans (h5.mono hz6))
          have HOW := Lib.hid (fun W (hW : Below wr.heap.size wr W) => ownS_below ho hW)
          have HADD := Lib.hid (fun W v0 hW hb0 => add_any w2.heap.size v0 xs x W hW hb0 (rlen hris) hxS)
          have HWR5 := Lib.hid h5
          clear ho hb hin hris h5 hr5 hvv
          cases ok
          · have HNX := Lib.hid (rin_no HRIS.out (fun q => by obtain ⟨v, hv, _⟩ := HQ.out.1 q; injection hv with _ hv; cases hv) HIN2.out)
            go_wp2_with (fail)
            refine HV.out.mono ?_
            rintro qq6 w6 ⟨rfl, hb6⟩
            have h6 := below_next HWR5.out hb6
            have HO6 := Lib.hid (HOW.out _ h6)
            have HB6 := Lib.hid (HB2'.out.trans (h6.mono hz6))
            clear hb6 h6 q0 q1 q2 q3 q4 q5 e1
            go_wp2_with (fail)
            go_roundw
            case rel => exact ⟨x + 1, xs, by omega, by omega, by go_num, HO6.out, HB6.out, HNX.out.1, HNX.out.2⟩
            case measure => simp [intOf]; omega
          · have HHA := Lib.hid (fun W hW => rhas_any Ag gl.length cg gl vv W hW (by omega))
            by_cases hm : mem gl vv
            · rw [memB_true hm] at HHA
              have HNX := Lib.hid (rin_yes hx0 HRIS.out hxS (HQ.out.2 ⟨vv, rfl, hm⟩) HIN2.out)
              clear hm
              go_wp2_with (fail)
              refine HV.out.mono ?_
              rintro qq6 w6 ⟨rfl, hb6⟩
              have h6 := below_next HWR5.out hb6
              have H6 := Lib.hid h6
              clear hb6 h6 q0 q1 q2 q3 q4 q5 e1
              go_wp2_with (fail)
              refine (HHA.out _ ((HG0.out.belowM HB2.out).belowM (HB2'.out.trans (H6.out.mono hz6)))).mono ?_
              rintro qq7 w7 ⟨rfl, hw7⟩
              subst hw7
              have hs6 := H6.out.size
              go_wp2_with (fail)
              refine (HADD.out _ _ (HOW.out _ H6.out) (by omega)).mono ?_
              rintro qq8 w8 ⟨v8, rfl, ho8, hb8⟩
              have HO8 := Lib.hid ho8
              have HB8 := Lib.hid ((HB2'.out.trans (H6.out.mono hz6)).trans hb8)
              clear ho8 hb8
              go_wp2_with (fail)
              go_roundw
              case rel => exact ⟨x + 1, addL xs x, by omega, by omega, by go_num, HO8.out, HB8.out, HNX.out.1, HNX.out.2⟩
              case measure => simp [intOf]; omega
            · rw [memB_false hm] at HHA
              have HNX := Lib.hid (rin_no HRIS.out (fun q => by obtain ⟨v, hv, hm2⟩ := HQ.out.1 q; injection hv with hv _; subst hv; exact hm hm2) HIN2.out)
              clear hm
              go_wp2_with (fail)
              refine HV.out.mono ?_
              rintro qq6 w6 ⟨rfl, hb6⟩
              have h6 := below_next HWR5.out hb6
              have H6 := Lib.hid h6
              clear hb6 h6 q0 q1 q2 q3 q4 q5 e1
              go_wp2_with (fail)
              refine (HHA.out _ ((HG0.out.belowM HB2.out).belowM (HB2'.out.trans (H6.out.mono hz6)))).mono ?_
              rintro qq7 w7 ⟨rfl, hw7⟩
              subst hw7
              have HO6 := Lib.hid (HOW.out _ H6.out)
              have HB6 := Lib.hid (HB2'.out.trans (H6.out.mono hz6))
              go_wp2_with (fail)
              go_roundw
              case rel => exact ⟨x + 1, xs, by omega, by omega, by go_num, HO6.out, HB6.out, HNX.out.1, HNX.out.2⟩
              case measure => simp [intOf]; omega
        · have hxe : (x : Int) = hi + 1 := by omega
          have HFIN := Lib.hid (show ∀ y, inL xs y ↔ inL (m.take (k + 1)) y ∧ PQ b d t u s l gl y from fun y => by
            rw [HIN2.out y, HTK.out y, HIN.out y]
            constructor
            · rintro (h | ⟨h1, h2, h3⟩)
              · exact ⟨.inl h.1, h.2⟩
              · exact ⟨.inr ⟨h1, by omega⟩, h3⟩
            · rintro ⟨h1 | ⟨h1, h2⟩, h3⟩
              · exact .inl ⟨h1, h3⟩
              · exact .inr ⟨h1, by omega, h3⟩)
          clear ho hb hin hris
          go_wp2_with (fail)
          go_roundw
          case rel => exact ⟨k + 1, x, xs, by omega, by go_num, HO2.out, HB2'.out, HRIS.out, fun p hp => by have := HDR.out p hp; omega, HFIN.out⟩
          case measure => simp [intOf]; omega
    · have hkl : k = m.length := by omega
      subst hkl
      rw [List.take_length] at hin
      have HFIN := Lib.hid (show Is xs0 (fun y => mem sl y ∧ Sy y ∧ PQ b d t u s l gl y) from ⟨hris.1, fun y => by
        have e1 : mem xs0 y ↔ Rng y ∧ inL xs0 y := Iff.rfl
        have e2 : mem m y ↔ Rng y ∧ inL m y := Iff.rfl
        have e3 := HIM.out.2 y
        dsimp only at e3
        rw [e1, hin]
        rw [e2] at e3
        constructor
        · rintro ⟨h1, h2, h3⟩
          have := e3.1 ⟨h1, h2⟩
          exact ⟨this.1, this.2, h3⟩
        · rintro ⟨h1, h2, h3⟩
          have := e3.2 ⟨h1, h2⟩
          exact ⟨this.1, this.2, h3⟩⟩)
      have HOf := Lib.hid (own_mono ho (show w.heap.size ≤ w2.heap.size by omega))
      have HBf := Lib.hid (HB0.out.trans ((HB2.out.trans (hb.mono hz2)).mono HB0.out.size))
      clear ho hb hin hdrop hris
      go_wp2_with (fail)
      go_ret
      exact ⟨_, xs0, rfl, HFIN.out, HOf.out, HBf.out⟩
end Go.Proofs.Ytplpafoflibnlaa.Te
