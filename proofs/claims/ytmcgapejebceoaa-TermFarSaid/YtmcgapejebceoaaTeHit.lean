/- The walk of term.hit. -/
import Derived.Test.YtmcgapejebceoaaTeCross
import Derived.Test.YtmcgapejebceoaaTeAlong
import Derived.Test.YtmcgapejebceoaaSpMeet
import Derived.StillTailTactics
namespace Go.Proofs.Ytmcgapejebceoaa.Te
set_option maxRecDepth 100000
open Go Go.RowKit Go.Proofs.Ytmcgapejebceoaa.Sp Go.Proofs.Ytmcgapejebceoaa.Pa

def HitS (g : List Span) (last : Int) (has : Bool) (v gr x : Int) (new : List Span) : Prop := new.length ≤ 50 ∧ HitSpec g last has v gr x new
theorem rs_grown {w w' : World} {A : Option Addr} {n : Nat} {l : List Span} {r : Option Nat} (h : RS w w.heap.size A n l) (hg : w.grownBy w' r) (hne : ∀ b off, A = some ⟨b, off, none⟩ → some b ≠ r) : RS w' w'.heap.size A n l :=
  ⟨h.1, fun hn => by
    obtain ⟨b, off, e, hb, hc⟩ := h.2 hn
    have k : ∀ i, w'.cell? ⟨b, i, none⟩ = w.cell? ⟨b, i, none⟩ := fun i => World.cell?_of_block (hg.block b hb (hne b off e))
    exact ⟨b, off, e, by have := hg.size; omega, fun j hj => ⟨(k _).trans (hc j hj).1, (k _).trans (hc j hj).2⟩⟩⟩
theorem memB_true {l : List Span} {x : Int} (h : mem l x) : memB l x = true := by unfold memB; simp [h]
theorem memB_false {l : List Span} {x : Int} (h : ¬ mem l x) : memB l x = false := by unfold memB; simp [h]
theorem own_RS2 {w : World} {base : Nat} {v : Value} {out : List Span} (h : OwnsL w base v out) : ∃ A c, v = .slice A out.length c ∧ out.length ≤ c ∧ RS w w.heap.size A out.length out ∧ ∀ b off, A = some ⟨b, off, none⟩ → base ≤ b := by
  have h0 := h
  obtain ⟨h1, h2⟩ := h
  rcases h2 with ⟨hv, hn⟩ | ⟨g, cap, cur, hv, hr⟩
  · have : out = [] := List.eq_nil_of_length_eq_zero hn
    subst this
    exact ⟨none, 0, hv, Nat.le_refl _, RS.nil_ _ _ _, fun _ _ e => by cases e⟩
  · refine ⟨some ⟨g, 0, none⟩, cap, hv, hr.2.2.1, RS.of_own (base := base) (e := 69) (c := cap) ⟨h1, .inr ⟨g, cap, cur, rfl, hr⟩⟩, fun b off e => ?_⟩
    injection e with e
    injection e with e _ _
    have := hr.1
    omega
def HRel (base : Nat) (xs m : List Span) (val gr x last : Int) (gf : Nat) (w : World) (r0 : Option Nat) (Am : Option Addr) (v i : Value) (wr : World) : Prop :=
  ∃ k : Nat, k ≤ m.length ∧ i = .int .i64 k ∧ OwnsL wr base v (xs ++ (m.take k).map (hitF val gr x)) ∧ Below base w wr ∧ w.grownBy wr r0 ∧ (v.ownBlock = r0 ∨ ∃ g, v.ownBlock = some g ∧ w.heap.size ≤ g) ∧
    (wr.cell? ⟨gf, 0, none⟩ = some (.int .i64 last) ∧ wr.cell? ⟨gf, 1, none⟩ = some (.bool true) ∧ wr.cell? ⟨gf, 2, none⟩ = some (.int .i64 val) ∧ wr.cell? ⟨gf, 3, none⟩ = some (.int .i64 gr)) ∧ RS wr wr.heap.size Am m.length m ∧ v.ownBlock ≠ some gf ∧ (∀ b off, Am = some ⟨b, off, none⟩ → some b ≠ v.ownBlock) ∧ gf < wr.heap.size
theorem grown_over {w wr w6 w8 : World} {r0 r1 : Option Nat} (h1 : w.grownBy wr r0) (h2 : Below wr.heap.size wr w6) (h3 : w6.grownBy w8 r1) (hr : r1 = r0 ∨ ∃ g, r1 = some g ∧ w.heap.size ≤ g) : w.grownBy w8 r0 :=
  ⟨(h3.os.trans h2.os).trans h1.os, (h3.tape.trans h2.tape).trans h1.tape, (h3.output.trans h2.output).trans h1.output, Nat.le_trans h1.size (Nat.le_trans h2.size h3.size), fun k hk hne => by
    have a := h1.size
    have b := h2.size
    refine ((h3.block k (by omega) (fun e => ?_)).trans (h2.block k (by omega))).trans (h1.block k hk hne)
    rcases hr with hr | ⟨g, hr, hg⟩
    · exact hne (e.trans hr)
    · rw [hr] at e
      injection e with e
      omega⟩
set_option maxHeartbeats 4000000 in
theorem hit_any (base : Nat) (v : Value) (xs : List Span) (last : Int) (has : Bool) (val gr x : Int) (Aw : Option Addr) (cw : Nat) (W g : List Span) (w : World) (hown : OwnsL w base v xs) (hbase : base ≤ w.heap.size) (hlen : xs.length ≤ 1000000000000) (hW : RS w w.heap.size Aw W.length W) (hcw : W.length ≤ cw) (his : Is W (mem g)) (hfew : W.length ≤ 50) (hx0 : 0 ≤ x) (hx : x ≤ last) (hl : last ≤ 1114111) (hg0 : 0 ≤ gr) (hg1 : gr ≤ 21990232555520) (hv : R64 val) (hP : gr * (last - x) ≤ 66060288) :
    Calls Try.prog 55 #[v, .agg (scells last has val gr), .int .i64 x, .slice Aw W.length cw] w (LaidOut base v xs (HitS g last has val gr x) w) := by
  obtain ⟨i0, hi0, hz0, hz1, hz2⟩ := info_parts infoSpan
  have HO := Lib.hid hown
  have hvlt : ∀ k, v.ownBlock = some k → k < w.heap.size := fun k hk => (World.ownsRow.lt hown k hk).2
  clear hown
  obtain ⟨w0, hw0⟩ : ∃ w0, w.alloc (.cells (scells last has val gr) 73) = w0 := ⟨_, rfl⟩
  have hs0 : w0.heap.size = w.heap.size + 1 := by rw [← hw0]; simp
  have hb0 : Below w.heap.size w w0 := by rw [← hw0]; exact (Below.refl _ _).alloc (Nat.le_refl _) _
  have Z := Lib.hid (fun W (hb : Below w0.heap.size w0 W) => show W.cell? ⟨w.heap.size, 0, none⟩ = some (.int .i64 last) ∧ W.cell? ⟨w.heap.size, 1, none⟩ = some (.bool has) ∧ W.cell? ⟨w.heap.size, 2, none⟩ = some (.int .i64 val) ∧ W.cell? ⟨w.heap.size, 3, none⟩ = some (.int .i64 gr) from by rw [← hw0] at hb; exact boxed4 hb)
  obtain ⟨z0, z1, z2, z3⟩ := Z.out w0 (Below.refl _ _)
  have HB0 := Lib.hid hb0
  cases has
  · go_enter Try.func55, Try.ntmps55
    go_wp2_with (fail)
    go_ret
    exact ⟨v, [], rfl, by rw [List.append_nil]; exact ownS_below HO.out HB0.out, HB0.out.mono hbase, ⟨Nat.zero_le _, hit_no⟩, below_grown HB0.out _, .inl rfl⟩
  by_cases hgr : gr = 0
  · subst hgr
    have HH := Lib.hid (fun W' h => has_any Aw W.length cw W val W' h (by omega))
    by_cases hm : mem W val
    · rw [memB_true hm] at HH
      have HM := Lib.hid (hit_flat (last := last) (x := x) hv ((his.2 _).1 hm))
      go_enter Try.func55, Try.ntmps55
      go_wp2_with (fail)
      refine (HH.out _ (hW.belowM HB0.out)).mono ?_
      rintro q1 w1 ⟨rfl, hb1⟩
      clear z0 z1 z2 z3
      obtain ⟨z0, z1, z2, z3⟩ := Z.out w1 hb1
      obtain ⟨w2, hw2⟩ : ∃ w2, w1.alloc (.cells #[.int .i64 x, .int .i64 last] 69) = w2 := ⟨_, rfl⟩
      have hc2 : ∀ j u, [Value.int .i64 x, .int .i64 last][j]? = some u → w2.cell? ((⟨w1.heap.size, 0, none⟩ : Addr).add j) = some u := by rw [← hw2]; exact cell_two _ _ _ _
      have hs1 := hb1.size
      have hs2 : w2.heap.size = w1.heap.size + 1 := by rw [← hw2]; simp
      have H2 := Lib.hid (show Below w.heap.size w w2 by rw [← hw2]; exact below_al (below_next HB0.out hb1) _)
      have HC2 := Lib.hid hc2
      clear hc2 hb1
      go_wp2_with (at_builtin; go_must (refine wpList_append_own_at _ rfl _ _ 44 rfl base 69 i0 _ 2 16 Try.underlying44 hi0 hz0 hz1 hz2 rfl (by decide) v xs.length (flat xs) rfl (ownS_below HO.out H2.out) ⟨w1.heap.size, 0, none⟩ 1 1 [.int .i64 x, .int .i64 last] rfl rfl HC2.out ?c2 ?c3 ?c4 ?c5 ?_))
      case c2 => first | exact ⟨rfl, rfl⟩ | exact flat_one [(_, _)] | rfl
      case c3 => simp only [maxLen]; omega
      case c4 => omega
      case c5 => omega
      intro v8 w8 hown8 hg8 _ hat
      have HAT := Lib.hid hat; clear hat
      go_wp2_with (fail)
      go_ret
      refine ⟨v8, [(x, last)], rfl, ownS_more hown8, (H2.out.mono hbase).grown hg8 (by omega) (own_ge HO.out), ⟨by simp, HM.out⟩, grown_trans H2.out hg8, ?_⟩
      rcases HAT.out with e | e
      · exact .inl (by rw [e])
      · exact .inr ⟨_, e, by have := H2.out.size; omega⟩
    · rw [memB_false hm] at HH
      have HM := Lib.hid (hit_flat0 (last := last) (x := x) hv (fun h => hm ((his.2 _).2 h)))
      go_enter Try.func55, Try.ntmps55
      go_wp2_with (fail)
      refine (HH.out _ (hW.belowM HB0.out)).mono ?_
      rintro q1 w1 ⟨rfl, hb1⟩
      go_wp2_with (fail)
      go_ret
      have h2 := below_next HB0.out hb1
      exact ⟨v, [], rfl, by rw [List.append_nil]; exact ownS_below HO.out h2, h2.mono hbase, ⟨Nat.zero_le _, HM.out⟩, below_grown h2 _, .inl rfl⟩
  have hgr' : (gr == 0) = false := by simpa using hgr
  have hgp : 0 < gr := by omega
  have hP0 : 0 ≤ gr * (last - x) := Int.mul_nonneg hg0 (by omega)
  have hwl : IntKind.i64.wrap (last - x) = last - x := IntWalk.i64_in _ (by omega)
  have hwP : IntKind.i64.wrap (gr * (last - x)) = gr * (last - x) := IntWalk.i64_in _ (by omega)
  have HG := Lib.hid (fun m (hm : Is m (fun z => mem W z ∧ mem [(val, wrap64 (val + gr * (last - x)))] z)) => hit_grow his hm hgp hv hx hP)
  obtain ⟨hiV, hhi⟩ : ∃ q, wrap64 (val + gr * (last - x)) = q := ⟨_, rfl⟩
  have hwv : IntKind.i64.wrap (val + gr * (last - x)) = hiV := by rw [← hhi]; unfold wrap64; exact IntKind.wrap_i64 _
  have hhiB : val ≤ hiV → hiV ≤ val + 66060288 := fun hh => by
    rw [← hhi] at hh ⊢
    unfold R64 at hv
    unfold wrap64 at hh ⊢
    generalize gr * (last - x) = P at *
    omega
  rw [hhi] at HG
  obtain ⟨w1, hw1⟩ : ∃ w1, w0.alloc (.cells #[.int .i64 val, .int .i64 hiV] 69) = w1 := ⟨_, rfl⟩
  have hs1 : w1.heap.size = w0.heap.size + 1 := by rw [← hw1]; simp
  have h01 : Below w0.heap.size w0 w1 := by rw [← hw1]; exact (Below.refl _ _).alloc (Nat.le_refl _) _
  have hr1 : RS w1 w1.heap.size (some ⟨w0.heap.size, 0, none⟩) 1 [(val, hiV)] := ⟨rfl, fun _ => ⟨w0.heap.size, 0, rfl, by omega, fun j hj => by
    obtain rfl : j = 0 := by simp at hj; omega
    rw [← hw1]
    constructor <;> simp⟩⟩
  have HME := Lib.hid (meet_any Aw (some ⟨w0.heap.size, 0, none⟩) W.length 1 cw 1 W [(val, hiV)] w1 (hW.belowM (below_next hb0 h01)) hr1 (by omega) (by omega) hcw (by omega))
  rw [hs0] at HME
  have H01 := Lib.hid h01
  clear hr1 h01 hb0 hhi
  go_enter Try.func55, Try.ntmps55
  go_wp2_with (fail)
  refine HME.out.mono ?_
  rintro q3 w3 ⟨vm, m, rfl, hm, hom, hb3⟩
  obtain ⟨Am, cm, rfl, hcm, hrm, hgem⟩ := own_RS2 hom
  have hmfew : m.length ≤ 50 := Nat.le_trans (meet_few hm) hfew
  have HM := Lib.hid hm
  have HHS := Lib.hid (HG.out m hm)
  have hb03 := below_next H01.out hb3
  have hs3 := hb3.size
  have HB3 := Lib.hid (below_next HB0.out hb03)
  have HRM := Lib.hid hrm
  have HZ3 := Lib.hid (Z.out w3 hb03)
  clear hm hom hb3 hrm hb03 z0 z1 z2 z3
  go_wp2_with (fail)
  go_loopw [0, 47] (fun v' i wr => HRel base xs m val gr x last w.heap.size w v.ownBlock Am v' i wr) (fun _ i _ => m.length - (intOf i).toNat)
  case atStart => exact ⟨0, Nat.zero_le _, rfl, by rw [List.take_zero, List.map_nil, List.append_nil]; exact ownS_below HO.out HB3.out, HB3.out.mono hbase, below_grown HB3.out _, .inl rfl, HZ3.out, HRM.out, fun e => by have := hvlt _ e; omega, fun b off e h => by have := hvlt _ h.symm; have := hgem b off e; omega, by omega⟩
  case round =>
    obtain ⟨k, hk, rfl, ho, hb, hgw, hrow, ⟨z0, z1, z2, z3⟩, hrm, hnf, hnm, hgf⟩ := hrel
    have hzw := hgw.size
    have hlenk : (xs ++ (m.take k).map (hitF val gr x)).length ≤ 1000000000050 := by
      rw [List.length_append, List.length_map, List.length_take]
      omega
    have HO2 := Lib.hid ho
    have HB := Lib.hid hb
    have HGW := Lib.hid hgw
    have HROW := Lib.hid hrow
    have HRM2 := Lib.hid hrm
    have HNF := Lib.hid hnf
    have HNM := Lib.hid hnm
    have HZ := Lib.hid (show ∀ i u, wr.cell? ⟨w.heap.size, i, none⟩ = some u → wr.cell? ⟨w.heap.size, i, none⟩ = some u from fun _ _ h => h)
    by_cases hlt : k < m.length
    · obtain ⟨b1, off, lo, hi, hAm, hbB, hlk, c1, c2⟩ := hrm.at_ hlt
      have hAmE := hAm
      have hpc : val ≤ lo ∧ lo ≤ hi ∧ hi ≤ hiV ∧ -1073741824 ≤ lo ∧ hi ≤ 1073741824 := by
        obtain ⟨_, e⟩ := hlk
        have := meet_piece HM.out (List.getElem_mem hlt)
        rw [e] at this
        exact this
      have hhb := hhiB (by omega)
      have HNX := Lib.hid (show xs ++ (m.take (k + 1)).map (hitF val gr x) = (xs ++ (m.take k).map (hitF val gr x)) ++ [hitF val gr x (lo, hi)] from by
        obtain ⟨hl, e⟩ := hlk
        rw [List.take_succ_eq_append_getElem hl, List.map_append, e, List.append_assoc]
        rfl)
      have e1 : IntKind.i64.wrap (lo - val) = lo - val := IntWalk.i64_in _ (by omega)
      have e2 : IntKind.i64.wrap (lo - val + gr) = lo - val + gr := IntWalk.i64_in _ (by omega)
      have e3 : IntKind.i64.wrap (lo - val + gr - 1) = lo - val + gr - 1 := IntWalk.i64_in _ (by omega)
      have e4 : (lo - val + gr - 1).tdiv gr = (lo - val + gr - 1) / gr := Int.tdiv_eq_ediv_of_nonneg (by omega)
      have q0 : 0 ≤ (lo - val + gr - 1) / gr := Int.ediv_nonneg (by omega) (by omega)
      have q1 : (lo - val + gr - 1) / gr ≤ lo - val + gr - 1 := Int.ediv_le_self _ (by omega)
      have e5 : IntKind.i64.wrap (hi - val) = hi - val := IntWalk.i64_in _ (by omega)
      have e6 : (hi - val).tdiv gr = (hi - val) / gr := Int.tdiv_eq_ediv_of_nonneg (by omega)
      have q2 : 0 ≤ (hi - val) / gr := Int.ediv_nonneg (by omega) (by omega)
      have q3 : (hi - val) / gr ≤ hi - val := Int.ediv_le_self _ (by omega)
      have HF := Lib.hid (show hitF val gr x (lo, hi) = (x + (lo - val + gr - 1) / gr, x + (hi - val) / gr) from rfl)
      obtain ⟨Q1, hQ1⟩ : ∃ q, (lo - val + gr - 1) / gr = q := ⟨_, rfl⟩
      obtain ⟨Q2, hQ2⟩ : ∃ q, (hi - val) / gr = q := ⟨_, rfl⟩
      rw [hQ1] at e4 q0 q1 HF
      rw [hQ2] at e6 q2 q3 HF
      have e7 : IntKind.i64.wrap Q1 = Q1 := IntWalk.i64_in _ (by omega)
      have e8 : IntKind.i64.wrap Q2 = Q2 := IntWalk.i64_in _ (by omega)
      have e7' : wrap64 Q1 = Q1 := IntWalk.wrap64_in _ (by omega)
      have e8' : wrap64 Q2 = Q2 := IntWalk.wrap64_in _ (by omega)
      have e9 : IntKind.i64.wrap (x + Q1) = x + Q1 := IntWalk.i64_in _ (by omega)
      have e10 : IntKind.i64.wrap (x + Q2) = x + Q2 := IntWalk.i64_in _ (by omega)
      obtain ⟨w5, hw5⟩ : ∃ w5, wr.alloc (.cells #[.int .i64 lo, .int .i64 hi] 69) = w5 := ⟨_, rfl⟩
      have hs5 : w5.heap.size = wr.heap.size + 1 := by rw [← hw5]; simp
      have h5 : Below wr.heap.size wr w5 := by rw [← hw5]; exact (Below.refl _ _).alloc (Nat.le_refl _) _
      have y0 : w5.cell? ⟨wr.heap.size, 0, none⟩ = some (.int .i64 lo) := by rw [← hw5]; simp
      have y1 : w5.cell? ⟨wr.heap.size, 1, none⟩ = some (.int .i64 hi) := by rw [← hw5]; simp
      have u2 : w5.cell? ⟨w.heap.size, 2, none⟩ = some (.int .i64 val) := (h5.cell hgf).trans z2
      have u3 : w5.cell? ⟨w.heap.size, 3, none⟩ = some (.int .i64 gr) := (h5.cell hgf).trans z3
      have H6 := Lib.hid (show Below wr.heap.size wr (w5.alloc (.cells #[.int .i64 (x + Q1), .int .i64 (x + Q2)] 69)).drew from (below_al h5 _).drew)
      have hZ6 := fun (p : Addr) (u : Value) (hp : p.block < wr.heap.size) (hu : wr.cell? p = some u) => (H6.out.cell hp).trans hu
      have HZ6 := Lib.hid (And.intro (hZ6 ⟨w.heap.size, 0, none⟩ _ hgf z0) (And.intro (hZ6 ⟨w.heap.size, 1, none⟩ _ hgf z1) (And.intro (hZ6 ⟨w.heap.size, 2, none⟩ _ hgf z2) (hZ6 ⟨w.heap.size, 3, none⟩ _ hgf z3))))
      have hlen2 : (xs ++ (m.take k).map (hitF val gr x)).length = xs.length + k := by rw [List.length_append, List.length_map, List.length_take]; omega
      have HLEN := Lib.hid hlen2
      obtain ⟨X, hX⟩ : ∃ X, xs ++ (m.take k).map (hitF val gr x) = X := ⟨_, rfl⟩
      rw [hX] at HO2 HNX HLEN
      have hk5 : w5.heap.size ≠ w.heap.size := by omega
      have hag : u0.ownBlock ≠ some wr.heap.size := fun e => by have := (HO2.out.lt _ e).2; omega
      have hag2 : u0.ownBlock ≠ some w.heap.size := hnf
      clear hZ6 hlen2 hX
      rw [hAm]
      clear h5 ho hb hgw hrow hrm hnf hnm hlk hAm hQ1 hQ2 hpc z0 z1 z2 z3
      have i1 : (0 : Int) ≤ (k : Int) := Int.natCast_nonneg _
      have i2 : (k : Int) < (m.length : Int) := by omega
      go_wp2_with (fail)
      go_region_held3 (fun w' => w'.cell? ⟨wr.heap.size, 0, none⟩ = some (.int .i64 lo) ∧ w'.cell? ⟨wr.heap.size, 1, none⟩ = some (.int .i64 hi) ∧ w'.cell? ⟨w.heap.size, 2, none⟩ = some (.int .i64 val) ∧ w'.cell? ⟨w.heap.size, 3, none⟩ = some (.int .i64 gr))
        (first
          | go_keep
          | (go_split_ands
             refine ⟨?_, ?_, ?_, ?_⟩
             · (rw [hgrow.cell_far _ (by simp; omega) (Ne.symm hag)]; assumption)
             · (rw [hgrow.cell_far _ (by simp; omega) (Ne.symm hag)]; assumption)
             · (rw [hgrow.cell_far _ (by simp; omega) (Ne.symm hag2)]; assumption)
             · (rw [hgrow.cell_far _ (by simp; omega) (Ne.symm hag2)]; assumption)))
        ((refine step_append_lies _ (by rfl) _ _ _ (by rfl) base 69 i0 _ 2 16 Try.underlying44 hi0 hz0 hz1 hz2 rfl (by omega) u0 X.length (flat X) (by rfl) (ownS_below HO2.out H6.out)
            ⟨wr.heap.size + 1, 0, none⟩ 1 1 [.int .i64 (x + Q1), .int .i64 (x + Q2)] (by rfl) (by rfl) (by rw [← hs5]; exact World.news_of_block (cs := #[.int .i64 (x + Q1), .int .i64 (x + Q2)]) (t := 69) (fr := (0, 0)) (heap_alloc_new w5 _)) (by simp [Value.oneCell'])
            (by omega) (by rw [HLEN.out]; simp only [maxLen]; omega) (by rw [HLEN.out]; omega) (by simp; omega) (w5.heap.size + 1) (by simp) ?_; intro gg cap w8 hown8 hgrow hat hlt8))
      have hg8 := hgrow
      have hg8s : wr.heap.size ≤ w8.heap.size := by have := H6.out.size; have := hg8.size; omega
      have ho8 : OwnsL w8 base (.slice (some ⟨gg, 0, none⟩) (X.length + 1) cap) (X ++ [(x + Q1, x + Q2)]) := ownS_more hown8
      rw [← HF.out, ← HNX.out] at ho8
      have HO8 := Lib.hid ho8
      have HB8 := Lib.hid ((HB.out.trans (H6.out.mono (by omega))).grown hg8 (by have := H6.out.size; omega) (own_ge HO2.out))
      have HK8 := Lib.hid (show (w8.cell? ⟨w.heap.size, 0, none⟩ = some (.int .i64 last) ∧ w8.cell? ⟨w.heap.size, 1, none⟩ = some (.bool true) ∧ w8.cell? ⟨w.heap.size, 2, none⟩ = some (.int .i64 val) ∧ w8.cell? ⟨w.heap.size, 3, none⟩ = some (.int .i64 gr)) from
        ⟨hg8.cell HZ6.out.1 (fun e => HNF.out e.symm), hg8.cell HZ6.out.2.1 (fun e => HNF.out e.symm), hg8.cell HZ6.out.2.2.1 (fun e => HNF.out e.symm), hg8.cell HZ6.out.2.2.2 (fun e => HNF.out e.symm)⟩)
      have HRM8 := Lib.hid (rs_grown (HRM2.out.belowM H6.out) hg8 HNM.out)
      have hmb : ∀ b off, Am = some ⟨b, off, none⟩ → b < wr.heap.size := fun b off e => by
        rw [hAmE] at e
        injection e with e
        injection e with e _ _
        omega
      have HGW8 := Lib.hid (grown_over HGW.out H6.out hg8 HROW.out)
      have HV8 := Lib.hid (show (some gg = v.ownBlock ∨ ∃ g, some gg = some g ∧ w.heap.size ≤ g) ∧ some gg ≠ some w.heap.size ∧ (∀ b off, Am = some ⟨b, off, none⟩ → some b ≠ some gg) from by
        rcases hat with e | e
        · rw [← e]
          exact ⟨HROW.out, HNF.out, HNM.out⟩
        · exact ⟨.inr ⟨_, rfl, by omega⟩, fun q => by injection q with q; omega, fun b off hb q => by injection q with q; have := hmb b off hb; omega⟩)
      rw [hAmE] at HRM8 HV8
      clear hown8 hg8 hgrow hat ho8 hmb c1 c2 y0 y1 u2 u3
      go_wp2_with (fail)
      go_roundw
      case rel => exact ⟨k + 1, by omega, by go_num, HO8.out, HB8.out, HGW8.out, HV8.out.1, HK8.out, HRM8.out, HV8.out.2.1, HV8.out.2.2, by omega⟩
      case measure => simp [intOf]; omega
    · have hkl : k = m.length := by omega
      subst hkl
      have HO9 := Lib.hid (show OwnsL wr base _ (xs ++ m.map (hitF val gr x)) from by rw [List.take_length] at ho; exact ho)
      clear ho hb hgw hrow hrm hnf hnm
      go_wp2_with (fail)
      go_ret
      exact ⟨_, m.map (hitF val gr x), rfl, HO9.out, HB.out, ⟨by rw [List.length_map]; exact hmfew, HHS.out⟩, HGW.out, HROW.out⟩
end Go.Proofs.Ytmcgapejebceoaa.Te
