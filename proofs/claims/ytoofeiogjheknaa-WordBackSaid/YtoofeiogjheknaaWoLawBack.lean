/-
  WordBack holds for every word and every symbol: the law answers true and the word reads afterwards as it read before. No condition.
-/
import Derived.Test.YtoofeiogjheknaaWoFrame
import Derived.Test.YtoofeiogjheknaaWoOrd
import Derived.Test.YtoofeiogjheknaaWoText
namespace Go.Proofs.Ytoofeiogjheknaa.Wo
open Go Go.RowKit Go.ChangeShapes Go.WideShapes Go.ChangeAt

theorem cmpL_more (l : List Int) (x : Int) : cmpL l (l ++ [x]) = -1 := by
  induction l with
  | nil => rfl
  | cons y l ih => rw [List.cons_append, cmpL, if_neg (by omega), if_neg (by omega), ih]
theorem cmpL_self (l : List Int) : cmpL l l = 0 := by
  induction l with
  | nil => rfl
  | cons y l ih => rw [cmpL, if_neg (by omega), if_neg (by omega), ih]
theorem frontL_more (l : List Int) (x : Int) : frontL l (l ++ [x]) = l.length := by
  induction l with
  | nil => rfl
  | cons y l ih => rw [List.cons_append, frontL, if_pos rfl, ih]; rfl
theorem news_RR {w : World} {B : Nat} {a : Addr} {n : Nat} {l : List Int} (h : RR w B (some a) n l) : ∀ (j : Nat) u, (l.map (Value.int .i32))[j]? = some u → w.cell? (a.add j) = some u := by
  intro j u hu
  have hj : j < l.length := by
    have := (List.getElem?_eq_some_iff.1 hu).1
    simpa using this
  obtain ⟨b, off, e, _, hc⟩ := h.2 (by have := h.1; omega)
  injection e with e
  subst e
  have hplain : (⟨b, off, none⟩ : Addr).add j = ⟨b, off + j, none⟩ := by unfold Addr.add; split <;> simp_all
  rw [hplain, hc j hj]
  rw [List.getElem?_map, List.getElem?_eq_getElem hj] at hu
  exact hu

/-- append(v, w...), v the call's own, w whatever slice value reads as symbols. -/
theorem wpList_append_RR {w : World} {ops : Array Oper} {rest : List Oper} {o : Oper} {a : Act} {Q : Exit → Act → World → Prop} (hgd : o.guard = none) (s x : Operand)
    (ho : o.op = .call { callee := .builtin .append, args := #[s, x], argTypes := #[22, 22] })
    (base : Nat) (v : Value) (xs : List Int) (hs : a.eval s = v) (hown : w.ownsRow base 21 1 v xs.length (xs.map (Value.int .i32)))
    (B : Nat) (A : Option Addr) (m c : Nat) (l : List Int) (hx : a.eval x = .slice A m c) (hr : RR w B A m l) (hnil : A = none → m = 0 ∧ c = 0)
    (h63 : xs.length + m ≤ 1099511627776) (hbase : base ≤ w.heap.size)
    (h : ∀ v' w', w'.ownsRow base 21 1 v' (xs ++ l).length ((xs ++ l).map (Value.int .i32)) → w.grownBy w' v.ownBlock → wpList Try.prog ops Q rest (a.put o.dst v') w') : wpList Try.prog ops Q (o :: rest) a w := by
  obtain ⟨i0, hi0, hz0, hz1, hz2⟩ := info_parts infoRune
  have hl := hr.1
  cases A with
  | some ad =>
    refine wpList_append_own w hgd s x 22 ho base 21 i0 _ 1 4 Try.underlying22 hi0 hz0 hz1 hz2 rfl (by decide) v xs.length (xs.map (Value.int .i32)) hs hown ad m c (l.map (Value.int .i32)) hx (by simp [hl]) (news_RR hr) (ints_oneCell _ _) (by unfold maxLen; omega) (by omega) hbase fun v' w' h2 h3 _ => h v' w' ?_ h3
    rw [List.length_append, List.map_append, hl]
    exact h2
  | none =>
    obtain ⟨rfl, rfl⟩ := hnil rfl
    have : l = [] := List.eq_nil_of_length_eq_zero hl
    subst this
    refine wpList_plain hgd fun K hK' => ?_
    have hrun := run_append_owned_none (P := Try.prog) w base 22 o.type 21 i0 1 Try.underlying22 hi0 _ _ _ hown
    unfold Oper.wp
    simp [execOp, ho, resolve, invoke, builtin, hs, hx, hrun, Result.andThen]
    exact hK' _ _ (h _ w (by simpa using hown) (World.grownBy.refl _ _))

set_option maxHeartbeats 4000000 in
theorem walk_WordBack (A : Option Addr) (c : Nat) (l : List Int) (x : Int) (w : World) (h : RR w w.heap.size A l.length l) (hm : l.length ≤ maxLen) (hnil : A = none → l = [] ∧ c = 0) :
    Calls Try.prog 9 #[.slice A l.length c, .int .i32 x] w (RetB true w) := by
  unfold maxLen at hm
  by_cases g1 : 2000 < l.length
  · clear h
    go_enter Try.func9, Try.ntmps9
    go_wp2_with (fail)
    refine (awake_any _).mono ?_
    rintro e w9 ⟨rfl, hb9⟩
    go_wp2_with (fail)
    go_ret
    exact ⟨rfl, hb9⟩
  obtain ⟨i0, hi0, hz0, hz1, hz2⟩ := info_parts infoRune
  have H1 := Lib.hid (text_any A c l w h (by omega))
  have HTS := Lib.hid (text_size l)
  obtain ⟨f, hf⟩ : ∃ f, fitsS 2 l = f := ⟨_, rfl⟩
  have H2 := Lib.hid (fun W => of_any (textB l) W (by unfold textB; split; · have := text_size l; omega
                                                      · exact Nat.zero_le _))
  have H2b := Lib.hid (show f = true → runes (textB l) = l from fun e => by unfold textB; rw [hf, if_pos e]; exact runes_text (hf.trans e))
  unfold TextOut at H1
  rw [hf] at H1
  clear hf
  generalize textB l = s at H1 H2 H2b
  obtain ⟨r, hr⟩ : ∃ r, r = l ++ [x] := ⟨_, rfl⟩
  have E1 := Lib.hid (show cmpL l r = -1 by rw [hr]; exact cmpL_more l x)
  have E2 := Lib.hid (show frontL l r = l.length by rw [hr]; exact frontL_more l x)
  have E3 := Lib.hid (cmpL_self r)
  have hrl : r.length ≤ 2001 := by rw [hr, List.length_append]; simp; omega
  have HR := Lib.hid hr
  clear hr
  have X := Lib.hid h
  clear h
  go_enter Try.func9, Try.ntmps9
  go_wp2_with (fail)
  refine H1.out.mono ?_
  rintro e w1 ⟨rfl, rfl⟩
  cases f
  · have XW := X
    have HBW := Lib.hid (Below.refl w.heap.size w)
    have hlit := World.ownsRow_lit (e := 21) (size := 1) (base := w.heap.size) w #[] 0 (Nat.le_refl _) (Nat.zero_le _) rfl
    have HL := Lib.hid hlit
    clear hlit
    go_wp2_with (at_builtin; go_must (refine wpList_append_RR rfl _ _ rfl w.heap.size _ [] rfl HL.out _ A _ c l rfl (XW.out.below ((Below.refl _ _).alloc (Nat.le_refl _) _)) ?n1 ?n2 ?n3 ?_))
    case n1 => exact fun e => by obtain ⟨q1, q2⟩ := hnil e; exact ⟨by rw [q1]; rfl, q2⟩
    case n2 => simp; omega
    case n3 => simp
    intro v1 w1 ho1 hg1
    have HB1 := Lib.hid (((Below.refl _ _).alloc (Nat.le_refl _) _).grown hg1 (by simp) (fun k hk => by simp [Value.ownBlock] at hk; omega))
    have HO1 := Lib.hid ho1
    have X1 := Lib.hid (XW.out.belowM HB1.out)
    clear ho1 hg1 HL
    go_wp2_with (at_builtin; go_must (refine wpList_append_own _ rfl _ _ 22 rfl w.heap.size 21 i0 _ 1 4 Try.underlying22 hi0 hz0 hz1 hz2 rfl (by decide) _ l.length (l.map (Value.int .i32)) rfl (HO1.out.alloc _) ⟨w1.heap.size, 0, none⟩ 1 1 [.int .i32 x] rfl rfl (cell_one_new _ _ _) ?c2 ?c3 ?c4 ?c5 ?_))
    case c2 => intro u hu; simp at hu; subst hu; rfl
    case c3 => simp only [maxLen]; omega
    case c4 => omega
    case c5 => have := HB1.out.size; simp only [World.size_alloc]; omega
    intro v2 w2 ho2 hg2 _
    have ho3 : OwnsR w2 w.heap.size v2 r := by
      unfold OwnsR
      rw [HR.out, List.map_append, List.length_append]
      exact ho2
    have HB2 := Lib.hid ((HB1.out.alloc HB1.out.size _).grown hg2 (by have := HB1.out.size; simp; omega) (fun k hk => (World.ownsRow.lt HO1.out k hk).1))
    have X2 := Lib.hid (XW.out.belowM HB2.out)
    have HBB := Lib.hid (HBW.out.trans (HB2.out.mono HBW.out.size))
    clear ho2 hg2 HB1 HO1 X1
    obtain ⟨A2, c2, hv2, hc2, hr2, hn2⟩ := own_RR ho3
    have Y2 := Lib.hid hr2
    clear hr2 hn2 ho3
    subst hv2
    have C1 := Lib.hid (wcmp_any A A2 c c2 l r w2 X2.out Y2.out (by omega) (by omega))
    have C2 := Lib.hid (front_any A A2 c c2 l r w2 X2.out Y2.out (by omega) (by omega))
    rw [E1.out] at C1
    rw [E2.out] at C2
    go_wp2_with (fail)
    refine C1.out.mono ?_
    rintro e w3 ⟨rfl, rfl⟩
    go_wp2_with (fail)
    refine C2.out.mono ?_
    rintro e w3 ⟨rfl, hb3⟩
    have HB3 := Lib.hid (HBB.out.trans (hb3.mono HBB.out.size))
    have Y3 := Lib.hid (Y2.out.belowM hb3)
    clear hb3
    have C3 := Lib.hid (wcmp_any A2 A2 c2 c2 r r w3 Y3.out Y3.out (by omega) (by omega))
    rw [E3.out] at C3
    go_wp2_with (fail)
    refine C3.out.mono ?_
    rintro e w4 ⟨rfl, rfl⟩
    go_wp2_with (fail)
    refine (awake_any _).mono ?_
    rintro e w9 ⟨rfl, hb9⟩
    go_wp2_with (fail)
    go_ret
    exact ⟨rfl, HB3.out.trans (hb9.mono HB3.out.size)⟩
  · have hsl := H2b.out rfl
    rw [hsl] at H2
    clear hsl H2b
    go_wp2_with (fail)
    refine (H2.out _).mono ?_
    rintro e w1 ⟨A1, c1, rfl, hc1, hr1, hn1, hb1⟩
    have HB1 := Lib.hid hb1
    have X1 := Lib.hid (X.out.belowM hb1)
    have C0 := Lib.hid (wsame_any A1 A c1 c l l w1 hr1 X1.out (by omega) (by omega))
    rw [show decide (l = l) = true by simp] at C0
    clear hr1 hn1 hb1 hc1
    go_wp2_with (fail)
    refine C0.out.mono ?_
    rintro e wz0 ⟨rfl, hb2⟩
    have HBW := Lib.hid (HB1.out.trans (hb2.mono HB1.out.size))
    have XW := Lib.hid (X1.out.belowM hb2)
    clear hb2 HB1 X1 C0 X
    have hlit := World.ownsRow_lit (e := 21) (size := 1) (base := wz0.heap.size) wz0 #[] 0 (Nat.le_refl _) (Nat.zero_le _) rfl
    have HL := Lib.hid hlit
    clear hlit
    go_wp2_with (at_builtin; go_must (refine wpList_append_RR rfl _ _ rfl wz0.heap.size _ [] rfl HL.out _ A _ c l rfl (XW.out.below ((Below.refl _ _).alloc (Nat.le_refl _) _)) ?n1 ?n2 ?n3 ?_))
    case n1 => exact fun e => by obtain ⟨q1, q2⟩ := hnil e; exact ⟨by rw [q1]; rfl, q2⟩
    case n2 => simp; omega
    case n3 => simp
    intro v1 w1 ho1 hg1
    have HB1 := Lib.hid (((Below.refl _ _).alloc (Nat.le_refl _) _).grown hg1 (by simp) (fun k hk => by simp [Value.ownBlock] at hk; omega))
    have HO1 := Lib.hid ho1
    have X1 := Lib.hid (XW.out.belowM HB1.out)
    clear ho1 hg1 HL
    go_wp2_with (at_builtin; go_must (refine wpList_append_own _ rfl _ _ 22 rfl wz0.heap.size 21 i0 _ 1 4 Try.underlying22 hi0 hz0 hz1 hz2 rfl (by decide) _ l.length (l.map (Value.int .i32)) rfl (HO1.out.alloc _) ⟨w1.heap.size, 0, none⟩ 1 1 [.int .i32 x] rfl rfl (cell_one_new _ _ _) ?c2 ?c3 ?c4 ?c5 ?_))
    case c2 => intro u hu; simp at hu; subst hu; rfl
    case c3 => simp only [maxLen]; omega
    case c4 => omega
    case c5 => have := HB1.out.size; simp only [World.size_alloc]; omega
    intro v2 wz ho2 hg2 _
    have ho3 : OwnsR wz wz0.heap.size v2 r := by
      unfold OwnsR
      rw [HR.out, List.map_append, List.length_append]
      exact ho2
    have HB2 := Lib.hid ((HB1.out.alloc HB1.out.size _).grown hg2 (by have := HB1.out.size; simp; omega) (fun k hk => (World.ownsRow.lt HO1.out k hk).1))
    have X2 := Lib.hid (XW.out.belowM HB2.out)
    have HBB := Lib.hid (HBW.out.trans (HB2.out.mono HBW.out.size))
    clear ho2 hg2 HB1 HO1 X1
    obtain ⟨A2, c2, hv2, hc2, hr2, hn2⟩ := own_RR ho3
    have Y2 := Lib.hid hr2
    clear hr2 hn2 ho3
    subst hv2
    have C1 := Lib.hid (wcmp_any A A2 c c2 l r wz X2.out Y2.out (by omega) (by omega))
    have C2 := Lib.hid (front_any A A2 c c2 l r wz X2.out Y2.out (by omega) (by omega))
    rw [E1.out] at C1
    rw [E2.out] at C2
    go_wp2_with (fail)
    refine C1.out.mono ?_
    rintro e w3 ⟨rfl, rfl⟩
    go_wp2_with (fail)
    refine C2.out.mono ?_
    rintro e w3 ⟨rfl, hb3⟩
    have HB3 := Lib.hid (HBB.out.trans (hb3.mono HBB.out.size))
    have Y3 := Lib.hid (Y2.out.belowM hb3)
    clear hb3
    have C3 := Lib.hid (wcmp_any A2 A2 c2 c2 r r w3 Y3.out Y3.out (by omega) (by omega))
    rw [E3.out] at C3
    go_wp2_with (fail)
    refine C3.out.mono ?_
    rintro e w4 ⟨rfl, rfl⟩
    go_wp2_with (fail)
    refine (awake_any _).mono ?_
    rintro e w9 ⟨rfl, hb9⟩
    go_wp2_with (fail)
    go_ret
    exact ⟨rfl, HB3.out.trans (hb9.mono HB3.out.size)⟩
set_option maxRecDepth 100000 in
theorem lifted_WordBack (os : Os) (started : os.Started) (H : Type) (enc : TypeId × Value → H) :
    ReturnsInHanded {} Try.checked os 9 .any (Rows.wordBackSpec.pre6 enc Try.prog Try.f9 Rows.wordBackRow.domain false) (Rows.wordBackSpec.post enc Try.prog Try.f9 false true false false) := by
  refine returnsInHanded_of_change (C := Try.checked) own started (by kernel_rfl) Try.func9
    (ChangeSpec.witness6 (enc := enc) (C := Try.checked) false ⟨#[], #[.slice none 0 0, .int .i32 0], []⟩ 8 (by kernel_rfl) (by kernel_rfl) (by kernel_rfl) (by kernel_rfl)) ?_
  intro W base args ds gs before hval0 hW hcnd _
  have hval : ∀ (j : Nat) t v, Try.f9.params[j]? = some t → args[j]? = some v → Value.okWide Try.prog W .any base t v := hval0
  have hW' := hW
  obtain ⟨p, q, hA0, hV, rfl, hfz, hnd⟩ := hW
  have hA : DataW.TrodAll enc Try.prog W 0 (fun _ => true) true Try.f9.params.toList args.toList ds p := hA0
  rw [Try.params9] at hA hval
  obtain ⟨v0, v1, d0, d1, p0, p1, rfl, rfl, rfl, h0, h1⟩ := trodAll_two hA
  obtain ⟨rfl, rfl⟩ := trodVars_none hV
  clear hA0 hval0
  simp only [List.append_nil] at hW'
  have hlt := fun x hx => hW'.lt (p := x) hx
  obtain ⟨x, rfl, rfl, rfl, hw1⟩ := open_int Try.underlying21 (hval 1 _ v1 rfl rfl) h1
  obtain ⟨A, c, l, rfl, hr0, hc0, hm0, hn0, hx0⟩ := open_runes (hval 0 _ v0 rfl rfl) h0
  refine (walk_WordBack A c l x W hr0 hm0 hn0).mono fun e W' ⟨he, hb⟩ => ?_
  subst he
  exact ⟨_, rfl, _, _, _, [], _, [], hW', trodAll_mk1 (shut_bool Try.underlying4 true), trodAll_mk2 (kept readableR rowR h0 hb fun x hx => hlt x (by simp [hx])) (shut_int Try.underlying21 hw1), rfl, World.keptBut_mono (fun x hx => ⟨hx, .inr (.inl (by simpa using hx))⟩) (hb.frame (· ∈ _)), fun h => by cases h⟩

theorem holds_WordBack : Rows.WordBackSaid :=
  OpenClaim.holds_of_wide 9 Try.f9 rfl rfl rfl rfl rfl rfl rfl ⟨rfl, rfl, rfl, rfl, rfl⟩ rfl rfl rfl rfl rfl (by kernel_rfl) Try.func9 (by kernel_rfl)
    (of_decide_eq_true (by kernel_rfl)) (by unfold Func.isWrapper; first | (rw [if_pos (by decide +kernel)]; kernel_rfl) | (rw [if_neg (by decide +kernel)]; exact ⟨rfl, rfl⟩))
    (fun os started H enc _ => lifted_WordBack os started H enc)
end Go.Proofs.Ytoofeiogjheknaa.Wo
