/- append of a slice that reads as a list of bytes, or of runes, onto a row of the call's own: one law for nil too. -/
import Derived.Test.YtjhgboncipnkeaaDoorUtEnc
import Derived.Laws.AppendOwnNone
import Derived.Maps.AppendAt
import Derived.Deep.MidRow
namespace Go.Proofs.YtjhgboncipnkeaaDoor.Ut
open Go Go.RowKit Go.Shelf Go.Proofs.YtjhgboncipnkeaaDoor.Wo

theorem append_RY {w : World} {ops : Array Oper} {rest : List Oper} {o : Oper} {a : Act} {Q : Exit → Act → World → Prop} (hg2 : o.guard = none) (s x : Operand)
    (ho : o.op = .call { callee := .builtin .append, args := #[s, x], argTypes := #[22, 22] })
    (base : Nat) (v : Value) (n : Nat) (xs : List Value) (hs : a.eval s = v) (hown : w.ownsRow base 5 1 v n xs) (B : Nat) (A : Option Addr) (m c : Nat) (l : List Int) (hx : a.eval x = .slice A m c) (hr : RY w B A m l) (hnil : A = none → c = 0)
    (h63 : n + m ≤ 1099511627776) (hbase : base ≤ w.heap.size)
    (h : ∀ v' w', w'.ownsRow base 5 1 v' (n + m) (xs ++ l.map (Value.int .u8)) → w.grownBy w' v.ownBlock → wpList Tryd.prog ops Q rest (a.put o.dst v') w') :
    wpList Tryd.prog ops Q (o :: rest) a w := by
  obtain ⟨i0, hi, hz0, hz1, hz2⟩ := info_parts infoByte
  cases A with
  | none =>
    have hm : m = 0 := by
      rcases Nat.eq_zero_or_pos m with e | e
      · exact e
      · obtain ⟨b, off, e', _⟩ := hr.2 e
        cases e'
    subst hm
    obtain rfl := List.eq_nil_of_length_eq_zero hr.1
    obtain rfl := hnil rfl
    exact wpList_append_own_none hg2 s x 22 ho base 5 i0 1 Tryd.underlying22 hi v n xs hs hown hx (h v w (by simpa using hown) ⟨rfl, rfl, rfl, Nat.le_refl _, fun _ _ _ => rfl⟩)
  | some ad =>
    refine wpList_append_own_at w hg2 s x 22 ho base 5 i0 _ 1 1 Tryd.underlying22 hi hz0 hz1 hz2 rfl (by decide) v n xs hs hown ad m c (l.map (Value.int .u8)) hx (by rw [List.length_map, hr.1, Nat.mul_one]) ?_ ?_ (by simp only [maxLen]; omega) (by omega) hbase (fun v' w' h1 h2 _ _ => h v' w' h1 h2)
    · intro j u hj
      have hjl : j < l.length := by
        rcases Nat.lt_or_ge j l.length with q | q
        · exact q
        · rw [List.getElem?_eq_none (by rw [List.length_map]; exact q)] at hj; cases hj
      obtain ⟨b, off, e, _, hc⟩ := hr.2 (by have := hr.1; omega)
      injection e with e
      subst e
      rw [List.getElem?_map, List.getElem?_eq_getElem hjl] at hj
      simp only [Option.map_some, Option.some.injEq] at hj
      rw [← hj, ← hc j hjl, Addr.add_mid]
    · intro u hu
      obtain ⟨z, _, rfl⟩ := List.mem_map.1 hu
      rfl
theorem append_RR {w : World} {ops : Array Oper} {rest : List Oper} {o : Oper} {a : Act} {Q : Exit → Act → World → Prop} (hg2 : o.guard = none) (s x : Operand)
    (ho : o.op = .call { callee := .builtin .append, args := #[s, x], argTypes := #[31, 31] })
    (base : Nat) (v : Value) (n : Nat) (xs : List Value) (hs : a.eval s = v) (hown : w.ownsRow base 21 1 v n xs) (B : Nat) (A : Option Addr) (m c : Nat) (l : List Int) (hx : a.eval x = .slice A m c) (hr : RR w B A m l) (hnil : A = none → c = 0)
    (h63 : n + m ≤ 1099511627776) (hbase : base ≤ w.heap.size)
    (h : ∀ v' w', w'.ownsRow base 21 1 v' (n + m) (xs ++ l.map (Value.int .i32)) → w.grownBy w' v.ownBlock → wpList Tryd.prog ops Q rest (a.put o.dst v') w') :
    wpList Tryd.prog ops Q (o :: rest) a w := by
  obtain ⟨i0, hi, hz0, hz1, hz2⟩ := info_parts infoRune
  cases A with
  | none =>
    have hm : m = 0 := by
      rcases Nat.eq_zero_or_pos m with e | e
      · exact e
      · obtain ⟨b, off, e', _⟩ := hr.2 e
        cases e'
    subst hm
    obtain rfl := List.eq_nil_of_length_eq_zero hr.1
    obtain rfl := hnil rfl
    exact wpList_append_own_none hg2 s x 31 ho base 21 i0 1 Tryd.underlying31 hi v n xs hs hown hx (h v w (by simpa using hown) ⟨rfl, rfl, rfl, Nat.le_refl _, fun _ _ _ => rfl⟩)
  | some ad =>
    refine wpList_append_own_at w hg2 s x 31 ho base 21 i0 _ 1 4 Tryd.underlying31 hi hz0 hz1 hz2 rfl (by decide) v n xs hs hown ad m c (l.map (Value.int .i32)) hx (by rw [List.length_map, hr.1, Nat.mul_one]) ?_ ?_ (by simp only [maxLen]; omega) (by omega) hbase (fun v' w' h1 h2 _ _ => h v' w' h1 h2)
    · intro j u hj
      have hjl : j < l.length := by
        rcases Nat.lt_or_ge j l.length with q | q
        · exact q
        · rw [List.getElem?_eq_none (by rw [List.length_map]; exact q)] at hj; cases hj
      obtain ⟨b, off, e, _, hc⟩ := hr.2 (by have := hr.1; omega)
      injection e with e
      subst e
      rw [List.getElem?_map, List.getElem?_eq_getElem hjl] at hj
      simp only [Option.map_some, Option.some.injEq] at hj
      rw [← hj, ← hc j hjl, Addr.add_mid]
    · intro u hu
      obtain ⟨z, _, rfl⟩ := List.mem_map.1 hu
      rfl
theorem own_below {w w' : World} {base e size n : Nat} {v : Value} {xs : List Value} (h : w.ownsRow base e size v n xs) (hb : Below w.heap.size w w') : w'.ownsRow base e size v n xs := by
  refine h.kept (row := none) ⟨hb.os, hb.tape, hb.output, hb.size, fun k hk _ => hb.block k hk⟩ ?_
  rcases h.2 with ⟨rfl, _⟩ | ⟨g, cap, cur, rfl, _⟩
  · exact .inl rfl
  · exact .inr (by simp [Value.ownBlock])
/-- A row of bytes reads so. -/
theorem own_RY {w : World} {base n : Nat} {v : Value} {l : List Int} (h : w.ownsRow base 5 1 v n (l.map (Value.int .u8))) (hn : l.length = n) : ∃ A c, v = .slice A n c ∧ RY w w.heap.size A n l ∧ n ≤ c ∧ (A = none → c = 0) := by
  rcases h.2 with ⟨rfl, h0⟩ | ⟨g, cap, cur, rfl, hg, hr⟩
  · subst h0
    exact ⟨none, 0, rfl, ⟨hn, fun h => absurd h (by simp)⟩, Nat.le_refl _, fun _ => rfl⟩
  · refine ⟨some ⟨g, 0, none⟩, cap, rfl, ⟨hn, fun _ => ⟨g, 0, rfl, (h.lt g rfl).2, fun j hj => ?_⟩⟩, hr.2.1, fun e => by cases e⟩
    rw [Nat.zero_add]
    exact row_cell h j _ (by simp [hj])
theorem own_RR {w : World} {base n : Nat} {v : Value} {l : List Int} (h : w.ownsRow base 21 1 v n (l.map (Value.int .i32))) (hn : l.length = n) : ∃ A c, v = .slice A n c ∧ RR w w.heap.size A n l ∧ n ≤ c ∧ (A = none → c = 0) := by
  rcases h.2 with ⟨rfl, h0⟩ | ⟨g, cap, cur, rfl, hg, hr⟩
  · subst h0
    exact ⟨none, 0, rfl, ⟨hn, fun h => absurd h (by simp)⟩, Nat.le_refl _, fun _ => rfl⟩
  · refine ⟨some ⟨g, 0, none⟩, cap, rfl, ⟨hn, fun _ => ⟨g, 0, rfl, (h.lt g rfl).2, fun j hj => ?_⟩⟩, hr.2.1, fun e => by cases e⟩
    rw [Nat.zero_add]
    exact row_cell h j _ (by simp [hj])
/-- What grows is a row of the call's own: what lay below the base is as it was. -/
theorem grown_below {w w' : World} {base e size n B : Nat} {v : Value} {xs : List Value} (h : w.ownsRow base e size v n xs) (hg : w.grownBy w' v.ownBlock) (hB : B ≤ base) (hs : base ≤ w.heap.size) : Below B w w' :=
  (Below.refl B w).grown hg (by omega) (fun k hk => by have := (h.lt k hk).1; omega)
def EncOut2 (l : List Int) (w : World) (e : Ending) (w' : World) : Prop := ∃ A c, e = .returned (.slice A l.length c) ∧ RY w' w'.heap.size A l.length l ∧ (A = none → c = 0) ∧ Below w.heap.size w w'
theorem encode_any2 (x : Int) (w : World) (h0 : -2147483648 ≤ x) (h1 : x ≤ 2147483647) : Calls Tryd.prog 10 #[.int .i32 x] w (EncOut2 (encB x) w) := by
  have HF := Lib.hid (in_any 2 x w)
  obtain ⟨f, hf⟩ : ∃ f, inS 2 x = f := ⟨_, rfl⟩
  rw [hf] at HF
  have HX := Lib.hid hf
  have HA := Lib.hid (Any.utf8_AppendRune_plain appR infoByte w.heap.size (.slice none 0 0) 0 [] x h0 h1 w (World.ownsRow_nil _ _ _ _) (by omega) (Nat.le_refl _))
  clear hf
  cases f
  · go_enter Tryd.func10, Tryd.ntmps10
    go_wp2_with (fail)
    refine HF.out.mono ?_
    rintro e w1 ⟨rfl, rfl⟩
    go_wp2_with (fail)
    go_ret
    rw [encB_not HX.out]
    exact ⟨none, 0, rfl, ⟨rfl, fun h => absurd h (by simp)⟩, fun _ => rfl, Below.refl _ _⟩
  · go_enter Tryd.func10, Tryd.ntmps10
    go_wp2_with (fail)
    refine HF.out.mono ?_
    rintro e w1 ⟨rfl, rfl⟩
    go_wp2_with (fail)
    refine HA.out.mono ?_
    rintro e w1 ⟨v', rfl, hrow, o, hg⟩
    have HR := Lib.hid hrow
    have HG := Lib.hid hg
    clear hrow hg
    go_wp2_with (fail)
    go_ret
    rw [encB_of HX.out]
    have hr := HR.out
    rw [Nat.zero_add, List.nil_append, Lib.runeCells, List.length_map] at hr
    obtain ⟨A, c, rfl, hry, _, hnil⟩ := own_RY hr rfl
    exact ⟨A, c, rfl, hry, hnil, ((Below.refl _ _).alloc (Nat.le_refl _) o).grown HG.out (by simp) (fun k hk => by cases hk)⟩
end Go.Proofs.YtjhgboncipnkeaaDoor.Ut
