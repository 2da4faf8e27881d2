/- The walk of term.seen; own rows of parts, as a walk goes on. -/
import Derived.Test.YtmcgapejebceoaaTeClone
import Derived.Test.YtmcgapejebceoaaTeVal
import Derived.IntWalk
namespace Go.Proofs.Ytmcgapejebceoaa.Te
set_option maxRecDepth 100000
open Go Go.RowKit Go.Proofs.Ytmcgapejebceoaa.Sp Go.Proofs.Ytmcgapejebceoaa.Pa

def seenV (xs : List Int) (a d t u : Int) : Int × Bool := if 0 ≤ a ∧ a < xs.length then valP d t u (atI xs a) else (0, false)
set_option maxHeartbeats 4000000 in
theorem seen_any (a d t u : Int) (C : Option Addr) (m f : Nat) (xs : List Int) (w : World) (h : RR w w.heap.size C m xs) (hm : m ≤ maxLen) :
    Calls Try.prog 49 #[prt a d t u, .slice C m f] w (RetV (seenV xs a d t u) w) := by
  unfold maxLen at hm
  have hlen := h.1
  subst hlen
  by_cases h0 : a < 0
  · have HE := Lib.hid (show seenV xs a d t u = (0, false) from if_neg (by omega))
    go_enter Try.func49, Try.ntmps49
    go_wp2_with (fail)
    go_ret2
    exact ⟨ret_v HE.out, (Below.refl _ _).alloc (Nat.le_refl _) _⟩
  by_cases h1 : (xs.length : Int) ≤ a
  · have HE := Lib.hid (show seenV xs a d t u = (0, false) from if_neg (by omega))
    go_enter Try.func49, Try.ntmps49
    go_wp2_with (fail)
    go_ret2
    exact ⟨ret_v HE.out, (Below.refl _ _).alloc (Nat.le_refl _) _⟩
  obtain ⟨j, hj⟩ := Int.eq_ofNat_of_zero_le (show 0 ≤ a by omega)
  subst hj
  have hjl : j < xs.length := by omega
  obtain ⟨b2, off2, x, hC, hbB, hxk, y1, x1, x2⟩ := h.at_ hjl
  subst hC
  have HE := Lib.hid (show seenV xs j d t u = valP d t u x from by
    unfold seenV
    rw [if_pos ⟨by omega, by omega⟩, atI_get rfl hxk])
  have hx9 : x ≤ 9223372036854775807 := by omega
  have HX := Lib.hid (show ∀ W, Calls Try.prog 42 #[prt j d t u, .int .i64 (IntKind.i64.wrap x)] W (RetV (valP d t u x) W) from fun W => by rw [IntWalk.i64_in x (by omega)]; exact value_any j d t u x W hx9)
  obtain ⟨⟨v, ok⟩, hv⟩ : ∃ q, valP d t u x = q := ⟨_, rfl⟩
  rw [hv] at HX HE
  obtain ⟨w5, hw5⟩ : ∃ w5, w.alloc (.cells #[.int .i64 j, .int .i64 d, .int .i64 t, .int .i64 u] 33) = w5 := ⟨_, rfl⟩
  have h45 : Below w.heap.size w w5 := by rw [← hw5]; exact (Below.refl _ _).alloc (Nat.le_refl _) _
  have Q5 := Lib.hid (show ∀ W, Below w5.heap.size w5 W → W.cell? ⟨w.heap.size, 0, none⟩ = some (.int .i64 j) ∧ W.cell? ⟨w.heap.size, 1, none⟩ = some (.int .i64 d) ∧ W.cell? ⟨w.heap.size, 2, none⟩ = some (.int .i64 t) ∧ W.cell? ⟨w.heap.size, 3, none⟩ = some (.int .i64 u) ∧ W.cell? ⟨b2, off2 + j, none⟩ = some (.int .i32 x) from fun W hW => by
    have hc : W.cell? ⟨b2, off2 + j, none⟩ = some (.int .i32 x) := ((h45.trans (hW.mono h45.size)).cell hbB).trans y1
    rw [← hw5] at hW
    obtain ⟨z0, z1, z2, z3⟩ := boxed4 hW
    exact ⟨z0, z1, z2, z3, hc⟩)
  have H45 := Lib.hid h45
  obtain ⟨z0, z1, z2, z3, z4⟩ := Q5.out w5 (Below.refl _ _)
  clear hv hxk h h45 y1
  go_enter Try.func49, Try.ntmps49
  go_wp2_with (fail)
  go_region_held3 (fun w' => w'.cell? ⟨w.heap.size, 0, none⟩ = some (.int .i64 j) ∧ w'.cell? ⟨w.heap.size, 1, none⟩ = some (.int .i64 d) ∧ w'.cell? ⟨w.heap.size, 2, none⟩ = some (.int .i64 t) ∧ w'.cell? ⟨w.heap.size, 3, none⟩ = some (.int .i64 u) ∧ w'.cell? ⟨b2, off2 + j, none⟩ = some (.int .i32 x))
    (first | go_keep | exact Q5.out _ (Below.refl _ _).drew | exact Q5.out _ hB4)
    (first
      | (go_at_call 42; (with_reducible refine (HX.out _).mono ?_); rintro q4 w4 ⟨rfl, hb4⟩; have hB4 : Below w5.heap.size w5 w4 := (Below.refl _ w5).drew.trans (hb4.mono (by simp))))
  have HB4 := Lib.hid (below_next H45.out hB4)
  clear hb4 hB4
  go_wp2_with (fail)
  go_ret2
  exact ⟨ret_v HE.out, HB4.out⟩

theorem own_below {w w' : World} {base : Nat} {v : Value} {l : List PT} (h : OwnsP w base v l) (hb : Below w.heap.size w w') : OwnsP w' base v l := by
  have hlt := World.ownsRow.lt h
  obtain ⟨h1, h2⟩ := h
  refine ⟨h1, ?_⟩
  rcases h2 with h2 | ⟨g, cap, cur, hv, hg, hr, hrest⟩
  · exact .inl h2
  · subst hv
    exact .inr ⟨g, cap, cur, rfl, hg, (hb.block g (hlt g rfl).2).trans hr, hrest⟩
theorem own_set {w : World} {base g i : Nat} {v : Value} {l : List PT} (h : OwnsP w base v l) (hg : g < base) (u : Value) : OwnsP (w.setCell ⟨g, i, none⟩ u) base v l := ownsRow_setCell_below h hg u
theorem BoxF.grown {W W' : World} {g : Nat} {b d t u s : Int} {A : Option Addr} {n c : Nat} {row : Option Nat} (h : BoxF W g b d t u s A n c) (hg : W.grownBy W' row) (hlt : g < W.heap.size) (hne : some g ≠ row) : BoxF W' g b d t u s A n c := by
  obtain ⟨⟨h0, h1, h2, h3, h4, h5⟩, hf⟩ := h
  have k := hg.block g hlt hne
  have kc : ∀ i, W'.cell? ⟨g, i, none⟩ = W.cell? ⟨g, i, none⟩ := fun i => World.cell?_of_block k
  have kf : ∀ i, W'.frozen? ⟨g, i, none⟩ = W.frozen? ⟨g, i, none⟩ := fun i => World.frozen?_of_block k
  exact ⟨⟨(kc 0).trans h0, (kc 1).trans h1, (kc 2).trans h2, (kc 3).trans h3, (kc 4).trans h4, (kc 5).trans h5⟩, fun i hi => (kf i).trans (hf i hi)⟩
theorem cell_four (w : World) (x y z q : Value) (t : TypeId) : ∀ j u, [x, y, z, q][j]? = some u → (w.alloc (.cells #[x, y, z, q] t)).cell? ((⟨w.heap.size, 0, none⟩ : Addr).add j) = some u := by
  intro j u hj
  match j, hj with
  | 0, hj => simp at hj; subst hj; simp [Addr.add]
  | 1, hj => simp at hj; subst hj; simp [Addr.add]
  | 2, hj => simp at hj; subst hj; simp [Addr.add]
  | 3, hj => simp at hj; subst hj; simp [Addr.add]
  | j + 4, hj => simp at hj
theorem own_more {w : World} {base : Nat} {v : Value} {l : List PT} {a d t u : Int} (h : w.ownsRow base 33 4 v (l.length + 1) (flatP l ++ [.int .i64 a, .int .i64 d, .int .i64 t, .int .i64 u])) : OwnsP w base v (l ++ [(a, d, t, u)]) := by
  unfold OwnsP
  rw [flatP_append, List.length_append]
  exact h
theorem own_P0 (w : World) (base : Nat) : OwnsP w base (.slice none 0 0) [] := World.ownsRow_nil _ _ _ _
theorem ownP_ge {w : World} {base : Nat} {v : Value} {l : List PT} (h : OwnsP w base v l) : ∀ k, v.ownBlock = some k → base ≤ k := fun k hk => (World.ownsRow.lt h k hk).1
end Go.Proofs.Ytmcgapejebceoaa.Te
