/- WordLists holds for every list of words: the law answers true and the list reads afterwards as it read before. No condition. -/
import Derived.Test.YtighbbaggpnfoaaWoFrame
import Derived.Test.YtighbbaggpnfoaaLiWalk
import Derived.Deep.Slices
import Derived.Carry
namespace Go.Proofs.Ytighbbaggpnfoaa.Wo
set_option maxRecDepth 100000
open Go Go.RowKit Go.ChangeShapes Go.WideShapes Go.ChangeAt Go.Deep

theorem readableWs : Try.prog.readableRec 22 = true := by kernel_rfl
theorem rowWs : 22 < Try.prog.types.size := of_decide_eq_true (by kernel_rfl)
theorem cellsWs : Try.prog.cellsOf 24 = 1 := by kernel_rfl
theorem block_of_addW (a : Addr) (n : Nat) : (a.add n).block = a.block := by unfold Addr.add; split <;> rfl
theorem open_runes1 {H : Type} {enc : TypeId × Value → H} {W : World} {v : Value} {x : DataW H × List MemPlace} {fuel : Nat} (hf : DataW.trod enc Try.prog W 0 (fun _ => true) true fuel 24 [v] = some x) :
    ∃ (A : Option Addr) (c : Nat) (l : List Int), v = .slice A l.length c ∧ RR W W.heap.size A l.length l ∧ l.length ≤ c ∧ l.length ≤ maxLen ∧ (A = none → l = [] ∧ c = 0) := by
  rcases open_ints Try.underlying24 Try.underlying21 cellsR hf with ⟨hcs, hx⟩ | ⟨a, len, cap, zs, hcs, _, hl, hm, hz, hx, hcell, hwz⟩
  · injection hcs with hcs
    exact ⟨none, 0, [], hcs, RR.nil_ _ _ _, Nat.le_refl _, Nat.zero_le _, fun _ => ⟨rfl, rfl⟩⟩
  · injection hcs with hcs
    subst hcs
    simp only [if_true] at hz
    have hlen : (zs.take len).length = len := by rw [List.length_take]; omega
    refine ⟨some a, cap, zs.take len, by rw [hlen], ⟨rfl, fun hn => ?_⟩, by rw [hlen]; exact hl, by rw [hlen]; omega, fun h => by cases h⟩
    rw [hlen] at hn
    obtain ⟨b, off, rfl, hc⟩ := ints_at hcell (by omega)
    have hb := World.block_lt_of_cell? W _ (hc 0 (by omega))
    refine ⟨b, off, rfl, hb, fun j hj => ?_⟩
    rw [hlen] at hj
    have := hc j (by omega)
    rw [List.getD_eq_getElem?_getD, List.getElem?_eq_getElem (show j < zs.length by omega)] at this
    rw [List.getElem_take]
    exact this
theorem open_words {H : Type} {enc : TypeId × Value → H} {W : World} {r : Reach} {b0 : Nat} {v : Value} {d : DataW H} {p : List MemPlace} (hv : Value.okWide Try.prog W r b0 22 v) (h : DataW.Trod enc Try.prog W 0 (fun _ => true) true 22 v d p) :
    ∃ (A : Option Addr) (c : Nat) (fam : List (List Int)), v = .slice A fam.length c ∧ RWs W A fam.length fam ∧ fam.length ≤ c ∧ fam.length ≤ maxLen ∧ (∀ l ∈ fam, l.length ≤ maxLen) ∧ (A = none → fam = [] ∧ c = 0) := by
  obtain ⟨a0, len0, cap0, rfl⟩ := okWide_slice Try.underlying22 hv
  obtain ⟨fuel, hf⟩ := h
  rcases open_slice1 Try.underlying22 cellsWs hf with ⟨hcs, _⟩ | ⟨a, len, cap, m, n, V, D, Pl, hcs, _, hl, hm, hmm, _, hi⟩
  · simp [Value.cells] at hcs
    obtain ⟨rfl, rfl, rfl⟩ := hcs
    exact ⟨none, 0, [], rfl, RWs.nil_ _ _, Nat.le_refl _, Nat.zero_le _, (fun l hl => by cases hl), fun _ => ⟨rfl, rfl⟩⟩
  · simp [Value.cells] at hcs
    obtain ⟨rfl, rfl, rfl⟩ := hcs
    simp only [if_true] at hmm
    subst hmm
    have hx : ∀ i, i < len0 → ∃ l : List Int, ∃ (A : Option Addr) (c : Nat), V i = .slice A l.length c ∧ RR W W.heap.size A l.length l ∧ l.length ≤ c ∧ l.length ≤ maxLen ∧ (A = none → l = [] ∧ c = 0) := fun i hil => by
      obtain ⟨A, c, l, h1⟩ := open_runes1 (hi i (by omega)).2
      exact ⟨l, A, c, h1⟩
    obtain ⟨f, hf2⟩ := choose_lt hx
    have hlen : ((List.range len0).map f).length = len0 := by simp
    refine ⟨some a, m, (List.range len0).map f, by rw [hlen], ⟨rfl, fun hn => ?_⟩, by rw [hlen]; exact hl, by rw [hlen]; omega, (fun l hml => ?_), fun q => by cases q⟩
    · rw [hlen] at hn
      obtain ⟨b, off, spot⟩ := a
      have hc0 := (hi 0 (by omega)).1
      have hspot : spot = none := by simpa [Addr.add] using World.cell?_spot hc0
      subst hspot
      have hb := World.block_lt_of_cell? W _ hc0
      rw [block_of_addW] at hb
      refine ⟨b, off, rfl, hb, fun j hj => ?_⟩
      rw [hlen] at hj
      have k0 := (hi j (by omega)).1
      rw [show ((⟨b, off, none⟩ : Addr).add j) = ⟨b, off + j, none⟩ from by simp [Addr.add]] at k0
      obtain ⟨A, c, h1, h2, h3, h4, h5⟩ := hf2 j hj
      simp only [List.getElem_map, List.getElem_range]
      exact ⟨A, c, by rw [k0, h1], h2, h3, h5⟩
    · obtain ⟨j, hj, rfl⟩ := List.mem_map.1 hml
      obtain ⟨A, c, _, _, _, h4, _⟩ := hf2 j (List.mem_range.1 hj)
      exact h4

set_option maxRecDepth 100000 in
theorem lifted_WordLists (os : Os) (started : os.Started) (H : Type) (enc : TypeId × Value → H) :
    ReturnsInHanded {} Try.checked os 3 .any (Rows.wordListsSpec.pre6 enc Try.prog Try.f3 Rows.wordListsRow.domain false) (Rows.wordListsSpec.post enc Try.prog Try.f3 false true false false) := by
  refine returnsInHanded_of_change (C := Try.checked) own started (by kernel_rfl) Try.func3
    (ChangeSpec.witness6 (enc := enc) (C := Try.checked) false ⟨#[], #[.slice none 0 0], []⟩ 8 (by kernel_rfl) (by kernel_rfl) (by kernel_rfl) (by kernel_rfl)) ?_
  intro W base args ds gs before hval0 hW hcnd _
  have hval : ∀ (j : Nat) t v, Try.f3.params[j]? = some t → args[j]? = some v → Value.okWide Try.prog W .any base t v := hval0
  have hW' := hW
  obtain ⟨p, q, hA0, hV, rfl, hfz, hnd⟩ := hW
  have hA : DataW.TrodAll enc Try.prog W 0 (fun _ => true) true Try.f3.params.toList args.toList ds p := hA0
  rw [Try.params3] at hA hval
  obtain ⟨v0, d0, rfl, rfl, h0⟩ := trodAll_one hA
  obtain ⟨rfl, rfl⟩ := trodVars_none hV
  clear hA0 hval0
  simp only [List.append_nil] at hW'
  have hlt := fun x hx => hW'.lt (p := x) hx
  obtain ⟨A, c, L, rfl, hr0, hc0, hm0, hs0⟩ := open_words (hval 0 _ v0 rfl rfl) h0
  refine (walk_WordLists A c L W hr0 hm0 hs0.1 hs0.2).mono fun e W' ⟨he, hb⟩ => ?_
  subst he
  exact ⟨_, rfl, _, _, _, [], _, [], hW', trodAll_mk1 (shut_bool Try.underlying4 true), trodAll_mk1 (kept readableWs rowWs h0 hb fun x hx => hlt x hx), rfl, World.keptBut_mono (fun x hx => ⟨hx, .inr (.inl (by simpa using hx))⟩) (hb.frame (· ∈ _)), fun h => by cases h⟩

theorem holds_WordLists : Rows.WordListsSaid :=
  OpenClaim.holds_of_wide 3 Try.f3 rfl rfl rfl rfl rfl rfl rfl ⟨rfl, rfl, rfl, rfl, rfl⟩ rfl rfl rfl rfl rfl (by kernel_rfl) Try.func3 (by kernel_rfl)
    (of_decide_eq_true (by kernel_rfl)) (by unfold Func.isWrapper; first | (rw [if_pos (by decide +kernel)]; kernel_rfl) | (rw [if_neg (by decide +kernel)]; exact ⟨rfl, rfl⟩))
    (fun os started H enc _ => lifted_WordLists os started H enc)
end Go.Proofs.Ytighbbaggpnfoaa.Wo
