/- What a loop over an iterator keeps: a relation that the caller picks. No function of the program is walked here. -/
import Derived.Test.YtjhgboncipnkeaaDoorUtMath
import Derived.RangeFuncNested
import Derived.RangeFuncBound
import Derived.RangeFuncCalls
import Derived.RangeFuncLeaves
import Derived.RangeFuncFrom
import Derived.RangeFuncBox
import Derived.Shelf.Abstract
import Derived.Shelf.RegionOpen
import Derived.OwnWalkIn
import Derived.TacticsInMore
import Derived.LoopNIn
import Derived.LoopIn
namespace Go.Proofs.YtjhgboncipnkeaaDoor.Ut
open Go Go.RowKit Go.Shelf

abbrev F0 : Fence := Fence.wide
/-- What the caller owes of the relation that says what a round keeps: blocks that are safe are kept, and a new block is safe. -/
structure Keeper (Kp : World → World → Prop) (Safe : World → Nat → Prop) (Good : World → Prop) : Prop where
  refl : ∀ W, Kp W W
  trans : ∀ {A B C}, Kp A B → Kp B C → Kp A C
  below : ∀ {W W'}, Good W → Below W.heap.size W W' → Kp W W'
  size : ∀ {W W'}, Kp W W' → W.heap.size ≤ W'.heap.size
  cell : ∀ {W W'} {p : Addr} {v}, Kp W W' → Safe W p.block → W.cell? p = some v → W'.cell? p = some v
  safe : ∀ {W W' k}, Kp W W' → k < W.heap.size → Safe W k → Safe W' k
  good : ∀ {W W'}, Kp W W' → Good W → Good W'
theorem abides_below {β : Type} {J : β → World → Prop} {B : Nat} (h : AbidesFrom B J) {pre : β} {W W' : World} (hj : J pre W) (hb : Below W.heap.size W W') : J pre W' :=
  h pre W W' none hj ⟨hb.os, hb.tape, hb.output, hb.size, fun k hk _ => hb.block k hk⟩ (fun r e => by cases e)
theorem setCell_other (W : World) (p : Addr) (k : Nat) (v : Value) (h : k ≠ p.block) : (W.setCell p v).heap[k]? = W.heap[k]? := Below.heap_setCell _ _ _ k h
/-- To which row of its own a box's slice leads. -/
def ptr (W : World) (B : Nat) : Option Nat := (W.cell? ⟨B, 0, none⟩).bind Value.ownBlock
/-- All cells are kept but those of the box B and of the row to which its slice leads; that row is the old one, or a new one. -/
structure KeepP (B : Nat) (W W' : World) : Prop where
  size : W.heap.size ≤ W'.heap.size
  same : ∀ k cs t fr, k ≠ B → ptr W B ≠ some k → W.heap[k]? = some (.cells cs t fr) → W'.heap[k]? = some (.cells cs t fr)
  ptr : ptr W' B = ptr W B ∨ ∃ g, Ut.ptr W' B = some g ∧ W.heap.size ≤ g
  lt : (∀ g, Ut.ptr W B = some g → g < W.heap.size) → ∀ g, Ut.ptr W' B = some g → g < W'.heap.size
def SafeP (B : Nat) (W : World) (k : Nat) : Prop := k ≠ B ∧ ptr W B ≠ some k
def GoodP (B : Nat) (W : World) : Prop := B < W.heap.size ∧ ∀ g, ptr W B = some g → g < W.heap.size
theorem ptr_below {W W' : World} {B : Nat} (h : B < W.heap.size) (hb : Below W.heap.size W W') : ptr W' B = ptr W B := by
  unfold ptr
  rw [hb.cell (p := ⟨B, 0, none⟩) h]
theorem keeperP (B : Nat) : Keeper (KeepP B) (SafeP B) (GoodP B) where
  refl W := ⟨Nat.le_refl _, fun _ _ _ _ _ _ h => h, .inl rfl, fun h => h⟩
  trans {A C D} h k := ⟨Nat.le_trans h.size k.size, fun i cs t fr hi hp hk => by
      have hlt := (Array.getElem?_eq_some_iff.1 hk).1
      refine k.same i cs t fr hi (fun e => ?_) (h.same i cs t fr hi hp hk)
      rcases h.ptr with e1 | ⟨g, e1, e2⟩
      · exact hp (e1.symm.trans e)
      · rw [e1] at e
        injection e with e
        omega, by
      rcases k.ptr with e1 | ⟨g, e1, e2⟩
      · rcases h.ptr with e3 | ⟨g, e3, e4⟩
        · exact .inl (e1.trans e3)
        · exact .inr ⟨g, e1.trans e3, e4⟩
      · exact .inr ⟨g, e1, Nat.le_trans h.size e2⟩, fun hl => k.lt (h.lt hl)⟩
  below {W W'} hG hb := ⟨hb.size, fun k cs t fr _ _ hk => by rw [hb.block k (Array.getElem?_eq_some_iff.1 hk).1]; exact hk, .inl (ptr_below hG.1 hb), fun hl g hg => by
    rw [ptr_below hG.1 hb] at hg
    have := hl g hg
    have := hb.size
    omega⟩
  size h := h.size
  cell {W W' p v} h hs hc := by
    have hq : ∃ cs t fr, W.heap[p.block]? = some (.cells cs t fr) := by
      unfold World.cell? at hc
      split at hc
      · exact ⟨_, _, _, by assumption⟩
      · cases hc
    obtain ⟨cs, t, fr, hq⟩ := hq
    have h2 := h.same _ _ _ _ hs.1 hs.2 hq
    simp only [World.cell?, hq] at hc
    simp only [World.cell?, h2]
    exact hc
  safe {W W' k} h hk hs := ⟨hs.1, fun e => by
    rcases h.ptr with e1 | ⟨g, e1, e2⟩
    · exact hs.2 (e1.symm.trans e)
    · rw [e1] at e
      injection e with e
      omega⟩
  good h hG := ⟨Nat.lt_of_lt_of_le hG.1 h.size, h.lt hG.2⟩
theorem ptr_boxed {W : World} {B : Nat} {t : TypeId} {v : Value} (h : Boxed W B t v) : ptr W B = v.ownBlock := by unfold ptr; rw [h.cell]; rfl
theorem keepP_put {B : Nat} {W : World} {l : Nat} {o o' : Obj} (hB : B ≠ l) (hl : W.heap[l]? = some o) (ho : o.isCells = false) : KeepP B W (W.putObj l o') := by
  have hp : Ut.ptr (W.putObj l o') B = Ut.ptr W B := by
    unfold Ut.ptr
    rw [World.cell?_of_block (w := W) (a := ⟨B, 0, none⟩) (World.putObj_heap_other hB)]
  refine ⟨by simp, fun k cs t fr _ _ hk => ?_, .inl hp, fun h g hg => ?_⟩
  · by_cases e : k = l
    · subst e
      rw [hl] at hk
      injection hk with hk
      subst hk
      cases ho
    · rw [World.putObj_heap_other e]; exact hk
  · rw [hp] at hg
    have := h g hg
    simpa using this
/-- A loop body that appends to the slice in the box B keeps so. -/
theorem keepP_append {W w1 : World} {B g n cap : Nat} {t : TypeId} {v : Value} (hv : Boxed W B t v) (hv1 : Boxed w1 B t v) (hsz : W.heap.size ≤ w1.heap.size) (hblk : ∀ k, k < W.heap.size → some k ≠ v.ownBlock → w1.heap[k]? = W.heap[k]?)
    (hat : v.ownBlock = some g ∨ W.heap.size ≤ g) (hlt : g < w1.heap.size) : KeepP B W (w1.setCell ⟨B, 0, none⟩ (.slice (some ⟨g, 0, none⟩) n cap)) := by
  have hp : ptr (w1.setCell ⟨B, 0, none⟩ (.slice (some ⟨g, 0, none⟩) n cap)) B = some g := by rw [ptr_boxed (hv1.set _)]; rfl
  refine ⟨by rw [World.size_setCell]; exact hsz, fun k cs t fr hk hq hc => ?_, ?_, fun _ g' hg' => ?_⟩
  · rw [setCell_other w1 ⟨B, 0, none⟩ k _ hk, hblk k (Array.getElem?_eq_some_iff.1 hc).1 (fun e => hq ((ptr_boxed hv).trans e.symm))]
    exact hc
  · rcases hat with h | h
    · exact .inl (hp.trans ((ptr_boxed hv).trans h).symm)
    · exact .inr ⟨g, hp, h⟩
  · rw [hp] at hg'
    injection hg' with hg'
    subst hg'
    rw [World.size_setCell]
    exact hlt
theorem boxed_kept {A A' : World} {B : Nat} {t : TypeId} {v : Value} {row : Option Nat} (h : Boxed A B t v) (hg : A.grownBy A' row) (hr : ∀ r, row = some r → ∃ o : Obj, A.heap[r]? = some o ∧ o.isCells = false) : Boxed A' B t v :=
  h.kept hg (fun e => by
    obtain ⟨o, ho, hc⟩ := hr _ e.symm
    rw [show A.heap[B]? = _ from h] at ho
    injection ho with ho
    subst ho
    cases hc)
theorem boxed_below {A A' : World} {B K : Nat} {t : TypeId} {v : Value} (h : Boxed A B t v) (hb : Below K A A') (hk : B < K) : Boxed A' B t v := (hb.block B hk).trans h
theorem boxed_far {A : World} {B C : Nat} {t : TypeId} {v : Value} (u : Value) (h : Boxed A B t v) (hne : B ≠ C) : Boxed (A.setCell ⟨C, 0, none⟩ u) B t v :=
  (setCell_other A ⟨C, 0, none⟩ B u hne).trans h

/-- What an iterator over bytes tells: of each place its symbol, and whether it is a scalar's. -/
def evB : Nat → List Int → List (Int × Bool)
  | 0, _ => []
  | b + 1, l => if l = [] then [] else ((scanL l).1, (scanL l).2.2) :: evB b (l.drop (scanL l).2.1.toNat)
def evL (l : List Int) : List (Int × Bool) := evB l.length l
theorem evB_fst : ∀ (b : Nat) (l : List Int), (evB b l).map Prod.fst = repB b l ∧ ((evB b l).all Prod.snd = okB b l) := by
  intro b
  induction b with
  | zero => intro l; exact ⟨rfl, rfl⟩
  | succ b ih =>
    intro l
    unfold evB repB okB
    split
    · exact ⟨rfl, rfl⟩
    · exact ⟨by rw [List.map_cons, (ih _).1], by rw [List.all_cons, (ih _).2]⟩
theorem ev_rep (l : List Int) : (evL l).map Prod.fst = repL l := (evB_fst _ _).1
theorem ev_ok (l : List Int) : (evL l).all Prod.snd = okL l := (evB_fst _ _).2
theorem evL_nil : evL [] = [] := rfl
theorem evB_more : ∀ (b b' : Nat) (l : List Int), ByteL l → l.length ≤ b → l.length ≤ b' → evB b l = evB b' l := by
  intro b
  induction b with
  | zero =>
    intro b' l _ h _
    obtain rfl := List.eq_nil_of_length_eq_zero (by omega : l.length = 0)
    cases b' <;> simp [evB]
  | succ b ih =>
    intro b' l hl h h'
    by_cases hne : l = []
    · subst hne
      cases b' <;> simp [evB]
    · have hp : 0 < l.length := List.length_pos_iff.2 hne
      obtain ⟨c, rfl⟩ : ∃ c, b' = c + 1 := ⟨b' - 1, by omega⟩
      have hs := scan_pos hl hne
      have := ih c (l.drop (scanL l).2.1.toNat) (hl.drop _) (by rw [List.length_drop]; omega) (by rw [List.length_drop]; omega)
      simp only [evB, if_neg hne]
      rw [this]
theorem evL_cons {l : List Int} (hl : ByteL l) (hne : l ≠ []) : evL l = ((scanL l).1, (scanL l).2.2) :: evL (l.drop (scanL l).2.1.toNat) := by
  have hp : 0 < l.length := List.length_pos_iff.2 hne
  have hs := scan_pos hl hne
  obtain ⟨c, hc⟩ : ∃ c, l.length = c + 1 := ⟨l.length - 1, by omega⟩
  have := evB_more c (l.drop (scanL l).2.1.toNat).length (l.drop (scanL l).2.1.toNat) (hl.drop _) (by rw [List.length_drop]; omega) (Nat.le_refl _)
  unfold evL
  rw [hc]
  simp only [evB, if_neg hne]
  rw [this]
theorem evL_len (l : List Int) (hl : ByteL l) : (evL l).length ≤ l.length := by
  have := congrArg List.length (ev_rep l)
  rw [List.length_map] at this
  rw [this]
  exact repL_len _ l hl (Nat.le_refl _)
end Go.Proofs.YtjhgboncipnkeaaDoor.Ut
