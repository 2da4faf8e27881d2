import Derived.Test.YtoofgpoeheponaaGreatDoorK22
import Derived.Test.YtoofgpoeheponaaGreatDoorK23
namespace Go.Proofs.YtoofgpoeheponaaGreatDoor.Fi
set_option maxRecDepth 100000
open Go.RowKit Sp Pa Te Sh
def HasVal (b d t u s : Int) (l : List PT) (xs : List Int) : Prop := (valueT b d t u s l xs).2 = true
def ImgT (b d t u s : Int) (l : List PT) (gs : List (List Span)) (y : Int) : Prop := ∃ xs, WinS gs xs ∧ HasVal b d t u s l xs ∧ (valueT b d t u s l xs).1 = y
def ImgOk (b d t u s : Int) (l : List PT) (gs : List (List Span)) : Prop := gs.length ≤ 4 ∧ numB b d t u s l = true ∧ partsB gs.length l = true ∧ ∀ xs, WinS gs xs → HasVal b d t u s l xs
theorem num_parts {b d t u s : Int} {l : List PT} (h : numB b d t u s l = true) : Sm b ∧ Sm s ∧ Bits d t u ∧ l.length ≤ 4 := by
 unfold numB at h
 simp only [Bool.and_eq_true, decide_eq_true_eq] at h
 exact ⟨h.1, h.2.1, h.2.2.1, h.2.2.2.1⟩
theorem parts_all {n : Nat} {l : List PT} (h : partsB n l = true) : BitsAll l ∧ ∀ q ∈ l, 0 ≤ q.1 ∧ q.1 < n := by
 have key : ∀ q ∈ l, 0 ≤ q.1 ∧ q.1 < n ∧ Bits q.2.1 q.2.2.1 q.2.2.2 := fun q hq => by
  have := List.all_eq_true.1 h q hq
  unfold rightB at this
  exact of_decide_eq_true this
 exact ⟨fun q hq => (key q hq).2.2, fun q hq => ⟨(key q hq).1, (key q hq).2.1⟩⟩
theorem value_is {b d t u s : Int} {l : List PT} {xs : List Int} (h : numB b d t u s l = true) (hp : partsB xs.length l = true) : valueT b d t u s l xs = if (∀ x ∈ xs, Sy x) ∧ Sy (innT xs s l) then (b + valI d t u (innT xs s l), true) else (0, false) := by
 obtain ⟨h1, h2, h3, h4⟩ := num_parts h
 have hin := inner_is (xs := xs) (parts_all hp).1 h2 h4
 have hvb := valI_bound h3 (innT xs s l)
 unfold valueT wholeT
 rw [hin]
 by_cases hs : ∀ x ∈ xs, Sy x
 ·have hsb : symB xs = true := symB_true (fun x hx => hs x (List.mem_of_mem_take hx))
  rw [if_pos ⟨hsb, hp⟩]
  by_cases hi : Sy (innT xs s l)
  ·rw [if_pos ⟨hi, h3⟩, if_pos ⟨hs, hi⟩]
   unfold Sm at h1
   rw [wrap_in (by omega) (by omega)]
  ·rw [if_neg (fun q => hi q.1), if_neg (fun q => hi q.2)]
 ·have hsb : symB xs = false := by
   cases e : symB xs with
   | false => rfl
   | true => unfold symB at e; exact absurd (@of_decide_eq_true _ (Classical.propDecidable _) e) hs
  rw [if_neg (fun q => by rw [hsb] at q; exact absurd q.1 (by decide)), if_neg (fun q => hs q.1)]
theorem hasVal_iff {b d t u s : Int} {l : List PT} {xs : List Int} (h : numB b d t u s l = true) (hp : partsB xs.length l = true) : HasVal b d t u s l xs ↔ (∀ x ∈ xs, Sy x) ∧ Sy (innT xs s l) := by
 unfold HasVal
 rw [value_is h hp]
 split
 ·rename_i q; exact ⟨fun _ => q, fun _ => rfl⟩
 ·rename_i q; exact ⟨fun k => absurd k (by decide), fun k => absurd k q⟩
theorem win_none {gs : List (List Span)} {g : List Span} (hg : g ∈ gs) (he : ∀ x, ¬ mem g x) (xs : List Int) : ¬ WinS gs xs := by
 rintro ⟨h1, h2⟩
 obtain ⟨i, hi, rfl⟩ := List.getElem_of_mem hg
 exact he _ (h2 i hi (by omega))
theorem win_some {gs : List (List Span)} (hne : ∀ g ∈ gs, ∃ x, mem g x) {i : Nat} (hi : i < gs.length) {x : Int} (hx : mem gs[i] x) : ∃ xs, WinS gs xs ∧ x ∈ xs := by
 have hx2 : ∃ F : Nat → Int, ∀ j, (hj : j < gs.length) → mem gs[j] (F j) := ⟨fun j => if h : j < gs.length then Classical.choose (hne _ (List.getElem_mem h)) else 0, fun j hj => by simp only [dif_pos hj]; exact Classical.choose_spec (hne _ (List.getElem_mem hj))⟩
 obtain ⟨F, hF⟩ := hx2
 refine ⟨(List.range gs.length).map fun j => if j = i then x else F j, ⟨by simp, fun j hj hj' => ?_⟩, List.mem_map.2 ⟨i, List.mem_range.2 hi, if_pos rfl⟩⟩
 simp only [List.getElem_map, List.getElem_range]
 by_cases e : j = i
 ·subst e; rw [if_pos rfl]; exact hx
 ·rw [if_neg e]; exact hF j hj
theorem img_empty {b d t u s : Int} {l : List PT} {gs : List (List Span)} (h4 : gs.length ≤ 4) (hn : numB b d t u s l = true) (hp : partsB gs.length l = true) {g : List Span} (hg : g ∈ gs) (he : ∀ x, ¬ mem g x) : ImgOk b d t u s l gs ∧ ∀ y, ¬ ImgT b d t u s l gs y :=
 ⟨⟨h4, hn, hp, fun xs hx => absurd hx (win_none hg he xs)⟩, fun _ ⟨xs, hx, _⟩ => win_none hg he xs hx⟩
def FitsP (dom : List Span) (i o : Int) (b d t u s : Int) (l : List PT) (gs : List (List Span)) : Prop := gs.length ≤ 4 ∧ rightT i o gs.length b d t u s l = true ∧ ∀ xs, WinS gs xs → (∀ x ∈ xs, Sy x) → HasVal b d t u s l xs ∧ mem dom (valueT b d t u s l xs).1
theorem right_num {i o m b d t u s : Int} {l : List PT} (h : rightT i o m b d t u s l = true) : numB b d t u s l = true ∧ partsB m l = true := by
 unfold rightT at h
 simp only [Bool.and_eq_true] at h
 exact ⟨h.2.2.1, h.2.2.2.1⟩
def MetS (gs own : List (List Span)) : Prop := own.length = gs.length ∧ ∀ (i : Nat) (h : i < gs.length) (h' : i < own.length), Is own[i] fun x => mem gs[i] x ∧ Sy x
theorem met_win {gs own : List (List Span)} (h : MetS gs own) (xs : List Int) : WinS own xs ↔ WinS gs xs ∧ ∀ x ∈ xs, Sy x := by
 unfold WinS
 constructor
 ·rintro ⟨h1, h2⟩
  refine ⟨⟨by rw [h1, h.1], fun i hi hi' => (((h.2 i hi (by rw [h.1]; exact hi)).2 _).1 (h2 i (by rw [h.1]; exact hi) hi')).1⟩, fun x hx => ?_⟩
  obtain ⟨j, hj, rfl⟩ := List.getElem_of_mem hx
  have hjo : j < own.length := by omega
  exact (((h.2 j (by rw [← h.1]; exact hjo) hjo).2 _).1 (h2 j hjo hj)).2
 ·rintro ⟨⟨h1, h2⟩, h3⟩
  exact ⟨by rw [h1, h.1], fun i hi hi' => ((h.2 i (by rw [← h.1]; exact hi) hi).2 _).2 ⟨h2 i (by rw [← h.1]; exact hi) hi', h3 _ (List.getElem_mem hi')⟩⟩
theorem fits_img {dom : List Span} {i o b d t u s : Int} {l : List PT} {gs own : List (List Span)} (h4 : gs.length ≤ 4) (hr : rightT i o gs.length b d t u s l = true) (hm : MetS gs own) : FitsP dom i o b d t u s l gs ↔ ImgOk b d t u s l own ∧ ∀ y, ImgT b d t u s l own y → mem dom y := by
 obtain ⟨hn, hp⟩ := right_num hr
 unfold FitsP ImgOk ImgT
 constructor
 ·rintro ⟨_, _, h⟩
  refine ⟨⟨by rw [hm.1]; exact h4, hn, by rw [hm.1]; exact hp, fun xs hx => ?_⟩, ?_⟩
  ·obtain ⟨h1, h2⟩ := (met_win hm xs).1 hx
   exact (h xs h1 h2).1
  ·rintro y ⟨xs, hx, _, rfl⟩
   obtain ⟨h1, h2⟩ := (met_win hm xs).1 hx
   exact (h xs h1 h2).2
 ·rintro ⟨⟨_, _, _, h1⟩, h2⟩
  refine ⟨h4, hr, fun xs hx hs => ?_⟩
  have hw := (met_win hm xs).2 ⟨hx, hs⟩
  exact ⟨h1 xs hw, h2 _ ⟨xs, hw, h1 xs hw, rfl⟩⟩
end Go.Proofs.YtoofgpoeheponaaGreatDoor.Fi
