/- The walk of utf.Encode; the statements' helper awake. -/
import Derived.Test.YtjhgboncipnkeaaDoorUtShelf
import Derived.Test.YtjhgboncipnkeaaDoorUtRepair
import Derived.Test.YtjhgboncipnkeaaDoorWoText
namespace Go.Proofs.YtjhgboncipnkeaaDoor.Ut
set_option maxRecDepth 100000
open Go Go.RowKit Go.Shelf Go.Proofs.YtjhgboncipnkeaaDoor.Wo

/-- A slice that was made in the call reads as a list of bytes. -/
def BytesOut (l : List Int) (w : World) (v : Value) (w' : World) : Prop := ∃ A c, v = .slice A l.length c ∧ RY w' w'.heap.size A l.length l ∧ l.length ≤ c ∧ (∀ b off, A = some ⟨b, off, none⟩ → w.heap.size ≤ b) ∧ Below w.heap.size w w'
def EncOut (l : List Int) (w : World) (e : Ending) (w' : World) : Prop := ∃ v, e = .returned v ∧ BytesOut l w v w'
theorem bytes_out {w w' : World} {l : List Int} {v : Value} (h : w'.ownsRow w.heap.size 5 1 v l.length (l.map (Value.int .u8))) (hb : Below w.heap.size w w') : BytesOut l w v w' := by
  rcases h.2 with ⟨rfl, hn⟩ | ⟨g, cap, cur, rfl, hg, hr⟩
  · obtain rfl := List.eq_nil_of_length_eq_zero hn
    exact ⟨none, 0, rfl, ⟨rfl, fun h => absurd h (by simp)⟩, Nat.le_refl _, (fun _ _ e => by cases e), hb⟩
  · refine ⟨some ⟨g, 0, none⟩, cap, rfl, ⟨rfl, fun _ => ⟨g, 0, rfl, (h.lt g rfl).2, fun j hj => ?_⟩⟩, hr.2.1, (fun b off e => by injection e with e; injection e with e; omega), hb⟩
    rw [Nat.zero_add]
    exact row_cell h j _ (by simp [hj])
theorem encode_any (x : Int) (w : World) (h0 : -2147483648 ≤ x) (h1 : x ≤ 2147483647) : Calls Tryd.prog 10 #[.int .i32 x] w (EncOut (encB x) w) := by
  have HF := Lib.hid (in_any 2 x w)
  obtain ⟨f, hf⟩ : ∃ f, inS 2 x = f := ⟨_, rfl⟩
  rw [hf] at HF
  have HX := Lib.hid hf
  have HA := Lib.hid (Any.utf8_AppendRune_plain appR infoByte w.heap.size (.slice none 0 0) 0 [] x h0 h1 w (World.ownsRow_nil _ _ _ _) (by omega) (Nat.le_refl _))
  clear hf
  cases f
  · go_enter Tryd.func10, Tryd.ntmps10
    go_wp2_with (fail)
    refine HF.out.mono ?_
    rintro e w1 ⟨rfl, rfl⟩
    go_wp2_with (fail)
    go_ret
    refine ⟨_, rfl, ?_⟩
    rw [encB_not HX.out]
    exact ⟨none, 0, rfl, ⟨rfl, fun h => absurd h (by simp)⟩, Nat.le_refl _, (fun _ _ e => by cases e), Below.refl _ _⟩
  · go_enter Tryd.func10, Tryd.ntmps10
    go_wp2_with (fail)
    refine HF.out.mono ?_
    rintro e w1 ⟨rfl, rfl⟩
    go_wp2_with (fail)
    refine HA.out.mono ?_
    rintro e w1 ⟨v', rfl, hrow, o, hg⟩
    have HR := Lib.hid hrow
    have HG := Lib.hid hg
    clear hrow hg
    go_wp2_with (fail)
    go_ret
    refine ⟨_, rfl, ?_⟩
    rw [encB_of HX.out]
    have hr := HR.out
    rw [Nat.zero_add, List.nil_append] at hr
    refine bytes_out (by rw [Lib.runeCells, List.length_map] at hr; exact hr) (((Below.refl _ _).alloc (Nat.le_refl _) o).grown HG.out (by simp) (fun k hk => by cases hk))
end Go.Proofs.YtjhgboncipnkeaaDoor.Ut
