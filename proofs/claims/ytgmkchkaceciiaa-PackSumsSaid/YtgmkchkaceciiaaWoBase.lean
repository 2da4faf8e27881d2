/- Words for words: a slice value that reads as a list of symbols; the walks of word.Of, word.In, word.Compare and of the statements' helper awake. -/
import Derived.Test.YtgmkchkaceciiaaProg
import Derived.WalkKit
import Derived.WalkSpells
import Derived.WalkLawsBesides
import Derived.WalkSmall
import Derived.BigQuiet
import Derived.Deep.QuietTactic
import Derived.Deep.DeepMust
import Derived.Lib.Hide
import Derived.Lib.OthersKept
import Derived.Maps.AppendAt
import Derived.WideShapes
import Derived.OwnWalk
import Derived.Deep.AppendLies
namespace Go.Proofs.Ytgmkchkaceciiaa.Wo
set_option maxRecDepth 100000
open Go Go.RowKit

/-- The slice value with address A and length n reads as the symbols xs, and lies below block B. -/
def RR (w : World) (B : Nat) (A : Option Addr) (n : Nat) (xs : List Int) : Prop :=
  xs.length = n ∧ (0 < n → ∃ b off, A = some ⟨b, off, none⟩ ∧ b < B ∧ ∀ (j : Nat) (h : j < xs.length), w.cell? ⟨b, off + j, none⟩ = some (.int .i32 xs[j]))
section
variable {w w' : World} {B B' n : Nat} {A : Option Addr} {l : List Int}
theorem RR.nil_ (w : World) (B : Nat) (A : Option Addr) : RR w B A 0 [] := ⟨rfl, fun h => absurd h (by omega)⟩
theorem RR.at_ {k : Nat} (h : RR w B A n l) (hk : k < n) : ∃ b off, ∃ x : Int, A = some ⟨b, off, none⟩ ∧ b < B ∧ (∃ hl : k < l.length, l[k] = x) ∧ w.cell? ⟨b, off + k, none⟩ = some (.int .i32 x) := by
  obtain ⟨b, off, e, hb, hc⟩ := h.2 (by omega)
  have hl : k < l.length := by have := h.1; omega
  exact ⟨b, off, l[k], e, hb, ⟨hl, rfl⟩, hc k hl⟩
theorem RR.keep (h : RR w B A n l) (hk : ∀ p : Addr, p.block < B → w'.cell? p = w.cell? p) : RR w' B A n l :=
  ⟨h.1, fun hn => by
    obtain ⟨b, off, e, hb, hc⟩ := h.2 hn
    exact ⟨b, off, e, hb, fun j hj => (hk _ hb).trans (hc j hj)⟩⟩
theorem RR.more (h : RR w B A n l) (hB : B ≤ B') : RR w B' A n l :=
  ⟨h.1, fun hn => by
    obtain ⟨b, off, e, hb, hc⟩ := h.2 hn
    exact ⟨b, off, e, by omega, hc⟩⟩
theorem RR.below (h : RR w B A n l) (hb : Below B w w') : RR w' B A n l := h.keep fun _ hp => hb.cell hp
theorem RR.belowM (h : RR w w.heap.size A n l) (hb : Below w.heap.size w w') : RR w' w'.heap.size A n l := (h.below hb).more hb.size
theorem RR.take (h : RR w B A n l) {k : Nat} (hk : k ≤ n) : RR w B A k (l.take k) := by
  refine ⟨by rw [List.length_take, h.1]; omega, fun hn => ?_⟩
  obtain ⟨b, off, e, hb, hc⟩ := h.2 (by omega)
  exact ⟨b, off, e, hb, fun j hj => by rw [List.getElem_take]; exact hc j (by rw [List.length_take] at hj; omega)⟩
end
theorem below_drewN {B : Nat} {a w : World} (h : Below B a w) (n : Nat) : Below B a (w.drewN n) := ⟨h.os, h.tape, h.output, h.size, h.block⟩
theorem ret_bool {a b : Bool} (h : a = b) : Ending.returned (.bool a) = .returned (.bool b) := by rw [h]
theorem ret_int {a b : Int} (h : a = b) : Ending.returned (.int .i64 a) = .returned (.int .i64 b) := by rw [h]
def RetW (v : Value) (w : World) (e : Ending) (w' : World) : Prop := e = .returned v ∧ w = w'
def RetB (b : Bool) (w : World) (e : Ending) (w' : World) : Prop := e = .returned (.bool b) ∧ Below w.heap.size w w'
def RetN (v : Int) (w : World) (e : Ending) (w' : World) : Prop := e = .returned (.int .i64 v) ∧ Below w.heap.size w w'

/-- The call's own slice v holds the symbols xs. -/
def OwnsR (w : World) (base : Nat) (v : Value) (xs : List Int) : Prop := w.ownsRow base 21 1 v xs.length (xs.map (Value.int .i32))
theorem infoRune : (Try.prog.info? 21).map (fun i => (i.zero, i.size, i.bytes)) = some (some (.int .i32 0), 1, 4) := by kernel_rfl
theorem own_RR {w : World} {base : Nat} {v : Value} {xs : List Int} (h : OwnsR w base v xs) : ∃ A c, v = .slice A xs.length c ∧ xs.length ≤ c ∧ RR w w.heap.size A xs.length xs ∧ (A = none → xs = [] ∧ c = 0) := by
  have h0 := h
  obtain ⟨h1, h2⟩ := h
  rcases h2 with ⟨hv, hn⟩ | ⟨g, cap, cur, hv, hr⟩
  · have : xs = [] := List.eq_nil_of_length_eq_zero hn
    subst this
    exact ⟨none, 0, hv, Nat.le_refl _, RR.nil_ _ _ _, fun _ => ⟨rfl, rfl⟩⟩
  · subst hv
    refine ⟨some ⟨g, 0, none⟩, cap, rfl, hr.2.2.1, ⟨rfl, fun _ => ⟨g, 0, rfl, (World.ownsRow.lt h0 g rfl).2, fun j hj => ?_⟩⟩, fun h => by cases h⟩
    rw [Nat.zero_add, World.ownsRow.cellAt h0 j (by omega)]
    simp [hj]

/-- What a range over a text tells. -/
def runesF (s : ByteArray) : Nat → Nat → List Int
  | 0, _ => []
  | b + 1, pos => if pos < s.size then ((Utf8.decode s pos).1 : Int) :: runesF s b (pos + (Utf8.decode s pos).2) else []
def runes (s : ByteArray) : List Int := runesF s s.size 0
theorem runesF_end (s : ByteArray) (b pos : Nat) (h : ¬ pos < s.size) : runesF s b pos = [] := by
  cases b with
  | zero => rfl
  | succ b => rw [runesF, if_neg h]
theorem width_pos (s : ByteArray) (pos : Nat) (h : pos < s.size) : 1 ≤ (Utf8.decode s pos).2 := by
  by_cases ha : (s[pos]'h).toNat < 128
  · rw [decode_ascii s pos h ha]
    exact Nat.le_refl _
  · exact (decode_high s pos h (by omega)).2
theorem runesF_len (s : ByteArray) : ∀ b pos, (runesF s b pos).length ≤ b := by
  intro b
  induction b with
  | zero => intro pos; exact Nat.le_refl _
  | succ b ih =>
    intro pos
    rw [runesF]
    split
    · have := ih (pos + (Utf8.decode s pos).2)
      simp only [List.length_cons]; omega
    · simp

def OfRel (s : ByteArray) (w : World) (v : Value) (wr : World) : Prop := ∃ (pos b : Nat) (acc : List Int), wr.heap[w.heap.size]? = some (.stringIter s pos) ∧ OwnsR wr (w.heap.size + 1) v acc ∧ acc ++ runesF s b pos = runes s ∧ s.size ≤ pos + b ∧ Below w.heap.size w wr
def ListOut (xs : List Int) (w : World) (e : Ending) (w' : World) : Prop := ∃ A c, e = .returned (.slice A xs.length c) ∧ xs.length ≤ c ∧ RR w' w'.heap.size A xs.length xs ∧ (A = none → xs = [] ∧ c = 0) ∧ Below w.heap.size w w'
end Go.Proofs.Ytgmkchkaceciiaa.Wo
