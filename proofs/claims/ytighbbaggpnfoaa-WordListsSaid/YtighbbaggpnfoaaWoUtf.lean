/- Plain lemmas on UTF-8: a scalar's bytes; what is decoded there and back. No function of the program is walked here. -/
import Derived.Test.YtighbbaggpnfoaaWoFun
import Derived.Lib.MapLaws
import Derived.Lib.RuneBytes
import Derived.Laws.BytesArg
import Derived.Laws.Cover4
namespace Go.Proofs.Ytighbbaggpnfoaa.Wo
set_option maxRecDepth 100000
open Go Go.RowKit

/-- A scalar's bytes, as numbers; none of what is no scalar. -/
def encB (x : Int) : List Int := if inS 2 x = true then Lib.encodeRuneZ x else []
def encU (x : Int) : List UInt8 := (encB x).map fun n => UInt8.ofNat n.toNat
def encS (x : Int) : ByteArray := strOfNums (encB x)
theorem encS_eq (x : Int) : encS x = ⟨(encU x).toArray⟩ := rfl
theorem inS2 (x : Int) : inS 2 x = true ↔ (0 ≤ x ∧ x < 55296) ∨ (57343 < x ∧ x ≤ 1114111) := by simp [inS]
theorem encB_of {x : Int} (h : inS 2 x = true) : encB x = Lib.encodeRuneZ x := if_pos h
theorem encB_not {x : Int} (h : inS 2 x = false) : encB x = [] := by unfold encB; rw [if_neg (by rw [h]; exact Bool.false_ne_true)]
theorem encU_len (x : Int) : (encU x).length = (encB x).length := by simp [encU]
theorem encB_len {x : Int} (h : inS 2 x = true) : 1 ≤ (encB x).length ∧ (encB x).length ≤ 4 := by rw [encB_of h]; exact Lib.encodeRuneZ_length x
theorem encB_len_le (x : Int) : (encB x).length ≤ 4 := by
  by_cases h : inS 2 x = true
  · exact (encB_len h).2
  · rw [encB_not (by simpa using h)]; exact Nat.zero_le _
theorem encS_size (x : Int) : (encS x).size = (encB x).length := strOfNums_size _
theorem encS_data (x : Int) : (encS x).data.toList = encU x := rfl
theorem encB_byte (x : Int) : ∀ y ∈ encB x, 0 ≤ y ∧ y < 256 := by
  unfold encB
  split
  · exact Lib.encodeRuneZ_byte x
  · intro y h; cases h

theorem ofNat_toNat (z : Int) (h0 : 0 ≤ z) (h1 : z < 256) : ((UInt8.ofNat z.toNat).toNat : Int) = z := by
  rw [UInt8.toNat_ofNat']; omega
/-- What stands behind a scalar's bytes doesn't matter: they are decoded to it. -/
theorem dec_enc {x : Int} (h : inS 2 x = true) (t : List UInt8) : Lib.decodeL (encU x ++ t) = (x.toNat, (encU x).length) := by
  rw [encU_len, Lib.decodeL_N]
  have hx := (inS2 x).1 h
  unfold encU
  rw [encB_of h]
  by_cases h1 : x ≤ 127
  · rw [Lib.encodeRuneZ_one (by omega) h1]
    simp only [List.map_cons, List.map_nil, List.cons_append, List.nil_append, List.getD_cons_zero, List.length_cons, List.length_nil]
    have a := ofNat_toNat x (by omega) (by omega)
    unfold Lib.decodeN
    rw [if_pos (by omega)]
    exact Prod.ext (by show _ = _; omega) rfl
  by_cases h2 : x ≤ 2047
  · rw [Lib.encodeRuneZ_two (by omega) h2]
    simp only [List.map_cons, List.map_nil, List.cons_append, List.nil_append, List.getD_cons_zero, List.getD_cons_succ, List.length_cons, List.length_nil]
    have a := ofNat_toNat (192 + x / 64) (by omega) (by omega)
    have b := ofNat_toNat (128 + x % 64) (by omega) (by omega)
    generalize (UInt8.ofNat (192 + x / 64).toNat).toNat = b0 at *
    generalize (UInt8.ofNat (128 + x % 64).toNat).toNat = b1 at *
    unfold Lib.decodeN
    rw [if_neg (by omega), if_pos (by omega), if_pos (by omega)]
    exact Prod.ext (by show _ = _; omega) rfl
  by_cases h3 : x ≤ 65535
  · rw [Lib.encodeRuneZ_three (by omega)]
    simp only [List.map_cons, List.map_nil, List.cons_append, List.nil_append, List.getD_cons_zero, List.getD_cons_succ, List.length_cons, List.length_nil]
    have a := ofNat_toNat (224 + x / 4096) (by omega) (by omega)
    have b := ofNat_toNat (128 + x / 64 % 64) (by omega) (by omega)
    have c := ofNat_toNat (128 + x % 64) (by omega) (by omega)
    generalize (UInt8.ofNat (224 + x / 4096).toNat).toNat = b0 at *
    generalize (UInt8.ofNat (128 + x / 64 % 64).toNat).toNat = b1 at *
    generalize (UInt8.ofNat (128 + x % 64).toNat).toNat = b2 at *
    unfold Lib.decodeN
    rw [if_neg (by omega), if_neg (by omega), if_pos (by omega), if_pos (by omega)]
    exact Prod.ext (by show _ = _; omega) rfl
  · rw [Lib.encodeRuneZ_four (by omega) (by omega)]
    simp only [List.map_cons, List.map_nil, List.cons_append, List.nil_append, List.getD_cons_zero, List.getD_cons_succ, List.length_cons, List.length_nil]
    have a := ofNat_toNat (240 + x / 262144) (by omega) (by omega)
    have b := ofNat_toNat (128 + x / 4096 % 64) (by omega) (by omega)
    have c := ofNat_toNat (128 + x / 64 % 64) (by omega) (by omega)
    have d := ofNat_toNat (128 + x % 64) (by omega) (by omega)
    generalize (UInt8.ofNat (240 + x / 262144).toNat).toNat = b0 at *
    generalize (UInt8.ofNat (128 + x / 4096 % 64).toNat).toNat = b1 at *
    generalize (UInt8.ofNat (128 + x / 64 % 64).toNat).toNat = b2 at *
    generalize (UInt8.ofNat (128 + x % 64).toNat).toNat = b3 at *
    unfold Lib.decodeN
    rw [if_neg (by omega), if_neg (by omega), if_neg (by omega), if_pos (by omega), if_pos (by omega)]
    exact Prod.ext (by show _ = _; omega) rfl
/-- What is decoded is a scalar. -/
theorem dec_scalar (l : List UInt8) : inS 2 ((Lib.decodeL l).1 : Int) = true := by
  rw [inS2, Lib.decodeL_N]
  have k0 := (l.getD 0 0).toNat_lt
  have k1 := (l.getD 1 0).toNat_lt
  have k2 := (l.getD 2 0).toNat_lt
  have k3 := (l.getD 3 0).toNat_lt
  rcases Lib.decodeN_shape l.length (l.getD 0 0).toNat (l.getD 1 0).toNat (l.getD 2 0).toNat (l.getD 3 0).toNat with ⟨c, e⟩ | ⟨c1, c2, c3, cv, e⟩ | ⟨c1, c2, c3, c4, cv, cs, e⟩ | ⟨c1, c2, c3, c4, c5, cv, cw, e⟩ | e
  all_goals
    rw [e]
    dsimp only
    omega
theorem enc_rune {x : Int} (h : inS 2 x = true) : encU x = Lib.encodeRune x := by
  unfold encU Lib.encodeRune
  rw [encB_of h]
/-- What was decoded stands there, but for a byte alone. -/
theorem enc_dec (l : List UInt8) (hne : l ≠ []) (hv : ¬ ((Lib.decodeL l).1 = 65533 ∧ (Lib.decodeL l).2 = 1)) : encU ((Lib.decodeL l).1 : Int) = l.take (Lib.decodeL l).2 := by
  rw [enc_rune (dec_scalar l)]
  exact Lib.encode_decode l hne hv
theorem encode_of {x : Int} (h : inS 2 x = true) : Utf8.encode x = encS x := by
  have hx := (inS2 x).1 h
  rw [encS_eq]
  unfold encU
  rw [encB_of h]
  have hv : Utf8.valid x = true := by simp [Utf8.valid]; omega
  unfold Utf8.encode
  simp only [hv, if_true]
  by_cases h1 : x ≤ 127
  · rw [Lib.encodeRuneZ_one (by omega) h1, if_pos (by omega)]
    rfl
  by_cases h2 : x ≤ 2047
  · rw [Lib.encodeRuneZ_two (by omega) h2, if_neg (by omega), if_pos (by omega)]
    simp only [List.map_cons, List.map_nil]
    rw [show (192 + x / 64).toNat = 192 + x.toNat / 64 from by omega, show (128 + x % 64).toNat = 128 + x.toNat % 64 from by omega]
  by_cases h3 : x ≤ 65535
  · rw [Lib.encodeRuneZ_three (by omega), if_neg (by omega), if_neg (by omega), if_pos (by omega)]
    simp only [List.map_cons, List.map_nil]
    rw [show (224 + x / 4096).toNat = 224 + x.toNat / 4096 from by omega, show (128 + x / 64 % 64).toNat = 128 + x.toNat / 64 % 64 from by omega, show (128 + x % 64).toNat = 128 + x.toNat % 64 from by omega]
  · rw [Lib.encodeRuneZ_four (by omega) (by omega), if_neg (by omega), if_neg (by omega), if_neg (by omega)]
    simp only [List.map_cons, List.map_nil]
    rw [show (240 + x / 262144).toNat = 240 + x.toNat / 262144 from by omega, show (128 + x / 4096 % 64).toNat = 128 + x.toNat / 4096 % 64 from by omega, show (128 + x / 64 % 64).toNat = 128 + x.toNat / 64 % 64 from by omega, show (128 + x % 64).toNat = 128 + x.toNat % 64 from by omega]

/-- The text of symbols, one behind the other. -/
def textS (l : List Int) : ByteArray := l.foldl (fun r n => r ++ encS n) ByteArray.empty
theorem text_runes {l : List Int} (h : fitsS 2 l = true) : runesBytes l = textS l := by
  unfold runesBytes textS
  generalize ByteArray.empty = s
  induction l generalizing s with
  | nil => rfl
  | cons x l ih =>
    simp only [fitsS, List.all_cons, Bool.and_eq_true] at h
    rw [List.foldl_cons, List.foldl_cons, encode_of h.1]
    exact ih (by simpa [fitsS] using h.2) _
theorem text_next {l : List Int} {k : Nat} {x : Int} (h : ∃ hl : k < l.length, l[k] = x) : textS (l.take k) ++ encS x = textS (l.take (k + 1)) := by
  obtain ⟨hl, rfl⟩ := h
  unfold textS
  rw [List.take_succ_eq_append_getElem hl, List.foldl_append]
  rfl
theorem foldl_text (l : List Int) : ∀ s : ByteArray, (l.foldl (fun r n => r ++ encS n) s).data.toList = s.data.toList ++ l.flatMap encU := by
  induction l with
  | nil => intro s; simp
  | cons x l ih =>
    intro s
    rw [List.foldl_cons, ih, List.flatMap_cons, ← List.append_assoc]
    congr 1
theorem text_data (l : List Int) : (textS l).data.toList = l.flatMap encU := by
  unfold textS
  rw [foldl_text]
  rfl
theorem text_size (l : List Int) : (textS l).size ≤ 4 * l.length := by
  rw [Lib.size_eq, text_data]
  induction l with
  | nil => simp
  | cons x l ih =>
    rw [List.flatMap_cons, List.length_append, List.length_cons]
    have h1 := encB_len_le x
    rw [← encU_len] at h1
    omega

/-- What a range over a text tells, by the list of its bytes. -/
def runesL : Nat → List UInt8 → List Int
  | 0, _ => []
  | b + 1, l => if l = [] then [] else ((Lib.decodeL l).1 : Int) :: runesL b (l.drop (Lib.decodeL l).2)
theorem runesF_L (s : ByteArray) : ∀ b pos, runesF s b pos = runesL b (s.data.toList.drop pos) := by
  intro b
  induction b with
  | zero => intro pos; rfl
  | succ b ih =>
    intro pos
    rw [runesF, runesL]
    by_cases h : pos < s.size
    · have : s.data.toList.drop pos ≠ [] := by rw [Lib.size_eq] at h; intro e; have := List.drop_eq_nil_iff.1 e; omega
      rw [if_pos h, if_neg this, Lib.decodeL_drop, ih, List.drop_drop]
    · have : s.data.toList.drop pos = [] := by rw [Lib.size_eq] at h; exact List.drop_eq_nil_of_le (by omega)
      rw [if_neg h, if_pos this]
theorem runesL_text : ∀ (l : List Int) (b : Nat), fitsS 2 l = true → l.length ≤ b → runesL b (l.flatMap encU) = l := by
  intro l
  induction l with
  | nil => intro b _ _; cases b <;> rfl
  | cons x l ih =>
    intro b h hb
    obtain ⟨b', rfl⟩ : ∃ b', b = b' + 1 := ⟨b - 1, by rw [List.length_cons] at hb; omega⟩
    simp only [fitsS, List.all_cons, Bool.and_eq_true] at h
    have hb2 : l.length ≤ b' := by simpa using hb
    have hlen := encB_len h.1
    rw [← encU_len] at hlen
    rw [runesL, List.flatMap_cons, if_neg (by intro e; have := congrArg List.length e; rw [List.length_append, List.length_nil] at this; omega), dec_enc h.1, List.drop_left, ih b' (by simpa [fitsS] using h.2) hb2]
    have hx := (inS2 x).1 h.1
    dsimp only
    rw [show ((x.toNat : Nat) : Int) = x from by omega]
theorem flat_len : ∀ m : List Int, fitsS 2 m = true → m.length ≤ (m.flatMap encU).length := by
  intro m
  induction m with
  | nil => intro _; simp
  | cons x m ih =>
    intro h
    simp only [fitsS, List.all_cons, Bool.and_eq_true] at h
    have h1 := (encB_len h.1).1
    rw [← encU_len] at h1
    have h2 := ih (by simpa [fitsS] using h.2)
    rw [List.flatMap_cons, List.length_append, List.length_cons]
    omega
/-- Scalars that became a text are read as they were. -/
theorem runes_text {l : List Int} (h : fitsS 2 l = true) : runes (textS l) = l := by
  unfold runes
  rw [runesF_L, List.drop_zero, text_data]
  refine runesL_text l _ h ?_
  rw [Lib.size_eq, text_data]
  exact flat_len l h
end Go.Proofs.Ytighbbaggpnfoaa.Wo
