/- Plain mathematics of UTF-8's table: what stands at a place, by the program's rows and by the scalars' bytes. No function of the program is walked here. -/
import Derived.Test.YtjhgboncipnkeaaDoorWoUtf
namespace Go.Proofs.YtjhgboncipnkeaaDoor.Ut
open Go Go.RowKit Go.Proofs.YtjhgboncipnkeaaDoor.Wo

/-- What stands where the four bytes a, b, c, d stand (256: there is none). -/
def scan4 (a b c d : Int) : Int × Int × Bool :=
  if a ≤ 127 then (a, 1, true)
  else if a ≤ 193 then (65533, 1, false)
  else if a ≤ 223 then (if 128 ≤ b ∧ b ≤ 191 then (a % 32 * 64 + b % 64, 2, true) else (65533, 1, false))
  else if a ≤ 239 then
    (if (if a = 224 then 160 else 128) ≤ b ∧ b ≤ (if a = 237 then 159 else 191) then
      (if 128 ≤ c ∧ c ≤ 191 then ((a % 16 * 64 + b % 64) * 64 + c % 64, 3, true) else (65533, 2, false))
    else (65533, 1, false))
  else if a ≤ 244 then
    (if (if a = 240 then 144 else 128) ≤ b ∧ b ≤ (if a = 244 then 143 else 191) then
      (if 128 ≤ c ∧ c ≤ 191 then
        (if 128 ≤ d ∧ d ≤ 191 then (((a % 8 * 64 + b % 64) * 64 + c % 64) * 64 + d % 64, 4, true) else (65533, 3, false))
      else (65533, 2, false))
    else (65533, 1, false))
  else (65533, 1, false)
/-- What stands at the beginning of a list of bytes. -/
def scanL (l : List Int) : Int × Int × Bool := scan4 (l.getD 0 256) (l.getD 1 256) (l.getD 2 256) (l.getD 3 256)
def ByteL (l : List Int) : Prop := ∀ x ∈ l, 0 ≤ x ∧ x ≤ 255
theorem ByteL.drop {l : List Int} (h : ByteL l) (k : Nat) : ByteL (l.drop k) := fun x hx => h x (List.mem_of_mem_drop hx)
theorem ByteL.getD {l : List Int} (h : ByteL l) (k : Nat) : 0 ≤ l.getD k 256 ∧ (l.getD k 256 ≤ 255 ∨ l.getD k 256 = 256) ∧ (l.getD k 256 ≤ 255 ↔ k < l.length) := by
  rw [List.getD_eq_getElem?_getD]
  by_cases hk : k < l.length
  · rw [List.getElem?_eq_getElem hk]
    have := h _ (List.getElem_mem hk)
    simp only [Option.getD_some]
    omega
  · rw [List.getElem?_eq_none (by omega)]
    simp only [Option.getD_none]
    exact ⟨by omega, .inr trivial, ⟨fun h => by omega, fun h => absurd h hk⟩⟩
/-- A well formed sequence is found: its scalar, its length. -/
theorem scan_enc {x : Int} (h : inS 2 x = true) (t : List Int) : scanL (encB x ++ t) = (x, ((encB x).length : Int), true) := by
  have hx := (inS2 x).1 h
  unfold scanL
  rw [encB_of h]
  by_cases h1 : x ≤ 127
  · rw [Lib.encodeRuneZ_one (by omega) h1]
    simp only [List.cons_append, List.nil_append, List.getD_cons_zero, List.getD_cons_succ, List.length_cons, List.length_nil]
    unfold scan4
    rw [if_pos (by omega)]
    rfl
  by_cases h2 : x ≤ 2047
  · rw [Lib.encodeRuneZ_two (by omega) h2]
    simp only [List.cons_append, List.nil_append, List.getD_cons_zero, List.getD_cons_succ, List.length_cons, List.length_nil]
    unfold scan4
    rw [if_neg (by omega), if_neg (by omega), if_pos (by omega), if_pos (by omega)]
    exact Prod.ext (by show _ = _; omega) rfl
  by_cases h3 : x ≤ 65535
  · rw [Lib.encodeRuneZ_three (by omega)]
    simp only [List.cons_append, List.nil_append, List.getD_cons_zero, List.getD_cons_succ, List.length_cons, List.length_nil]
    unfold scan4
    rw [if_neg (by omega), if_neg (by omega), if_neg (by omega), if_pos (by omega), if_pos (by split <;> split <;> omega), if_pos (by omega)]
    exact Prod.ext (by show _ = _; omega) rfl
  · rw [Lib.encodeRuneZ_four (by omega) (by omega)]
    simp only [List.cons_append, List.nil_append, List.getD_cons_zero, List.getD_cons_succ, List.length_cons, List.length_nil]
    unfold scan4
    rw [if_neg (by omega), if_neg (by omega), if_neg (by omega), if_neg (by omega), if_pos (by omega), if_pos (by split <;> split <;> omega), if_pos (by omega), if_pos (by omega)]
    exact Prod.ext (by show _ = _; omega) rfl

/-- The four bytes' cases, laid open. -/
theorem scan4_cases (a b c d : Int) :
    (a ≤ 127 ∧ scan4 a b c d = (a, 1, true)) ∨
    (194 ≤ a ∧ a ≤ 223 ∧ 128 ≤ b ∧ b ≤ 191 ∧ scan4 a b c d = ((a - 192) * 64 + (b - 128), 2, true)) ∨
    (224 ≤ a ∧ a ≤ 239 ∧ 128 ≤ b ∧ b ≤ 191 ∧ (a = 224 → 160 ≤ b) ∧ (a = 237 → b ≤ 159) ∧ 128 ≤ c ∧ c ≤ 191 ∧ scan4 a b c d = (((a - 224) * 64 + (b - 128)) * 64 + (c - 128), 3, true)) ∨
    (240 ≤ a ∧ a ≤ 244 ∧ 128 ≤ b ∧ b ≤ 191 ∧ (a = 240 → 144 ≤ b) ∧ (a = 244 → b ≤ 143) ∧ 128 ≤ c ∧ c ≤ 191 ∧ 128 ≤ d ∧ d ≤ 191 ∧ scan4 a b c d = ((((a - 240) * 64 + (b - 128)) * 64 + (c - 128)) * 64 + (d - 128), 4, true)) ∨
    (scan4 a b c d = (65533, 1, false) ∧ (128 ≤ a ∧ (a ≤ 193 ∨ 245 ≤ a ∨ (a ≤ 223 ∧ ¬ (128 ≤ b ∧ b ≤ 191)) ∨ (224 ≤ a ∧ a ≤ 239 ∧ ¬ (128 ≤ b ∧ b ≤ 191 ∧ (a = 224 → 160 ≤ b) ∧ (a = 237 → b ≤ 159))) ∨ (240 ≤ a ∧ a ≤ 244 ∧ ¬ (128 ≤ b ∧ b ≤ 191 ∧ (a = 240 → 144 ≤ b) ∧ (a = 244 → b ≤ 143)))))) ∨
    (scan4 a b c d = (65533, 2, false) ∧ ((224 ≤ a ∧ a ≤ 239 ∧ 128 ≤ b ∧ b ≤ 191 ∧ (a = 224 → 160 ≤ b) ∧ (a = 237 → b ≤ 159)) ∨ (240 ≤ a ∧ a ≤ 244 ∧ 128 ≤ b ∧ b ≤ 191 ∧ (a = 240 → 144 ≤ b) ∧ (a = 244 → b ≤ 143))) ∧ ¬ (128 ≤ c ∧ c ≤ 191)) ∨
    (scan4 a b c d = (65533, 3, false) ∧ 240 ≤ a ∧ a ≤ 244 ∧ 128 ≤ b ∧ b ≤ 191 ∧ (a = 240 → 144 ≤ b) ∧ (a = 244 → b ≤ 143) ∧ 128 ≤ c ∧ c ≤ 191 ∧ ¬ (128 ≤ d ∧ d ≤ 191)) := by
  unfold scan4
  by_cases q1 : a ≤ 127
  · exact .inl ⟨q1, if_pos q1⟩
  rw [if_neg q1]
  by_cases q2 : a ≤ 193
  · exact .inr (.inr (.inr (.inr (.inl ⟨if_pos q2, by omega⟩))))
  rw [if_neg q2]
  by_cases q3 : a ≤ 223
  · rw [if_pos q3]
    by_cases r : 128 ≤ b ∧ b ≤ 191
    · exact .inr (.inl ⟨by omega, q3, r.1, r.2, by rw [if_pos r]; exact Prod.ext (by show _ = _; omega) rfl⟩)
    · exact .inr (.inr (.inr (.inr (.inl ⟨if_neg r, by omega⟩))))
  rw [if_neg q3]
  by_cases q4 : a ≤ 239
  · rw [if_pos q4]
    by_cases r : (if a = 224 then (160 : Int) else 128) ≤ b ∧ b ≤ (if a = 237 then (159 : Int) else 191)
    · have r' : 128 ≤ b ∧ b ≤ 191 ∧ (a = 224 → 160 ≤ b) ∧ (a = 237 → b ≤ 159) := by
        obtain ⟨r1, r2⟩ := r
        split at r1 <;> split at r2 <;> omega
      rw [if_pos r]
      by_cases s : 128 ≤ c ∧ c ≤ 191
      · exact .inr (.inr (.inl ⟨by omega, q4, r'.1, r'.2.1, r'.2.2.1, r'.2.2.2, s.1, s.2, by rw [if_pos s]; exact Prod.ext (by show _ = _; omega) rfl⟩))
      · exact .inr (.inr (.inr (.inr (.inr (.inl ⟨if_neg s, .inl ⟨by omega, q4, r'⟩, s⟩)))))
    · refine .inr (.inr (.inr (.inr (.inl ⟨if_neg r, by omega, .inr (.inr (.inr (.inl ⟨by omega, q4, fun r' => r ⟨?_, ?_⟩⟩)))⟩))))
      · split <;> omega
      · split <;> omega
  rw [if_neg q4]
  by_cases q5 : a ≤ 244
  · rw [if_pos q5]
    by_cases r : (if a = 240 then (144 : Int) else 128) ≤ b ∧ b ≤ (if a = 244 then (143 : Int) else 191)
    · have r' : 128 ≤ b ∧ b ≤ 191 ∧ (a = 240 → 144 ≤ b) ∧ (a = 244 → b ≤ 143) := by
        obtain ⟨r1, r2⟩ := r
        split at r1 <;> split at r2 <;> omega
      rw [if_pos r]
      by_cases s : 128 ≤ c ∧ c ≤ 191
      · rw [if_pos s]
        by_cases u : 128 ≤ d ∧ d ≤ 191
        · exact .inr (.inr (.inr (.inl ⟨by omega, q5, r'.1, r'.2.1, r'.2.2.1, r'.2.2.2, s.1, s.2, u.1, u.2, by rw [if_pos u]; exact Prod.ext (by show _ = _; omega) rfl⟩)))
        · exact .inr (.inr (.inr (.inr (.inr (.inr ⟨if_neg u, by omega, q5, r'.1, r'.2.1, r'.2.2.1, r'.2.2.2, s.1, s.2, u⟩)))))
      · exact .inr (.inr (.inr (.inr (.inr (.inl ⟨if_neg s, .inr ⟨by omega, q5, r'⟩, s⟩)))))
    · refine .inr (.inr (.inr (.inr (.inl ⟨if_neg r, by omega, .inr (.inr (.inr (.inr ⟨by omega, q5, fun r' => r ⟨?_, ?_⟩⟩)))⟩))))
      · split <;> omega
      · split <;> omega
  · exact .inr (.inr (.inr (.inr (.inl ⟨if_neg q5, by omega⟩))))
theorem getD_take {l : List Int} {n k : Nat} (h : k < l.length) (hn : k < n) : ∃ hk : k < (l.take n).length, (l.take n)[k] = l.getD k 256 :=
  ⟨by simp; omega, by simp [List.getElem?_eq_getElem h]⟩
theorem take1 {l : List Int} (h : 0 < l.length) : l.take 1 = [l.getD 0 256] := by
  match l, h with
  | a :: t, _ => simp
theorem take2 {l : List Int} (h : 1 < l.length) : l.take 2 = [l.getD 0 256, l.getD 1 256] := by
  match l, h with
  | a :: b :: t, _ => simp
theorem take3 {l : List Int} (h : 2 < l.length) : l.take 3 = [l.getD 0 256, l.getD 1 256, l.getD 2 256] := by
  match l, h with
  | a :: b :: c :: t, _ => simp
theorem take4 {l : List Int} (h : 3 < l.length) : l.take 4 = [l.getD 0 256, l.getD 1 256, l.getD 2 256, l.getD 3 256] := by
  match l, h with
  | a :: b :: c :: d :: t, _ => simp
/-- What is found is a scalar, and its bytes stand there; or it is a part. -/
theorem scan_true {l : List Int} (hl : ByteL l) (hne : l ≠ []) {x n : Int} (h : scanL l = (x, n, true)) : inS 2 x = true ∧ l.take n.toNat = encB x ∧ n.toNat ≤ l.length ∧ 1 ≤ n := by
  have h0 := hl.getD 0
  have h1 := hl.getD 1
  have h2 := hl.getD 2
  have h3 := hl.getD 3
  have hp : 0 < l.length := List.length_pos_iff.2 hne
  unfold scanL at h
  have t1 := take1 (l := l)
  have t2 := take2 (l := l)
  have t3 := take3 (l := l)
  have t4 := take4 (l := l)
  generalize l.getD 0 256 = a at *
  generalize l.getD 1 256 = b at *
  generalize l.getD 2 256 = c at *
  generalize l.getD 3 256 = d at *
  rcases scan4_cases a b c d with ⟨q, e⟩ | ⟨q1, q2, q3, q4, e⟩ | ⟨q1, q2, q3, q4, q5, q6, q7, q8, e⟩ | ⟨q1, q2, q3, q4, q5, q6, q7, q8, q9, q10, e⟩ | ⟨e, _⟩ | ⟨e, _⟩ | ⟨e, _⟩
  · rw [e] at h
    simp only [Prod.mk.injEq, and_true] at h
    obtain ⟨rfl, rfl⟩ := h
    have hi : inS 2 a = true := (inS2 a).2 (by omega)
    exact ⟨hi, by rw [encB_of hi, Lib.encodeRuneZ_one (by omega) q]; exact t1 hp, by show (1 : Int).toNat ≤ _; omega, by omega⟩
  · rw [e] at h
    simp only [Prod.mk.injEq, and_true] at h
    obtain ⟨rfl, rfl⟩ := h
    have hi : inS 2 ((a - 192) * 64 + (b - 128)) = true := (inS2 _).2 (by omega)
    refine ⟨hi, ?_, by show (2 : Int).toNat ≤ _; omega, by omega⟩
    rw [encB_of hi, Lib.encodeRuneZ_two (by omega) (by omega)]
    refine (t2 (by omega)).trans ?_
    rw [show 192 + ((a - 192) * 64 + (b - 128)) / 64 = a from by omega, show 128 + ((a - 192) * 64 + (b - 128)) % 64 = b from by omega]
  · rw [e] at h
    simp only [Prod.mk.injEq, and_true] at h
    obtain ⟨rfl, rfl⟩ := h
    have hi : inS 2 (((a - 224) * 64 + (b - 128)) * 64 + (c - 128)) = true := (inS2 _).2 (by omega)
    refine ⟨hi, ?_, by show (3 : Int).toNat ≤ _; omega, by omega⟩
    rw [encB_of hi, Lib.encodeRuneZ_three (by omega)]
    refine (t3 (by omega)).trans ?_
    rw [show 224 + (((a - 224) * 64 + (b - 128)) * 64 + (c - 128)) / 4096 = a from by omega, show 128 + (((a - 224) * 64 + (b - 128)) * 64 + (c - 128)) / 64 % 64 = b from by omega, show 128 + (((a - 224) * 64 + (b - 128)) * 64 + (c - 128)) % 64 = c from by omega]
  · rw [e] at h
    simp only [Prod.mk.injEq, and_true] at h
    obtain ⟨rfl, rfl⟩ := h
    have hi : inS 2 ((((a - 240) * 64 + (b - 128)) * 64 + (c - 128)) * 64 + (d - 128)) = true := (inS2 _).2 (by omega)
    refine ⟨hi, ?_, by show (4 : Int).toNat ≤ _; omega, by omega⟩
    rw [encB_of hi, Lib.encodeRuneZ_four (by omega) (by omega)]
    refine (t4 (by omega)).trans ?_
    rw [show 240 + ((((a - 240) * 64 + (b - 128)) * 64 + (c - 128)) * 64 + (d - 128)) / 262144 = a from by omega, show 128 + ((((a - 240) * 64 + (b - 128)) * 64 + (c - 128)) * 64 + (d - 128)) / 4096 % 64 = b from by omega, show 128 + ((((a - 240) * 64 + (b - 128)) * 64 + (c - 128)) * 64 + (d - 128)) / 64 % 64 = c from by omega, show 128 + ((((a - 240) * 64 + (b - 128)) * 64 + (c - 128)) * 64 + (d - 128)) % 64 = d from by omega]
  all_goals
    rw [e] at h
    cases h
theorem scan_false {l : List Int} (hl : ByteL l) (hne : l ≠ []) {x n : Int} (h : scanL l = (x, n, false)) : x = 65533 ∧ 1 ≤ n ∧ n ≤ 3 ∧ n.toNat ≤ l.length := by
  have h0 := hl.getD 0
  have h1 := hl.getD 1
  have h2 := hl.getD 2
  have hp : 0 < l.length := List.length_pos_iff.2 hne
  unfold scanL at h
  generalize l.getD 0 256 = a at *
  generalize l.getD 1 256 = b at *
  generalize l.getD 2 256 = c at *
  generalize l.getD 3 256 = d at *
  rcases scan4_cases a b c d with ⟨q, e⟩ | ⟨q1, q2, q3, q4, e⟩ | ⟨q1, q2, q3, q4, q5, q6, q7, q8, e⟩ | ⟨q1, q2, q3, q4, q5, q6, q7, q8, q9, q10, e⟩ | ⟨e, _⟩ | ⟨e, _⟩ | ⟨e, _⟩
  all_goals
    rw [e] at h
    first
    | cases h; done
    | (simp only [Prod.mk.injEq, and_true] at h
       obtain ⟨rfl, rfl⟩ := h
       omega)
theorem scan_pos {l : List Int} (hl : ByteL l) (hne : l ≠ []) : 1 ≤ (scanL l).2.1 ∧ (scanL l).2.1.toNat ≤ l.length ∧ (scanL l).2.1 ≤ 4 := by
  obtain ⟨x, n, ok, e⟩ : ∃ x n ok, scanL l = (x, n, ok) := ⟨_, _, _, rfl⟩
  rw [e]
  cases ok
  · have := scan_false hl hne e
    exact ⟨this.2.1, this.2.2.2, by show n ≤ 4; omega⟩
  · obtain ⟨hi, ht, hn, h1⟩ := scan_true hl hne e
    refine ⟨h1, hn, ?_⟩
    have := congrArg List.length ht
    rw [List.length_take] at this
    have h4 := (encB_len hi).2
    show n ≤ 4
    omega
/-- Repaired: all scalars, FFFD for each part; b: no more rounds than this. -/
def repB : Nat → List Int → List Int
  | 0, _ => []
  | b + 1, l => if l = [] then [] else (scanL l).1 :: repB b (l.drop (scanL l).2.1.toNat)
def okB : Nat → List Int → Bool
  | 0, _ => true
  | b + 1, l => if l = [] then true else (scanL l).2.2 && okB b (l.drop (scanL l).2.1.toNat)
def repL (l : List Int) : List Int := repB l.length l
def okL (l : List Int) : Bool := okB l.length l
theorem repB_more : ∀ (b b' : Nat) (l : List Int), ByteL l → l.length ≤ b → l.length ≤ b' → repB b l = repB b' l ∧ okB b l = okB b' l := by
  intro b
  induction b with
  | zero =>
    intro b' l _ h _
    obtain rfl := List.eq_nil_of_length_eq_zero (by omega : l.length = 0)
    cases b' <;> simp [repB, okB]
  | succ b ih =>
    intro b' l hl h h'
    by_cases hne : l = []
    · subst hne
      cases b' <;> simp [repB, okB]
    · have hp : 0 < l.length := List.length_pos_iff.2 hne
      obtain ⟨c, rfl⟩ : ∃ c, b' = c + 1 := ⟨b' - 1, by omega⟩
      have hs := scan_pos hl hne
      have := ih c (l.drop (scanL l).2.1.toNat) (hl.drop _) (by rw [List.length_drop]; omega) (by rw [List.length_drop]; omega)
      simp only [repB, okB, if_neg hne]
      rw [this.1, this.2]
      exact ⟨rfl, rfl⟩
theorem repL_nil : repL [] = [] := rfl
theorem okL_nil : okL [] = true := rfl
theorem repL_cons {l : List Int} (hl : ByteL l) (hne : l ≠ []) : repL l = (scanL l).1 :: repL (l.drop (scanL l).2.1.toNat) ∧ okL l = ((scanL l).2.2 && okL (l.drop (scanL l).2.1.toNat)) := by
  have hp : 0 < l.length := List.length_pos_iff.2 hne
  have hs := scan_pos hl hne
  obtain ⟨c, hc⟩ : ∃ c, l.length = c + 1 := ⟨l.length - 1, by omega⟩
  have := repB_more c (l.drop (scanL l).2.1.toNat).length (l.drop (scanL l).2.1.toNat) (hl.drop _) (by rw [List.length_drop]; omega) (Nat.le_refl _)
  unfold repL okL
  rw [hc]
  simp only [repB, okB, if_neg hne]
  rw [this.1, this.2]
  exact ⟨rfl, rfl⟩
theorem repL_len : ∀ (n : Nat) (l : List Int), ByteL l → l.length ≤ n → (repL l).length ≤ l.length := by
  intro n
  induction n with
  | zero => intro l _ h; obtain rfl := List.eq_nil_of_length_eq_zero (by omega : l.length = 0); simp [repL_nil]
  | succ n ih =>
    intro l hl h
    by_cases hne : l = []
    · subst hne; simp [repL_nil]
    · have hp : 0 < l.length := List.length_pos_iff.2 hne
      have hs := scan_pos hl hne
      have := ih _ (hl.drop (scanL l).2.1.toNat) (by rw [List.length_drop]; omega)
      rw [(repL_cons hl hne).1, List.length_cons]
      rw [List.length_drop] at this
      omega
/-- The bytes of symbols, one behind the other. -/
def encL (w : List Int) : List Int := w.flatMap encB
theorem byteB (x : Int) : ByteL (encB x) := fun y hy => by have := encB_byte x y hy; omega
theorem byteL_enc (w : List Int) : ByteL (encL w) := fun y hy => by
  obtain ⟨x, _, hx⟩ := List.mem_flatMap.1 hy
  exact byteB x y hx
theorem byteL_append {a b : List Int} (ha : ByteL a) (hb : ByteL b) : ByteL (a ++ b) := fun x hx => (List.mem_append.1 hx).elim (ha x) (hb x)
/-- What stands behind a scalar's bytes is repaired as if it stood alone. -/
theorem rep_enc {x : Int} (h : inS 2 x = true) {t : List Int} (ht : ByteL t) : repL (encB x ++ t) = x :: repL t ∧ okL (encB x ++ t) = okL t := by
  have hne : encB x ++ t ≠ [] := fun e => by have := (encB_len h).1; have := congrArg List.length e; rw [List.length_append, List.length_nil] at this; omega
  have hs := scan_enc h t
  have := repL_cons (byteL_append (byteB x) ht) hne
  rw [hs] at this
  simp only [Int.toNat_natCast, List.drop_left, Bool.true_and] at this
  exact this
theorem rep_encL : ∀ (w t : List Int), fitsS 2 w = true → ByteL t → repL (encL w ++ t) = w ++ repL t ∧ okL (encL w ++ t) = okL t := by
  intro w
  induction w with
  | nil => intro t _ _; exact ⟨rfl, rfl⟩
  | cons x w ih =>
    intro t h ht
    simp only [fitsS, List.all_cons, Bool.and_eq_true] at h
    have hw : fitsS 2 w = true := h.2
    have h1 := rep_enc h.1 (byteL_append (byteL_enc w) ht)
    have h2 := ih t hw ht
    unfold encL at *
    rw [List.flatMap_cons, List.append_assoc, h1.1, h1.2, h2.1, h2.2]
    exact ⟨rfl, rfl⟩
/-- Bytes without parts are the bytes of what they are repaired to. -/
theorem ok_enc : ∀ (n : Nat) (l : List Int), ByteL l → l.length ≤ n → okL l = true → fitsS 2 (repL l) = true ∧ encL (repL l) = l := by
  intro n
  induction n with
  | zero => intro l _ h _; obtain rfl := List.eq_nil_of_length_eq_zero (by omega : l.length = 0); exact ⟨rfl, rfl⟩
  | succ n ih =>
    intro l hl h hok
    by_cases hne : l = []
    · subst hne; exact ⟨rfl, rfl⟩
    · have hp : 0 < l.length := List.length_pos_iff.2 hne
      have hs := scan_pos hl hne
      obtain ⟨e1, e2⟩ := repL_cons hl hne
      rw [e2, Bool.and_eq_true] at hok
      obtain ⟨x, m, ok, e⟩ : ∃ x m ok, scanL l = (x, m, ok) := ⟨_, _, _, rfl⟩
      rw [e] at hok e1 hs
      obtain rfl : ok = true := hok.1
      obtain ⟨hi, ht, hn, hm⟩ := scan_true hl hne e
      obtain ⟨k1, k2⟩ := ih _ (hl.drop m.toNat) (by rw [List.length_drop]; simp only at hs; omega) hok.2
      simp only at e1
      rw [e1]
      refine ⟨by simp only [fitsS, List.all_cons, Bool.and_eq_true]; exact ⟨hi, k1⟩, ?_⟩
      unfold encL at *
      rw [List.flatMap_cons, k2, ← ht, List.take_append_drop]
theorem inS_fffd : inS 2 65533 = true := by decide
theorem rep_fits : ∀ (n : Nat) (l : List Int), ByteL l → l.length ≤ n → fitsS 2 (repL l) = true := by
  intro n
  induction n with
  | zero => intro l _ h; obtain rfl := List.eq_nil_of_length_eq_zero (by omega : l.length = 0); rfl
  | succ n ih =>
    intro l hl h
    by_cases hne : l = []
    · subst hne; rfl
    · have hp : 0 < l.length := List.length_pos_iff.2 hne
      have hs := scan_pos hl hne
      rw [(repL_cons hl hne).1]
      obtain ⟨x, m, ok, e⟩ : ∃ x m ok, scanL l = (x, m, ok) := ⟨_, _, _, rfl⟩
      rw [e] at hs ⊢
      have k1 := ih _ (hl.drop m.toNat) (by rw [List.length_drop]; simp only at hs; omega)
      simp only [fitsS, List.all_cons, Bool.and_eq_true]
      refine ⟨?_, k1⟩
      cases ok
      · rw [(scan_false hl hne e).1]; exact inS_fffd
      · exact (scan_true hl hne e).1
theorem okL_encL (w : List Int) (h : fitsS 2 w = true) : okL (encL w) = true ∧ repL (encL w) = w := by
  have := rep_encL w [] h (fun x hx => by cases hx)
  rw [List.append_nil, repL_nil, List.append_nil, okL_nil] at this
  exact ⟨this.2, this.1⟩
/-- Bytes are valid just if what they are repaired to has these bytes. -/
theorem ok_iff {l : List Int} (hl : ByteL l) : okL l = true ↔ encL (repL l) = l := by
  constructor
  · intro h; exact (ok_enc _ l hl (Nat.le_refl _) h).2
  · intro h
    have := okL_encL _ (rep_fits _ l hl (Nat.le_refl _))
    rw [h] at this
    exact this.1
end Go.Proofs.YtjhgboncipnkeaaDoor.Ut
