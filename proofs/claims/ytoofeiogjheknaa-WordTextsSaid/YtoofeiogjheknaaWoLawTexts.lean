/-
  WordTexts holds for every word: the law answers true and the word reads afterwards as it read before. No condition.
-/
import Derived.Test.YtoofeiogjheknaaWoFrame
import Derived.Test.YtoofeiogjheknaaWoText
import Derived.Laws.Concat
namespace Go.Proofs.Ytoofeiogjheknaa.Wo
open Go Go.RowKit Go.ChangeShapes Go.WideShapes Go.ChangeAt

def WantRel (l : List Int) (w : World) (s i : Value) (wr : World) : Prop := ∃ k : Nat, k ≤ l.length ∧ i = .int .i64 k ∧ s = .string (textS (l.take k)) ∧ Below w.heap.size w wr
set_option maxHeartbeats 4000000 in
theorem walk_WordTexts (A : Option Addr) (c : Nat) (l : List Int) (w : World) (h : RR w w.heap.size A l.length l) (hm : l.length ≤ maxLen) :
    Calls Try.prog 3 #[.slice A l.length c] w (RetB true w) := by
  unfold maxLen at hm
  by_cases g1 : 2000 < l.length
  · clear h
    go_enter Try.func3, Try.ntmps3
    go_wp2_with (fail)
    refine (awake_any _).mono ?_
    rintro e w9 ⟨rfl, hb9⟩
    go_wp2_with (fail)
    go_ret
    exact ⟨rfl, hb9⟩
  have H1 := Lib.hid (text_any A c l w h (by omega))
  obtain ⟨f, hf⟩ : ∃ f, fitsS 2 l = f := ⟨_, rfl⟩
  have H2 := Lib.hid (fun W (a : RR W W.heap.size A l.length l) => rfits_any 2 A l.length c l W a (by omega))
  have HT := Lib.hid (show textB l = if f = true then textS l else ByteArray.empty by unfold textB; rw [hf])
  unfold TextOut at H1
  rw [hf] at H1 H2
  clear hf
  generalize textB l = s at H1 HT
  have X := Lib.hid h
  clear h
  go_enter Try.func3, Try.ntmps3
  go_wp2_with (fail)
  refine H1.out.mono ?_
  rintro e w1 ⟨rfl, rfl⟩
  go_wp2_with (fail)
  go_loopw [5, 6] (fun t i wr => WantRel l w t i wr) (fun _ i _ => l.length - (intOf i).toNat)
  case atStart => exact ⟨0, Nat.zero_le _, rfl, rfl, Below.refl _ _⟩
  case round =>
    obtain ⟨k, hk, rfl, rfl, hb⟩ := hrel
    by_cases hlt : k < l.length
    · obtain ⟨b, off, x, hA, hbB, hlk, hc1⟩ := (X.out.below hb).at_ hlt
      have HN := Lib.hid (text_next hlk)
      have HB := Lib.hid hb
      rw [hA]
      clear hA hb hlk
      go_wp2_with (fail)
      refine (rbytes_any x wr).mono ?_
      rintro e w2 ⟨A2, c2, rfl, hr2, hb2⟩
      have hcv : (convert 26 9 (.slice A2 (encB x).length c2)).run Try.prog w2 = .ok (.string (encS x)) w2 := conv_bytes hr2
      have HB2 := Lib.hid (HB.out.trans (hb2.mono HB.out.size))
      have hadd := run_string_add_sum (P := Try.prog) w2 (textS (l.take k)) (encS x) (by
        have q1 := text_size (l.take k)
        have q2 := encB_len_le x
        rw [← encS_size] at q2
        rw [List.length_take] at q1
        omega)
      clear hr2 hb2
      go_wp2_with (fail)
      go_roundw
      case rel => exact ⟨k + 1, by omega, by go_num, by rw [← HN.out], HB2.out⟩
      case measure => simp [intOf]; omega
    · have HB := Lib.hid hb
      have X2 := Lib.hid (X.out.belowM hb)
      clear hb
      cases f
      · go_wp2_with (fail)
        refine (H2.out _ X2.out).mono ?_
        rintro e w2 ⟨rfl, rfl⟩
        have hs : s = ByteArray.empty := HT.out
        subst hs
        go_wp2_with (fail)
        refine (awake_any _).mono ?_
        rintro e w9 ⟨rfl, hb9⟩
        go_wp2_with (fail)
        go_ret
        exact ⟨rfl, HB.out.trans (hb9.mono HB.out.size)⟩
      · have hs : s = textS (l.take k) := by rw [List.take_of_length_le (by omega)]; exact HT.out
        subst hs
        go_wp2_with (fail)
        refine (H2.out _ X2.out).mono ?_
        rintro e w2 ⟨rfl, rfl⟩
        go_wp2_with (fail)
        refine (awake_any _).mono ?_
        rintro e w9 ⟨rfl, hb9⟩
        go_wp2_with (fail)
        go_ret
        exact ⟨rfl, HB.out.trans (hb9.mono HB.out.size)⟩

set_option maxRecDepth 100000 in
theorem lifted_WordTexts (os : Os) (started : os.Started) (H : Type) (enc : TypeId × Value → H) :
    ReturnsInHanded {} Try.checked os 3 .any (Rows.wordTextsSpec.pre6 enc Try.prog Try.f3 Rows.wordTextsRow.domain false) (Rows.wordTextsSpec.post enc Try.prog Try.f3 false true false false) := by
  refine returnsInHanded_of_change (C := Try.checked) own started (by kernel_rfl) Try.func3
    (ChangeSpec.witness6 (enc := enc) (C := Try.checked) false ⟨#[], #[.slice none 0 0], []⟩ 8 (by kernel_rfl) (by kernel_rfl) (by kernel_rfl) (by kernel_rfl)) ?_
  intro W base args ds gs before hval0 hW hcnd _
  have hval : ∀ (j : Nat) t v, Try.f3.params[j]? = some t → args[j]? = some v → Value.okWide Try.prog W .any base t v := hval0
  have hW' := hW
  obtain ⟨p, q, hA0, hV, rfl, hfz, hnd⟩ := hW
  have hA : DataW.TrodAll enc Try.prog W 0 (fun _ => true) true Try.f3.params.toList args.toList ds p := hA0
  rw [Try.params3] at hA hval
  obtain ⟨v0, d0, rfl, rfl, h0⟩ := trodAll_one hA
  obtain ⟨rfl, rfl⟩ := trodVars_none hV
  clear hA0 hval0
  simp only [List.append_nil] at hW'
  have hlt := fun x hx => hW'.lt (p := x) hx
  obtain ⟨A, c, l, rfl, hr0, hc0, hm0, hn0, hx0⟩ := open_runes (hval 0 _ v0 rfl rfl) h0
  refine (walk_WordTexts A c l W hr0 hm0).mono fun e W' ⟨he, hb⟩ => ?_
  subst he
  exact ⟨_, rfl, _, _, _, [], _, [], hW', trodAll_mk1 (shut_bool Try.underlying4 true), trodAll_mk1 (kept readableR rowR h0 hb fun x hx => hlt x (by simp [hx])), rfl, World.keptBut_mono (fun x hx => ⟨hx, .inr (.inl (by simpa using hx))⟩) (hb.frame (· ∈ _)), fun h => by cases h⟩

theorem holds_WordTexts : Rows.WordTextsSaid :=
  OpenClaim.holds_of_wide 3 Try.f3 rfl rfl rfl rfl rfl rfl rfl ⟨rfl, rfl, rfl, rfl, rfl⟩ rfl rfl rfl rfl rfl (by kernel_rfl) Try.func3 (by kernel_rfl)
    (of_decide_eq_true (by kernel_rfl)) (by unfold Func.isWrapper; first | (rw [if_pos (by decide +kernel)]; kernel_rfl) | (rw [if_neg (by decide +kernel)]; exact ⟨rfl, rfl⟩))
    (fun os started H enc _ => lifted_WordTexts os started H enc)
end Go.Proofs.Ytoofeiogjheknaa.Wo
