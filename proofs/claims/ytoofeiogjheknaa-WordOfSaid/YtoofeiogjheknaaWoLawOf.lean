/-
  WordOf holds for every text: the law answers true. No condition.
-/
import Derived.Test.YtoofeiogjheknaaWoFrame
import Derived.Test.YtoofeiogjheknaaWoWhole
import Derived.ChangeMaps
namespace Go.Proofs.Ytoofeiogjheknaa.Wo
open Go Go.RowKit Go.ChangeShapes Go.WideShapes Go.ChangeAt

theorem of_step {s : ByteArray} {b pos k : Nat} {l : List Int} (hk : k < l.length) (h : runesF s b pos = l.drop k) (hb : s.size ≤ pos + b) :
    pos < s.size ∧ (∃ hl : k < l.length, l[k] = ((Utf8.decode s pos).1 : Int)) ∧ ∃ b', runesF s b' (pos + (Utf8.decode s pos).2) = l.drop (k + 1) ∧ s.size ≤ pos + (Utf8.decode s pos).2 + b' := by
  by_cases hp : pos < s.size
  · obtain ⟨b', rfl⟩ : ∃ b', b = b' + 1 := ⟨b - 1, by omega⟩
    rw [runesF, if_pos hp, List.drop_eq_getElem_cons hk] at h
    injection h with h1 h2
    have := width_pos s pos hp
    exact ⟨hp, ⟨hk, h1.symm⟩, b', h2, by omega⟩
  · rw [runesF_end s b pos hp, List.drop_eq_getElem_cons hk] at h
    cases h
theorem of_end {s : ByteArray} {b pos k : Nat} {l : List Int} (hk : l.length ≤ k) (h : runesF s b pos = l.drop k) (hb : s.size ≤ pos + b) : s.size ≤ pos := by
  rcases Nat.lt_or_ge pos s.size with hp | hp
  · obtain ⟨b', rfl⟩ : ∃ b', b = b' + 1 := ⟨b - 1, by omega⟩
    rw [runesF, if_pos hp, List.drop_eq_nil_of_le hk] at h
    cases h
  · exact hp
theorem beq_swap {a b : List UInt8} (h : (a == b) = false) : (b == a) = false := by
  rw [beq_eq_false_iff_ne] at *
  exact fun e => h e.symm
def ReadsRel (s : ByteArray) (l : List Int) (w : World) (at_ i : Value) (wr : World) : Prop := ∃ k pos b : Nat, k ≤ l.length ∧ at_ = .int .i64 pos ∧ i = .int .i64 k ∧ pos ≤ s.size ∧ s.size ≤ pos + b ∧ runesF s b pos = l.drop k ∧ Below w.heap.size w wr
set_option maxRecDepth 100000 in
set_option maxHeartbeats 4000000 in
theorem walk_WordOf (s : ByteArray) (w : World) (hsz : s.size ≤ maxLen) :
    Calls Try.prog 4 #[.string s] w (RetB true w) := by
  unfold maxLen at hsz
  by_cases g1 : 2000 < s.size
  · go_enter Try.func4, Try.ntmps4
    go_wp2_with (fail)
    refine (awake_any _).mono ?_
    rintro e w9 ⟨rfl, hb9⟩
    go_wp2_with (fail)
    go_ret
    exact ⟨rfl, hb9⟩
  have H1 := Lib.hid (of_any s w (by omega))
  have hll : (runes s).length ≤ s.size := runesF_len s s.size 0
  have HR := Lib.hid (show runesF s s.size 0 = (runes s).drop 0 from rfl)
  generalize runes s = l at H1 hll HR
  go_enter Try.func4, Try.ntmps4
  go_wp2_with (fail)
  refine H1.out.mono ?_
  rintro e w1 ⟨A1, c1, rfl, hc1, hr1, hn1, hb1⟩
  have X := Lib.hid hr1
  have HB1 := Lib.hid hb1
  clear hr1 hn1 hb1 H1
  go_wp2_with (fail)
  go_loopw [4, 5] (fun t i wr => ReadsRel s l w1 t i wr) (fun _ i _ => l.length - (intOf i).toNat)
  case atStart => exact ⟨0, 0, s.size, Nat.zero_le _, rfl, rfl, Nat.zero_le _, by omega, HR.out, Below.refl _ _⟩
  case round =>
    obtain ⟨k, pos, b, hk, rfl, rfl, hps, hpb, hrf, hb⟩ := hrel
    have HB := Lib.hid hb
    by_cases hlt : k < l.length
    · obtain ⟨hp, hlx, b', hrf2, hpb2⟩ := of_step hlt hrf hpb
      obtain ⟨bk, off, x, hA, hbB, ⟨hl1, e1⟩, hc1⟩ := (X.out.below hb).at_ hlt
      have hx : x = ((Utf8.decode s pos).1 : Int) := by obtain ⟨_, e2⟩ := hlx; rw [← e1, e2]
      have HS := Lib.hid (stood hp)
      have hwd := width_pos s pos hp
      have HD := Lib.hid (show Utf8.decode s pos = ((Utf8.decode s pos).1, (Utf8.decode s pos).2) from rfl)
      have HRF := Lib.hid hrf2
      have HBY := Lib.hid (rbytes_any x wr)
      clear hlx e1 hl1 hb hrf hrf2
      generalize (Utf8.decode s pos).2 = wd at *
      generalize (Utf8.decode s pos).1 = rx at *
      have hle4 := encB_len_le x
      have hesz : (strOfNums (encB x)).size = (encB x).length := strOfNums_size _
      rw [hA]
      clear hA
      by_cases hv : rx = 65533 ∧ wd = 1
      · obtain ⟨rfl, rfl⟩ := hv
        have hx5 : x = 65533 := by simpa using hx
        clear hx HS
        subst hx5
        have HW := Lib.hid (fun W => whole_no s pos W (by omega) hp HD.out)
        have hel : (encB (65533 : Int)).length = 3 := by decide
        have HN := Lib.hid (fun h => alone_none HD.out 3 (by omega) h 65533)
        go_wp2_with (fail)
        refine HBY.out.mono ?_
        rintro e w2 ⟨A2, c2, rfl, hr2, hb2⟩
        have hcv := conv_bytes (c := c2) hr2
        have hcx := (hb2.cell (Nat.lt_of_lt_of_le hbB HB.out.size)).trans hc1
        have HB2 := Lib.hid (HB.out.trans (hb2.mono HB.out.size))
        clear hr2 hb2
        have hne := fun h => beq_swap (HN.out h)
        rw [hel] at hcv hesz
        rw [hel]
        generalize strOfNums (encB (65533 : Int)) = t at hcv hesz hne
        have HNE := Lib.hid hne
        clear hne HN hel HBY
        by_cases q : s.size < pos + 3
        · go_wp2_with (fail)
          refine (HW.out _).mono ?_
          rintro e w3 ⟨rfl, hb3⟩
          have HB3 := Lib.hid (HB2.out.trans (hb3.mono HB2.out.size))
          clear hb3
          go_wp2_with (fail)
          go_roundw
          case rel => exact ⟨k + 1, pos + 1, b', by omega, by go_num, by go_num, by omega, by omega, HRF.out, HB3.out⟩
          case measure => simp [intOf]; omega
        · have hne := HNE.out (by omega)
          go_wp2_with (fail)
          refine (HW.out _).mono ?_
          rintro e w3 ⟨rfl, hb3⟩
          have HB3 := Lib.hid (HB2.out.trans (hb3.mono HB2.out.size))
          clear hb3
          go_wp2_with (fail)
          go_roundw
          case rel => exact ⟨k + 1, pos + 1, b', by omega, by go_num, by go_num, by omega, by omega, HRF.out, HB3.out⟩
          case measure => simp [intOf]; omega
      · subst hx
        obtain ⟨hst, hwl, hpw⟩ := HS.out hv
        rw [hwl] at hesz
        have heq : ((s.extract pos (pos + wd)).toList == (strOfNums (encB (rx : Int))).toList) = true := by
          rw [beq_iff_eq]
          exact congrArg ByteArray.toList hst.symm
        have HV := Lib.hid hv
        clear hst hv HS HD
        go_wp2_with (fail)
        refine HBY.out.mono ?_
        rintro e w2 ⟨A2, c2, rfl, hr2, hb2⟩
        have hcv := conv_bytes (c := c2) hr2
        rw [hwl] at hcv
        rw [hwl]
        have HB2 := Lib.hid (HB.out.trans (hb2.mono HB.out.size))
        clear hr2 hb2 HBY hle4 hwl
        generalize strOfNums (encB (rx : Int)) = t at hcv hesz heq
        go_wp2_with (fail)
        go_roundw
        case rel => exact ⟨k + 1, pos + wd, b', by omega, by go_num, by go_num, by omega, by omega, HRF.out, HB2.out⟩
        case measure => simp [intOf]; omega
    · have hend := of_end (by omega) hrf hpb
      have e : pos = s.size := by omega
      subst e
      clear hrf hb
      go_wp2_with (fail)
      refine (awake_any _).mono ?_
      rintro e w9 ⟨rfl, hb9⟩
      go_wp2_with (fail)
      go_ret
      exact ⟨rfl, (HB1.out.trans (HB.out.mono HB1.out.size)).trans (hb9.mono (HB1.out.trans (HB.out.mono HB1.out.size)).size)⟩

set_option maxRecDepth 100000 in
theorem lifted_WordOf (os : Os) (started : os.Started) (H : Type) (enc : TypeId × Value → H) :
    ReturnsInHanded {} Try.checked os 4 .any (Rows.wordOfSpec.pre6 enc Try.prog Try.f4 Rows.wordOfRow.domain false) (Rows.wordOfSpec.post enc Try.prog Try.f4 false true false false) := by
  refine returnsInHanded_of_change (C := Try.checked) own started (by kernel_rfl) Try.func4
    (ChangeSpec.witness6 (enc := enc) (C := Try.checked) false ⟨#[], #[.string ⟨#[]⟩], []⟩ 8 (by kernel_rfl) (by kernel_rfl) (by kernel_rfl) (by kernel_rfl)) ?_
  intro W base args ds gs before hval0 hW hcnd _
  have hval : ∀ (j : Nat) t v, Try.f4.params[j]? = some t → args[j]? = some v → Value.okWide Try.prog W .any base t v := hval0
  have hW' := hW
  obtain ⟨p, q, hA0, hV, rfl, hfz, hnd⟩ := hW
  have hA : DataW.TrodAll enc Try.prog W 0 (fun _ => true) true Try.f4.params.toList args.toList ds p := hA0
  rw [Try.params4] at hA hval
  obtain ⟨v0, d0, rfl, rfl, h0⟩ := trodAll_one hA
  obtain ⟨rfl, rfl⟩ := trodVars_none hV
  clear hA0 hval0
  simp only [List.append_nil] at hW'
  obtain ⟨s, rfl, rfl, rfl, ws⟩ := ChangeMaps.open_string Try.underlying9 (hval 0 _ v0 rfl rfl) h0
  refine (walk_WordOf s W ws).mono fun e W' ⟨he, hb⟩ => ?_
  subst he
  exact ⟨_, rfl, _, _, _, [], _, [], hW', trodAll_mk1 (shut_bool Try.underlying4 true), trodAll_mk1 (ChangeMaps.shut_string Try.underlying9 ws), rfl, World.keptBut_mono (fun x hx => ⟨hx, .inr (.inl (by simp at hx))⟩) (hb.frame (· ∈ _)), fun h => by cases h⟩

theorem holds_WordOf : Rows.WordOfSaid :=
  OpenClaim.holds_of_wide 4 Try.f4 rfl rfl rfl rfl rfl rfl rfl ⟨rfl, rfl, rfl, rfl, rfl⟩ rfl rfl rfl rfl rfl (by kernel_rfl) Try.func4 (by kernel_rfl)
    (of_decide_eq_true (by kernel_rfl)) (by unfold Func.isWrapper; first | (rw [if_pos (by decide +kernel)]; kernel_rfl) | (rw [if_neg (by decide +kernel)]; exact ⟨rfl, rfl⟩))
    (fun os started H enc _ => lifted_WordOf os started H enc)
end Go.Proofs.Ytoofeiogjheknaa.Wo
