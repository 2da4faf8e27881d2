/-
  WordRaws holds for all bytes and every word: the law answers true and both read afterwards as they read before. No condition.
-/
import Derived.Test.YtoofeiogjheknaaWoFrame
import Derived.Test.YtoofeiogjheknaaWoBytes
import Derived.Laws.BytesArg
namespace Go.Proofs.Ytoofeiogjheknaa.Wo
open Go Go.RowKit Go.ChangeShapes Go.WideShapes Go.ChangeAt

theorem readableY : Try.prog.readableRec 26 = true := by kernel_rfl
theorem rowY : 26 < Try.prog.types.size := of_decide_eq_true (by kernel_rfl)
theorem cellsY : Try.prog.cellsOf 5 = 1 := by kernel_rfl
theorem open_bytes {H : Type} {enc : TypeId × Value → H} {W : World} {r : Reach} {b0 : Nat} {v : Value} {d : DataW H} {p : List MemPlace} (hv : Value.okWide Try.prog W r b0 26 v) (h : DataW.Trod enc Try.prog W 0 (fun _ => true) true 26 v d p) :
    ∃ (A : Option Addr) (c : Nat) (l : List Int), v = .slice A l.length c ∧ RY W W.heap.size A l.length l ∧ l.length ≤ c ∧ l.length ≤ maxLen ∧ (∀ x ∈ l, 0 ≤ x ∧ x ≤ 255) := by
  obtain ⟨a0, len0, cap0, rfl⟩ := okWide_slice Try.underlying26 hv
  obtain ⟨fuel, hf⟩ := h
  rcases open_ints Try.underlying26 Try.underlying5 cellsY hf with ⟨hcs, hx⟩ | ⟨a, len, cap, zs, hcs, _, hl, hm, hz, hx, hcell, hwz⟩
  · simp [Value.cells] at hcs
    obtain ⟨rfl, rfl, rfl⟩ := hcs
    exact ⟨none, 0, [], rfl, RY.nil_ _ _ _, Nat.le_refl _, Nat.zero_le _, fun _ h => by cases h⟩
  · simp [Value.cells] at hcs
    obtain ⟨rfl, rfl, rfl⟩ := hcs
    simp only [if_true] at hz
    have hlen : (zs.take len0).length = len0 := by rw [List.length_take]; omega
    refine ⟨some a, cap0, zs.take len0, by rw [hlen], ⟨rfl, fun hn => ?_⟩, by rw [hlen]; exact hl, by rw [hlen]; omega, fun x hx2 => ?_⟩
    · rw [hlen] at hn
      obtain ⟨b, off, rfl, hc⟩ := ints_at hcell (by omega)
      have hb := World.block_lt_of_cell? W _ (hc 0 (by omega))
      refine ⟨b, off, rfl, hb, fun j hj => ?_⟩
      rw [hlen] at hj
      have := hc j (by omega)
      rw [List.getD_eq_getElem?_getD, List.getElem?_eq_getElem (show j < zs.length by omega)] at this
      rw [List.getElem_take]
      exact this
    · have := hwz x (List.mem_of_mem_take hx2)
      simpa [Lit.wf, IntKind.min, IntKind.max, IntKind.signed, IntKind.bits] using this

/-- string(b) of a slice value that reads as bytes. -/
theorem conv_str {w : World} {B : Nat} {A : Option Addr} {n c : Nat} {l : List Int} (h : RY w B A n l) : (convert 26 9 (.slice A n c)).run Try.prog w = .ok (.string (strOfNums l)) w := by
  obtain ⟨h1, h2⟩ := h
  by_cases hn : 0 < n
  · obtain ⟨b, off, rfl, _, hc⟩ := h2 hn
    refine run_convert_bytes_arg w 26 5 Try.underlying26 Try.underlying5 b off n c l h1 (fun i hi => ?_) 9 Try.underlying9
    rw [hc i (by omega), List.getD_eq_getElem?_getD, List.getElem?_eq_getElem (show i < l.length by omega)]
    rfl
  · have : l = [] := List.eq_nil_of_length_eq_zero (by omega)
    subst this
    have : n = 0 := by omega
    subst this
    cases A with
    | none => exact run_convert_bytes_nil w 26 5 Try.underlying26 Try.underlying5 _ _ 9 Try.underlying9
    | some a =>
      rw [run_convert_bytes_string w 26 9 5 (some a) 0 c Try.underlying26 Try.underlying5 Try.underlying9, run_bytesToString w a 0 c [] (by have := run_loadCells_list (P := Try.prog) w a [] (fun j v hj => by simp at hj); simpa using this)]
      rfl

/-- What word.Bytes answers. -/
def bytesL (l : List Int) : List Int := if fitsS 1 l = true then l else []
def BytesAll (f : Bool) (r : List Int) (w : World) (e : Ending) (w' : World) : Prop := ∃ A c, e = .returned (.tuple #[.slice A r.length c, .bool f]) ∧ RY w' w'.heap.size A r.length r ∧ Below w.heap.size w w'
theorem bytes_all (A : Option Addr) (c : Nat) (l : List Int) (w : World) (h : RR w w.heap.size A l.length l) (hn : l.length ≤ 1099511627776) : Calls Try.prog 17 #[.slice A l.length c] w (BytesAll (fitsS 1 l) (bytesL l) w) := by
  by_cases hf : fitsS 1 l = true
  · refine (bytes_any A c l w h hn hf).mono ?_
    rintro e w' ⟨A', rfl, hr, hb⟩
    unfold bytesL
    rw [if_pos hf, hf]
    exact ⟨A', _, rfl, hr, hb⟩
  · have hf' : fitsS 1 l = false := by simpa using hf
    refine (bytes_not A c l w h hn hf').mono ?_
    rintro e w' ⟨rfl, rfl⟩
    unfold bytesL
    rw [if_neg hf, hf']
    exact ⟨none, 0, rfl, RY.nil_ _ _ _, Below.refl _ _⟩

def RunRel (n : Nat) (w : World) (i : Value) (wr : World) : Prop := ∃ k : Nat, k ≤ n ∧ i = .int .i64 k ∧ Below w.heap.size w wr
set_option maxHeartbeats 4000000 in
set_option maxRecDepth 100000 in
theorem walk_WordRaws (A : Option Addr) (c : Nat) (l : List Int) (B : Option Addr) (d : Nat) (m : List Int) (w : World) (h : RY w w.heap.size A l.length l) (h' : RR w w.heap.size B m.length m) (hm : l.length ≤ maxLen) (hm' : m.length ≤ maxLen) (hx : ∀ x ∈ l, 0 ≤ x ∧ x ≤ 255) :
    Calls Try.prog 5 #[.slice A l.length c, .slice B m.length d] w (RetB true w) := by
  unfold maxLen at hm hm'
  by_cases g1 : 2000 < l.length
  · clear h h'
    go_enter Try.func5, Try.ntmps5
    go_wp2_with (fail)
    refine (awake_any _).mono ?_
    rintro e w9 ⟨rfl, hb9⟩
    go_wp2_with (fail)
    go_ret
    exact ⟨rfl, hb9⟩
  by_cases g2 : 2000 < m.length
  · clear h h'
    go_enter Try.func5, Try.ntmps5
    go_wp2_with (fail)
    refine (awake_any _).mono ?_
    rintro e w9 ⟨rfl, hb9⟩
    go_wp2_with (fail)
    go_ret
    exact ⟨rfl, hb9⟩
  have hfl : fitsS 1 l = true := bytes_fits hx
  have H1 := Lib.hid (raw_any A c l w h (by omega) hx)
  have H2 := Lib.hid (fun W A' c' (a : RR W W.heap.size A' l.length l) => bytes_all A' c' l W a (by omega))
  have H3 := Lib.hid (fun W (a : RR W W.heap.size B m.length m) => bytes_all B d m W a (by omega))
  have H4 := Lib.hid (fun W (a : RR W W.heap.size B m.length m) => rfits_any 1 B m.length d m W a (by omega))
  have hbl : bytesL l = l := if_pos hfl
  rw [hfl, hbl] at H2
  have X := Lib.hid h
  have Y := Lib.hid h'
  have HX := Lib.hid hx
  clear h h' hfl hbl hx
  have HFB0 := Lib.hid (show fitsS 1 m = true → ∀ x ∈ m, 0 ≤ x ∧ x ≤ 255 from fits_bytes)
  have HFM := Lib.hid (show ∃ f, fitsS 1 m = f from ⟨_, rfl⟩)
  have HCL := Lib.hid (show bytesL m = if fitsS 1 m = true then m else [] from rfl)
  go_enter Try.func5, Try.ntmps5
  go_wp2_with (fail)
  refine H1.out.mono ?_
  rintro e w1 ⟨A1, rfl, hr1, hb1⟩
  have HB1 := Lib.hid hb1
  have X1 := Lib.hid (X.out.belowM hb1)
  have Y1 := Lib.hid (Y.out.belowM hb1)
  have R1 := Lib.hid hr1
  clear hr1 hb1
  go_wp2_with (fail)
  refine (H2.out _ _ _ R1.out).mono ?_
  rintro e w2 ⟨A2, c2, rfl, hr2, hb2⟩
  have HB2 := Lib.hid (HB1.out.trans (hb2.mono HB1.out.size))
  have X2 := Lib.hid (X1.out.belowM hb2)
  have Y2 := Lib.hid (Y1.out.belowM hb2)
  have R2 := Lib.hid (R1.out.belowM hb2)
  have S2 := Lib.hid hr2
  clear hr2 hb2
  go_wp2_with (fail)
  refine (H3.out _ Y2.out).mono ?_
  rintro e w3 ⟨A3, c3, rfl, hr3, hb3⟩
  have HB3 := Lib.hid (HB2.out.trans (hb3.mono HB2.out.size))
  have X3 := Lib.hid (X2.out.belowM hb3)
  have Y3 := Lib.hid (Y2.out.belowM hb3)
  have R3 := Lib.hid (R2.out.belowM hb3)
  have S3 := Lib.hid (S2.out.belowM hb3)
  have T3 := Lib.hid hr3
  clear hr3 hb3
  clear H1 H2 H3 X Y X1 Y1 R1 HB1 X2 Y2 R2 S2 HB2
  obtain ⟨f, hfm⟩ := HFM.out
  rw [hfm] at H4
  have HCL2 := Lib.hid HCL.out
  rw [hfm] at HCL2 HFB0
  generalize bytesL m = cl at HCL HCL2 T3 ⊢
  rw [hfm]
  clear hfm HFM HCL
  go_wp2_with (fail)
  go_loopw [10] (fun i wr => RunRel l.length w3 i wr) (fun i _ => l.length - (intOf i).toNat)
  case atStart => exact ⟨0, Nat.zero_le _, rfl, Below.refl _ _⟩
  case round =>
    obtain ⟨k, hk, rfl, hb⟩ := hrel
    have HB := Lib.hid hb
    clear hb
    by_cases hlt : k < l.length
    · obtain ⟨b, off, x, hA, hbB, ⟨hl1, e1⟩, hc1⟩ := (X3.out.below HB.out).at_ hlt
      obtain ⟨b', off', x', hA', hbB', ⟨hl2, e2⟩, hc1'⟩ := (R3.out.below HB.out).at_ hlt
      have hxx : x' = x := by rw [← e1, ← e2]
      subst hxx
      have hxr : 0 ≤ x' ∧ x' ≤ 255 := by rw [← e1]; exact HX.out _ (List.getElem_mem hl1)
      clear e1 e2 hl1 hl2
      have d1 : ((l.length : Int) != (l.length : Int)) = false := by simp
      rw [hA, hA']
      clear hA hA'
      go_wp2_with (fail)
      go_quiet (fail)
      go_wp2_with (fail)
      go_roundw
      case rel => exact ⟨k + 1, by omega, by go_num, below_drewN HB.out _⟩
      case measure => simp [intOf]; omega
    · have X4 := Lib.hid (X3.out.belowM HB.out)
      have Y4 := Lib.hid (Y3.out.belowM HB.out)
      have R4 := Lib.hid (R3.out.belowM HB.out)
      have S4 := Lib.hid (S3.out.belowM HB.out)
      have T4 := Lib.hid (T3.out.belowM HB.out)
      have HB4 := Lib.hid (HB3.out.trans (HB.out.mono HB3.out.size))
      clear X3 Y3 R3 S3 T3 HB HB3
      have hcs := conv_str (c := c2) S4.out
      have hcx := conv_str (c := c) X4.out
      have hcl := HCL2.out
      cases f
      · rw [if_neg (by decide)] at hcl
        subst hcl
        go_wp2_with (fail)
        refine (H4.out _ Y4.out).mono ?_
        rintro e w4 ⟨rfl, rfl⟩
        go_wp2_with (fail)
        go_loopw [11] (fun i wr2 => RunRel 0 wr i wr2) (fun i _ => 0 - (intOf i).toNat)
        case atStart => exact ⟨0, Nat.zero_le _, rfl, Below.refl _ _⟩
        case round =>
          obtain ⟨k2, hk2, rfl, hb⟩ := hrel
          have e2 : k2 = 0 := by omega
          subst e2
          simp only [List.length_nil] at *
          go_wp2_with (fail)
          refine (awake_any _).mono ?_
          rintro e w9 ⟨rfl, hb9⟩
          go_wp2_with (fail)
          go_ret
          exact ⟨rfl, (HB4.out.trans (hb.mono HB4.out.size)).trans (hb9.mono (HB4.out.trans (hb.mono HB4.out.size)).size)⟩
      · rw [if_pos rfl] at hcl
        subst hcl
        have HFB := Lib.hid (HFB0.out rfl)
        clear HFB0
        go_wp2_with (fail)
        refine (H4.out _ Y4.out).mono ?_
        rintro e w4 ⟨rfl, rfl⟩
        go_wp2_with (fail)
        go_loopw [11] (fun i wr2 => RunRel cl.length wr i wr2) (fun i _ => cl.length - (intOf i).toNat)
        case atStart => exact ⟨0, Nat.zero_le _, rfl, Below.refl _ _⟩
        case round =>
          obtain ⟨k2, hk2, rfl, hb⟩ := hrel
          by_cases hlt2 : k2 < cl.length
          · obtain ⟨b, off, x, hA, hbB, ⟨hl1, e1⟩, hc1⟩ := (T4.out.below hb).at_ hlt2
            obtain ⟨b', off', x', hA', hbB', ⟨hl2, e2⟩, hc1'⟩ := (Y4.out.below hb).at_ hlt2
            have hxx : x' = x := by rw [← e1, ← e2]
            subst hxx
            have hxr : 0 ≤ x' ∧ x' ≤ 255 := by rw [← e1]; exact HFB.out _ (List.getElem_mem hl1)
            clear e1 e2 hl1 hl2
            rw [hA, hA']
            clear hA hA'
            go_wp2_with (fail)
            go_quiet (fail)
            go_wp2_with (fail)
            go_roundw
            case rel => exact ⟨k2 + 1, by omega, by go_num, below_drewN hb _⟩
            case measure => simp [intOf]; omega
          · go_wp2_with (fail)
            refine (awake_any _).mono ?_
            rintro e w9 ⟨rfl, hb9⟩
            go_wp2_with (fail)
            go_ret
            exact ⟨rfl, (HB4.out.trans (hb.mono HB4.out.size)).trans (hb9.mono (HB4.out.trans (hb.mono HB4.out.size)).size)⟩
set_option maxRecDepth 100000 in
theorem lifted_WordRaws (os : Os) (started : os.Started) (H : Type) (enc : TypeId × Value → H) :
    ReturnsInHanded {} Try.checked os 5 .any (Rows.wordRawsSpec.pre6 enc Try.prog Try.f5 Rows.wordRawsRow.domain false) (Rows.wordRawsSpec.post enc Try.prog Try.f5 false true false false) := by
  refine returnsInHanded_of_change (C := Try.checked) own started (by kernel_rfl) Try.func5
    (ChangeSpec.witness6 (enc := enc) (C := Try.checked) false ⟨#[], #[.slice none 0 0, .slice none 0 0], []⟩ 8 (by kernel_rfl) (by kernel_rfl) (by kernel_rfl) (by kernel_rfl)) ?_
  intro W base args ds gs before hval0 hW hcnd _
  have hval : ∀ (j : Nat) t v, Try.f5.params[j]? = some t → args[j]? = some v → Value.okWide Try.prog W .any base t v := hval0
  have hW' := hW
  obtain ⟨p, q, hA0, hV, rfl, hfz, hnd⟩ := hW
  have hA : DataW.TrodAll enc Try.prog W 0 (fun _ => true) true Try.f5.params.toList args.toList ds p := hA0
  rw [Try.params5] at hA hval
  obtain ⟨v0, v1, d0, d1, p0, p1, rfl, rfl, rfl, h0, h1⟩ := trodAll_two hA
  obtain ⟨rfl, rfl⟩ := trodVars_none hV
  clear hA0 hval0
  simp only [List.append_nil] at hW'
  have hlt := fun x hx => hW'.lt (p := x) hx
  obtain ⟨A, c, l, rfl, hr0, hc0, hm0, hx0⟩ := open_bytes (hval 0 _ v0 rfl rfl) h0
  obtain ⟨B, d, r, rfl, hr1, hc1, hm1, hn1, hx1⟩ := open_runes (hval 1 _ v1 rfl rfl) h1
  refine (walk_WordRaws A c l B d r W hr0 hr1 hm0 hm1 hx0).mono fun e W' ⟨he, hb⟩ => ?_
  subst he
  exact ⟨_, rfl, _, _, _, [], _, [], hW', trodAll_mk1 (shut_bool Try.underlying4 true), trodAll_mk2 (kept readableY rowY h0 hb fun x hx => hlt x (by simp [hx])) (kept readableR rowR h1 hb fun x hx => hlt x (by simp [hx])), rfl, World.keptBut_mono (fun x hx => ⟨hx, .inr (.inl (by simpa using hx))⟩) (hb.frame (· ∈ _)), fun h => by cases h⟩

theorem holds_WordRaws : Rows.WordRawsSaid :=
  OpenClaim.holds_of_wide 5 Try.f5 rfl rfl rfl rfl rfl rfl rfl ⟨rfl, rfl, rfl, rfl, rfl⟩ rfl rfl rfl rfl rfl (by kernel_rfl) Try.func5 (by kernel_rfl)
    (of_decide_eq_true (by kernel_rfl)) (by unfold Func.isWrapper; first | (rw [if_pos (by decide +kernel)]; kernel_rfl) | (rw [if_neg (by decide +kernel)]; exact ⟨rfl, rfl⟩))
    (fun os started H enc _ => lifted_WordRaws os started H enc)
end Go.Proofs.Ytoofeiogjheknaa.Wo
