/- The walks of the reference's next and sign. -/
import Derived.Test.YtplpafoflibnlaaMiAsk
namespace Go.Proofs.Ytplpafoflibnlaa.Mi
set_option maxRecDepth 100000
open Go Go.RowKit Go.Proofs.Ytplpafoflibnlaa.Sp

/-- Up to where nothing begins or ends. -/
def NextV (p : List Span) (from_ end_ r : Int) : Prop := from_ ≤ r ∧ r ≤ end_ ∧ (∀ c, mem p c → from_ < c → r < c) ∧ (r = end_ ∨ mem p (r + 1))
def NextOut (p : List Span) (from_ end_ : Int) (w : World) (e : Ending) (w' : World) : Prop := ∃ r, e = .returned (.int .i64 r) ∧ NextV p from_ end_ r ∧ w = w'
def NxRel (p : List Span) (from_ : Int) (w : World) (i : Value) (wr : World) : Prop := ∃ k : Nat, k ≤ p.length ∧ i = .int .i64 k ∧ (∀ (j : Nat) (h : j < p.length), j < k → p[j].2 ≤ from_) ∧ w = wr
theorem nx_after {p : List Span} (hp : Plain p) {k : Nat} (hk : k < p.length) {x : Int} (hx : mem p x) (hlo : ∀ (j : Nat) (h : j < p.length), j < k → p[j].2 < x) : p[k].1 ≤ x := by
  obtain ⟨_, q, hq, h1, h2⟩ := hx
  obtain ⟨j, hj, rfl⟩ := List.getElem_of_mem hq
  rcases Nat.lt_trichotomy j k with h | rfl | h
  · have := hlo j hj h
    omega
  · exact h1
  · have := List.pairwise_iff_getElem.1 hp.1 k j hk hj h
    have := hp.2 _ (List.getElem_mem hk)
    unfold Ok at this
    omega
set_option maxHeartbeats 2000000 in
theorem next_any (A : Option Addr) (c : Nat) (p : List Span) (from_ end_ : Int) (w : World) (h : RS w w.heap.size A p.length p) (hp : Plain p) (hfe : from_ ≤ end_) (h0 : -1073741824 ≤ from_) (h1 : end_ ≤ 1073741824) :
    Calls Try.prog 55 #[.slice A p.length c, .int .i64 from_, .int .i64 end_] w (NextOut p from_ end_ w) := by
  have hs := hp.short
  have HP := Lib.hid hp
  have H := Lib.hid h
  clear h hp
  go_enter Try.func55, Try.ntmps55
  go_wp2_with (fail)
  go_loopw [7] (fun i wr => NxRel p from_ w i wr) (fun i _ => p.length - (intOf i).toNat)
  case atStart => exact ⟨0, Nat.zero_le _, rfl, fun j _ q => absurd q (by omega), rfl⟩
  case round =>
    obtain ⟨k, hk, rfl, hlo, rfl⟩ := hrel
    have HLO := Lib.hid hlo
    clear hlo
    by_cases hlt : k < p.length
    · obtain ⟨b, off, lo, hi, hA, hbB, ⟨_, hlk⟩, c1, c2⟩ := H.out.at_ hlt
      have hok := HP.out.2 _ (List.getElem_mem hlt)
      rw [hlk] at hok
      unfold Ok at hok
      simp only at hok
      have HLK := Lib.hid hlk
      rw [hA]
      clear hA hlk
      by_cases a1 : hi ≤ from_
      · have a1' : decide (hi ≤ from_) = true := decide_eq_true a1
        have HN := Lib.hid (show ∀ (j : Nat) (h : j < p.length), j < k + 1 → p[j].2 ≤ from_ from fun j hj hjk => by
          by_cases e : j = k
          · subst e; rw [HLK.out]; exact a1
          · exact HLO.out j hj (by omega))
        go_wp2_with (fail)
        go_roundw
        case rel => exact ⟨k + 1, by omega, by go_num, HN.out, rfl⟩
        case measure => simp [intOf]; omega
      · have a1' : decide (hi ≤ from_) = false := decide_eq_false a1
        by_cases a2 : from_ < lo
        · have a2' : decide (from_ < lo) = true := decide_eq_true a2
          have s1 : IntKind.i64.wrap (lo - 1) = lo - 1 := IntWalk.i64_in _ (by omega)
          have HV := Lib.hid (show NextV p from_ end_ (min (lo - 1) end_) from ⟨by omega, by omega, fun x hx hfx => by
            have := nx_after HP.out hlt hx (fun j hj hjk => by have := HLO.out j hj hjk; omega)
            rw [HLK.out] at this
            simp only at this
            omega, by
            by_cases e : end_ ≤ lo - 1
            · exact .inl (by omega)
            · refine .inr ⟨⟨by omega, by omega⟩, (lo, hi), ?_, by simp only; omega, by simp only; omega⟩
              rw [← HLK.out]
              exact List.getElem_mem _⟩)
          go_wp2_with (fail)
          go_ret
          exact ⟨_, rfl, HV.out, rfl⟩
        · have a2' : decide (from_ < lo) = false := decide_eq_false a2
          have HV := Lib.hid (show NextV p from_ end_ from_ from ⟨Int.le_refl _, hfe, fun x _ hfx => hfx, .inr ⟨⟨by omega, by omega⟩, (lo, hi), by rw [← HLK.out]; exact List.getElem_mem _, by simp only; omega, by simp only; omega⟩⟩)
          go_wp2_with (fail)
          go_ret
          exact ⟨_, rfl, HV.out, rfl⟩
    · have HV := Lib.hid (show NextV p from_ end_ end_ from ⟨hfe, Int.le_refl _, fun x hx hfx => by
        obtain ⟨_, q, hq, _, h2⟩ := hx
        obtain ⟨j, hj, rfl⟩ := List.getElem_of_mem hq
        have := HLO.out j hj (by omega)
        omega, .inl rfl⟩)
      go_wp2_with (fail)
      go_ret
      exact ⟨_, rfl, HV.out, rfl⟩

noncomputable def signL (fam : List (List Span)) (x : Int) : List UInt8 := fam.map fun l => if memB l x then 49 else 48
theorem signL_eq {fam : List (List Span)} {x y : Int} : signL fam x = signL fam y ↔ ∀ s ∈ fam, mem s x ↔ mem s y := by
  unfold signL
  rw [List.map_inj_left]
  constructor
  · intro h s hs
    have h1 := h s hs
    rw [← memB_iff (x := x), ← memB_iff (x := y)]
    cases hx : memB s x <;> cases hy : memB s y <;> simp [hx, hy] at h1 ⊢
  · intro h s hs
    have := h s hs
    rw [← memB_iff (x := x), ← memB_iff (x := y)] at this
    cases hx : memB s x <;> cases hy : memB s y <;> simp_all
theorem signL_succ {fam : List (List Span)} {x : Int} {k : Nat} (hk : k < fam.length) : signL (fam.take (k + 1)) x = signL (fam.take k) x ++ [if memB fam[k] x then 49 else 48] := by
  unfold signL
  rw [List.take_succ_eq_append_getElem hk, List.map_append]
  rfl
def SgRel (fam : List (List Span)) (x : Int) (w : World) (s i : Value) (wr : World) : Prop := ∃ (k : Nat) (b : ByteArray), k ≤ fam.length ∧ i = .int .i64 k ∧ s = .string b ∧ b.data.toList = signL (fam.take k) x ∧ w = wr
def SignOut (fam : List (List Span)) (x : Int) (w : World) (e : Ending) (w' : World) : Prop := ∃ b : ByteArray, e = .returned (.string b) ∧ b.data.toList = signL fam x ∧ w = w'
theorem append_list (b : ByteArray) (u : UInt8) : (b ++ (⟨#[u]⟩ : ByteArray)).data.toList = b.data.toList ++ [u] := by
  rw [ByteArray.data_append]
  simp
set_option maxHeartbeats 2000000 in
theorem sign_any (A : Option Addr) (c : Nat) (fam : List (List Span)) (x : Int) (w : World) (h : RGs w A fam.length fam) (hl : fam.length ≤ 1000000) (hs : ∀ l ∈ fam, l.length ≤ 1000000000) :
    Calls Try.prog 56 #[.slice A fam.length c, .int .i64 x] w (SignOut fam x w) := by
  have H := Lib.hid h
  have HS := Lib.hid hs
  clear h hs
  go_enter Try.func56, Try.ntmps56
  go_wp2_with (fail)
  go_loopw [5, 6] (fun s i wr => SgRel fam x w s i wr) (fun _ i _ => fam.length - (intOf i).toNat)
  case atStart => exact ⟨0, _, Nat.zero_le _, rfl, rfl, rfl, rfl⟩
  case round =>
    obtain ⟨k, bs, hk, rfl, rfl, hbs, rfl⟩ := hrel
    have HBS := Lib.hid hbs
    clear hbs
    by_cases hlt : k < fam.length
    · obtain ⟨b, off, Aj, cj, hA, hbB, hcj, hrj, _, _⟩ := H.out.at_ hlt
      have HC := Lib.hid (rhas_any Aj fam[k].length cj fam[k] x w hrj (by have := HS.out _ (List.getElem_mem hlt); omega))
      have HN := Lib.hid (signL_succ (x := x) hlt)
      have hbl : bs.size = k := by
        have := congrArg List.length HBS.out
        simpa [signL, Nat.min_eq_left hk] using this
      obtain ⟨nk, hnk⟩ : ∃ nk, fam[k].length = nk := ⟨_, rfl⟩
      rw [hnk] at hcj HC
      rw [hA]
      clear hA hrj hnk
      by_cases hm : mem fam[k] x
      · rw [memB_t hm] at HC HN
        have HL := Lib.hid (show (bs ++ (⟨#[49]⟩ : ByteArray)).data.toList = signL (fam.take (k + 1)) x by rw [append_list, HBS.out, HN.out]; rfl)
        clear hm
        go_wp2_with (fail)
        refine HC.out.mono ?_
        rintro e w2 ⟨rfl, rfl⟩
        go_wp2_with (fail)
        go_roundw
        case rel => exact ⟨k + 1, _, by omega, by go_num, rfl, HL.out, rfl⟩
        case measure => simp [intOf]; omega
      · rw [memB_f hm] at HC HN
        have HL := Lib.hid (show (bs ++ (⟨#[48]⟩ : ByteArray)).data.toList = signL (fam.take (k + 1)) x by rw [append_list, HBS.out, HN.out]; rfl)
        clear hm
        go_wp2_with (fail)
        refine HC.out.mono ?_
        rintro e w2 ⟨rfl, rfl⟩
        go_wp2_with (fail)
        go_roundw
        case rel => exact ⟨k + 1, _, by omega, by go_num, rfl, HL.out, rfl⟩
        case measure => simp [intOf]; omega
    · have HL := Lib.hid (show bs.data.toList = signL fam x by have := HBS.out; rwa [List.take_of_length_le (by omega)] at this)
      go_wp2_with (fail)
      go_ret
      exact ⟨_, rfl, HL.out, rfl⟩
end Go.Proofs.Ytplpafoflibnlaa.Mi
