/- The walk of (*pack.reader).terms. -/
import Derived.Test.YtgmkchkaceciiaaPkReadP
namespace Go.Proofs.Ytgmkchkaceciiaa.Pk
set_option maxRecDepth 100000
open Go Go.RowKit Go.Proofs.Ytgmkchkaceciiaa.Sp Go.Proofs.Ytgmkchkaceciiaa.Pa Go.Proofs.Ytgmkchkaceciiaa.Te Go.Proofs.Ytgmkchkaceciiaa.Mi Go.Proofs.Ytgmkchkaceciiaa.De Go.Proofs.Ytgmkchkaceciiaa.Wo

/-- Reading never leaves more than there was. -/
def LeftLe {α : Type} (f : Rd → α × Rd) : Prop := ∀ s, (f s).2.left.length ≤ s.left.length
theorem LeftLe.num : LeftLe rdNum := rd_left_le
theorem LeftLe.then_ {α β : Type} {f : Rd → α × Rd} {g : α → Rd → β × Rd} (hf : LeftLe f) (hg : ∀ a, LeftLe (g a)) : LeftLe (rdThen f g) := fun s => Nat.le_trans (hg _ _) (hf s)
theorem LeftLe.many {α : Type} {f : Rd → α × Rd} (hf : LeftLe f) : ∀ n, LeftLe (rdMany f n)
  | 0, _ => Nat.le_refl _
  | n + 1, s => Nat.le_trans (LeftLe.many hf n _) (hf s)
theorem LeftLe.list {α : Type} {f : Rd → α × Rd} (hf : LeftLe f) (m : Rd → Nat) : LeftLe (rdList m f) := fun s => Nat.le_trans (LeftLe.many hf _ _) (rdCount_left _ s)
theorem LeftLe.map {α β : Type} {f : Rd → α × Rd} (hf : LeftLe f) (h : α → β) : LeftLe (rdMap h f) := fun s => hf s
theorem LeftLe.part : LeftLe rdPart := LeftLe.num.then_ fun _ => LeftLe.num.then_ fun _ => LeftLe.num.then_ fun _ => LeftLe.num
theorem LeftLe.parts : LeftLe rdParts := LeftLe.part.list _
theorem LeftLe.term : LeftLe rdTerm := (LeftLe.num.then_ fun _ => LeftLe.num.then_ fun _ => LeftLe.num.then_ fun _ => LeftLe.num.then_ fun _ => LeftLe.num.then_ fun _ => LeftLe.parts).map _
theorem LeftLe.terms : LeftLe rdTerms := LeftLe.term.list _
theorem parts_len_le (s : Rd) (hl : s.left.length ≤ 1099511627776) : (rdParts s).1.length ≤ maxLen := by
  have := rdList_length (fun s => s.left.length / 16) rdPart s
  unfold rdParts maxLen
  omega
set_option maxHeartbeats 8000000 in
theorem rterms_any (x B0 : Nat) (s : Rd) (w : World) (h : RdS x B0 s w) (hl : s.left.length ≤ 1099511627776) :
    Calls Try.prog 90 #[.pointer (some ⟨x, 0, none⟩)] w (ReadR eTerm x B0 (rdTerms s) w) := by
  have hxl := h.lt
  have HC := Lib.hid (rcount_any x B0 64 s w h)
  have hle := rdCount_le 64 s
  obtain ⟨n, hn⟩ : ∃ n, (rdCount 64 s).1 = n := ⟨_, rfl⟩
  obtain ⟨s1, hs1⟩ : ∃ s1, (rdCount 64 s).2 = s1 := ⟨_, rfl⟩
  have hl1 : s1.left.length ≤ 1099511627776 := by rw [← hs1]; exact Nat.le_trans (rdCount_left 64 s) hl
  have HLM := Lib.hid (fun k => show (rdMany rdTerm k s1).2.left.length ≤ 1099511627776 from Nat.le_trans (LeftLe.term.many k s1) hl1)
  have HR := Lib.hid (show rdTerms s = rdMany rdTerm n s1 from by unfold rdTerms rdList; simp only [hn, hs1])
  have HN := Lib.hid hn
  have HS1 := Lib.hid hs1
  rw [hn] at hle
  clear h hn hs1 hl1
  go_enter Try.func90, Try.ntmps90
  go_wp2_with (fail)
  refine HC.out.mono ?_
  rintro e w1 ⟨rfl, hr1, hk1⟩
  rw [HS1.out] at hr1
  rw [HN.out]
  have HR1 := Lib.hid hr1
  have HK1 := Lib.hid hk1
  clear hr1 hk1
  go_wp2_with (fail)
  go_loopw [3, 6] (fun v iv wr => RlRel eTerm rdTerm n x B0 s1 w v iv wr) (fun _ i _ => n - (intOf i).toNat)
  case atStart => exact ⟨0, Nat.zero_le _, rfl, RowE.nil_ _ _, HR1.out, HK1.out⟩
  case round =>
    obtain ⟨k, hk, rfl, hrow, hs, hkr⟩ := hrel
    obtain ⟨Av, cv, hv⟩ := hrow.shape
    subst hv
    by_cases hlt : k < n
    · obtain ⟨sk, hsk⟩ : ∃ sk, (rdMany rdTerm k s1).2 = sk := ⟨_, rfl⟩
      have HNX := Lib.hid (rdMany_snoc rdTerm k s1)
      have hlen := rdMany_length rdTerm k s1
      have hsl := HLM.out k
      obtain ⟨lk, hlk⟩ : ∃ lk, (rdMany rdTerm k s1).1 = lk := ⟨_, rfl⟩
      rw [hsk] at hs hsl
      rw [hlk] at hrow hlen
      have HSK := Lib.hid hsk
      have HLK := Lib.hid hlk
      have HROW := Lib.hid hrow
      have HKR := Lib.hid hkr
      have hzw := hkr.size
      have HLEN := Lib.hid hlen
      have HSL := Lib.hid hsl
      have C1 := Lib.hid (rnumber_any x B0 sk wr hs)
      rw [hlk]
      clear hlen hsk hlk hrow hkr hs hsl
      go_wp2_with (fail)
      refine C1.out.mono ?_
      rintro e w2 ⟨rfl, hs2, hk2⟩
      have HQ2 := Lib.hid (hk2)
      have C2 := Lib.hid (rnumber_any x B0 _ w2 hs2)
      clear hs2 hk2
      go_wp2_with (fail)
      refine C2.out.mono ?_
      rintro e w3 ⟨rfl, hs3, hk3⟩
      have HQ3 := Lib.hid (HQ2.out.trans hk3)
      have C3 := Lib.hid (rnumber_any x B0 _ w3 hs3)
      clear hs3 hk3
      go_wp2_with (fail)
      refine C3.out.mono ?_
      rintro e w4 ⟨rfl, hs4, hk4⟩
      have HQ4 := Lib.hid (HQ3.out.trans hk4)
      have C4 := Lib.hid (rnumber_any x B0 _ w4 hs4)
      clear hs4 hk4
      go_wp2_with (fail)
      refine C4.out.mono ?_
      rintro e w5 ⟨rfl, hs5, hk5⟩
      have HQ5 := Lib.hid (HQ4.out.trans hk5)
      have C5 := Lib.hid (rnumber_any x B0 _ w5 hs5)
      clear hs5 hk5
      go_wp2_with (fail)
      refine C5.out.mono ?_
      rintro e w6 ⟨rfl, hs6, hk6⟩
      have HQ6 := Lib.hid (HQ5.out.trans hk6)
      have C6 := Lib.hid (rparts_any x B0 _ w6 hs6 (by have := HSL.out; have h1 := LeftLe.num (rdNum (rdNum (rdNum (rdNum sk).2).2).2).2; have h2 := LeftLe.num (rdNum (rdNum (rdNum sk).2).2).2; have h3 := LeftLe.num (rdNum (rdNum sk).2).2; have h4 := LeftLe.num (rdNum sk).2; have h5 := LeftLe.num sk; omega))
      clear hs6 hk6
      go_wp2_with (fail)
      refine C6.out.mono ?_
      rintro e w7 ⟨Ap, cp, rfl, hf, hcp, hs7, hk7⟩
      have HQ7 := Lib.hid (HQ6.out.trans hk7)
      have hml := parts_len_le (rdNum (rdNum (rdNum (rdNum (rdNum sk).2).2).2).2).2 (by have := HSL.out; have h1 := LeftLe.num (rdNum (rdNum (rdNum (rdNum sk).2).2).2).2; have h2 := LeftLe.num (rdNum (rdNum (rdNum sk).2).2).2; have h3 := LeftLe.num (rdNum (rdNum sk).2).2; have h4 := LeftLe.num (rdNum sk).2; have h5 := LeftLe.num sk; omega)
      obtain ⟨tm, htm⟩ : ∃ tm, (rdTerm sk).1 = tm := ⟨_, rfl⟩
      have hp0 : (rdNum sk).1 = tm.b := by rw [← htm]; rfl
      have hp1 : (rdNum (rdNum sk).2).1 = tm.d := by rw [← htm]; rfl
      have hp2 : (rdNum (rdNum (rdNum sk).2).2).1 = tm.t := by rw [← htm]; rfl
      have hp3 : (rdNum (rdNum (rdNum (rdNum sk).2).2).2).1 = tm.u := by rw [← htm]; rfl
      have hp4 : (rdNum (rdNum (rdNum (rdNum (rdNum sk).2).2).2).2).1 = tm.s := by rw [← htm]; rfl
      have hp5 : (rdParts (rdNum (rdNum (rdNum (rdNum (rdNum sk).2).2).2).2).2).1 = tm.ps := by rw [← htm]; rfl
      have HS7 := Lib.hid (show RdS x B0 (rdTerm sk).2 w7 from hs7)
      rw [hp5] at hf hcp hml
      rw [hp0, hp1, hp2, hp3, hp4, hp5]
      have HTM := Lib.hid htm
      have hz6 : wr.heap.size ≤ w6.heap.size := HQ6.out.size
      have hnb : ∀ b, w6.heap.size ≤ b → w.heap.size ≤ b ∧ (Value.slice Av lk.length cv).ownBlock ≠ some b := fun b hb => ⟨by omega, fun q => by have := (HROW.out.lt b q).2; omega⟩
      obtain ⟨ws, hws⟩ : ∃ ws, w7.alloc (.cells #[.int .i64 tm.b, .int .i64 tm.d, .int .i64 tm.t, .int .i64 tm.u, .int .i64 tm.s, .slice Ap tm.ps.length cp] 114) = ws := ⟨_, rfl⟩
      have hbs : Below w7.heap.size w7 ws := by rw [← hws]; exact (Below.refl _ _).alloc (Nat.le_refl _) _
      have HNS := Lib.hid (show ws.heap[w7.heap.size]? = some (.cells #[.int .i64 tm.b, .int .i64 tm.d, .int .i64 tm.t, .int .i64 tm.u, .int .i64 tm.s, .slice Ap tm.ps.length cp] 114 (0, 0)) from by rw [← hws]; exact heap_alloc_new w7 _)
      have HOK := Lib.hid (show eTerm.ok (fun b => w.heap.size ≤ b ∧ (Value.slice Av lk.length cv).ownBlock ≠ some b) ws tm [.int .i64 tm.b, .int .i64 tm.d, .int .i64 tm.t, .int .i64 tm.u, .int .i64 tm.s, .slice Ap tm.ps.length cp] from ⟨Ap, cp, rfl, hf.keep (KeepQ.below hbs) (fun b hb _ => hnb b hb), hcp, hml⟩)
      have HKS := Lib.hid (HQ7.out.trans (KeepR.below hbs))
      have HRS := Lib.hid (HROW.out.keep (HKS.out.q (p := fun b => w.heap.size ≤ b) (fun b hb => by omega)))
      have HSS := Lib.hid (HS7.out.keep hbs)
      have hzs : w.heap.size ≤ ws.heap.size := Nat.le_trans hzw HKS.out.size
      clear hs7 hk7 hp0 hp1 hp2 hp3 hp4 hp5 htm hbs hf hnb
      go_wp2_with (at_builtin; refine wpList_append_E (e := eTerm) rfl _ _ rfl rfl HRS.out ⟨w7.heap.size, 0, none⟩ 1 (y := tm) (cs := [.int .i64 tm.b, .int .i64 tm.d, .int .i64 tm.t, .int .i64 tm.u, .int .i64 tm.s, .slice Ap tm.ps.length cp]) rfl HOK.out (World.news_of_block HNS.out) (by have := HLEN.out; omega) hzs ?_; intro v8 w8 hrow8 hg8 hon8; have HREL := Lib.hid (show RlRel eTerm rdTerm n x B0 s1 w v8 (.int .i64 ((k : Int) + 1)) w8 from ⟨k + 1, by omega, by go_num, by rw [HNX.out, HSK.out, HLK.out, HTM.out]; exact hrow8, by rw [HNX.out, HSK.out]; exact HSS.out.grown hg8 (fun g e => by have := (HRS.out.lt g e).1; omega), (HKR.out.trans HKS.out).grown hg8 (fun g e => (HRS.out.lt g e).1)⟩); obtain ⟨A8, c8, hv8⟩ := hrow8.shape; subst hv8; clear hrow8 hg8 hon8)
      go_roundw
      case rel => exact (by have h9 := HREL.out; rw [List.length_append, List.length_singleton] at h9; exact h9)
      case measure => simp [intOf]; omega
    · have HF := Lib.hid (show ReadR eTerm x B0 (rdTerms s) w (.returned (.slice Av (rdMany rdTerm k s1).1.length cv)) wr from by
        obtain rfl : k = n := by omega
        rw [HR.out]
        obtain ⟨A', c', e, hf, hcc⟩ := hrow.far
        injection e with e1 _ e3
        subst e1 e3
        exact ⟨Av, cv, rfl, hf, hcc, hs, hkr⟩)
      clear hrow hs hkr
      go_wp2_with (fail)
      go_ret
      exact HF.out
end Go.Proofs.Ytgmkchkaceciiaa.Pk
