/- The walk of minterm.edgesOf. -/
import Derived.Test.YtgmkchkaceciiaaMiLay
namespace Go.Proofs.Ytgmkchkaceciiaa.Mi
set_option maxRecDepth 100000
open Go Go.RowKit Go.Shelf Go.Lib Go.Sort Go.Proofs.Ytgmkchkaceciiaa.Sp

theorem layF_snoc (ps : List (List Span)) (q : List Span) : ∀ i : Int, layF i (ps ++ [q]) = layF i ps ++ layE (i + ps.length) q := by
  induction ps with
  | nil => intro i; simp [layF]
  | cons p ps ih =>
    intro i
    simp only [List.cons_append, layF, ih, List.append_assoc, List.length_cons]
    congr 3
    omega
theorem layF_len (ps : List (List Span)) (h : ∀ p ∈ ps, p.length ≤ 1000) : ∀ i : Int, (layF i ps).length ≤ ps.length * 2000 := by
  induction ps with
  | nil => intro i; simp [layF]
  | cons p ps ih =>
    intro i
    have h1 := h p (List.mem_cons_self ..)
    have h2 := ih (fun q hq => h q (List.mem_cons_of_mem _ hq)) (i + 1)
    simp only [layF, List.length_append, lay_len, List.length_cons]
    omega
def ERel (fam : List (List Span)) (p0 : List Span) (w : World) (i : Value) (wr : World) : Prop :=
  ∃ (k : Nat) (v : Value) (ps : List (List Span)), k ≤ fam.length ∧ i = .int .i64 k ∧ ps.length = k ∧ (∀ (j : Nat) (h : j < ps.length) (h' : j < fam.length), Is ps[j] (mem fam[j])) ∧ wr.cell? ⟨w.heap.size, 0, none⟩ = some v ∧ wr.frozen? ⟨w.heap.size, 0, none⟩ = false ∧ OwnsE wr (w.heap.size + 1) v (layE 0 p0 ++ layF 1 ps) ∧ Below w.heap.size w wr ∧ w.heap.size + 1 ≤ wr.heap.size
theorem is_short {ps : List (List Span)} {fam : List (List Span)} (hl : ps.length ≤ fam.length) (hs : ∀ s ∈ fam, s.length ≤ 1000) (h : ∀ (j : Nat) (h : j < ps.length) (h' : j < fam.length), Is ps[j] (mem fam[j])) : ∀ p ∈ ps, p.length ≤ 1000 := fun p hp => by
  obtain ⟨j, hj, e⟩ := List.getElem_of_mem hp
  have := norm_few (h j hj (by omega))
  have h2 := hs _ (List.getElem_mem (show j < fam.length by omega))
  rw [e] at this
  omega
theorem edges_of {p0 : List Span} {all : List Span} {ps fam : List (List Span)} {E : List (Int × Int)} (h0 : Is p0 (mem all)) (hl : ps.length = fam.length) (h : ∀ (j : Nat) (h : j < ps.length) (h' : j < fam.length), Is ps[j] (mem fam[j])) (hp : E.Perm (layE 0 p0 ++ layF 1 ps)) (hs : SortedLo E) : Edges p0 ps E :=
  ⟨hp, hs, h0.1, fun p hp => by
    obtain ⟨j, hj, e⟩ := List.getElem_of_mem hp
    have := (h j hj (by omega)).1
    rw [e] at this
    exact this⟩
theorem sort_noneE (p : Option Addr) (cap : Nat) (fv : Value) (w : World) : Calls Try.prog 81 #[.slice p 0 cap, fv] w fun e w' => e = .returned (.tuple #[]) ∧ w = w' := by
  have hcon := AnyF.slices_SortFunc_none sortEd p cap fv w
  change Calls Try.prog 81 _ _ _ at hcon
  exact hcon.mono fun _ _ ⟨he, hw⟩ => ⟨he, hw.symm⟩
set_option maxHeartbeats 4000000 in
theorem edges_any (As : Option Addr) (cs : Nat) (all : List Span) (Af : Option Addr) (cf : Nat) (fam : List (List Span)) (w : World) (hall : RS w w.heap.size As all.length all) (hal : all.length ≤ 1000000) (hfam : RGs w Af fam.length fam) (hfl : fam.length ≤ 2000) (hfs : ∀ s ∈ fam, s.length ≤ 1000) :
    Calls Try.prog 52 #[.slice As all.length cs, .slice Af fam.length cf] w (EdgesOut all fam w) := by
  obtain ⟨w0, hw0⟩ : ∃ w0, w.alloc (.cells #[.slice none 0 0] 74) = w0 := ⟨_, rfl⟩
  have hs0 : w0.heap.size = w.heap.size + 1 := by rw [← hw0]; simp
  have hb0 : Below w.heap.size w w0 := by rw [← hw0]; exact (Below.refl _ _).alloc (Nat.le_refl _) _
  have hc0 : w0.cell? ⟨w.heap.size, 0, none⟩ = some (.slice none 0 0) := by rw [← hw0]; simp
  have hf0 : w0.frozen? ⟨w.heap.size, 0, none⟩ = false := by rw [← hw0]; simp
  have HL0 := Lib.hid (lay_any As cs all 0 w.heap.size (w.heap.size + 1) (.slice none 0 0) [] w0 (hall.belowM hb0) hal (by omega) (by omega) hc0 hf0 (World.ownsRow_nil _ _ _ _) (by simp))
  have HF := Lib.hid hfam
  have HFS := Lib.hid hfs
  have HB0 := Lib.hid hb0
  clear hall hfam hfs hb0 hc0 hf0
  go_enter Try.func52, Try.ntmps52
  go_wp2_with (fail)
  refine HL0.out.mono ?_
  rintro qq1 w1 ⟨v1, p0, rfl, hi1, hc1, hf1, ho1, hb1⟩
  rw [List.nil_append] at ho1
  have HI := Lib.hid hi1
  have hps := norm_few hi1
  have HST := Lib.hid (show ERel fam p0 w (.int .i64 0) w1 from ⟨0, v1, [], Nat.zero_le _, rfl, rfl, fun j h => by simp at h, hc1, hf1, by rw [show layF 1 [] = [] from rfl, List.append_nil]; exact ho1, HB0.out.trans hb1, by have := hb1.size; omega⟩)
  clear hi1 hc1 hf1 ho1 hb1
  go_wp2_with (fail)
  go_loopw [15] (fun i wr => ERel fam p0 w i wr) (fun i _ => fam.length - (intOf i).toNat)
  case atStart => exact HST.out
  case round =>
    obtain ⟨k, v, ps, hk, rfl, hpl, hips, hcv, hfz, ho, hb, hsz⟩ := hrel
    have HO := Lib.hid ho
    have HB := Lib.hid hb
    have HIPS := Lib.hid hips
    have hlen : (layE 0 p0 ++ layF 1 ps).length ≤ 1000000000000 := by
      have := layF_len ps (is_short (by omega) HFS.out hips) 1
      rw [List.length_append, lay_len]
      omega
    have hlen2 : (layE 0 p0 ++ layF 1 ps).length ≤ 1000000000 := by
      have := layF_len ps (is_short (by omega) HFS.out hips) 1
      rw [List.length_append, lay_len]
      omega
    by_cases hlt : k < fam.length
    · obtain ⟨b, off, hA, hbB, hcc⟩ := (HF.out.belowM hb).2 (by omega)
      obtain ⟨Aj, cj, hcj, hrj, _, _⟩ := hcc k hlt
      subst hA
      have hsl := HFS.out _ (List.getElem_mem hlt)
      have hw1 : IntKind.i64.wrap ((k : Int) + 1) = (k : Int) + 1 := IntWalk.i64_in _ (by omega)
      have HL := Lib.hid (lay_any Aj cj fam[k] ((k : Int) + 1) w.heap.size (w.heap.size + 1) v _ wr hrj (by omega) (by omega) hsz hcv hfz HO.out hlen)
      have HPL := Lib.hid hpl
      clear hcc hrj ho hb hips hpl
      go_wp2_with (fail)
      refine HL.out.mono ?_
      rintro qq2 w2 ⟨v2, p, rfl, hi2, hc2, hf2, ho2, hb2⟩
      have hs2 := hb2.size
      rw [List.append_assoc, show layF 1 ps ++ layE ((k : Int) + 1) p = layF 1 (ps ++ [p]) from by rw [layF_snoc, HPL.out]; congr 2; omega] at ho2
      have HN := Lib.hid (show ∀ (j : Nat) (h : j < (ps ++ [p]).length) (h' : j < fam.length), Is (ps ++ [p])[j] (mem fam[j]) from fun j h h' => by
        by_cases hj : j < ps.length
        · rw [List.getElem_append_left hj]
          exact HIPS.out j hj h'
        · have hpl2 := HPL.out
          rw [List.length_append, List.length_singleton] at h
          obtain rfl : j = k := by omega
          rw [List.getElem_append_right (by omega)]
          simp only [List.getElem_singleton]
          exact hi2)
      have HF2 := Lib.hid (And.intro hc2 (And.intro hf2 (And.intro ho2 (HB.out.trans hb2))))
      clear hi2 hc2 hf2 ho2 hb2 hcv hfz hcj
      go_wp2_with (fail)
      go_roundw
      case rel => exact ⟨k + 1, v2, ps ++ [p], by omega, by go_num, by rw [List.length_append, HPL.out]; rfl, HN.out, HF2.out.1, HF2.out.2.1, HF2.out.2.2.1, HF2.out.2.2.2, by omega⟩
      case measure => simp [intOf]; omega
    · have hkl : k = fam.length := by omega
      have HPL := Lib.hid (hpl.trans hkl)
      clear hb hips hkl hpl
      obtain ⟨E, hE⟩ : ∃ E, layE 0 p0 ++ layF 1 ps = E := ⟨_, rfl⟩
      rw [hE] at HO hlen hlen2
      have HE := Lib.hid hE
      clear ho hE
      by_cases he : E = []
      · have ho2 := HO.out
        rw [he] at ho2
        have HE2 := Lib.hid (HE.out.trans he)
        obtain ⟨A2, c2, hv2⟩ := own_shape ho2
        subst hv2
        simp only [List.length_nil] at hcv ho2
        have HO3 := Lib.hid (show OwnsE wr w.heap.size (.slice A2 0 c2) [] from ownE_mono ho2 (by omega))
        clear ho2
        go_wp2_with (fail)
        refine (sort_noneE A2 c2 _ _).mono ?_
        rintro qq3 w3 ⟨rfl, hw3⟩
        subst hw3
        go_wp2_with (fail)
        go_ret
        exact ⟨_, [], p0, ps, rfl, HI.out, HPL.out, HIPS.out, edges_of HI.out HPL.out HIPS.out (by rw [HE2.out]) List.Pairwise.nil, by simp, HO3.out, HB.out⟩
      · obtain ⟨g, cap, hv, hbg, hgl⟩ := World.ownsRow.form HO.out (by cases E; exact absurd rfl he; simp)
        subst hv
        have HSO := Lib.hid (sort_any (w.heap.size + 1) g cap E wr HO.out hsz (by omega))
        go_wp2_with (fail)
        refine HSO.out.mono ?_
        rintro qq3 w3 ⟨rfl, d', hp, hs, ho1, hb1⟩
        have hc3 : w3.cell? ⟨w.heap.size, 0, none⟩ = some (.slice (some ⟨g, 0, none⟩) E.length cap) := (hb1.cell (show w.heap.size < w.heap.size + 1 by omega)).trans hcv
        have hlp := hp.length_eq
        have HP := Lib.hid hp
        have HS := Lib.hid hs
        have HO4 := Lib.hid (show OwnsE w3 w.heap.size (.slice (some ⟨g, 0, none⟩) E.length cap) d' from by rw [← hlp]; exact ownE_mono ho1 (by omega))
        have HB4 := Lib.hid (HB.out.trans (hb1.mono (by omega)))
        clear hp hs ho1 hb1 hlp hcv hfz
        go_wp2_with (fail)
        go_ret
        exact ⟨_, d', p0, ps, rfl, HI.out, HPL.out, HIPS.out, edges_of HI.out HPL.out HIPS.out (by rw [HE.out]; exact HP.out) HS.out, by have := HP.out.length_eq; omega, HO4.out, HB4.out⟩
end Go.Proofs.Ytgmkchkaceciiaa.Mi
