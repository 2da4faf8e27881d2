/- The frame of the table statements: an argument that is a table, opened. -/
import Derived.Test.YtboaifdkoemnbaaJ4
import Derived.Test.YtboaifdkoemnbaaJ5
import Derived.Test.YtboaifdkoemnbaaJ23
namespace Go.Proofs.Ytboaifdkoemnbaa.Pk
set_option maxRecDepth 100000
open Go Go.RowKit Go.Joins Go.ChangeShapes Go.WideShapes Go.ChangeAt Go.Deep Go.Proofs.Ytboaifdkoemnbaa.Sp Go.Proofs.Ytboaifdkoemnbaa.Pa Go.Proofs.Ytboaifdkoemnbaa.Te Go.Proofs.Ytboaifdkoemnbaa.Mi Go.Proofs.Ytboaifdkoemnbaa.De

theorem readableT : Try.prog.readableRec 27 = true := by kernel_rfl
theorem rowT : 27 < Try.prog.types.size := of_decide_eq_true (by kernel_rfl)
theorem cellsNode : Try.prog.cellsOf 45 = 3 := by kernel_rfl
theorem cellsAct : Try.prog.cellsOf 49 = 3 := by kernel_rfl
theorem cellsTs : Try.prog.cellsOf 47 = 1 := by kernel_rfl
theorem cellsTab : Try.prog.cellsOf 27 = 259 := by kernel_rfl
theorem cellsCls : Try.prog.cellsOf 22 = 256 := by kernel_rfl
theorem cellsNs : Try.prog.cellsOf 23 = 1 := by kernel_rfl
theorem cellsAs : Try.prog.cellsOf 24 = 1 := by kernel_rfl
theorem cellsEs : Try.prog.cellsOf 25 = 1 := by kernel_rfl
theorem cellsU : Try.prog.cellsOf 5 = 1 := by kernel_rfl
theorem cellsI : Try.prog.cellsOf 3 = 1 := by kernel_rfl
theorem oneNode : ∃ fs : Array Field, Try.prog.underlying 45 = some (.struct fs) ∧ oneCellFields Try.prog fs = true ∧ (∃ f, fs[0]? = some f ∧ f.type = 3) ∧ (∃ f, fs[1]? = some f ∧ f.type = 43) ∧ ∃ f, fs[2]? = some f ∧ f.type = 3 := ⟨_, Try.underlying45, by kernel_rfl, ⟨_, rfl, rfl⟩, ⟨_, rfl, rfl⟩, ⟨_, rfl, rfl⟩⟩
theorem oneAct : ∃ fs : Array Field, Try.prog.underlying 49 = some (.struct fs) ∧ oneCellFields Try.prog fs = true ∧ (∃ f, fs[0]? = some f ∧ f.type = 3) ∧ (∃ f, fs[1]? = some f ∧ f.type = 3) ∧ ∃ f, fs[2]? = some f ∧ f.type = 47 := ⟨_, Try.underlying49, by kernel_rfl, ⟨_, rfl, rfl⟩, ⟨_, rfl, rfl⟩, ⟨_, rfl, rfl⟩⟩
theorem tabFields : ∃ fs : Array Field, Try.prog.underlying 27 = some (.struct fs) ∧ fs.size = 4 ∧ (∃ f, fs[0]? = some f ∧ f.type = 22 ∧ f.offset = 0) ∧ (∃ f, fs[1]? = some f ∧ f.type = 23 ∧ f.offset = 256) ∧ (∃ f, fs[2]? = some f ∧ f.type = 24 ∧ f.offset = 257) ∧ ∃ f, fs[3]? = some f ∧ f.type = 25 ∧ f.offset = 258 := ⟨_, Try.underlying27, rfl, ⟨_, rfl, rfl, rfl⟩, ⟨_, rfl, rfl, rfl⟩, ⟨_, rfl, rfl, rfl⟩, ⟨_, rfl, rfl, rfl⟩⟩
section
variable {H : Type} {enc : TypeId × Value → H} {W : World} {t : TypeId} {fs : Array Field} {fuel : Nat} {cs : List Value} {x : DataW H × List MemPlace}
theorem field_of (hs : Try.prog.underlying t = some (.struct fs)) (hone : oneCellFields Try.prog fs = true) (hf : DataW.trod enc Try.prog W 0 (fun _ => true) true fuel t cs = some x) {j : Nat} {e : TypeId} (hj : ∃ f, fs[j]? = some f ∧ f.type = e) {v : Value} (hv : cs[j]? = some v) :
    ∃ (n : Nat) (y : DataW H × List MemPlace), DataW.trod enc Try.prog W 0 (fun _ => true) true n e [v] = some y := by
  obtain ⟨f, h1, h2⟩ := hj
  obtain ⟨n, y, ht⟩ := field_read hs hone hf h1 hv
  exact ⟨n, y, by rw [← h2]; exact ht⟩
end
section
variable {H : Type} {enc : TypeId × Value → H} {W : World} {fuel : Nat} {v : Value} {x : DataW H × List MemPlace}
/-- A list out of a slice of structs of k cells, one by one. -/
theorem open_structs {t e : TypeId} {k : Nat} {α : Type} [Inhabited α] (ht : Try.prog.underlying t = some (.slice e)) (hk : Try.prog.cellsOf e = k) (hk0 : 0 < k) (Q : (Nat → Option Value) → α → Prop)
    (hq : ∀ (n : Nat) (cs : List Value) (y : DataW H × List MemPlace) (f : Nat → Option Value), cs.length = k → (∀ j, j < k → f j = cs[j]?) → DataW.trod enc Try.prog W 0 (fun _ => true) true n e cs = some y → ∃ a : α, Q f a)
    (hf : DataW.trod enc Try.prog W 0 (fun _ => true) true fuel t [v] = some x) :
    ∃ (A : Option Addr) (c : Nat) (l : List α), v = .slice A l.length c ∧ l.length ≤ c ∧ l.length ≤ maxLen ∧ (A = none → c = 0) ∧ (0 < l.length → ∃ b off, A = some ⟨b, off, none⟩ ∧ b < W.heap.size ∧ ∀ (j : Nat) (h : j < l.length), Q (fun i => W.cell? ⟨b, off + j * k + i, none⟩) l[j]) := by
  rcases open_slice ht hf with ⟨hcs, _⟩ | ⟨a, len, cap, m, n, D, Pl, hcs, _, hl, hm, hmm, _, hi⟩
  · injection hcs with hcs
    exact ⟨none, 0, [], hcs, Nat.le_refl _, Nat.zero_le _, fun _ => rfl, fun h => absurd h (by simp)⟩
  · injection hcs with hcs
    subst hcs
    simp only [if_true] at hmm
    subst hmm
    have key : ∀ i, i < len → ∃ p : α, Q (fun j => W.cell? ((a.add (i * k)).add j)) p ∧ ∃ v, W.cell? ((a.add (i * k)).add 0) = some v := fun i hil => by
      obtain ⟨cs, hc, hT⟩ := hi i (by omega)
      rw [hk] at hc
      obtain ⟨_, hcl, hat⟩ := World.cells?_some hc
      obtain ⟨p, hp⟩ := hq _ cs _ (fun j => W.cell? ((a.add (i * k)).add j)) hcl hat hT
      exact ⟨p, hp, cs[0]'(by omega), by rw [hat 0 hk0, List.getElem?_eq_getElem (by omega)]⟩
    obtain ⟨F, hF⟩ := choose_lt key
    have hlen : ((List.range len).map F).length = len := by simp
    refine ⟨some a, m, (List.range len).map F, by rw [hlen], by rw [hlen]; exact hl, by rw [hlen]; omega, (fun h => by cases h), fun hn => ?_⟩
    rw [hlen] at hn
    obtain ⟨b, off, spot⟩ := a
    obtain ⟨v0, hc0⟩ := (hF 0 hn).2
    have hspot : spot = none := by simpa [Addr.add] using World.cell?_spot hc0
    subst hspot
    have hb := World.block_lt_of_cell? W _ hc0
    simp only [add_plain] at hb
    refine ⟨b, off, rfl, hb, fun j hj => ?_⟩
    rw [hlen] at hj
    have hQ := (hF j hj).1
    simp only [add_plain] at hQ
    simp only [List.getElem_map, List.getElem_range]
    exact hQ
theorem open_terms1 (hf : DataW.trod enc Try.prog W 0 (fun _ => true) true fuel 47 [v] = some x) :
    ∃ (A : Option Addr) (c : Nat) (l : List TmL), v = .slice A l.length c ∧ RTm W A l.length l ∧ l.length ≤ c ∧ l.length ≤ maxLen ∧ (A = none → c = 0) := by
  obtain ⟨fs, hs, hone, hfi, hf5⟩ := oneTerm
  obtain ⟨A, c, l, h1, h2, h3, h5, h4⟩ := open_structs (α := TmL) Try.underlying47 cellsTerm (by omega) (fun f a => f 0 = some (.int .i64 a.b) ∧ f 1 = some (.int .i64 a.d) ∧ f 2 = some (.int .i64 a.t) ∧ f 3 = some (.int .i64 a.u) ∧ f 4 = some (.int .i64 a.s) ∧ ∃ A' c', f 5 = some (.slice A' a.ps.length c') ∧ RP W W.heap.size A' a.ps.length a.ps ∧ a.ps.length ≤ c' ∧ a.ps.length ≤ maxLen)
    (fun n cs y f hcl hat hT => by
      match cs, hcl with
      | [c0, c1, c2, c3, c4, c5], _ =>
        obtain ⟨q0, rfl⟩ := field_int hs hone hT (hfi 0 (by omega)) rfl
        obtain ⟨q1, rfl⟩ := field_int hs hone hT (hfi 1 (by omega)) rfl
        obtain ⟨q2, rfl⟩ := field_int hs hone hT (hfi 2 (by omega)) rfl
        obtain ⟨q3, rfl⟩ := field_int hs hone hT (hfi 3 (by omega)) rfl
        obtain ⟨q4, rfl⟩ := field_int hs hone hT (hfi 4 (by omega)) rfl
        obtain ⟨n', y', ht⟩ := field_of hs hone hT hf5 rfl
        obtain ⟨A', c', l', rfl, hr, hc, hm⟩ := open_parts ht
        exact ⟨⟨q0, q1, q2, q3, q4, l'⟩, hat 0 (by omega), hat 1 (by omega), hat 2 (by omega), hat 3 (by omega), hat 4 (by omega), A', c', hat 5 (by omega), hr, hc, hm⟩) hf
  exact ⟨A, c, l, h1, ⟨rfl, h4⟩, h2, h3, h5⟩
theorem open_int1 (hf : DataW.trod enc Try.prog W 0 (fun _ => true) true fuel 43 [v] = some x) :
    ∃ (A : Option Addr) (c : Nat) (l : List Int), v = .slice A l.length c ∧ RI W A l.length l ∧ l.length ≤ c ∧ l.length ≤ maxLen := by
  rcases open_ints Try.underlying43 Try.underlying3 cellsI hf with ⟨hcs, hx⟩ | ⟨a, len, cap, zs, hcs, _, hl, hm, hz, hx, hcell, hwz⟩
  · injection hcs with hcs
    exact ⟨none, 0, [], hcs, RI.nil_ _ _, Nat.le_refl _, Nat.zero_le _⟩
  · injection hcs with hcs
    subst hcs
    simp only [if_true] at hz
    have hlen : (zs.take len).length = len := by rw [List.length_take]; omega
    refine ⟨some a, cap, zs.take len, by rw [hlen], ⟨rfl, fun hn => ?_, fun x hx2 => ?_⟩, by rw [hlen]; exact hl, by rw [hlen]; omega⟩
    · rw [hlen] at hn
      obtain ⟨b, off, rfl, hc⟩ := ints_at hcell (by omega)
      have hb := World.block_lt_of_cell? W _ (hc 0 (by omega))
      refine ⟨b, off, rfl, hb, fun j hj => ?_⟩
      rw [hlen] at hj
      have := hc j (by omega)
      rw [List.getD_eq_getElem?_getD, List.getElem?_eq_getElem (show j < zs.length by omega)] at this
      rw [List.getElem_take]
      exact this
    · have := hwz x (List.mem_of_mem_take hx2)
      simpa [IntR, Lit.wf, IntKind.min, IntKind.max, IntKind.signed, IntKind.bits] using this
theorem open_nodes (hf : DataW.trod enc Try.prog W 0 (fun _ => true) true fuel 23 [v] = some x) :
    ∃ (A : Option Addr) (c : Nat) (l : List NdL), v = .slice A l.length c ∧ RNd W A l.length l ∧ l.length ≤ c ∧ l.length ≤ maxLen := by
  obtain ⟨fs, hs, hone, hf0, hf1, hf2⟩ := oneNode
  obtain ⟨A, c, l, h1, h2, h3, _, h4⟩ := open_structs (α := NdL) Try.underlying23 cellsNode (by omega) (fun f a => f 0 = some (.int .i64 a.1) ∧ f 2 = some (.int .i64 a.2.1) ∧ ∃ A' c', f 1 = some (.slice A' a.2.2.length c') ∧ RI W A' a.2.2.length a.2.2 ∧ a.2.2.length ≤ c' ∧ a.2.2.length ≤ maxLen)
    (fun n cs y f hcl hat hT => by
      match cs, hcl with
      | [c0, c1, c2], _ =>
        obtain ⟨q0, rfl⟩ := field_int hs hone hT hf0 rfl
        obtain ⟨q2, rfl⟩ := field_int hs hone hT hf2 rfl
        obtain ⟨n1, y1, ht1⟩ := field_of hs hone hT hf1 rfl
        obtain ⟨A', c', l', rfl, hr, hc, hm⟩ := open_int1 ht1
        exact ⟨(q0, q2, l'), hat 0 (by omega), hat 2 (by omega), A', c', hat 1 (by omega), hr, hc, hm⟩) hf
  exact ⟨A, c, l, h1, ⟨rfl, h4⟩, h2, h3⟩
theorem open_acts (hf : DataW.trod enc Try.prog W 0 (fun _ => true) true fuel 24 [v] = some x) :
    ∃ (A : Option Addr) (c : Nat) (l : List AcL), v = .slice A l.length c ∧ RAc W A l.length l ∧ l.length ≤ c ∧ l.length ≤ maxLen := by
  obtain ⟨fs, hs, hone, hf0, hf1, hf2⟩ := oneAct
  obtain ⟨A, c, l, h1, h2, h3, _, h4⟩ := open_structs (α := AcL) Try.underlying24 cellsAct (by omega) (fun f a => f 0 = some (.int .i64 a.1) ∧ f 1 = some (.int .i64 a.2.1) ∧ ∃ A' c', f 2 = some (.slice A' a.2.2.length c') ∧ RTm W A' a.2.2.length a.2.2 ∧ a.2.2.length ≤ c' ∧ a.2.2.length ≤ maxLen)
    (fun n cs y f hcl hat hT => by
      match cs, hcl with
      | [c0, c1, c2], _ =>
        obtain ⟨q0, rfl⟩ := field_int hs hone hT hf0 rfl
        obtain ⟨q1, rfl⟩ := field_int hs hone hT hf1 rfl
        obtain ⟨n2, y2, ht2⟩ := field_of hs hone hT hf2 rfl
        obtain ⟨A', c', l', rfl, hr, hc, hm, _⟩ := open_terms1 ht2
        exact ⟨(q0, q1, l'), hat 0 (by omega), hat 1 (by omega), A', c', hat 2 (by omega), hr, hc, hm⟩) hf
  exact ⟨A, c, l, h1, ⟨rfl, h4⟩, h2, h3⟩
theorem open_ends (hf : DataW.trod enc Try.prog W 0 (fun _ => true) true fuel 25 [v] = some x) :
    ∃ (A : Option Addr) (c : Nat) (l : List (List TmL)), v = .slice A l.length c ∧ REn W A l.length l ∧ l.length ≤ c ∧ l.length ≤ maxLen := by
  obtain ⟨A, c, l, h1, h2, h3, _, h4⟩ := open_structs (α := List TmL) Try.underlying25 cellsTs (by omega) (fun f a => ∃ A' c', f 0 = some (.slice A' a.length c') ∧ RTm W A' a.length a ∧ a.length ≤ c' ∧ a.length ≤ maxLen)
    (fun n cs y f hcl hat hT => by
      match cs, hcl with
      | [c0], _ =>
        obtain ⟨A', c', l', rfl, hr, hc, hm, _⟩ := open_terms1 hT
        exact ⟨l', A', c', hat 0 (by omega), hr, hc, hm⟩) hf
  exact ⟨A, c, l, h1, ⟨rfl, fun hn => by
    obtain ⟨b, off, e, hlt, hq⟩ := h4 hn
    refine ⟨b, off, e, hlt, fun j hj => ?_⟩
    have := hq j hj
    simpa using this⟩, h2, h3⟩
end
theorem take_one {l : List Value} {k : Nat} (h : k < l.length) : (l.drop k).take 1 = [l[k]] := by rw [List.drop_eq_getElem_cons h]; rfl
theorem open_cls {H : Type} {enc : TypeId × Value → H} {W : World} {fuel : Nat} {cs : List Value} {x : DataW H × List MemPlace} (hcs : cs.length = 256) (hf : DataW.trod enc Try.prog W 0 (fun _ => true) true fuel 22 cs = some x) :
    ∃ cls : List Nat, cs = clsV cls ∧ cls.length = 256 ∧ ∀ c ∈ cls, c < 256 := by
  obtain ⟨xs, m, _, _, _, hxl, hg⟩ := DataW.trod_array clsUnder hf
  have key : ∀ i, i < 256 → ∃ q : Nat, q < 256 ∧ cs[i]? = some (.int .u8 (q : Int)) := fun i hi => by
    have h1 := hg i hi
    rw [cellsU, Nat.mul_one, take_one (by omega), List.getElem?_eq_getElem (show i < xs.length by omega)] at h1
    obtain ⟨q, k, _, hw⟩ := DataW.trod_int Try.underlying5 h1
    simp only [List.cons.injEq, and_true] at k
    have hw2 : 0 ≤ q ∧ q ≤ 255 := by simpa [Lit.wf, IntKind.min, IntKind.max, IntKind.signed, IntKind.bits] using hw
    refine ⟨q.toNat, by omega, ?_⟩
    rw [List.getElem?_eq_getElem (show i < cs.length by omega), k, Int.toNat_of_nonneg hw2.1]
  obtain ⟨F, hF⟩ := choose_lt key
  refine ⟨(List.range 256).map F, ?_, by simp, fun c hc => ?_⟩
  · unfold clsV
    refine List.ext_getElem? fun i => ?_
    rcases Nat.lt_or_ge i 256 with hi | hi
    · rw [(hF i hi).2]
      simp [hi]
    · rw [List.getElem?_eq_none (by omega), List.getElem?_eq_none (by simp; omega)]
  · obtain ⟨j, hj, rfl⟩ := List.mem_map.1 hc
    exact (hF j (List.mem_range.1 hj)).1
theorem open_table {H : Type} {enc : TypeId × Value → H} {W : World} {r : Reach} {b0 : Nat} {v : Value} {d : DataW H} {p : List MemPlace} (hv : Value.okWide Try.prog W r b0 27 v) (h : DataW.Trod enc Try.prog W 0 (fun _ => true) true 27 v d p) :
    ∃ t : TV, v = t.val ∧ TM W t := by
  obtain ⟨fs, hs, hsz4, ⟨f0, e0, t0, o0⟩, ⟨f1, e1, t1, o1⟩, ⟨f2, e2, t2, o2⟩, ⟨f3, e3, t3, o3⟩⟩ := tabFields
  obtain ⟨cs, rfl, hsz⟩ := okWide_struct hs hv
  rw [cellsTab] at hsz
  obtain ⟨l⟩ := cs
  have hl : l.length = 259 := by simpa using hsz
  obtain ⟨fuel, hf⟩ := h
  have hf' : DataW.trod enc Try.prog W 0 (fun _ => true) true fuel 27 l = some (d, p) := hf
  obtain ⟨xs, n, _, _, _, hxl, hg⟩ := DataW.trod_struct hs hf'
  have g0 := hg 0 f0 e0
  have g1 := hg 1 f1 e1
  have g2 := hg 2 f2 e2
  have g3 := hg 3 f3 e3
  rw [t0, o0, cellsCls, List.getElem?_eq_getElem (show 0 < xs.length by omega), List.drop_zero] at g0
  rw [t1, o1, cellsNs, take_one (by omega), List.getElem?_eq_getElem (show 1 < xs.length by omega)] at g1
  rw [t2, o2, cellsAs, take_one (by omega), List.getElem?_eq_getElem (show 2 < xs.length by omega)] at g2
  rw [t3, o3, cellsEs, take_one (by omega), List.getElem?_eq_getElem (show 3 < xs.length by omega)] at g3
  obtain ⟨cls, hc1, hc2, hc3⟩ := open_cls (by rw [List.length_take]; omega) g0
  obtain ⟨A, ca, nl, hA, hrn, hna, hnm⟩ := open_nodes g1
  obtain ⟨B, cb, al, hB, hra, hab, ham⟩ := open_acts g2
  obtain ⟨C, cc, el, hC, hre, hec, hem⟩ := open_ends g3
  refine ⟨⟨⟨cls, nl, al, el⟩, A, ca, B, cb, C, cc⟩, ?_, ⟨hc2, hc3, hrn, hra, hre, hna, hab, hec, hnm, ham, hem⟩⟩
  have e : l = clsV cls ++ [.slice A nl.length ca, .slice B al.length cb, .slice C el.length cc] := by
    rw [← hc1, ← hA, ← hB, ← hC]
    have hd : l.drop 256 = [l[256], l[257], l[258]] := by
      rw [List.drop_eq_getElem_cons (by omega), List.drop_eq_getElem_cons (by omega), List.drop_eq_getElem_cons (by omega), List.drop_eq_nil_of_le (by omega)]
    rw [← hd]
    exact (List.take_append_drop 256 l).symm
  unfold TV.val TV.cells tabV
  rw [e]
end Go.Proofs.Ytboaifdkoemnbaa.Pk
