/- utf.each: the closure that it hands back goes through what stands in some bytes, place by place. -/
import Derived.Test.YtjhgboncipnkeaaDoorUtKeep
import Derived.Test.YtjhgboncipnkeaaDoorUtScan
namespace Go.Proofs.YtjhgboncipnkeaaDoor.Ut
set_option maxRecDepth 100000
open Go Go.RowKit Go.Shelf Go.Proofs.YtjhgboncipnkeaaDoor.Wo
attribute [local go_sem] Oper.semAt_some

/-- Both tables lie in memory. -/
def Tabs (w : World) : Prop := TabT w ∧ TabF w ∧ 2 ≤ w.heap.size
theorem Tabs.below {w w' : World} {B : Nat} (h : Tabs w) (hb : Below B w w') (hB : 2 ≤ B) : Tabs w' :=
  ⟨fun j v hv => (hb.cell (by show (0 : Nat) < B; omega)).trans (h.1 j v hv), fun k hk => (hb.cell (by show (1 : Nat) < B; omega)).trans (h.2.1 k hk), Nat.le_trans h.2.2 hb.size⟩
theorem Tabs.keep {Kp : World → World → Prop} {Safe : World → Nat → Prop} {Good : World → Prop} (K : Keeper Kp Safe Good) {W W' : World} (h : Tabs W) (hk : Kp W W') (h0 : Safe W 0) (h1 : Safe W 1) : Tabs W' :=
  ⟨fun j v hv => K.cell hk h0 (h.1 j v hv), fun k hq => K.cell hk h1 (h.2.1 k hq), Nat.le_trans h.2.2 (K.size hk)⟩
theorem ry_keepK {Kp : World → World → Prop} {Safe : World → Nat → Prop} {Good : World → Prop} (K : Keeper Kp Safe Good) {W W' : World} {B n : Nat} {A : Option Addr} {l : List Int} (h : RY W B A n l) (hk : Kp W W') (hx : 0 < n → ∀ b off, A = some ⟨b, off, none⟩ → Safe W b) : RY W' B A n l :=
  ⟨h.1, fun hn => by
    obtain ⟨b, off, e, hb, hc⟩ := h.2 hn
    exact ⟨b, off, e, hb, fun j hj => K.cell hk (hx hn b off e) (hc j hj)⟩⟩

set_option maxHeartbeats 2000000 in
theorem each1K_in (n : Nat) (hn : 1 ≤ n) (lp Bs : Nat) (A : Option Addr) (m c : Nat) (l : List Int) (hl : ByteL l) (hm : m ≤ 1099511627776) (hmc : m ≤ c) {Kp : World → World → Prop} {Safe : World → Nat → Prop} {Good : World → Prop} (K : Keeper Kp Safe Good) (J Jx : List (Int × Bool) → World → Prop) (W : World)
    (hJ : AbidesFrom W.heap.size J)
    (hY : ∀ pre x W1, J pre W1 → pre.length < (evL l).length → YieldAt F0 (n - 1) Tryd.prog lp #[.int .i32 x.1, .bool x.2] W1 fun e W' =>
      (e = .returned (.bool true) ∧ J (pre ++ [x]) W' ∧ Kp W1 W') ∨ (e = .returned (.bool false) ∧ Jx (pre ++ [x]) W'))
    (hG : Good W) (hSA : 0 < m → ∀ b off, A = some ⟨b, off, none⟩ → Safe W b) (hSB : Safe W Bs) (hS0 : Safe W 0) (hS1 : Safe W 1) (hT : Tabs W)
    (hBs : W.cell? ⟨Bs, 0, none⟩ = some (.slice A m c)) (hA : RY W W.heap.size A m l) (h0 : J [] W) :
    CallsIn F0 n Tryd.prog 37 #[.func (.yield lp) #[] #[], .pointer (some ⟨Bs, 0, none⟩)] W fun e W' => (∃ v, e = .returned v) ∧
      ((∃ ys, ys = evL l ∧ J ys W') ∨ (∃ pre, pre <+: evL l ∧ Jx pre W')) := by
  have hlen := hA.1
  refine callsIn_of_wp Tryd.func37 rfl trivial ?_ rfl
  simp only [Tryd.ntmps37, List.size_toArray, List.length_cons, List.length_nil, Nat.reduceAdd, Nat.reduceSub, Array.replicate_succ, Array.replicate_zero, List.push_toArray, List.append_toArray, List.nil_append, List.cons_append]
  have HK := Lib.hid K
  have HSA := Lib.hid hSA
  have HL := Lib.hid hl
  have HY := Lib.hid hY
  have HJ := Lib.hid hJ
  have HA := Lib.hid hA
  have HT := Lib.hid hT
  clear K hSA hl hY hJ hA hT
  gi_wp2
  gi_loopw [3] (fun i wr => ∃ (k : Nat) (pre : List (Int × Bool)), k ≤ m ∧ i = .int .i64 k ∧ evL l = pre ++ evL (l.drop k) ∧ J pre wr ∧ Kp W wr) (fun i _ => m - (intOf i).toNat)
  case atStart => exact ⟨0, [], Nat.zero_le _, rfl, rfl, h0, HK.out.refl _⟩
  case round =>
    obtain ⟨k, pre, hk, rfl, hnl, hJs, hkx⟩ := hrel
    have hcb : wr.cell? ⟨Bs, 0, none⟩ = some (.slice A m c) := HK.out.cell hkx hSB hBs
    have HKX := Lib.hid hkx
    have HNL := Lib.hid hnl
    have HJS := Lib.hid hJs
    have hwsz := HK.out.size hkx
    clear hkx hnl hJs
    by_cases hlt : k < m
    · have hRS := (ry_keepK HK.out HA.out HKX.out HSA.out).more hwsz
      have hTT := HT.out.keep HK.out HKX.out hS0 hS1
      have hne : l.drop k ≠ [] := fun e => by have := congrArg List.length e; rw [List.length_drop, List.length_nil] at this; omega
      have hat : scanAt l k = scanL (l.drop k) := by unfold scanAt; rw [if_neg (by omega)]; rfl
      have hev := evL_cons (HL.out.drop k) hne
      have hps := scan_pos (HL.out.drop k) hne
      rw [List.length_drop] at hps
      have HSC := Lib.hid (scan_any A m c l k wr hRS HL.out hmc hm hTT.1 hTT.2.1 hTT.2.2)
      rw [hat] at HSC
      obtain ⟨X, z, ok, hX⟩ : ∃ X z ok, scanL (l.drop k) = (X, z, ok) := ⟨_, _, _, rfl⟩
      rw [hX] at HSC hev hps
      simp only at hps hev
      rw [List.drop_drop] at hev
      obtain ⟨q, rfl⟩ := Int.eq_ofNat_of_zero_le (by omega : 0 ≤ z)
      rw [Int.toNat_natCast] at hps hev
      have HEV := Lib.hid hev
      have hz1 : 1 ≤ q := by omega
      have hz2 : k + q ≤ m := by omega
      clear hRS hTT hne hat hev hX hps
      gi_wp2_with (fail)
      refine ⟨trivial, ?_⟩
      refine (callsIn_wide.2 HSC.out).mono ?_
      rintro e w5 ⟨rfl, hb5⟩
      have hG5 := HK.out.good HKX.out hG
      have hk5 := HK.out.trans HKX.out (HK.out.below hG5 hb5)
      have hJ5 := abides_below HJ.out HJS.out hb5
      have hn4 : evL l = pre ++ ((X, ok) :: evL (l.drop (k + q))) := by rw [HNL.out, HEV.out]
      have hlen2 : pre.length < (evL l).length := by rw [hn4]; simp
      have HN4 := Lib.hid hn4
      have HK5 := Lib.hid hk5
      obtain ⟨fn, tmps, assign, body, hy, hR⟩ := HY.out pre (X, ok) w5 hJ5 hlen2
      clear hn4 hlen2 hk5 hJ5 hG5 hb5 hcb
      gi_wp2
      refine hR.mono ?_
      rintro e W3 (⟨rfl, hJ4, hk4⟩ | ⟨rfl, hJx4⟩)
      · gi_wp2
        go_roundw
        case rel => exact ⟨k + q, pre ++ [(X, ok)], by omega, by go_num, by rw [HN4.out, List.append_assoc]; rfl, hJ4, HK.out.trans HK5.out hk4⟩
        case measure => simp [intOf]; omega
      · gi_wp2
        refine bodyPost_ret (results_none rfl _ _ _) rfl ?_
        exact ⟨⟨_, rfl⟩, .inr ⟨pre ++ [(X, ok)], ⟨evL (l.drop (k + q)), by rw [HN4.out, List.append_assoc]; rfl⟩, hJx4⟩⟩
    · have e : evL (l.drop k) = [] := by rw [List.drop_eq_nil_of_le (by omega)]; rfl
      have hfin := HNL.out
      rw [e, List.append_nil] at hfin
      have HF := Lib.hid hfin
      clear hfin e
      gi_wp2
      go_end0
      exact ⟨⟨_, rfl⟩, .inl ⟨pre, HF.out.symm, HJS.out⟩⟩
theorem each_stopsK (n : Nat) (hn : 1 ≤ n) (Bs : Nat) (A : Option Addr) (m c : Nat) (l : List Int) (hl : ByteL l) (hm : m ≤ 1099511627776) (hmc : m ≤ c) {Kp : World → World → Prop} {Safe : World → Nat → Prop} {Good : World → Prop} (K : Keeper Kp Safe Good) (w : World)
    (hgood : ∀ W, Below w.heap.size w W → Good W) (hsafe : ∀ W k, Below w.heap.size w W → (k = Bs ∨ k = 0 ∨ k = 1 ∨ (0 < m ∧ ∃ off, A = some ⟨k, off, none⟩)) → Safe W k)
    (hBs : w.cell? ⟨Bs, 0, none⟩ = some (.slice A m c)) (hA : RY w w.heap.size A m l) (hT : Tabs w) :
    SeqStopsK F0 n Tryd.prog 37 #[.pointer (some ⟨Bs, 0, none⟩)] (fun x : Int × Bool => #[Value.int .i32 x.1, .bool x.2]) Kp (fun ys => ys = evL l) (fun pre => pre <+: evL l) (evL l).length w := fun lp J Jx W hW hJ _ hY h0 =>
  have hlt := World.block_lt_of_cell? w _ hBs
  each1K_in n hn lp Bs A m c l hl hm hmc K J Jx W hJ hY (hgood W hW) (fun hm0 b off e => hsafe W b hW (.inr (.inr (.inr ⟨hm0, off, e⟩)))) (hsafe W _ hW (.inl rfl)) (hsafe W _ hW (.inr (.inl rfl))) (hsafe W _ hW (.inr (.inr (.inl rfl)))) (hT.below hW hT.2.2) ((hW.cell hlt).trans hBs) (hA.belowM hW) h0
def EachOut (A : Option Addr) (m c : Nat) (w : World) (e : Ending) (w' : World) : Prop := e = .returned (.func (.func 37) #[] #[.pointer (some ⟨w.heap.size, 0, none⟩)]) ∧ Boxed w' w.heap.size 22 (.slice A m c) ∧ Below w.heap.size w w' ∧ w'.heap.size = w.heap.size + 1
theorem each_any (A : Option Addr) (m c : Nat) (w : World) : Calls Tryd.prog 31 #[.slice A m c] w (EachOut A m c w) := by
  go_enter Tryd.func31, Tryd.ntmps31
  go_wp2_with (fail)
  go_ret
  exact ⟨rfl, Boxed.new _ _ _, (Below.refl _ _).alloc (Nat.le_refl _) _, by simp⟩
end Go.Proofs.YtjhgboncipnkeaaDoor.Ut
