import Derived.Test.YtpcgaebbbioifaaGreatDoorT0
import Derived.Test.YtpcgaebbbioifaaGreatDoorT18
import Derived.Test.YtpcgaebbbioifaaGreatDoorT24
import Derived.Test.YtpcgaebbbioifaaGreatDoorT32
import Derived.Test.YtpcgaebbbioifaaGreatDoorT34
set_option maxRecDepth 100000
namespace Go.Proofs.YtpcgaebbbioifaaGreatDoor.Fi
set_option maxHeartbeats 64000000
open Go Go.RowKit Go.Shelf Go.Maps Sp Pa Te Mi Sh
open Go.Lib (hid)
attribute [local go_sem] Oper.semAt_some
def SymOut (w : World) (e : Ending) (w' : World) : Prop:=∃ g,e = .returned (.slice (some ⟨g,0,none⟩) 1 1)∧RS w' w'.heap.size (some ⟨g,0,none⟩) 1 [(0,1114111)]∧Below w.heap.size w w'
theorem symbols_any (w : World) : Calls Tryz.prog 69 #[] w (SymOut w):=by
 go_enter Tryz.func69,Tryz.ntmps69
 go_wp2_with (fail)
 go_ret
 exact ⟨w.heap.size,rfl,lit_RS (by simp) (heap_alloc_new w _),(Below.refl _ _).alloc (Nat.le_refl _) _⟩
theorem sym_mem (x : Int) : mem [(0,1114111)] x↔Sy x:=by
 rw [mem_one]
 unfold Rng Sy
 simp only
 omega
theorem rangeFunc_at {α : Type} {F : Fence} {n : Nat} {P : Program} {g : Operand} {ps : Array Tmp} {assign body : Code} {Q : Exit→Act→World→Prop} {a : Act} {w : World}
  (hro : F.round = none) (h1 : 1≤n) {gf : Nat} {lb : Array Value} (hg : a.eval g = .func (.func gf) #[] lb) (hFg : F.fn gf) (eg : ∀ args w,(callFunc gf args).run P w = .ok (.enter gf args) w)
  {encs : α→Array Value} {Kp : World→World→Prop} {S Sp : List α→Prop} {N : Nat} {w0 : World} (hseq : SeqStopsK F (n - 1) P gf lb encs Kp S Sp N w0)
  (hKt : ∀ {A B C : World},Kp A B→Kp B C→Kp A C) (hKb : ∀ (W : World) (l : Nat) (o o' : Obj),w.heap.size≤l→W.heap[l]? = some o→o.isCells = false→o.isWalk = false→Kp W (W.putObj l o')) (hb0 : Below w0.heap.size w0 w) (hps : ∀ x,(encs x).size = ps.size)
  (I : List α→World→Prop) (Ix : Code→List α→World→Prop) (hI : OwnFrom w.heap.size I) (hIx : ∀ c,OwnFrom w.heap.size (Ix c)) (h0 : I [] w) (A1 : Act→α→Act)
  (hassign : ∀ (l : Nat) (x : α) (W : World) (K : Act→World→Prop),K (A1 a x) W →
   assign.wpIn (F.inRound l) (n - 1 - 1) P (Exit.then K (fun _ _ _=>False)) { tmps:=(ps.zip (encs x)).foldl (fun t (p,v)=>t.setIfInBounds p v) a.tmps,defers:=[] } W)
  (hbody : ∀ (l : Nat) (pre : List α) (x : α) (W : World),I pre W→pre.length < N→body.wpIn (F.inRound l) (n - 1 - 1) P (ownPostK Kp I Ix (pre ++ [x]) W) (A1 a x) W)
  (hdone : ∀ (D : Nat) (xs : List α) (W : World),w.heap.size≤D→S xs→I xs W→W.heap[D]? = some (.deferred (some []))→Q .normal { a with defers:={ target:=.collected D,args:=#[] } :: a.defers } W)
  (hstop : ∀ (D : Nat) (c : Code) (pre : List α) (W : World),w.heap.size≤D→Sp pre→Ix c pre W→W.heap[D]? = some (.deferred (some []))→c.wpIn F n P Q { a with defers:={ target:=.collected D,args:=#[] } :: a.defers } W) :
  (Code.rangeFunc g ps assign body).wpIn F n P Q a w:=
 wpIn_rangeFunc_ownF hro h1 hg hFg eg hseq hKt hKb hb0 hps I Ix hI hIx h0 (A1 a) hassign hbody hdone hstop
def rr {l : List Int} (pre : List (El l)) : List Int:=(pre.map fun x=>x.1.2).reverse
theorem rr_snoc {l : List Int} (pre : List (El l)) (x : El l) : rr (pre ++ [x]) = x.1.2 :: rr pre:=by simp [rr]
theorem rr_mem {l : List Int} (pre : List (El l)) : ∀ a∈rr pre,a∈l:=fun a ha=>by
 unfold rr at ha
 rw [List.mem_reverse] at ha
 obtain ⟨x,_,rfl⟩:=List.mem_map.1 ha
 exact x.2
theorem sumQ_some {own : Int→List Span} : ∀ (r : List Int),(∀ a∈r,∃ z,mem (own a) z)→∃ y,SumQ own r y
 | [],_=>⟨0,rfl⟩
 | a :: r,h=>by
  obtain ⟨x,hx⟩:=sumQ_some r fun b hb=>h b (List.mem_cons_of_mem _ hb)
  obtain ⟨z,hz⟩:=h a (List.mem_cons_self ..)
  exact ⟨x + z,x,z,hx,hz,rfl⟩
theorem sumQ_boundO {own : Int→List Span} : ∀ (r : List Int),(∀ b∈r,∀ x,mem (own b) x→0≤x∧x≤264241152)→∀ y,SumQ own r y→0≤y∧y≤264241152 * (r.length : Int)
 | [],_,y,hy=>by have : y = 0:=hy;subst this;simp
 | a :: r,h,y,⟨x,z,q1,q2,q3⟩=>by
  have h1:=sumQ_boundO r (fun b hb=>h b (List.mem_cons_of_mem _ hb)) x q1
  have h2:=h a (List.mem_cons_self ..) z q2
  rw [List.length_cons]
  omega
theorem keeps_below {W W' : World} (h : Below W.heap.size W W') : KeepsOthers W W':=⟨h.size,fun k _ hk _=>(h.block k (Array.getElem?_eq_some_iff.1 hk).1).trans hk⟩
def IsQ (own : Int→List Span) (r : List Int) : Prop:=Is (curQ own r) (SumQ own r)
theorem isQ_of {own : Int→List Span} {r : List Int} {p : List Span} (h : Is p (SumQ own r)) : IsQ own r:=by unfold IsQ;rw [curQ_is h];exact h
def In1 (gs : List (List Span)) (l : List PT) (s : Int) (E : Nat) (w3 : World) (lo hi i : Value) (wr : World) : Prop:=
 ∃ (L : List (List Span)) (v : Value),i = .int .i64 (L.length : Int)∧lo = .int .i64 (s + (L.map least).sum)∧hi = .int .i64 (s + (L.map most).sum)∧EachS gs l L∧(∀ g∈gs.take L.length,∀ x,mem g x→Sy x) ∧
  (0≤(L.map least).sum∧(L.map least).sum≤264241152 * (L.length : Int))∧(0≤(L.map most).sum∧(L.map most).sum≤264241152 * (L.length : Int)) ∧
  Boxed wr E 40 v∧RowB wr (E + 1) v L∧Below E w3 wr
def InnOut (gs : List (List Span)) (l : List PT) (s : Int) (w : World) (e : Ending) (w' : World) : Prop:=
 ∃ (v : Value) (ok : Bool) (out : List Span),e = .returned (.tuple #[v,.bool ok])∧OwnsL w' w.heap.size v out∧Below w.heap.size w w'∧(ok = true↔AllIn gs l s)∧(ok = true→Is out (InnS gs l s))∧(ok = false→v = .slice none 0 0)
theorem inn_no {gs : List (List Span)} {l : List PT} {s : Int} {w w' : World} {e : Ending} (hno : ¬ AllIn gs l s) (hb : Below w.heap.size w w') (he : e = .returned (.tuple #[.slice none 0 0,.bool false])) : InnOut gs l s w e w':=
 ⟨_,false,[],he,World.ownsRow_nil _ _ _ _,hb,⟨fun q=>absurd q (by decide),fun q=>absurd q hno⟩,fun q=>absurd q (by decide),fun _=>rfl⟩
theorem inners_any (b d t u s : Int) (A : Option Addr) (n c : Nat) (l : List PT) (G : Option Addr) (gc : Nat) (gs : List (List Span)) (w : World) (h : RP w w.heap.size A n l) (hn : l.length≤4) (hb : BitsAll l) (hq : ∀ q∈l,0≤q.1∧q.1 < gs.length) (hs : Sm s)
  (hg : RGs w G gs.length gs) (hg4 : gs.length≤4) (hgm : ∀ g∈gs,g.length≤1099511627776) (hne : ∀ g∈gs,∃ x,mem g x) (hT : TabB w) :
  Calls Tryz.prog 93 #[trm b d t u s A n c,.slice G gs.length gc] w (InnOut gs l s w):=by
 have hlen:=h.1
 subst hlen
 obtain ⟨i0,hi0,hz0,hz1,hz2⟩:=info_parts infoSet
 have hs':=hs
 unfold Sm at hs'
 obtain ⟨w0,hw0⟩ : ∃ w0,w.alloc (.cells (tcells b d t u s A l.length c) 51) = w0:=⟨_,rfl⟩
 have hbw : Below w.heap.size w w0:=by rw [← hw0];exact (Below.refl _ w).alloc (Nat.le_refl _) _
 have hsz0 : w0.heap.size = w.heap.size + 1:=by rw [← hw0];simp
 have X6:=hid (fun W (hb : Below w0.heap.size w0 W)=>show Boxed6 W w.heap.size b d t u s A l.length c from by rw [← hw0] at hb;exact boxed6 hb)
 obtain ⟨q0,q1,q2,q3,q4,q5⟩:=X6.out w0 (Below.refl _ _)
 have HPL:=hid (places_any A c l.length l w0 (h.belowM hbw) (by omega) (fun q hq'=>by have:=hq q hq';unfold I64;omega))
 have HB0:=hid hbw
 have H:=hid h
 have HG:=hid hg
 have HBT:=hid hb
 have HQ:=hid hq
 have HGM:=hid hgm
 have HNE:=hid hne
 have HTB:=hid hT
 clear h hg hb hq hgm hne hT hbw
 refine (callsIn_wide (n:=4)).1 ?_
 refine callsIn_of_wp_marks Tryz.func93 rfl trivial ?_ rfl
 refine wpIn_wide.2 ?_
 simp only [Tryz.ntmps93,List.size_toArray,List.length_cons,List.length_nil,Nat.reduceAdd,Nat.reduceSub,Array.replicate_succ,Array.replicate_zero,List.push_toArray,List.append_toArray,List.nil_append,List.cons_append]
 go_wp2_with (fail)
 refine HPL.out.mono ?_
 rintro e w3 ⟨rfl,hpm,hb3⟩
 have HPM:=hid hpm
 have HB3:=hid hb3
 obtain ⟨q0,q1,q2,q3,q4,q5⟩:=X6.out w3 hb3
 have hsz3:=hb3.size
 rw [hsz0] at HPM
 obtain ⟨E,hE⟩ : ∃ E,w3.heap.size = E:=⟨_,rfl⟩
 clear hpm hb3
 obtain ⟨w4,hw4⟩ : ∃ w4,w3.alloc (.cells #[.slice none 0 0] 40) = w4:=⟨_,rfl⟩
 have HBX:=hid (show Boxed w4 E 40 (.slice none 0 0) by rw [← hw4,← hE];exact Boxed.new w3 40 (.slice none 0 0))
 have hb4 : Below E w3 w4:=by rw [← hw4,← hE];exact (Below.refl _ _).alloc (Nat.le_refl _) _
 have hE1 : w.heap.size < E:=by omega
 have p4 : w4.cell? ⟨w.heap.size,4,none⟩ = some (.int .i64 s):=(hb4.cell (p:=⟨w.heap.size,4,none⟩) hE1).trans q4
 have HB4:=hid hb4
 clear hb4
 go_wp2_with (fail)
 go_quiet (fail)
 obtain ⟨w5,hw5⟩ : ∃ w5,w4.drewN nq = w5:=⟨_,rfl⟩
 rw [hw5]
 have hb5 : Below E w3 w5:=by rw [← hw5];exact below_drewN HB4.out _
 have hbx5 : Boxed w5 E 40 (.slice none 0 0):=by rw [← hw5];exact HBX.out
 have HST:=hid (show In1 gs l s E w3 (.int .i64 s) (.int .i64 s) (.int .i64 (0 : Nat)) w5 from ⟨[],_,rfl,by simp,by simp,⟨Nat.zero_le _,fun j hj=>by simp at hj⟩,fun g hg=>by simp at hg,⟨by simp,by simp⟩,⟨by simp,by simp⟩,hbx5,RowB.nil_ _ _,hb5⟩)
 clear hb5 hbx5 hw5 hw4 HBX HB4 p4 q0 q1 q2 q3 q4 q5
 go_wp2_with (fail)
 go_loopw [8,9,29] (fun lo hi i wr=>In1 gs l s E w3 lo hi i wr) (fun _ _ i _=>gs.length - (intOf i).toNat)
 case atStart=>exact HST.out
 case round=>
  obtain ⟨L,v,rfl,rfl,rfl,hes,hsy,hl1,hl2,hbx,hrow,hbe⟩:=hrel
  have hLg:=hes.1
  have hwr:=hbe.size
  have hbW : Below w.heap.size w wr:=(HB0.out.trans (HB3.out.mono HB0.out.size)).trans (hbe.mono (by omega))
  have HBW:=hid hbW
  have hbE3 : Below w3.heap.size w3 wr:=by rw [hE];exact hbe
  have HPW:=hid (HPM.out.below hbE3)
  have HES:=hid hes
  have HSY:=hid hsy
  have HBX:=hid hbx
  have HROW:=hid hrow
  have HBE:=hid hbe
  have hTw:=HTB.out.below hbW HTB.out.2 hbW.size
  have hEl:=hbx.lt
  obtain ⟨k,hk⟩ : ∃ k,L.length = k:=⟨_,rfl⟩
  have HKL:=hid hk
  rw [hk] at hLg hsy hl1 hl2 ⊢
  obtain ⟨S1,hS1⟩ : ∃ x,(L.map least).sum = x:=⟨_,rfl⟩
  obtain ⟨S2,hS2⟩ : ∃ x,(L.map most).sum = x:=⟨_,rfl⟩
  have HSS:=hid (And.intro hS1 hS2)
  rw [hS1] at hl1 ⊢
  rw [hS2] at hl2 ⊢
  by_cases hlt : k < gs.length
  ·obtain ⟨bb,off,Aj,cj,hA,hbB,hcg,hrg,hcj,hnj⟩:=(HG.out.belowM hbW).at_ hlt
   obtain ⟨g,hgk⟩ : ∃ g,gs[k] = g:=⟨_,rfl⟩
   have HGK:=hid hgk
   rw [hgk] at hcg hrg hcj
   have hgm:=HGM.out g (by rw [← hgk];exact List.getElem_mem hlt)
   have hgn:=HNE.out g (by rw [← hgk];exact List.getElem_mem hlt)
   obtain ⟨nj,hnjl⟩ : ∃ nj,g.length = nj:=⟨_,rfl⟩
   rw [hnjl] at hcg hrg hcj hgm
   have HRG:=hid hrg
   have HGN:=hid hgn
   subst hA
   clear hes hsy hbx hrow hbe hbW hbE3 hS1 hS2 hrg hgn hnj hnjl hgk hk
   go_wp2_with (fail)
   refine (symbols_any wr).mono ?_
   rintro e w6 ⟨gS,rfl,hrs,hb6⟩
   have HB6:=hid hb6
   by_cases hin : ∀ x,mem g x→Sy x
   ·have HW:=hid (within_any Aj (some ⟨gS,0,none⟩) nj 1 cj 1 g [(0,1114111)] true w6 (HRG.out.belowM hb6) hrs hgm (by omega) hcj (Nat.le_refl _) ⟨fun _ x q=>q.2 ((sym_mem x).2 (hin x q.1)),fun _=>rfl⟩)
    have HIN:=hid hin
    clear hb6 hrs hin
    go_wp2_with (fail)
    refine HW.out.mono ?_
    rintro e w7 ⟨rfl,hb7⟩
    have hb7':=HB6.out.trans (hb7.mono HB6.out.size)
    have HB7:=hid hb7'
    obtain ⟨Ap,cp,hlook,hrp,hcp⟩:=(HPW.out.below hb7').look (a:=(k : Int)) (by unfold I64;omega)
    have hTw7:=hTw.next hb7'
    obtain ⟨mp,hmp⟩ : ∃ mp,(plP l (k : Int)).length = mp:=⟨_,rfl⟩
    have hmp4 : mp≤4:=by rw [← hmp];exact Nat.le_trans (plP_len l k) hn
    rw [hmp] at hlook hrp
    have HJ:=hid (joint_any Ap Aj mp cp nj cj (plP l (k : Int)) g w7 hrp (plP_bits HBT.out k) (by omega) (HRG.out.belowM hb7') hgm hcj HIN.out HGN.out hTw7)
    have hz7:=hb7'.size
    clear hb7 hb7' hrp hmp hTw7
    go_wp2_with (fail)
    refine HJ.out.mono ?_
    intro e w8 hq8
    obtain ⟨v8,own,rfl,his8,ho8,hb8⟩:=hq8
    have HB8:=hid (HB7.out.trans (hb8.mono HB7.out.size))
    have hnil8:=fun A' c' (e : v8 = .slice A' own.length c')=>own_nil (by rw [e] at ho8;exact ho8)
    obtain ⟨A8,c8,hv8,hc8,hr8⟩:=own_RS ho8
    have hbl8:=fun b' off' (e : A8 = some ⟨b',off',none⟩)=>World.ownsRow.lt ho8 b' (by rw [hv8,e];rfl)
    have HNIL:=hid (hnil8 A8 c8 hv8)
    subst hv8
    obtain ⟨j1,j2,j3,j4,j5,j6⟩:=join_mem (plP_bits HBT.out k) (Nat.le_trans (plP_len l k) hn) HGN.out his8
    have hf8:=fst_least j1
    have hl8:=lst_most j1
    obtain ⟨lo8,hlo8⟩ : ∃ x,least own = x:=⟨_,rfl⟩
    obtain ⟨hi8,hhi8⟩ : ∃ x,most own = x:=⟨_,rfl⟩
    have HLH:=hid (And.intro hlo8 hhi8)
    rw [hlo8] at hf8 j3 j4
    rw [hhi8] at hl8 j5 j6
    have hsh8:=his8.1.short
    have HF:=hid (fun W (hW : RS W W.heap.size A8 own.length own)=>first_any A8 own.length c8 own own W hW (by omega) hc8 (Is.self his8.1))
    have HL:=hid (fun W (hW : RS W W.heap.size A8 own.length own)=>last_any A8 own.length c8 own own W hW (by omega) hc8 (Is.self his8.1))
    rw [hf8] at HF
    rw [hl8] at HL
    have HI8:=hid his8
    have HR8:=hid hr8
    have HBL8:=hid hbl8
    clear his8 ho8 hb8 hr8 hbl8 hnil8 j1 j2 hf8 hl8 hlo8 hhi8 hlook
    go_wp2_with (fail)
    refine (HF.out _ HR8.out).mono ?_
    rintro e w9 ⟨rfl,hb9⟩
    have HR9:=hid (HR8.out.belowM hb9)
    have HB9:=hid (HB8.out.trans (hb9.mono HB8.out.size))
    have HB89:=hid hb9
    clear hb9
    go_wp2_with (fail)
    refine (HL.out _ HR9.out).mono ?_
    rintro e w10 ⟨rfl,hb10⟩
    have HR10:=hid (HR9.out.belowM hb10)
    have hb10':=HB9.out.trans (hb10.mono HB9.out.size)
    have HB10:=hid hb10'
    have hbx10 : Boxed w10 E 40 v:=boxed_below HBX.out hb10' hEl
    have hcE:=hbx10.cell
    have hfE:=hbx10.frozen
    have hrow10:=HROW.out.below hb10'
    have hS10 : w8.heap.size≤w10.heap.size:=Nat.le_trans HB89.out.size hb10.size
    obtain ⟨vs,hvs0⟩:=hrow10.row
    obtain ⟨Av,cv,hvv⟩:=own_shape hvs0
    have hvlt:=fun q e=>hrow10.lt (g:=q) e
    have HVLT:=hid hvlt
    rw [HKL.out] at hvs0 hvv
    have HROW10:=hid hrow10
    have HBX10:=hid hbx10
    subst hvv
    obtain ⟨w11,hw11⟩ : ∃ w11,w10.alloc (.cells #[.slice A8 own.length c8] 48) = w11:=⟨_,rfl⟩
    have hb11 : Below w10.heap.size w10 w11:=by rw [← hw11];exact (Below.refl _ _).alloc (Nat.le_refl _) _
    have hs11 : w11.heap.size = w10.heap.size + 1:=by rw [← hw11];simp
    have hE10 : E < w10.heap.size:=hbx10.lt
    have hv11 : w11.ownsRow (E + 1) 48 1 (.slice Av k cv) k vs:=row_keep hvs0 fun q e=>hb11.block q (World.ownsRow.lt hvs0 q e).2
    have hnews : ∀ jj u,[Value.slice A8 own.length c8][jj]? = some u→w11.cell? ((⟨w10.heap.size,0,none⟩ : Addr).add jj) = some u:=by
     rw [← hw11]
     exact World.news_of_block (cs:=#[.slice A8 own.length c8]) (t:=48) (fr:=(0,0)) (heap_alloc_new w10 _)
    have HR11:=hid (HR10.out.belowM hb11)
    have HROW11:=hid (HROW10.out.below hb11)
    have HBX11:=hid (boxed_below HBX10.out hb11 hE10)
    have HB11:=hid (HB10.out.trans (hb11.mono HB10.out.size))
    have t1 : IntKind.i64.wrap (s + S1 + lo8) = s + S1 + lo8:=IntWalk.i64_in _ (by omega)
    have t2 : IntKind.i64.wrap (s + S2 + hi8) = s + S2 + hi8:=IntWalk.i64_in _ (by omega)
    have t3 : IntKind.i64.wrap ((k : Int) + 1) = (k : Int) + 1:=IntWalk.i64_in _ (by omega)
    clear hvlt hrow10 hbx10 hb10 hb10' hb11 hvs0
    go_wp2_with (at_builtin;go_must (refine wpList_append_own_at _ rfl _ _ 40 rfl (E + 1) 48 i0 _ 1 24 Tryz.underlying40 hi0 hz0 hz1 hz2 rfl (by decide) (.slice Av k cv) k vs rfl hv11 ⟨w10.heap.size,0,none⟩ 1 1 [.slice A8 own.length c8] rfl rfl hnews ?c2 ?c3 ?c4 ?c5 ?_))
    case c2=>intro u hu;simp at hu;subst hu;rfl
    case c3=>simp only [maxLen];omega
    case c4=>omega
    case c5=>omega
    intro v12 w12 hown12 hg12 _ hat12
    obtain ⟨g12,cap12,hv12,_,_⟩:=World.ownsRow.form hown12 (by omega)
    subst hv12
    have hneE : (Value.slice Av k cv).ownBlock≠some E:=fun e=>by have:=(HVLT.out E e).1;omega
    have hE11 : E < w11.heap.size:=by omega
    have hcE12 : w12.cell? ⟨E,0,none⟩ = some (.slice Av k cv):=hg12.cell HBX11.out.cell (fun e=>hneE e.symm)
    have hfE12 : w12.frozen? ⟨E,0,none⟩ = false:=(World.frozen?_of_block (a:=⟨E,0,none⟩) (hg12.block E hE11 (fun e=>hneE e.symm))).trans HBX11.out.frozen
    have HNX:=hid (show In1 gs l s E w3 (.int .i64 (s + S1 + lo8)) (.int .i64 (s + S2 + hi8)) (.int .i64 ((k : Int) + 1)) (w12.setCell ⟨E,0,none⟩ (.slice (some ⟨g12,0,none⟩) (k + 1) cap12)) from by
     have hr12 : RowB w12 (E + 1) (.slice (some ⟨g12,0,none⟩) (k + 1) cap12) (L ++ [own]):=HROW11.out.more (vs:=vs) (l:=own) (A:=A8) (c:=c8) (H:=w11.heap.size) (by rw [HKL.out];exact hv11) HR11.out hc8 HNIL.out (fun b' off' e=>by
       have h1:=HBL8.out b' off' e
       have h2:=HB7.out.size
       have h3:=HBE.out.size
       refine ⟨by omega,by omega,fun e2=>?_⟩
       have h4:=World.ownsRow.lt hv11 b' e2
       have h5:=HROW.out.lt (g:=b') e2
       omega) hg12 (by rw [HKL.out];exact hown12) (hat12.imp id fun e=>by rw [e,hs11]) (Nat.le_refl _)
     have hlen : (L ++ [own]).length = k + 1:=by rw [List.length_append,List.length_singleton,HKL.out]
     refine ⟨L ++ [own],_,by rw [hlen];rfl,by rw [List.map_append,List.sum_append,HSS.out.1];simp [HLH.out.1];omega,by rw [List.map_append,List.sum_append,HSS.out.2];simp [HLH.out.2];omega,⟨by omega,fun j hj hj'=>?_⟩,fun q hq=>?_,?_,?_,?_,hr12.set_ (by omega) _,?_⟩
     ·by_cases e : j < L.length
      ·rw [List.getElem_append_left e]
       exact HES.out.2 j e hj'
      ·obtain rfl : j = k:=by have:=HKL.out;omega
       have e2 : (L ++ [own])[j]'hj = own:=by rw [List.getElem_append_right (by omega)];simp [HKL.out]
       rw [e2,HGK.out]
       exact HI8.out
     ·rw [hlen,List.take_succ_eq_append_getElem hlt,List.mem_append,List.mem_singleton,HGK.out] at hq
      rcases hq with hq | rfl
      ·exact HSY.out q (by rw [HKL.out];exact hq)
      ·exact HIN.out
     ·rw [List.map_append,List.sum_append,HSS.out.1,hlen]
      simp [HLH.out.1]
      omega
     ·rw [List.map_append,List.sum_append,HSS.out.2,hlen]
      simp [HLH.out.2]
      omega
     ·exact (HBX11.out.kept hg12 (fun e=>hneE e.symm)).set _
     ·exact (((HBE.out.trans (HB11.out.mono (by have:=HBE.out.size;omega))).grown hg12 (by have:=HBE.out.size;have:=HB11.out.size;omega) (fun q e=>by have:=(HVLT.out q e).1;omega)).setCell (Nat.le_refl _) _))
    clear hown12 hg12 hat12 hv11 hnews
    go_wp2_with (fail)
    go_roundw
    case rel=>exact HNX.out
    case measure=>simp [intOf];omega
   ·have hex : ∃ x,mem g x∧¬ Sy x:=Classical.byContradiction fun q=>hin fun x hx=>Classical.byContradiction fun q2=>q ⟨x,hx,q2⟩
    have HW:=hid (within_any Aj (some ⟨gS,0,none⟩) nj 1 cj 1 g [(0,1114111)] false w6 (HRG.out.belowM hb6) hrs hgm (by omega) hcj (Nat.le_refl _) ⟨fun q=>absurd q (by decide),fun q=>by
     obtain ⟨x,h1,h2⟩:=hex
     exact absurd ⟨h1,fun h3=>h2 ((sym_mem x).1 h3)⟩ (q x)⟩)
    have HNO:=hid (show ¬ AllIn gs l s from fun q=>by
     obtain ⟨x,h1,h2⟩:=hex
     obtain ⟨xs,h3,h4⟩:=win_some HNE.out hlt (x:=x) (by rw [HGK.out];exact h1)
     exact h2 ((q xs h3).1 x h4))
    clear hb6 hrs hin hex
    go_wp2_with (fail)
    refine HW.out.mono ?_
    rintro e w7 ⟨rfl,hb7⟩
    have HFI:=hid (And.intro HNO.out (HBW.out.trans ((HB6.out.trans (hb7.mono HB6.out.size)).mono HBW.out.size)))
    clear hb7
    go_wp2_with (fail)
    exact ⟨_,results_tmp2 rfl _ _ _,inn_no HFI.out.1 HFI.out.2 rfl⟩
  ·obtain rfl : k = gs.length:=by omega
   have hown:=eachS_own HES.out HKL.out
   have hrng:=inn_range (own:=ownL L) HQ.out hown HNE.out s Sy (fun a b c h1 h2 h3 h5=>by unfold Sy at *;omega)
   rw [← HKL.out,places_sum least,places_sum most,HSS.out.1,HSS.out.2] at hrng
   have hall : AllIn gs l s↔∀ xs,WinS gs xs→Sy (innT xs s l):=⟨fun q xs hx=>(q xs hx).2,fun q xs hx=>⟨fun x hxm=>by
    obtain ⟨j,hj,rfl⟩:=List.getElem_of_mem hxm
    have hj' : j < gs.length:=by have:=hx.1;omega
    exact HSY.out _ (by rw [HKL.out,List.take_length];exact List.getElem_mem hj') _ (hx.2 j hj' hj),q xs hx⟩⟩
   have HALL:=hid (hall.trans hrng)
   have HOWN:=hid hown
   have HY1:=hid (fun W=>symbol_any (s + S1) W)
   have HY2:=hid (fun W=>symbol_any (s + S2) W)
   clear hes hsy hbx hrow hbe hbE3 hS1 hS2 hown hrng hall hk
   by_cases c1 : Sy (s + S1)
   case neg=>
    rw [decide_eq_false c1] at HY1
    have HFI:=hid (And.intro (show ¬ AllIn gs l s from fun q=>c1 (HALL.out.1 q).1) hbW)
    clear hbW c1
    go_wp2_with (fail)
    refine (HY1.out _).mono ?_
    rintro e w6 ⟨rfl,rfl⟩
    go_wp2_with (fail)
    exact ⟨_,results_tmp2 rfl _ _ _,inn_no HFI.out.1 HFI.out.2 rfl⟩
   by_cases c2 : Sy (s + S2)
   case neg=>
    rw [decide_eq_true c1] at HY1
    rw [decide_eq_false c2] at HY2
    have HFI:=hid (And.intro (show ¬ AllIn gs l s from fun q=>c2 (HALL.out.1 q).2) hbW)
    clear hbW c1 c2
    go_wp2_with (fail)
    refine (HY1.out _).mono ?_
    rintro e w6 ⟨rfl,rfl⟩
    go_wp2_with (fail)
    refine (HY2.out _).mono ?_
    rintro e w6 ⟨rfl,rfl⟩
    go_wp2_with (fail)
    exact ⟨_,results_tmp2 rfl _ _ _,inn_no HFI.out.1 HFI.out.2 rfl⟩
   rw [decide_eq_true c1] at HY1
   rw [decide_eq_true c2] at HY2
   have HOK:=hid (HALL.out.2 ⟨c1,c2⟩)
   have HC2:=hid c2
   have hb0r : Below w0.heap.size w0 wr:=HB3.out.trans (HBE.out.mono (by omega))
   obtain ⟨q0,q1,q2,q3,q4,q5⟩:=X6.out wr hb0r
   have HB0R:=hid hb0r
   obtain ⟨u1,hu1⟩ : ∃ u1,wr.alloc (.cells #[.int .i64 0,.int .i64 0] 47) = u1:=⟨_,rfl⟩
   have k1 : Below wr.heap.size wr u1:=by rw [← hu1];exact (Below.refl _ _).alloc (Nat.le_refl _) _
   have hsu1 : u1.heap.size = wr.heap.size + 1:=by rw [← hu1];simp
   obtain ⟨R0,hR0⟩ : ∃ R0,wr.heap.size = R0:=⟨_,rfl⟩
   have hr1 : RS u1 u1.heap.size (some ⟨R0,0,none⟩) 1 [(0,0)]:=by rw [← hR0];exact lit_RS (by omega) (by rw [← hu1];exact heap_alloc_new wr _)
   obtain ⟨u2,hu2⟩ : ∃ u2,u1.alloc (.cells #[.slice (some ⟨R0,0,none⟩) 1 1] 48) = u2:=⟨_,rfl⟩
   have k2 : Below u1.heap.size u1 u2:=by rw [← hu2];exact (Below.refl _ _).alloc (Nat.le_refl _) _
   have hsu2 : u2.heap.size = R0 + 1 + 1:=by rw [← hu2];simp [hsu1,hR0]
   have hbS : Boxed u2 (R0 + 1) 48 (.slice (some ⟨R0,0,none⟩) 1 1):=by rw [← hR0,← hsu1,← hu2,hR0];exact Boxed.new u1 _ _
   have k12 : Below wr.heap.size wr u2:=k1.trans (k2.mono (by omega))
   have p5 : u2.cell? ⟨w.heap.size,5,none⟩ = some (.slice A l.length c):=(k12.cell (p:=⟨w.heap.size,5,none⟩) (by show w.heap.size < wr.heap.size;have:=hbW.size;have:=HB0R.out.size;omega)).trans q5
   have HU2:=hid (And.intro k12 hbS)
   have how1 : u1.ownsRow R0 47 2 (.slice (some ⟨R0,0,none⟩) 1 1) 1 (flat [(0,0)]):=by
    rw [← hu1,← hR0]
    exact World.ownsRow_lit wr #[.int .i64 0,.int .i64 0] 1 (Nat.le_refl _) (by decide) rfl
   have how2 : u2.ownsRow R0 47 2 (.slice (some ⟨R0,0,none⟩) 1 1) 1 (flat [(0,0)]):=row_keep how1 fun g e=>k2.block g (by
    have : R0 = g:=by simpa [Value.ownBlock] using e
    omega)
   have HOWR:=hid how2
   have HR1:=hid (hr1.belowM k2)
   have HORD:=hid (order_any A l.length c l u2 (H.out.belowM (hbW.trans (k12.mono hbW.size))) (by omega))
   clear hr1 k1 k2 k12 hbS hb0r how1 how2 q0 q1 q2 q3 q4 q5 c1 c2 hbW hTw
   go_wp2_with (fail)
   refine (HY1.out _).mono ?_
   rintro e w6 ⟨rfl,rfl⟩
   go_wp2_with (fail)
   refine (HY2.out _).mono ?_
   rintro e w6 ⟨rfl,rfl⟩
   go_wp2_with (fail)
   refine HORD.out.mono ?_
   rintro e u3 ⟨Ao,co,rfl,hro,hco,hb3o,hfro⟩
   obtain ⟨no,hno⟩ : ∃ no,(ordL l).length = no:=⟨_,rfl⟩
   have hno4 : no≤4:=by rw [← hno];exact Nat.le_trans (ordL_len l) hn
   have HNO:=hid hno
   have HFRO:=hid hfro
   rw [hno] at hro ⊢
   have HRO:=hid hro
   have HB3O:=hid (HU2.out.1.trans (hb3o.mono HU2.out.1.size))
   have hbS3 : Boxed u3 (R0 + 1) 48 (.slice (some ⟨R0,0,none⟩) 1 1):=boxed_below HU2.out.2 hb3o (by omega)
   have HBS3:=hid hbS3
   have hrow3 : u3.ownsRow R0 47 2 (.slice (some ⟨R0,0,none⟩) 1 1) 1 (flat [(0,0)]):=row_keep HOWR.out fun g e=>hb3o.block g (by
    have : R0 = g:=by simpa [Value.ownBlock] using e
    omega)
   have HROW3:=hid hrow3
   have hsu3:=hb3o.size
   clear hro hb3o hbS3 hno hfro hrow3
   go_wp2_with (fail)
   refine (backI_any Ao no co u3).mono ?_
   rintro e u4' ⟨rfl,hbx4,hb4o,hsz4⟩
   have hcs:=hbx4.cell
   have bO2 : Boxed u4' (R0 + 1) 48 (.slice (some ⟨R0,0,none⟩) 1 1):=boxed_below HBS3.out hb4o (by omega)
   have HBW4:=hid (HB3O.out.trans (hb4o.mono HB3O.out.size))
   have hrow4 : u4'.ownsRow R0 47 2 (.slice (some ⟨R0,0,none⟩) 1 1) 1 (flat [(0,0)]):=row_keep HROW3.out fun g e=>hb4o.block g (by
    have : R0 = g:=by simpa [Value.ownBlock] using e
    omega)
   have hst:=backS_stopsK 3 (by omega) u3.heap.size Ao no co (ordL l) (by omega) (keeperP (R0 + 1)) u4'
    (fun W k hW e=>by
     have hp:=ptr_boxed (boxed_below bO2 hW (by omega))
     have hk : R0 + 2≤k:=by
      rcases e with rfl | ⟨_,off,e⟩
      ·omega
      ·have:=HFRO.out k off e;omega
     refine ⟨by omega,fun hg=>?_⟩
     rw [hp] at hg
     have hg : R0 = k:=by simpa [Value.ownBlock] using hg
     omega) hcs (HRO.out.belowM hb4o)
   have hq0 : Is [(0,0)] (SumQ (ownL L) []):=⟨⟨List.pairwise_singleton _ _,fun p hp=>by
    obtain rfl:=List.mem_singleton.1 hp
    unfold Ok
    simp⟩,fun x=>by
    rw [mem_one]
    unfold Rng SumQ
    simp only
    omega⟩
   have hcq0:=curQ_is hq0
   have HORDM:=hid (fun (a : Int) (ha : a∈ordL l)=>show 0≤a∧a < (L.length : Int) from by
    obtain ⟨q,hq,e⟩:=(ordL_mem l a).1 ha
    have:=HQ.out q hq
    have:=HKL.out
    omega)
   have HOWL:=hid (fun (a : Int) (ha : a∈ordL l)=>show ownL L a≠[]∧Plain (ownL L a)∧(∀ x,mem (ownL L a) x→0≤x∧x≤264241152) from by
    obtain ⟨h1,h2⟩:=HORDM.out a ha
    obtain ⟨j,rfl⟩ : ∃ j : Nat,a = (j : Int):=⟨a.toNat,by omega⟩
    have hj : j < gs.length:=by have:=HKL.out;omega
    have h3:=HOWN.out j hj
    obtain ⟨j1,j2,_⟩:=join_mem (plP_bits HBT.out (j : Int)) (Nat.le_trans (plP_len l j) hn) (HNE.out _ (List.getElem_mem hj)) h3
    exact ⟨j1,h3.1,j2⟩)
   clear hcs hbx4 hb4o q0 q1 q2 q3 q4 q5
   have hR4 : R0 + 2≤u4'.heap.size:=by omega
   go_wp2_with (fail)
   refine (wpIn_wide (n:=4)).1 ?_
   refine rangeFunc_at (F:=Fence.wide) rfl (by omega) (gf:=127) (lb:=#[.pointer (some ⟨u3.heap.size,0,none⟩)]) rfl trivial (enters_of Tryz.func127 (by kernel_rfl) rfl)
    hst (fun h k=>(keeperP _).trans h k) (fun W l o o' hl ho hc _=>keepP_put (by omega) ho hc) (Below.refl _ _) (fun _=>rfl)
    (fun pre W=>(∃ v,Boxed W (R0 + 1) 48 v∧W.ownsRow R0 47 2 v (curQ (ownL L) (rr pre)).length (flat (curQ (ownL L) (rr pre)))∧IsQ (ownL L) (rr pre))∧Below R0 wr W)
    (fun _ _ _=>False)
    (OwnFrom.and (Own.from (holdsRow_own R0 (R0 + 1) 48 47 2 (fun pre : List (El (ordL l))=>(curQ (ownL L) (rr pre)).length) (fun pre=>flat (curQ (ownL L) (rr pre))) (fun pre _=>IsQ (ownL L) (rr pre))) _) (ownFrom_below (by omega) (by omega)))
    (fun _ _ _ _ _ hs _ _=>hs)
    ⟨⟨_,bO2,by
     show u4'.ownsRow R0 47 2 _ (curQ (ownL L) []).length (flat (curQ (ownL L) []))
     rw [hcq0]
     exact hrow4,isQ_of hq0⟩,by rw [← hR0];exact HBW4.out⟩
    (fun a x=>{ tmps:=((a.tmps.setIfInBounds 78 (.int .i64 (x.1.1 : Int))).setIfInBounds 79 (.int .i64 x.1.2)).setIfInBounds 19 (.int .i64 x.1.2),defers:=[] }) ?assign ?body ?done ?stop
   case assign=>
    intro lp x W K hK
    clear hst
    dsimp only at hK
    simp only [sA,sB,sC] at hK
    gi_wp2
    exact hK
   case body=>
    rintro lp pre x W ⟨⟨v,hv,hrow,hisq⟩,hB⟩ hlt
    rw [evS_len,HNO.out] at hlt
    have hxm:=x.2
    obtain ⟨h1,h2⟩:=HORDM.out _ hxm
    obtain ⟨o1,o2,o3⟩:=HOWL.out _ hxm
    obtain ⟨a,ha⟩ : ∃ a,x.1.2 = a:=⟨_,rfl⟩
    have HRR:=hid (rr_snoc pre x)
    rw [ha] at HRR h1 h2 o1 o2 o3 ⊢
    obtain ⟨j,hj⟩ : ∃ j : Nat,a = (j : Int):=⟨a.toNat,by omega⟩
    subst hj
    have hjl : j < L.length:=by omega
    have hB' : Below wr.heap.size wr W:=by rw [hR0];exact hB
    have hWs:=hB'.size
    obtain ⟨g,capg,Aj,cj,hvv,hg1,hg2,hcg,hrsj,hcj,_⟩:=(HROW.out.below hB').at_ hjl
    have hgR : g < R0:=by rw [← hR0];exact (HROW.out.lt (g:=g) (by rw [hvv];rfl)).2
    have hbxE : Boxed W E 40 (.slice (some ⟨g,0,none⟩) L.length capg):=by rw [← hvv];exact boxed_below HBX.out hB' hEl
    have hol : ownL L (j : Int) = L[j]:=ownL_nat hjl
    obtain ⟨Lj,hLj⟩ : ∃ Lj,L[j] = Lj:=⟨_,rfl⟩
    rw [hLj] at hol hcg hrsj hcj
    rw [hol] at o1 o2 o3
    obtain ⟨cur,hcur⟩ : ∃ cur,curQ (ownL L) (rr pre) = cur:=⟨_,rfl⟩
    have hiscur : Is cur (SumQ (ownL L) (rr pre)):=by rw [← hcur];exact hisq
    rw [hcur] at hrow
    have hown : OwnsL W R0 v cur:=hrow
    obtain ⟨Av,cv,hvA,hcvn,hrsv⟩:=own_RS hown
    have hmemo : ∀ b∈rr pre,b∈ordL l:=rr_mem pre
    have hcne : cur≠[]:=fun e=>by
     obtain ⟨y,hy⟩:=sumQ_some (own:=ownL L) (rr pre) (fun b hb=>by
      obtain ⟨p1,p2,_⟩:=HOWL.out b (hmemo b hb)
      exact ⟨_,(first_mem p2 p1).1⟩)
     exact hiscur.nil_iff.1 e y hy
    have hrl : (rr pre).length = pre.length:=by simp [rr]
    have hcb : ∀ y,mem cur y→0≤y∧y≤264241152 * (pre.length : Int):=fun y hy=>by
     have:=sumQ_boundO (own:=ownL L) (rr pre) (fun b hb=>(HOWL.out b (hmemo b hb)).2.2) y ((hiscur.2 y).1 hy)
     rw [hrl] at this
     exact this
    have hct:=ct_ok hiscur.1 o2 hcne o1 (fun x hx=>(hcb x hx).1) (fun x hx=>(o3 x hx).1)
    have hm1:=(hcb _ (last_mem hiscur.1 hcne).1).2
    have hm2:=(o3 _ (last_mem o2 o1).1).2
    have hsum : Calls Tryz.prog 115 #[.slice Av cur.length cv,.slice Aj Lj.length cj] W.drew (SetOut (SumS cur Lj) W.drew):=sums_all Av Aj cur.length Lj.length cv cj cur Lj (most cur) (most Lj) W.drew (show RS W.drew W.drew.heap.size Av cur.length cur from hrsv) (show RS W.drew W.drew.heap.size Aj Lj.length Lj from hrsj) hiscur.1.short o2.short hct (by omega)
    have HSUM:=hid hsum
    have HIS:=hid (fun (q : List Span) (hq : Is q (SumS cur Lj))=>show Is q (SumQ (ownL L) (rr (pre ++ [x]))) from by
     rw [HRR.out]
     refine hq.congr fun y=>?_
     constructor
     ·rintro ⟨a1,b1,q1,q2,q3⟩
      exact ⟨a1,b1,(hiscur.2 a1).1 q1,by rw [hol];exact q2,q3⟩
     ·rintro ⟨a1,b1,q1,q2,q3⟩
      rw [hol] at q2
      exact ⟨a1,b1,(hiscur.2 a1).2 q1,q2,q3⟩)
    have HNEQ:=hid (show ∃ y,SumQ (ownL L) (rr (pre ++ [x])) y from sumQ_some (own:=ownL L) (rr (pre ++ [x])) (fun b hb=>by
     obtain ⟨p1,p2,_⟩:=HOWL.out b (rr_mem (pre ++ [x]) b hb)
     exact ⟨_,(first_mem p2 p1).1⟩))
    have hc:=hv.cell
    have hf:=hv.frozen
    have hBl:=hv.lt
    have hcE:=hbxE.cell
    have HV:=hid hv
    have HBB:=hid hB
    subst hvA
    have i1 : (0 : Int)≤(j : Int):=h1
    have i2 : (j : Int) < (L.length : Int):=h2
    clear hst hrow hown hv hB hB' hisq hiscur hcne hcb hct hm1 hm2 hrsv hrsj hmemo hcur hol hxm ha hvv hbxE HRR o1 o2 o3 bO2 hrow4 hcq0 hq0 hsum
    simp only [sA,sB,sC]
    gi_wp2_with (fail)
    refine Ro.wpIn_round (S:=(fun w'=>w'.cell? ⟨E,0,none⟩ = some (.slice (some ⟨g,0,none⟩) L.length capg)∧w'.cell? ⟨g,j,none⟩ = some (.slice Aj Lj.length cj))) (by kernel_rfl) (Ro.nodefer (by kernel_rfl)) ?hq ⟨hcE,hcg⟩ (fun hHeld=>?_)
    case hq=>
     rintro ⟨a',w',h'⟩
     exact h'
    refine wpAnyH_take (i:=1) (oi:=⟨some 81,.load 40 (.tmp 7),_,_,_,none⟩) (v:=?_) rfl (by kernel_rfl) (by kernel_rfl) (by kernel_rfl) (fun _ _ _ h=>h) (Or.inl ⟨by rfl,?_⟩) (by assumption) ?_
    rotate_left
    ·intro w' hSw
     (try dsimp only at hSw)
     go_simp
     all_goals with_reducible rfl
    try simp only [Act.put,sA,sB,sC]
    refine wpAnyH_take (i:=2) (oi:=⟨some 82,.move (.tmp 19),_,_,_,none⟩) (v:=?_) rfl (by kernel_rfl) (by kernel_rfl) (by kernel_rfl) (fun _ _ _ h=>h) (Or.inl ⟨by rfl,?_⟩) (by assumption) ?_
    rotate_left
    ·intro w' hSw
     (try dsimp only at hSw)
     go_simp
     all_goals with_reducible rfl
    try simp only [Act.put,sA,sB,sC]
    refine wpAnyH_take (i:=3) (oi:=⟨some 83,.indexAddr 40 (.tmp 81) (.tmp 82),_,_,_,none⟩) (v:=?_) rfl (by kernel_rfl) (by kernel_rfl) (by kernel_rfl) (fun _ _ _ h=>h) (Or.inl ⟨by rfl,?_⟩) (by assumption) ?_
    rotate_left
    ·intro w' hSw
     (try dsimp only at hSw)
     go_simp
     all_goals with_reducible rfl
    try simp only [Act.put,sA,sB,sC]
    refine wpAnyH_take (i:=4) (oi:=⟨some 84,.load 48 (.tmp 83),_,_,_,none⟩) (v:=?_) rfl (by kernel_rfl) (by kernel_rfl) (by kernel_rfl) (fun _ _ _ h=>h) (Or.inl ⟨by rfl,?_⟩) (by assumption) ?_
    rotate_left
    ·intro w' hSw
     (try dsimp only at hSw)
     go_simp
     all_goals with_reducible rfl
    try simp only [Act.put,sA,sB,sC]
    refine wpAnyH_ready (rs:=[0]) (by kernel_rfl) (by simp) ?_
    refine AllReadyH.cons (o:=⟨some 80,.load 48 (.tmp 17),_,_,_,none⟩) rfl (fun K hK=>?_) AllReadyH.nil
    go_simp
    refine hK.out _ _ hHeld (fun hHeld=>?_)
    clear hK K
    try simp only [Act.put,sA,sB,sC]
    refine wpAnyH_ready (rs:=[5]) (by kernel_rfl) (by simp) ?_
    refine AllReadyH.cons (o:=⟨some 85,.call { callee:=.value (.func 115),args:=#[.tmp 80,.tmp 84],argTypes:=#[48,48] },_,_,_,none⟩) rfl (fun K hK=>?_) AllReadyH.nil
    go_simp
    refine HSUM.out.mono ?_
    rintro e w9 ⟨v9,out9,rfl,his9,hown9,hb9⟩
    have hbW9 : Below W.heap.size W w9:=((Below.refl W.heap.size W).drew).trans hb9
    have hne9 : out9≠[]:=fun e=>by
     obtain ⟨y,hy⟩:=HNEQ.out
     exact (HIS.out out9 his9).nil_iff.1 e y hy
    have hl9 : 0 < out9.length:=List.length_pos_iff.2 hne9
    obtain ⟨g9,cap9,hv9,hg9,hgl9⟩:=World.ownsRow.form hown9 hl9
    have hg9' : W.heap.size≤g9:=hg9
    subst hv9
    have hbx9 : Boxed w9 (R0 + 1) 48 (.slice Av cur.length cv):=boxed_below HV.out hbW9 hBl
    have hc9:=hbx9.cell
    have hf9:=hbx9.frozen
    have hcE9 : w9.cell? ⟨E,0,none⟩ = some (.slice (some ⟨g,0,none⟩) L.length capg):=(hbW9.cell (p:=⟨E,0,none⟩) (show E < W.heap.size by omega)).trans hcE
    have hcg9 : w9.cell? ⟨g,j,none⟩ = some (.slice Aj Lj.length cj):=(hbW9.cell (p:=⟨g,j,none⟩) (show g < W.heap.size by omega)).trans hcg
    refine hK.out _ _ ⟨hcE9,hcg9⟩ (fun hHeld=>?_)
    clear hK K
    try simp only [Act.put,sA,sB,sC]
    have hkp:=keepP_append (g:=g9) (n:=out9.length) (cap:=cap9) HV.out hbx9 hbW9.size (fun k hk _=>hbW9.block k hk) (.inr hg9') hgl9
    have HKP:=hid hkp
    have HKO:=hid ((keeps_below hbW9).trans (KeepsOthers.setCell w9 ⟨R0 + 1,0,none⟩ (.slice (some ⟨g9,0,none⟩) out9.length cap9)))
    have HJ:=hid (show Boxed (w9.setCell ⟨R0 + 1,0,none⟩ (.slice (some ⟨g9,0,none⟩) out9.length cap9)) (R0 + 1) 48 (.slice (some ⟨g9,0,none⟩) out9.length cap9)∧(w9.setCell ⟨R0 + 1,0,none⟩ (.slice (some ⟨g9,0,none⟩) out9.length cap9)).ownsRow R0 47 2 (.slice (some ⟨g9,0,none⟩) out9.length cap9) out9.length (flat out9)∧Below R0 W (w9.setCell ⟨R0 + 1,0,none⟩ (.slice (some ⟨g9,0,none⟩) out9.length cap9)) from
     ⟨hbx9.set _,row_keep (own_mono hown9 (show R0≤W.heap.size by omega)) (fun q e=>heap_setCell_other w9 ⟨R0 + 1,0,none⟩ q _ (fun e2=>by
      have e3 : g9 = q:=by simpa [Value.ownBlock] using e
      simp only at e2
      omega)),(hbW9.mono (by omega)).setCell (by show R0≤R0 + 1;omega) _⟩)
    have HCQ:=hid (curQ_is (HIS.out out9 his9))
    have HIQ:=hid (isQ_of (HIS.out out9 his9))
    clear hown9 hb9 hbW9 hbx9 hkp his9
    refine wpAnyH_ready (rs:=[6]) (by kernel_rfl) (by simp) ?_
    refine AllReadyH.cons (o:=⟨none,.store 48 (.tmp 17) (.tmp 85),_,_,_,none⟩) rfl (fun K hK=>?_) AllReadyH.nil
    go_simp
    refine hK.out _ _ ⟨(World.cell?_setCell_far w9 ⟨R0 + 1,0,none⟩ ⟨E,0,none⟩ _ (show R0 + 1≠E by omega)).trans hcE9,(World.cell?_setCell_far w9 ⟨R0 + 1,0,none⟩ ⟨g,j,none⟩ _ (show R0 + 1≠g by omega)).trans hcg9⟩ (fun hHeld=>?_)
    clear hK K
    try simp only [Act.put,sA,sB,sC]
    refine wpAnyH_done (by kernel_rfl) ?_ _
    gi_wp2_with (fail)
    refine ⟨HKO.out,HKP.out,⟨_,HJ.out.1,?_,HIQ.out⟩,HBB.out.trans HJ.out.2.2⟩
    rw [HCQ.out]
    exact HJ.out.2.1
   case done=>
    rintro D ys W hD rfl ⟨⟨v,hv,hrow,hisq⟩,hB⟩ hK
    have hB' : Below wr.heap.size wr W:=by rw [hR0];exact hB
    have hc:=hv.cell
    obtain ⟨cur,hcur⟩ : ∃ cur,curQ (ownL L) (rr (evS (ordL l))) = cur:=⟨_,rfl⟩
    have hiscur : Is cur (SumQ (ownL L) (rr (evS (ordL l)))):=by rw [← hcur];exact hisq
    rw [hcur] at hrow
    have hown : OwnsL W R0 v cur:=hrow
    obtain ⟨Av,cv,hvA,hcvn,hrsv⟩:=own_RS hown
    subst hvA
    have hrr : rr (evS (ordL l)) = ordL l:=by unfold rr;rw [evS_vals,List.reverse_reverse]
    rw [hrr] at hiscur
    have hb0w : Below w0.heap.size w0 W:=HB0R.out.trans (hB'.mono HB0R.out.size)
    obtain ⟨q0,q1,q2,q3,q4,q5⟩:=X6.out W hb0w
    have HMV:=hid (move_any Av cur.length cv cur s W hrsv (by have:=hiscur.1.short;omega) hcvn)
    have HIN:=hid (fun (out : List Span) (ho : Is out (fun x=>Rng x∧mem cur (x - s)))=>show Is out (InnS gs l s) from ho.congr fun z=>by
     rw [hiscur.2]
     have key:=inn_sum (ordL_nodup l) (fun q hq=>(ordL_mem l q.1).2 ⟨q,hq,rfl⟩) (fun i hi=>by
      obtain ⟨q,hq,rfl⟩:=(ordL_mem l i).1 hi
      exact HQ.out q hq) HOWN.out HNE.out s z
     have e1 : SumQ (ownL L) (ordL l) (z - s)↔SumO (ownL L) (ordL l) (z - s):=(sumQ_O (ordL l) (ordL_nodup l) (z - s)).trans (sumO_perm (List.reverse_perm (ordL l)) _)
     rw [e1,← key]
     constructor
     ·exact fun h=>h.2
     ·rintro ⟨xs,h1,h2⟩
      refine ⟨?_,xs,h1,h2⟩
      have:=(HOK.out xs h1).2
      rw [h2] at this
      unfold Sy at this
      unfold Rng
      omega)
    have HBFIN:=hid (HBW.out.trans (hB'.mono HBW.out.size))
    have HK:=hid hK
    have HD:=hid hD
    clear hst hv hrow hown hB hB' hisq hiscur hcur hrsv hK hD hb0w bO2 hrow4 hcq0 hq0
    go_wp2_with (fail)
    refine HMV.out.mono ?_
    rintro e w5 ⟨v5,out5,rfl,his5,hown5,hb5⟩
    have HFI:=hid (And.intro (HIN.out out5 his5) (And.intro (show OwnsL w5 w.heap.size v5 out5 from own_mono hown5 (HBFIN.out.size)) (HBFIN.out.trans (hb5.mono HBFIN.out.size))))
    have hK5 : w5.heap[D]? = some (.deferred (some [])):=(hb5.block D (Array.getElem?_eq_some_iff.1 HK.out).1).trans HK.out
    have HD5:=hid (show w.heap.size≤D from by have:=HD.out;omega)
    clear hb5 his5 hown5
    go_wp2_with (fail)
    refine ⟨by simp,.inl ⟨_,_,rfl,run_takeDeferred hK5,?_⟩⟩
    exact ⟨_,results_tmp2 rfl _ _ _,_,_,_,rfl,ownsRow_putObj HFI.out.2.1 _ hK5 rfl,HFI.out.2.2.trans (belowK_b (w:=w) (Nat.le_refl _) w5 D _ (.deferred none) HD5.out hK5 rfl rfl),⟨fun _=>HOK.out,fun _=>rfl⟩,fun _=>HFI.out.1,fun q=>absurd q (by decide)⟩
   case stop=>
    rintro D cd pre W hD hpre h hK
    exact h.elim
end Go.Proofs.YtpcgaebbbioifaaGreatDoor.Fi
namespace Go.Proofs.YtpcgaebbbioifaaGreatDoor.Fi
set_option maxHeartbeats 64000000
open Go Go.RowKit Go.Shelf Go.Maps Sp Pa Te Mi Sh
open Go.Lib (hid)
def ImgOut (b d t u s : Int) (l : List PT) (gs : List (List Span)) (w : World) (e : Ending) (w' : World) : Prop:=
 ∃ (v : Value) (ok : Bool) (out : List Span),e = .returned (.tuple #[v,.bool ok])∧OwnsL w' w.heap.size v out∧Below w.heap.size w w'∧(ok = true↔ImgOk b d t u s l gs)∧(ok = true→Is out (ImgT b d t u s l gs))
theorem img_no {b d t u s : Int} {l : List PT} {gs : List (List Span)} {w w' : World} {e : Ending} (hno : ¬ ImgOk b d t u s l gs) (hb : Below w.heap.size w w') (he : e = .returned (.tuple #[.slice none 0 0,.bool false])) : ImgOut b d t u s l gs w e w':=
 ⟨_,false,[],he,World.ownsRow_nil _ _ _ _,hb,⟨fun q=>absurd q (by decide),fun q=>absurd q hno⟩,fun q=>absurd q (by decide)⟩
theorem img_none {b d t u s : Int} {l : List PT} {gs : List (List Span)} {w w' : World} {e : Ending} (h : ImgOk b d t u s l gs∧∀ y,¬ ImgT b d t u s l gs y) (hb : Below w.heap.size w w') (he : e = .returned (.tuple #[.slice none 0 0,.bool true])) : ImgOut b d t u s l gs w e w':=
 ⟨_,true,[],he,World.ownsRow_nil _ _ _ _,hb,⟨fun _=>h.1,fun _=>rfl⟩,fun _=>⟨Plain.nil,fun x=>⟨fun q=>absurd q (mem_nil x),fun q=>absurd q (h.2 x)⟩⟩⟩
theorem img_all {b d t u s : Int} {l : List PT} {gs : List (List Span)} (h4 : gs.length≤4) (hn : numB b d t u s l = true) (hp : partsB gs.length l = true) : ImgOk b d t u s l gs↔AllIn gs l s:=by
 have key : ∀ xs,WinS gs xs→(HasVal b d t u s l xs↔(∀ x∈xs,Sy x)∧Sy (innT xs s l)):=fun xs hx=>hasVal_iff hn (by rw [hx.1];exact hp)
 exact ⟨fun ⟨_,_,_,h⟩ xs hx=>(key xs hx).1 (h xs hx),fun h=>⟨h4,hn,hp,fun xs hx=>(key xs hx).2 (h xs hx)⟩⟩
theorem img_val {b d t u s : Int} {l : List PT} {gs : List (List Span)} (h4 : gs.length≤4) (hn : numB b d t u s l = true) (hp : partsB gs.length l = true) (ha : AllIn gs l s) (y : Int) : ImgT b d t u s l gs y↔∃ z,InnS gs l s z∧b + valI d t u z = y:=by
 unfold ImgT InnS
 constructor
 ·rintro ⟨xs,h1,h2,h3⟩
  rw [value_is hn (by rw [h1.1];exact hp),if_pos (ha xs h1)] at h3
  exact ⟨_,⟨xs,h1,rfl⟩,h3⟩
 ·rintro ⟨_,⟨xs,h1,rfl⟩,h3⟩
  refine ⟨xs,h1,((img_all h4 hn hp).2 ha).2.2.2 xs h1,?_⟩
  rw [value_is hn (by rw [h1.1];exact hp),if_pos (ha xs h1)]
  exact h3
theorem img_fin {b d t u s : Int} {l : List PT} {gs : List (List Span)} {inn im out : List Span} (h4 : gs.length≤4) (hn : numB b d t u s l = true) (hp : partsB gs.length l = true) (ha : AllIn gs l s) (hi : Is inn (InnS gs l s)) (him : Is im (ImgS d t u inn)) (ho : Is out (fun x=>Rng x∧mem im (x - b))) : Is out (ImgT b d t u s l gs):=by
 obtain ⟨h1,h2,h3,_⟩:=num_parts hn
 refine ho.congr fun y=>?_
 rw [img_val h4 hn hp ha,him.2]
 unfold ImgS DomS
 constructor
 ·rintro ⟨_,z,⟨_,hz,_⟩,e⟩
  exact ⟨z,(hi.2 z).1 hz,by omega⟩
 ·rintro ⟨z,hz,e⟩
  have hsy : Sy z:=by obtain ⟨xs,hx,rfl⟩:=hz;exact (ha xs hx).2
  have hv:=valI_bound h3 z
  unfold Sm at h1
  unfold Sy at hsy
  exact ⟨by unfold Rng;omega,z,⟨h3,(hi.2 z).2 hz,by omega,by omega⟩,by omega⟩
theorem timg_any (b d t u s : Int) (A : Option Addr) (n c : Nat) (l : List PT) (G : Option Addr) (gc : Nat) (gs : List (List Span)) (w : World) (h : RP w w.heap.size A n l) (hn : n≤maxLen)
  (hg : RGs w G gs.length gs) (hg4 : gs.length≤4) (hgm : ∀ g∈gs,g.length≤1099511627776) (hT : TabB w) :
  Calls Tryz.prog 70 #[trm b d t u s A n c,.slice G gs.length gc] w (ImgOut b d t u s l gs w):=by
 have hlen:=h.1
 subst hlen
 obtain ⟨w0,hw0⟩ : ∃ w0,w.alloc (.cells (tcells b d t u s A l.length c) 51) = w0:=⟨_,rfl⟩
 have hbw : Below w.heap.size w w0:=by rw [← hw0];exact (Below.refl _ w).alloc (Nat.le_refl _) _
 have hsz0 : w0.heap.size = w.heap.size + 1:=by rw [← hw0];simp
 have X6:=hid (fun W (hb : Below w0.heap.size w0 W)=>show Boxed6 W w.heap.size b d t u s A l.length c from by rw [← hw0] at hb;exact boxed6 hb)
 obtain ⟨r0,r1,r2,r3,r4,r5⟩:=X6.out w0 (Below.refl _ _)
 have HNUM:=hid (fun W (hW : RP W W.heap.size A l.length l)=>tnum_any b d t u s A l.length c l W hW hn)
 have HPAR:=hid (fun W (hW : RP W W.heap.size A l.length l)=>tparts_any b d t u s A l.length c l (gs.length : Int) W hW hn)
 have HP0:=hid (h.belowM hbw)
 have HG0:=hid (hg.belowM hbw)
 have HBW:=hid hbw
 have HTB:=hid (hT.next hbw)
 have HGM:=hid hgm
 have hd4 : decide ((4 : Int) < (gs.length : Int)) = false:=decide_eq_false (by omega)
 clear h hg hbw hT hgm
 by_cases k1 : numB b d t u s l = true
 case neg=>
  rw [Bool.not_eq_true] at k1
  rw [k1] at HNUM
  have HNO:=hid (show ¬ ImgOk b d t u s l gs from fun q=>by have q1:=q.2.1;rw [k1] at q1;exact absurd q1 (by decide))
  clear k1
  go_enter Tryz.func70,Tryz.ntmps70
  go_wp2_with (fail)
  refine (HNUM.out _ HP0.out).mono ?_
  rintro e w1 ⟨rfl,hb1⟩
  have HF:=hid (HBW.out.trans (hb1.mono HBW.out.size))
  clear hb1
  go_wp2_with (fail)
  go_ret2
  exact img_no HNO.out HF.out rfl
 by_cases k2 : partsB gs.length l = true
 case neg=>
  rw [Bool.not_eq_true] at k2
  rw [k1] at HNUM
  rw [k2] at HPAR
  have HNO:=hid (show ¬ ImgOk b d t u s l gs from fun q=>by have q1:=q.2.2.1;rw [k2] at q1;exact absurd q1 (by decide))
  clear k1 k2
  go_enter Tryz.func70,Tryz.ntmps70
  go_wp2_with (fail)
  refine (HNUM.out _ HP0.out).mono ?_
  rintro e w1 ⟨rfl,hb1⟩
  obtain ⟨r0,r1,r2,r3,r4,r5⟩:=X6.out w1 hb1
  have HP1:=hid (HP0.out.belowM hb1)
  have HF1:=hid (HBW.out.trans (hb1.mono HBW.out.size))
  clear hb1
  go_wp2_with (fail)
  refine (HPAR.out _ HP1.out).mono ?_
  rintro e w2 ⟨rfl,hb2⟩
  have HF:=hid (HF1.out.trans (hb2.mono HF1.out.size))
  clear hb2
  go_wp2_with (fail)
  go_ret2
  exact img_no HNO.out HF.out rfl
 have hsm:=num_parts k1
 have HNP:=hid (And.intro k1 k2)
 have HPA:=hid (parts_all k2)
 rw [k1] at HNUM
 rw [k2] at HPAR
 have hl4:=hsm.2.2.2
 have HSM:=hid hsm
 clear k1 k2 hsm
 by_cases k3 : EmptyP gs
 ·have HEM:=hid (fun W (hW : RGs W G gs.length gs)=>empty_any G gc gs true W hW (by omega) HGM.out ⟨fun _=>k3,fun _=>rfl⟩)
  have HNO:=hid (show ImgOk b d t u s l gs∧∀ y,¬ ImgT b d t u s l gs y from by
   obtain ⟨g,hg,he⟩:=k3
   exact img_empty hg4 HNP.out.1 HNP.out.2 hg he)
  clear k3
  go_enter Tryz.func70,Tryz.ntmps70
  go_wp2_with (fail)
  refine (HNUM.out _ HP0.out).mono ?_
  rintro e w1 ⟨rfl,hb1⟩
  obtain ⟨r0,r1,r2,r3,r4,r5⟩:=X6.out w1 hb1
  have HP1:=hid (HP0.out.belowM hb1)
  have HG1:=hid (HG0.out.belowM hb1)
  have HF1:=hid (HBW.out.trans (hb1.mono HBW.out.size))
  clear hb1
  go_wp2_with (fail)
  refine (HPAR.out _ HP1.out).mono ?_
  rintro e w2 ⟨rfl,hb2⟩
  have HF2:=hid (HF1.out.trans (hb2.mono HF1.out.size))
  have HG2:=hid (HG1.out.belowM hb2)
  clear hb2
  go_wp2_with (fail)
  refine (HEM.out _ HG2.out).mono ?_
  rintro e w3 ⟨rfl,hb3⟩
  have HF:=hid (HF2.out.trans (hb3.mono HF2.out.size))
  clear hb3
  go_wp2_with (fail)
  go_ret2
  exact img_none HNO.out HF.out rfl
 have hne : ∀ g∈gs,∃ x,mem g x:=fun g hg=>Classical.byContradiction fun q=>k3 ⟨g,hg,fun x hx=>q ⟨x,hx⟩⟩
 have HEM:=hid (fun W (hW : RGs W G gs.length gs)=>empty_any G gc gs false W hW (by omega) HGM.out ⟨fun q=>absurd q (by decide),fun q=>absurd q k3⟩)
 have HINN:=hid (fun W (hW : RP W W.heap.size A l.length l) (hG : RGs W G gs.length gs) (hT : TabB W)=>inners_any b d t u s A l.length c l G gc gs W hW hl4 HPA.out.1 HPA.out.2 HSM.out.2.1 hG hg4 HGM.out hne hT)
 clear k3 hne
 go_enter Tryz.func70,Tryz.ntmps70
 go_wp2_with (fail)
 refine (HNUM.out _ HP0.out).mono ?_
 rintro e w1 ⟨rfl,hb1⟩
 obtain ⟨r0,r1,r2,r3,r4,r5⟩:=X6.out w1 hb1
 have HP1:=hid (HP0.out.belowM hb1)
 have HG1:=hid (HG0.out.belowM hb1)
 have HT1:=hid (HTB.out.next hb1)
 have HB1:=hid hb1
 clear hb1
 go_wp2_with (fail)
 refine (HPAR.out _ HP1.out).mono ?_
 rintro e w2 ⟨rfl,hb2⟩
 have HP2:=hid (HP1.out.belowM hb2)
 have HG2:=hid (HG1.out.belowM hb2)
 have HT2:=hid (HT1.out.next hb2)
 have HB2:=hid (HB1.out.trans (hb2.mono HB1.out.size))
 clear hb2
 go_wp2_with (fail)
 refine (HEM.out _ HG2.out).mono ?_
 rintro e w3 ⟨rfl,hb3⟩
 have HP3:=hid (HP2.out.belowM hb3)
 have HG3:=hid (HG2.out.belowM hb3)
 have HT3:=hid (HT2.out.next hb3)
 have hb3':=HB2.out.trans (hb3.mono HB2.out.size)
 obtain ⟨r0,r1,r2,r3,r4,r5⟩:=X6.out w3 hb3'
 have HB3:=hid hb3'
 clear hb3 hb3'
 go_wp2_with (fail)
 refine (HINN.out _ HP3.out HG3.out HT3.out).mono ?_
 intro e w4 hq4
 obtain ⟨v4,ok,inn,rfl,hown4,hb4,hok,his4,hnil⟩:=hq4
 have hb4':=HB3.out.trans (hb4.mono HB3.out.size)
 have hz4:=hb4'.size
 cases ok with
 | false=>
  have hv:=hnil rfl
  subst hv
  have HNO:=hid (show ¬ ImgOk b d t u s l gs from fun q=>absurd (hok.2 ((img_all hg4 HNP.out.1 HNP.out.2).1 q)) (by decide))
  have HF:=hid (HBW.out.trans (hb4'.mono HBW.out.size))
  clear hown4 hb4 hb4' hok his4 hnil
  go_wp2_with (fail)
  go_ret2
  exact img_no HNO.out HF.out rfl
 | true=>
  have hall:=hok.1 rfl
  have hisI:=his4 rfl
  obtain ⟨A4,c4,hv4,hc4,hr4⟩:=own_RS hown4
  subst hv4
  have hsh:=hisI.1.short
  obtain ⟨r0,r1,r2,r3,r4,r5⟩:=X6.out w4 hb4'
  obtain ⟨m4,hm4⟩ : ∃ m4,inn.length = m4:=⟨_,rfl⟩
  rw [hm4] at hc4 hr4 hsh ⊢
  have HR4:=hid hr4
  have HII:=hid hisI
  have HALL:=hid hall
  have HBB:=hid (HBW.out.trans (hb4'.mono HBW.out.size))
  have HO:=hid (outer_any b d t u s A l.length c)
  have hwz : w.heap.size < w4.heap.size:=by omega
  clear hown4 hb4 hb4' hok his4 hnil hall hisI hr4 hm4
  go_wp2_with (fail)
  go_region_held3 (fun w'=>w'.cell? ⟨w.heap.size,0,none⟩ = some (.int .i64 b)∧w'.cell? ⟨w.heap.size,1,none⟩ = some (.int .i64 d)∧w'.cell? ⟨w.heap.size,2,none⟩ = some (.int .i64 t)∧w'.cell? ⟨w.heap.size,3,none⟩ = some (.int .i64 u)∧w'.cell? ⟨w.heap.size,4,none⟩ = some (.int .i64 s)∧w'.cell? ⟨w.heap.size,5,none⟩ = some (.slice A l.length c))
   (first
    | go_keep
    | (go_split_ands;refine ⟨?_,?_,?_,?_,?_,?_⟩;all_goals (rw [hb8.cell (by simp;omega)];assumption))
    | (go_split_ands;refine ⟨?_,?_,?_,?_,?_,?_⟩;all_goals (rw [hb7.cell (by simp;omega)];assumption))
    | (go_split_ands;refine ⟨?_,?_,?_,?_,?_,?_⟩;all_goals (rw [hb6.cell (by simp;omega)];assumption)))
   (first
    | (go_at_call 96;refine (HO.out _).mono ?_;rintro e w6 ⟨rfl,hb6⟩;have hz6 : w4.heap.size≤w6.heap.size:=by (have:=hb6.size;simpa using this))
    | (go_at_call 95;refine (image_any 0 d t u A4 m4 c4 inn _ (HR4.out.belowM ((Below.refl _ w4).drew.trans hb6)) (by omega) hc4).mono ?_;rintro e w7 ⟨v7,im,rfl,his7,ho7,hb7⟩;have hz7 : w4.heap.size≤w7.heap.size:=Nat.le_trans hz6 hb7.size;obtain ⟨A7,c7,hv7,hc7,hr7⟩:=own_RS ho7;have hsh7:=his7.1.short;obtain rfl:=hv7)
    | (go_at_call 94;refine (move_any A7 im.length c7 im b _ hr7 (by omega) hc7).mono ?_;rintro e w8 ⟨v8,out,rfl,his8,ho8,hb8⟩))
  have HIS:=hid (img_fin hg4 HNP.out.1 HNP.out.2 HALL.out HII.out his7 his8)
  have HO8:=hid (own_mono ho8 (show w.heap.size≤w7.heap.size by omega))
  have HB8:=hid (((HBB.out.drew.trans (hb6.mono (by simp;omega))).trans (hb7.mono (by omega))).trans (hb8.mono (by omega)))
  have HFO:=hid (show ImgOk b d t u s l gs from (img_all hg4 HNP.out.1 HNP.out.2).2 HALL.out)
  clear ho8 hb8 ho7 hb7 hb6 his7 his8 hr7
  go_wp2_with (fail)
  go_ret2
  exact ⟨_,_,_,rfl,HO8.out,HB8.out,⟨fun _=>HFO.out,fun _=>rfl⟩,fun _=>HIS.out⟩
end Go.Proofs.YtpcgaebbbioifaaGreatDoor.Fi
namespace Go.Proofs.YtpcgaebbbioifaaGreatDoor.Fi
set_option maxHeartbeats 64000000
open Go Go.RowKit Go.Shelf Go.Maps Sp Pa Te Mi Sh
open Go.Lib (hid)
def MetK (gs L : List (List Span)) : Prop := L.length ≤ gs.length ∧ ∀ (j : Nat) (h : j < gs.length) (h' : j < L.length), Is L[j] fun x => mem gs[j] x ∧ Sy x
theorem metK_all {gs L : List (List Span)} (h : MetK gs L) (hl : L.length = gs.length) : MetS gs L := ⟨hl, fun i h1 h2 => h.2 i h1 h2⟩
def Fi1 (gs : List (List Span)) (B : Nat) (w0 : World) (v i : Value) (wr : World) : Prop :=
  ∃ L : List (List Span), i = .int .i64 (L.length : Int) ∧ MetK gs L ∧ RowB wr B v L ∧ Below B w0 wr
theorem fits_any (b d t u s i o : Int) (A : Option Addr) (n c : Nat) (l : List PT) (G : Option Addr) (gc : Nat) (gs : List (List Span)) (v : Bool) (w : World) (h : RP w w.heap.size A n l) (hn : n ≤ maxLen)
    (hg : RGs w G gs.length gs) (hgm : ∀ g ∈ gs, g.length ≤ 1099511627776) (hT : TabB w) (hv : v = true ↔ FitsP (domL o) i o b d t u s l gs) :
    Calls Tryz.prog 55 #[trm b d t u s A n c, .int .i64 i, .int .i64 o, .slice G gs.length gc] w (RetB v w) := by
  have hlen := h.1
  subst hlen
  obtain ⟨i0, hi0, hz0, hz1, hz2⟩ := info_parts infoSet
  obtain ⟨w0, hw0⟩ : ∃ w0, w.alloc (.cells (tcells b d t u s A l.length c) 51) = w0 := ⟨_, rfl⟩
  have hbw : Below w.heap.size w w0 := by rw [← hw0]; exact (Below.refl _ w).alloc (Nat.le_refl _) _
  have hsz0 : w0.heap.size = w.heap.size + 1 := by rw [← hw0]; simp
  have X6 := hid (fun W (hb : Below w0.heap.size w0 W) => show Boxed6 W w.heap.size b d t u s A l.length c from by rw [← hw0] at hb; exact boxed6 hb)
  obtain ⟨r0, r1, r2, r3, r4, r5⟩ := X6.out w0 (Below.refl _ _)
  have HP0 := hid (h.belowM hbw)
  have HG0 := hid (hg.belowM hbw)
  have HBW := hid hbw
  have HTB := hid (hT.next hbw)
  have HGM := hid hgm
  have HV := hid hv
  clear h hg hbw hT hgm hv
  by_cases hg4 : gs.length ≤ 4
  case neg =>
    have hd4 : decide ((4 : Int) < (gs.length : Int)) = true := decide_eq_true (by omega)
    have hvf : v = false := by
      cases v with
      | false => rfl
      | true => exact absurd (HV.out.1 rfl).1 hg4
    subst hvf
    go_enter Tryz.func55, Tryz.ntmps55
    go_wp2_with (fail)
    go_ret
    exact ⟨rfl, HBW.out⟩
  have hd4 : decide ((4 : Int) < (gs.length : Int)) = false := decide_eq_false (by omega)
  have HRI := hid (fun W (hW : RP W W.heap.size A l.length l) => tright_any i o (gs.length : Int) b d t u s A l.length c l W hW hn)
  by_cases k1 : rightT i o gs.length b d t u s l = true
  case neg =>
    rw [Bool.not_eq_true] at k1
    have hvf : v = false := by
      cases v with
      | false => rfl
      | true => have q := (HV.out.1 rfl).2.1; rw [k1] at q; exact absurd q (by decide)
    subst hvf
    rw [k1] at HRI
    clear k1
    go_enter Tryz.func55, Tryz.ntmps55
    go_wp2_with (fail)
    refine (HRI.out _ HP0.out).mono ?_
    rintro e w1 ⟨rfl, hb1⟩
    have HF := hid (HBW.out.trans (hb1.mono HBW.out.size))
    clear hb1
    go_wp2_with (fail)
    go_ret
    exact ⟨rfl, HF.out⟩
  have HK1 := hid k1
  rw [k1] at HRI
  clear k1
  go_enter Tryz.func55, Tryz.ntmps55
  go_wp2_with (fail)
  refine (HRI.out _ HP0.out).mono ?_
  rintro e w1 ⟨rfl, hb1⟩
  have HP1 := hid (HP0.out.belowM hb1)
  have HG1 := hid (HG0.out.belowM hb1)
  have HT1 := hid (HTB.out.next hb1)
  have HB1 := hid hb1
  obtain ⟨B, hB⟩ : ∃ B, w1.heap.size = B := ⟨_, rfl⟩
  have hzB : w.heap.size < B := by have := hb1.size; omega
  have HST := hid (show Fi1 gs B w1 (.slice none 0 0) (.int .i64 (0 : Nat)) w1 from ⟨[], rfl, ⟨Nat.zero_le _, fun j _ h' => by simp at h'⟩, RowB.nil_ _ _, Below.refl _ _⟩)
  clear hb1
  go_wp2_with (fail)
  go_loopw [9, 28] (fun v i wr => Fi1 gs B w1 v i wr) (fun _ i _ => gs.length - (intOf i).toNat)
  case atStart => exact HST.out
  case round =>
    obtain ⟨L, rfl, hm, hrow, hbe⟩ := hrel
    have hwr := hbe.size
    have hLg := hm.1
    have hbE : Below w1.heap.size w1 wr := by rw [hB]; exact hbe
    have HM := hid hm
    have HROW := hid hrow
    have HBE := hid hbe
    have HBF := hid hbE
    obtain ⟨k, hk⟩ : ∃ k, L.length = k := ⟨_, rfl⟩
    have HKL := hid hk
    rw [hk] at hLg ⊢
    by_cases hlt : k < gs.length
    · obtain ⟨bb, off, Aj, cj, hA, hbB, hcg, hrg, hcj, hnj⟩ := (HG1.out.belowM hbE).at_ hlt
      obtain ⟨g, hgk⟩ : ∃ g, gs[k] = g := ⟨_, rfl⟩
      have HGK := hid hgk
      rw [hgk] at hcg hrg hcj
      have hgm := HGM.out g (by rw [← hgk]; exact List.getElem_mem hlt)
      obtain ⟨nj, hnjl⟩ : ∃ nj, g.length = nj := ⟨_, rfl⟩
      rw [hnjl] at hcg hrg hcj hgm
      have HRG := hid hrg
      subst hA
      clear hm hrow hbe hbE hrg hnj hnjl hgk hk
      go_wp2_with (fail)
      refine (symbols_any wr).mono ?_
      rintro e w6 ⟨gS, rfl, hrs, hb6⟩
      have HB6 := hid hb6
      have HME := hid (meet_any Aj (some ⟨gS, 0, none⟩) nj 1 cj 1 g [(0, 1114111)] w6 (HRG.out.belowM hb6) hrs hgm (by omega) hcj (Nat.le_refl _))
      clear hb6 hrs
      go_wp2_with (fail)
      refine HME.out.mono ?_
      rintro e w8 ⟨v8, own, rfl, his8, ho8, hb8⟩
      have hb10' := HB6.out.trans (hb8.mono HB6.out.size)
      have hnil8 := fun A' c' (e : v8 = .slice A' own.length c') => own_nil (by rw [e] at ho8; exact ho8)
      obtain ⟨A8, c8, hv8, hc8, hr8⟩ := own_RS ho8
      have hbl8 := fun b' off' (e : A8 = some ⟨b', off', none⟩) => World.ownsRow.lt ho8 b' (by rw [hv8, e]; rfl)
      have HNIL := hid (hnil8 A8 c8 hv8)
      subst hv8
      have HI8 := hid (his8.congr (T := fun x => mem g x ∧ Sy x) fun x => by rw [sym_mem])
      have HR8 := hid hr8
      have HBL8 := hid hbl8
      have HB10 := hid hb10'
      have hrow10 := HROW.out.below hb10'
      obtain ⟨vs, hvs0⟩ := hrow10.row
      obtain ⟨Av, cv, hvv⟩ := own_shape hvs0
      have HVLT := hid (fun q e => hrow10.lt (g := q) e)
      rw [HKL.out] at hvs0 hvv
      have HROW10 := hid hrow10
      subst hvv
      obtain ⟨w11, hw11⟩ : ∃ w11, w8.alloc (.cells #[.slice A8 own.length c8] 48) = w11 := ⟨_, rfl⟩
      have hb11 : Below w8.heap.size w8 w11 := by rw [← hw11]; exact (Below.refl _ _).alloc (Nat.le_refl _) _
      have hs11 : w11.heap.size = w8.heap.size + 1 := by rw [← hw11]; simp
      have hs8 : wr.heap.size ≤ w8.heap.size := hb10'.size
      have hv11 : w11.ownsRow B 48 1 (.slice Av k cv) k vs := row_keep hvs0 fun q e => hb11.block q (World.ownsRow.lt hvs0 q e).2
      have hnews : ∀ jj u, [Value.slice A8 own.length c8][jj]? = some u → w11.cell? ((⟨w8.heap.size, 0, none⟩ : Addr).add jj) = some u := by
        rw [← hw11]
        exact World.news_of_block (cs := #[.slice A8 own.length c8]) (t := 48) (fr := (0, 0)) (heap_alloc_new w8 _)
      have HR11 := hid (HR8.out.belowM hb11)
      have HROW11 := hid (HROW10.out.below hb11)
      have HB11 := hid (HB10.out.trans (hb11.mono HB10.out.size))
      have hs6 := HB6.out.size
      have t3 : IntKind.i64.wrap ((k : Int) + 1) = (k : Int) + 1 := IntWalk.i64_in _ (by omega)
      clear hrow10 hb10' hb11 hvs0 his8 ho8 hb8 hr8 hbl8 hnil8
      go_wp2_with (at_builtin; go_must (refine wpList_append_own_at _ rfl _ _ 40 rfl B 48 i0 _ 1 24 Tryz.underlying40 hi0 hz0 hz1 hz2 rfl (by decide) (.slice Av k cv) k vs rfl hv11 ⟨w8.heap.size, 0, none⟩ 1 1 [.slice A8 own.length c8] rfl rfl hnews ?c2 ?c3 ?c4 ?c5 ?_))
      case c2 => intro u hu; simp at hu; subst hu; rfl
      case c3 => simp only [maxLen]; omega
      case c4 => omega
      case c5 => omega
      intro v12 w12 hown12 hg12 _ hat12
      obtain ⟨g12, cap12, hv12, _, _⟩ := World.ownsRow.form hown12 (by omega)
      subst hv12
      have HNX := hid (show Fi1 gs B w1 (.slice (some ⟨g12, 0, none⟩) (k + 1) cap12) (.int .i64 ((k : Int) + 1)) w12 from by
        have hr12 : RowB w12 B (.slice (some ⟨g12, 0, none⟩) (k + 1) cap12) (L ++ [own]) := HROW11.out.more (vs := vs) (l := own) (A := A8) (c := c8) (H := w11.heap.size) (by rw [HKL.out]; exact hv11) HR11.out hc8 HNIL.out (fun b' off' e => by
            have h1 := HBL8.out b' off' e
            have h3 := HBE.out.size
            refine ⟨by omega, by omega, fun e2 => ?_⟩
            have h5 := HROW.out.lt (g := b') e2
            omega) hg12 (by rw [HKL.out]; exact hown12) (hat12.imp id fun e => by rw [e, hs11]) (Nat.le_refl _)
        have hlen : (L ++ [own]).length = k + 1 := by rw [List.length_append, List.length_singleton, HKL.out]
        refine ⟨L ++ [own], by rw [hlen]; rfl, ⟨by omega, fun j hj' hj => ?_⟩, hr12, ?_⟩
        · by_cases e : j < L.length
          · rw [List.getElem_append_left e]
            exact HM.out.2 j hj' e
          · obtain rfl : j = k := by have := HKL.out; omega
            have e2 : (L ++ [own])[j]'hj = own := by rw [List.getElem_append_right (by omega)]; simp [HKL.out]
            rw [e2, HGK.out]
            exact HI8.out
        · exact (HBE.out.trans (HB11.out.mono (by have := HBE.out.size; omega))).grown hg12 (by have := HBE.out.size; have := HB11.out.size; omega) (fun q e => by have := (HVLT.out q e).1; omega))
      clear hown12 hg12 hat12 hv11 hnews
      go_wp2_with (fail)
      go_roundw
      case rel => exact HNX.out
      case measure => simp [intOf]; omega
    · obtain rfl : k = gs.length := by omega
      have hms := metK_all HM.out HKL.out
      have hfi := fits_img (dom := domL o) hg4 HK1.out hms
      obtain ⟨A', c', hvr, hrr, hcr⟩ := hrow.reads
      have hbW0 : Below w0.heap.size w0 wr := HB1.out.trans (hbE.mono HB1.out.size)
      obtain ⟨r0, r1, r2, r3, r4, r5⟩ := X6.out wr hbW0
      have HT2 := hid (HT1.out.next hbE)
      have HLM := hid (show ∀ g ∈ L, g.length ≤ 1099511627776 from fun g hg => by
        obtain ⟨j, hj, rfl⟩ := List.getElem_of_mem hg
        have := (HM.out.2 j (by rw [← HKL.out]; exact hj) hj).1.short
        omega)
      have HIM := hid (timg_any b d t u s A l.length c l A' c' L wr (HP1.out.belowM hbE) hn hrr (by rw [HKL.out]; exact hg4) HLM.out HT2.out)
      rw [HKL.out] at HIM hvr
      have HBB := hid (HBW.out.trans (hbW0.mono (by omega)))
      have HVI := hid (HV.out.trans hfi)
      subst hvr
      clear hm hrow hbe hbE hk hms hfi hrr hcr hbW0
      go_wp2_with (fail)
      refine HIM.out.mono ?_
      intro e w5 hq5
      obtain ⟨v5, ok, out, rfl, hown5, hb5, hok, his5⟩ := hq5
      have HB5 := hid (HBB.out.trans (hb5.mono HBB.out.size))
      have hz5 := HB5.out.size
      cases ok with
      | false =>
        have hvf : v = false := by
          cases v with
          | false => rfl
          | true => exact absurd (hok.2 (HVI.out.1 rfl).1) (by decide)
        subst hvf
        clear hown5 hb5 hok his5
        go_wp2_with (fail)
        go_ret
        exact ⟨rfl, HB5.out⟩
      | true =>
        have hisI := his5 rfl
        have hOK := hok.1 rfl
        obtain ⟨A5, c5, hv5, hc5, hr5⟩ := own_RS hown5
        subst hv5
        have hsh := hisI.1.short
        obtain ⟨m5, hm5⟩ : ∃ m5, out.length = m5 := ⟨_, rfl⟩
        rw [hm5] at hc5 hr5 hsh ⊢
        have HR5 := hid hr5
        have HVO := hid (show v = true ↔ ∀ x, ¬ (mem out x ∧ ¬ mem (domL o) x) from by
          rw [HVI.out]
          constructor
          · rintro ⟨_, h2⟩ x ⟨h3, h4⟩
            exact h4 (h2 x ((hisI.2 x).1 h3))
          · exact fun h2 => ⟨hOK, fun y hy => Classical.byContradiction fun q => h2 y ⟨(hisI.2 y).2 hy, q⟩⟩)
        clear hown5 hb5 hok his5 hisI hOK hr5 hm5
        go_wp2_with (fail)
        refine (domc_any o w5).mono ?_
        rintro e w6 ⟨A6, c6, rfl, hr6, hb6, hc6⟩
        have HB6 := hid (HB5.out.trans (hb6.mono HB5.out.size))
        have hd2 : (domL o).length ≤ 2 := by unfold domL; split; · decide
                                             split <;> decide
        have HWI := hid (within_any A5 A6 m5 (domL o).length c5 c6 out (domL o) v w6 (HR5.out.belowM hb6) hr6 (by omega) (by omega) hc5 hc6 HVO.out)
        clear hr6 hb6
        go_wp2_with (fail)
        refine HWI.out.mono ?_
        rintro e w7 ⟨rfl, hb7⟩
        have HB7 := hid (HB6.out.trans (hb7.mono HB6.out.size))
        clear hb7
        go_wp2_with (fail)
        go_ret
        exact ⟨rfl, HB7.out⟩
end Go.Proofs.YtpcgaebbbioifaaGreatDoor.Fi
namespace Go.Proofs.YtpcgaebbbioifaaGreatDoor.De
open Go Go.RowKit Sp Pa Te Mi
noncomputable def fitF (i o : Int) (gs : List (List Span)) (t : TmL) : Bool:=@decide (Fi.FitsP (Fi.domL o) i o t.b t.d t.t t.u t.s t.ps gs) (Classical.propDecidable _)
theorem fitF_iff (i o : Int) (gs : List (List Span)) (t : TmL) : fitF i o gs t = true↔Fi.FitsP (Fi.domL o) i o t.b t.d t.t t.u t.s t.ps gs:=by
 unfold fitF
 exact @decide_eq_true_iff _ (Classical.propDecidable _)
theorem fits_ok (i o : Int) (gs : List (List Span)) (t : TmL) (w : World) (hT : Fi.TabB w) (hg : guardsB i gs = true) : FitsOk (fitF i o gs) i o gs t w:=fun W hW A' c' G gc hp _ hm hgs _=>
 Fi.fits_any t.b t.d t.t t.u t.s i o A' t.ps.length c' t.ps G gc gs (fitF i o gs t) W hp hm hgs (fun g hgm=>by
  unfold guardsB at hg
  rw [Bool.and_eq_true] at hg
  have h2:=List.all_eq_true.1 hg.2 g hgm
  unfold guardB at h2
  simp only [Bool.and_eq_true,decide_eq_true_eq] at h2
  omega) (hT.next hW) (fitF_iff i o gs t)
noncomputable def whereD (i o n s : Int) (rs : List RuL) (fs : List FiL) : Int × Int:=whereV i o n s (fitF i o) (cycE (epsE rs) n.toNat) rs fs
theorem whereD_any (i o n s : Int) (A : Option Addr) (cr : Nat) (B : Option Addr) (cf : Nat) (rs : List RuL) (fs : List FiL) (w : World) (hr : RRu w A rs.length rs) (hrl : rs.length≤maxLen) (hf : RFi w B fs.length fs) (hfl : fs.length≤maxLen) (hT : Fi.TabB w) :
  Calls Tryz.prog 30 #[dsc i o n s A rs.length cr B fs.length cf] w (WhOut (whereD i o n s rs fs) w):=
 where_any (fitF i o) (cycE (epsE rs) n.toNat) i o n s A cr B cf rs fs w hr hrl hf hfl (fun q _ hg _ t _=>fits_ok i o q.gs t w hT hg) (fun q _ hg _ t _=>fits_ok i o q.gs t w hT hg) (fun hh hru W hW=>by
  unfold headB at hh
  simp only [Bool.and_eq_true,decide_eq_true_eq] at hh
  have h1 : ((n.toNat : Nat) : Int) = n:=by omega
  have key:=cycle_any n.toNat i o s A cr B fs.length cf rs W hW (by omega) (by omega) (fun j hj=>by
   have h2:=hru j hj
   unfold ruleB at h2
   simp only [Bool.and_eq_true] at h2
   rw [h1]
   exact ⟨h2.1,h2.2.1⟩)
  rw [h1] at key
  exact key)
theorem checkD_any (i o n s : Int) (A : Option Addr) (cr : Nat) (B : Option Addr) (cf : Nat) (rs : List RuL) (fs : List FiL) (w : World) (hr : RRu w A rs.length rs) (hrl : rs.length≤maxLen) (hf : RFi w B fs.length fs) (hfl : fs.length≤maxLen) (hT : Fi.TabB w) :
  Calls Tryz.prog 15 #[dsc i o n s A rs.length cr B fs.length cf] w (RetI (if (whereD i o n s rs fs).1 = 0 then 0 else 2) w):=
 dcheck_any (whereD i o n s rs fs) i o n s A rs.length cr B fs.length cf w fun W hW=>whereD_any i o n s A cr B cf rs fs W (hr.belowM hW) hrl (hf.belowM hW) hfl (hT.next hW)
end Go.Proofs.YtpcgaebbbioifaaGreatDoor.De
