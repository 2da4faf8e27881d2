import Derived.Test.YtpcgaebbbioifaaGreatDoorProg
import Derived.Test.YtpcgaebbbioifaaGreatDoorT2
import Derived.WalkSpells
import Derived.WalkLawsBesides
import Derived.BigQuiet
import Derived.Lib.Hide
set_option maxRecDepth 100000
namespace Go.Proofs.YtpcgaebbbioifaaGreatDoor.Sp
set_option maxHeartbeats 64000000
open Go Go.RowKit
theorem below_drewN {B : Nat} {a w : World} (h : Below B a w) (n : Nat) : Below B a (w.drewN n):=⟨h.os,h.tape,h.output,h.size,h.block⟩
theorem ret_bool {a b : Bool} (h : a = b) : Ending.returned (.bool a) = .returned (.bool b):=by rw [h]
def RetB (b : Bool) (w : World) (e : Ending) (w' : World) : Prop:=e = .returned (.bool b)∧Below w.heap.size w w'
noncomputable def plainB (l : List Span) : Bool:=@decide (Plain l) (Classical.propDecidable _)
theorem plainB_true {l : List Span} (h : Plain l) : plainB l = true:=by unfold plainB;simpa using h
theorem plainB_false {l : List Span} (h : ¬ Plain l) : plainB l = false:=by unfold plainB;simpa using h
theorem not_plain_ok {l : List Span} {k : Nat} {lo hi : Int} (hk : ∃ hl : k < l.length,l[k] = (lo,hi)) (h : hi < lo∨lo < -1073741824∨1073741824 < hi) : false = plainB l:=by
 obtain ⟨hl,e⟩:=hk
 refine (plainB_false fun hp=>?_).symm
 have:=(hp.at_ hl).1
 rw [e] at this
 unfold Ok at this
 simp only at this
 omega
theorem not_plain_next {l : List Span} {k : Nat} {lo hi lo' hi' : Int} (hk' : ∃ hl : k < l.length,l[k] = (lo',hi')) (hk : ∃ hl : k + 1 < l.length,l[k + 1] = (lo,hi)) (h : lo≤hi' + 1) : false = plainB l:=by
 obtain ⟨hl,e⟩:=hk
 obtain ⟨hl',e'⟩:=hk'
 refine (plainB_false fun hp=>?_).symm
 have:=(hp.at_ hl').2 _ (drop_head hl)
 rw [e,e'] at this
 simp only at this
 omega
theorem plain_take_zero {l : List Span} {lo hi : Int} (hk : ∃ hl : 0 < l.length,l[0] = (lo,hi)) (h1 : ¬ hi < lo) (h2 : ¬ lo < -1073741824) (h3 : ¬ 1073741824 < hi) : Plain (l.take (0 + 1)):=by
 obtain ⟨hl,e⟩:=hk
 rw [List.take_succ_eq_append_getElem hl,e]
 exact Plain.nil.snoc ⟨by simp only;omega,by simp only;omega,by simp only;omega⟩ (fun q hq=>by simp at hq)
theorem plain_take_next {l : List Span} {k : Nat} {lo hi lo' hi' : Int} (hp : Plain (l.take (k + 1))) (hk' : ∃ hl : k < l.length,l[k] = (lo',hi')) (hk : ∃ hl : k + 1 < l.length,l[k + 1] = (lo,hi)) (h1 : ¬ hi < lo) (h2 : ¬ lo < -1073741824) (h3 : ¬ 1073741824 < hi) (h : hi' + 1 < lo) :
  Plain (l.take (k + 1 + 1)):=by
 obtain ⟨hl,e⟩:=hk
 obtain ⟨hl',e'⟩:=hk'
 rw [List.take_succ_eq_append_getElem hl,e]
 refine hp.snoc ⟨by simp only;omega,by simp only;omega,by simp only;omega⟩ (fun q hq=>?_)
 rw [List.take_succ_eq_append_getElem hl',e'] at hp hq
 rcases List.mem_append.1 hq with hq | hq
 ·have h4:=hp.append.2.2 q hq _ (List.mem_singleton.2 rfl)
  have h5:=hp.2 (lo',hi') (by simp)
  unfold Ok at h5
  simp only at *
  omega
 ·obtain rfl:=List.mem_singleton.1 hq
  simp only;omega
theorem plain_last {l : List Span} {k : Nat} {lo hi : Int} (hp : Plain (l.take (k + 1))) (hk : ∃ hl : k < l.length,l[k] = (lo,hi)) : -1073741824≤hi∧hi≤1073741824:=by
 obtain ⟨hl,e⟩:=hk
 rw [List.take_succ_eq_append_getElem hl,e] at hp
 have h5:=hp.2 (lo,hi) (by simp)
 unfold Ok at h5
 simp only at h5
 omega
def ChkRel (l : List Span) (n : Nat) (w : World) (i : Value) (wr : World) : Prop:=∃ k : Nat,k≤n∧i = .int .i64 k∧Plain (l.take k)∧Below w.heap.size w wr
theorem check_any (A : Option Addr) (n c : Nat) (l : List Span) (w : World) (h : RS w w.heap.size A n l) (hn : n≤1099511627776) :
  Calls Tryz.prog 53 #[.slice A n c] w (RetB (plainB l) w):=by
 go_enter Tryz.func53,Tryz.ntmps53
 go_wp2_with (fail)
 go_loopw [7] (fun i wr=>ChkRel l n w i wr) (fun i _=>n - (intOf i).toNat)
 case atStart=>exact ⟨0,Nat.zero_le _,rfl,Plain.nil,Below.refl _ _⟩
 case round=>
  obtain ⟨k,hk,rfl,hp,hb⟩:=hrel
  have HP:=Lib.hid hp;clear hp
  by_cases hlt : k < n
  ·have hr:=h.below hb
   obtain ⟨b,off,lo,hi,hA,hbB,hlk,hc1,hc2⟩:=hr.at_ hlt
   have hbs : b < wr.heap.size:=by have:=hb.size;omega
   have HL:=Lib.hid hlk;clear hlk
   subst hA
   by_cases a1 : hi < lo
   ·go_wp2_with (fail)
    go_ret
    exact ⟨ret_bool (not_plain_ok HL.out (by omega)),hb.alloc hb.size _⟩
   ·by_cases a2 : lo < -1073741824
    ·go_wp2_with (fail)
     go_ret
     exact ⟨ret_bool (not_plain_ok HL.out (by omega)),hb.alloc hb.size _⟩
    ·by_cases a3 : 1073741824 < hi
     ·go_wp2_with (fail)
      go_ret
      exact ⟨ret_bool (not_plain_ok HL.out (by omega)),hb.alloc hb.size _⟩
     ·rcases k with _ | m
      ·have hd : decide ((0 : Int) < ((0 : Nat) : Int)) = false:=by simp
       simp only [Nat.zero_mul,Nat.add_zero] at hc1 hc2
       go_wp2_with (fail)
       go_quiet (fail)
       go_wp2_with (fail)
       go_roundw
       case rel=>exact ⟨0 + 1,by omega,by go_num,plain_take_zero HL.out (by omega) (by omega) (by omega),below_drewN (hb.alloc hb.size _) _⟩
       case measure=>simp [intOf];omega
      ·obtain ⟨b',off',lo',hi',hA,_,hlk',hc1',hc2'⟩:=hr.at_ (k:=m) (by omega)
       injection hA with hA
       injection hA with e1 e2 _
       subst e1 e2
       have hi1:=plain_last HP.out hlk'
       have HL':=Lib.hid hlk';clear hlk'
       have hd : decide ((0 : Int) < ((m + 1 : Nat) : Int)) = true:=by simp
       by_cases a4 : lo≤hi' + 1
       ·go_wp2_with (fail)
        go_quiet (fail)
        go_wp2_with (fail)
        go_ret
        exact ⟨ret_bool (not_plain_next HL'.out HL.out a4),below_drewN (hb.alloc hb.size _) _⟩
       ·go_wp2_with (fail)
        go_quiet (fail)
        go_wp2_with (fail)
        go_roundw
        case rel=>exact ⟨m + 1 + 1,by omega,by go_num,plain_take_next HP.out HL'.out HL.out (by omega) (by omega) (by omega) (by omega),below_drewN (hb.alloc hb.size _) _⟩
        case measure=>simp [intOf];omega
  ·have hkn : k = n:=by omega
   have hl : Plain l:=by have:=HP.out;rwa [List.take_of_length_le (by have:=h.1;omega)] at this
   have HB:=Lib.hid (plainB_true hl)
   clear hkn hl
   go_wp2_with (fail)
   go_ret
   exact ⟨ret_bool HB.out.symm,hb⟩
end Go.Proofs.YtpcgaebbbioifaaGreatDoor.Sp
namespace Go.Proofs.YtpcgaebbbioifaaGreatDoor.Sp
set_option maxHeartbeats 64000000
open Go Go.RowKit
open Go.Lib (hid)
noncomputable def memB (l : List Span) (x : Int) : Bool:=@decide (mem l x) (Classical.propDecidable _)
theorem memB_true {l : List Span} {x : Int} (h : mem l x) : memB l x = true:=by unfold memB;simpa using h
theorem memB_false {l : List Span} {x : Int} (h : ¬ mem l x) : memB l x = false:=by unfold memB;simpa using h
theorem mem_take_next {l : List Span} {k : Nat} {lo hi x : Int} (hk : ∃ hl : k < l.length,l[k] = (lo,hi)) : mem (l.take (k + 1)) x↔mem (l.take k) x∨(Rng x∧lo≤x∧x≤hi):=by
 obtain ⟨hl,e⟩:=hk
 rw [mem_take_succ hl,e]
theorem mem_here {l : List Span} {k : Nat} {lo hi x : Int} (hk : ∃ hl : k < l.length,l[k] = (lo,hi)) (hx : Rng x) (h1 : lo≤x) (h2 : x≤hi) : true = memB l x:=by
 obtain ⟨hl,e⟩:=hk
 exact (memB_true ⟨hx,_,List.getElem_mem hl,by rw [e];exact h1,by rw [e];exact h2⟩).symm
theorem mem_on {l : List Span} {k : Nat} {lo hi x : Int} (hk : ∃ hl : k < l.length,l[k] = (lo,hi)) (hn : ¬ mem (l.take k) x) (h : lo≤x→x≤hi→¬ Rng x) : ¬ mem (l.take (k + 1)) x:=by
 rw [mem_take_next hk]
 rintro (h1 | ⟨h1,h2,h3⟩)
 ·exact hn h1
 ·exact h h2 h3 h1
def RetW (v : Value) (w : World) (e : Ending) (w' : World) : Prop:=e = .returned v∧w = w'
def HasRel (l : List Span) (x : Int) (n : Nat) (i : Value) : Prop:=∃ k : Nat,k≤n∧i = .int .i64 k∧¬ mem (l.take k) x
theorem rhas_any (A : Option Addr) (n c : Nat) (l : List Span) (x : Int) (w : World) (h : RS w w.heap.size A n l) (hn : n≤1099511627776) :
  Calls Tryz.prog 58 #[.slice A n c,.int .i64 x] w (RetW (.bool (memB l x)) w):=by
 go_enter Tryz.func58,Tryz.ntmps58
 go_wp2_with (fail)
 go_loop [5] (fun i=>HasRel l x n i) (fun i=>n - (intOf i).toNat)
 case atStart=>exact ⟨0,Nat.zero_le _,rfl,by simpa using mem_nil x⟩
 case round=>
  obtain ⟨k,hk,rfl,hp⟩:=hrel
  have HP:=hid hp;clear hp
  by_cases hlt : k < n
  ·obtain ⟨b,off,lo,hi,hA,hbB,hlk,hc1,hc2⟩:=h.at_ hlt
   have HL:=hid hlk;clear hlk
   subst hA
   by_cases a1 : lo≤x
   ·by_cases a2 : x≤hi
    ·by_cases a3 : -1073741824≤x
     ·by_cases a4 : x≤1073741824
      ·go_wp2_with (fail)
       go_ret
       exact ⟨ret_bool (mem_here HL.out ⟨by omega,by omega⟩ (by omega) (by omega)),rfl⟩
      ·go_wp2_with (fail)
       go_round
       case rel=>exact ⟨k + 1,by omega,by go_num,mem_on HL.out HP.out (fun _ _ h=>by unfold Rng at h;omega)⟩
       case measure=>simp [intOf];omega
     ·go_wp2_with (fail)
      go_round
      case rel=>exact ⟨k + 1,by omega,by go_num,mem_on HL.out HP.out (fun _ _ h=>by unfold Rng at h;omega)⟩
      case measure=>simp [intOf];omega
    ·go_wp2_with (fail)
     go_round
     case rel=>exact ⟨k + 1,by omega,by go_num,mem_on HL.out HP.out (fun _ _ _=>by omega)⟩
     case measure=>simp [intOf];omega
   ·go_wp2_with (fail)
    go_round
    case rel=>exact ⟨k + 1,by omega,by go_num,mem_on HL.out HP.out (fun _ _ _=>by omega)⟩
    case measure=>simp [intOf];omega
  ·have hm : ¬ mem l x:=by have:=HP.out;rwa [List.take_of_length_le (by have:=h.1;omega)] at this
   have HB:=hid (memB_false hm)
   clear hm
   go_wp2_with (fail)
   go_ret
   exact ⟨ret_bool HB.out.symm,rfl⟩
theorem span_guardType : Tryz.prog.eqGuardType Tryz.prog.depth 47 = false:=by kernel_rfl
theorem span_guard (w : World) (op : BinOp) (x y : Operand) (xs ys : Array Value) : (eqGuard op 47 x y (.agg xs) (.agg ys)).run Tryz.prog w = .ok () w:=run_eqGuard_agg w op _ x y xs ys span_guardType
theorem span_eq (w : World) (p q r s : Int) : (Op.equalIn 10000 47 (.agg #[.int .i64 p,.int .i64 q]) (.agg #[.int .i64 r,.int .i64 s])).run Tryz.prog w = .ok (p == r && q == s) w:=by
 have u3:=Tryz.underlying3
 have a3:=Tryz.isAgg3
 have z3:=Tryz.sizeOf3
 have hS : Tryz.prog.underlying 47 = some (.struct (Tryz.prog.fieldsOf 47)):=by kernel_rfl
 have hp : Tryz.prog.stoodInHeld 47 = false:=by kernel_rfl
 rw [show (10000 : Nat) = 9999 + 1 from rfl,run_equalIn_agg w 9999 47 _ _ hS hp]
 simp only [Program.fieldsOf,Tryz.underlying47]
 go_simp
 by_cases h1 : p = r <;> by_cases h2 : q = s <;> simp [h1,h2]
attribute [local go_sem] span_guard span_eq
def SameRel (l r : List Span) (n : Nat) (w : World) (i : Value) (wr : World) : Prop:=∃ k : Nat,k≤n∧i = .int .i64 k∧l.take k = r.take k∧Below w.heap.size w wr
theorem same_not {l r : List Span} {k : Nat} {p q : Int × Int} (hk : ∃ hl : k < l.length,l[k] = p) (hk' : ∃ hl : k < r.length,r[k] = q) (h : p≠q) : false = decide (l = r):=by
 obtain ⟨hl,e⟩:=hk
 obtain ⟨hr,e'⟩:=hk'
 refine (decide_eq_false fun he=>?_).symm
 subst he
 exact h (e.symm.trans e')
theorem same_next {l r : List Span} {k : Nat} {p q : Int × Int} (hk : ∃ hl : k < l.length,l[k] = p) (hk' : ∃ hl : k < r.length,r[k] = q) (h : p = q) (ht : l.take k = r.take k) : l.take (k + 1) = r.take (k + 1):=by
 obtain ⟨hl,e⟩:=hk
 obtain ⟨hr,e'⟩:=hk'
 rw [List.take_succ_eq_append_getElem hl,List.take_succ_eq_append_getElem hr,ht,e,e',h]
theorem same_any (A A' : Option Addr) (n n' c c' : Nat) (l r : List Span) (w : World) (h : RS w w.heap.size A n l) (h' : RS w w.heap.size A' n' r) (hn : n≤1099511627776) (hn' : n'≤1099511627776) :
  Calls Tryz.prog 38 #[.slice A n c,.slice A' n' c'] w (RetB (decide (l = r)) w):=by
 by_cases e : n = n'
 ·subst e
  go_enter Tryz.func38,Tryz.ntmps38
  go_wp2_with (fail)
  go_loopw [5] (fun i wr=>SameRel l r n w i wr) (fun i _=>n - (intOf i).toNat)
  case atStart=>exact ⟨0,Nat.zero_le _,rfl,rfl,Below.refl _ _⟩
  case round=>
   obtain ⟨k,hk,rfl,hp,hb⟩:=hrel
   have HP:=hid hp;clear hp
   by_cases hlt : k < n
   ·obtain ⟨b,off,lo,hi,hA,hbB,hlk,hc1,hc2⟩:=(h.below hb).at_ hlt
    obtain ⟨b',off',lo',hi',hA',hbB',hlk',hc1',hc2'⟩:=(h'.below hb).at_ hlt
    have HL:=hid hlk;clear hlk
    have HL':=hid hlk';clear hlk'
    subst hA hA'
    by_cases e1 : lo = lo'
    ·by_cases e2 : hi = hi'
     ·subst e1 e2
      go_wp2_with (fail)
      go_quiet (fail)
      go_wp2_with (fail)
      go_roundw
      case rel=>exact ⟨k + 1,by omega,by go_num,same_next HL.out HL'.out rfl HP.out,below_drewN hb _⟩
      case measure=>simp [intOf];omega
     ·have hd : (hi == hi') = false:=by simpa using e2
      have HD:=hid (show (lo,hi)≠(lo',hi') from fun h=>e2 (congrArg Prod.snd h))
      clear e2
      go_wp2_with (fail)
      go_quiet (fail)
      go_wp2_with (fail)
      go_ret
      exact ⟨ret_bool (same_not HL.out HL'.out HD.out),below_drewN hb _⟩
    ·have hd : (lo == lo') = false:=by simpa using e1
     have HD:=hid (show (lo,hi)≠(lo',hi') from fun h=>e1 (congrArg Prod.fst h))
     clear e1
     go_wp2_with (fail)
     go_quiet (fail)
     go_wp2_with (fail)
     go_ret
     exact ⟨ret_bool (same_not HL.out HL'.out HD.out),below_drewN hb _⟩
   ·have hm : l = r:=by have:=HP.out;rwa [List.take_of_length_le (by have:=h.1;omega),List.take_of_length_le (by have:=h'.1;omega)] at this
    have HB:=hid (decide_eq_true hm)
    clear hm
    go_wp2_with (fail)
    go_ret
    exact ⟨ret_bool HB.out.symm,hb⟩
 ·have hl : ¬ l = r:=fun e'=>e (by rw [← h.1,← h'.1,e'])
  have HB:=hid (decide_eq_false hl)
  have hne : ((n : Int) != (n' : Int)) = true:=by rw [bne_iff_ne];omega
  clear hl
  go_enter Tryz.func38,Tryz.ntmps38
  go_wp2_with (fail)
  go_ret
  exact ⟨ret_bool HB.out.symm,Below.refl _ _⟩
end Go.Proofs.YtpcgaebbbioifaaGreatDoor.Sp
namespace Go.Proofs.YtpcgaebbbioifaaGreatDoor.Sp
set_option maxHeartbeats 64000000
open Go Go.RowKit
def OwnsL (w : World) (base : Nat) (v : Value) (xs : List Span) : Prop:=w.ownsRow base 47 2 v xs.length (flat xs)
theorem infoSpan : (Tryz.prog.info? 47).map (fun i=>(i.zero,i.size,i.bytes)) = some (some (.agg #[.int .i64 0,.int .i64 0]),2,16):=by kernel_rfl
theorem cell_two (w : World) (x y : Value) (t : TypeId) : ∀ j u,[x,y][j]? = some u→(w.alloc (.cells #[x,y] t)).cell? ((⟨w.heap.size,0,none⟩ : Addr).add j) = some u:=by
 intro j u hj
 match j,hj with
 | 0,hj=>simp at hj;subst hj;simp [Addr.add]
 | 1,hj=>simp at hj;subst hj;simp [Addr.add]
 | j + 2,hj=>simp at hj
theorem own_ge {w : World} {base : Nat} {v : Value} {xs : List Span} (h : OwnsL w base v xs) : ∀ k,v.ownBlock = some k→base≤k:=fun k hk=>(h.lt k hk).1
def PutOut (w : World) (base : Nat) (xs : List Span) (e : Ending) (w' : World) : Prop:=∃ v',e = .returned v'∧OwnsL w' base v' xs∧Below base w w'
def PutS (w : World) (base : Nat) (v : Value) (xs : List Span) (e : Ending) (w' : World) : Prop:=
 ∃ v',e = .returned v'∧OwnsL w' base v' xs∧w.grownBy w' v.ownBlock∧(v'.ownBlock = v.ownBlock∨∃ g,v'.ownBlock = some g∧w.heap.size≤g)
theorem put_strong (base : Nat) (v : Value) (xs : List Span) (lo hi : Int) (w : World) (hown : OwnsL w base v xs) (hbase : base≤w.heap.size) (hlen : xs.length≤1099511627776) :
  Calls Tryz.prog 91 #[v,.int .i64 lo,.int .i64 hi] w (PutS w base v (putL xs lo hi)):=by
 obtain ⟨L,hL⟩ : ∃ L,(if lo < -1073741824 then (-1073741824 : Int) else lo) = L:=⟨_,rfl⟩
 obtain ⟨H,hH⟩ : ∃ H,(if 1073741824 < hi then (1073741824 : Int) else hi) = H:=⟨_,rfl⟩
 have eL : max lo (-1073741824) = L:=by rw [← hL];split <;> omega
 have eH : min hi 1073741824 = H:=by rw [← hH];split <;> omega
 by_cases hc : H < L
 ·have HP:=Lib.hid (show putL xs lo hi = xs by unfold putL;rw [eL,eH];exact if_pos hc)
  clear eL eH
  go_enter Tryz.func91,Tryz.ntmps91
  go_wp2_with (fail)
  go_ret
  exact ⟨v,rfl,by rw [HP.out];exact hown,World.grownBy.refl _ _,.inl rfl⟩
 ·have HP:=Lib.hid (show putL xs lo hi = xs ++ [(L,H)] by unfold putL;rw [eL,eH];exact if_neg hc)
  clear eL eH
  obtain ⟨i0,hi0,hz0,hz1,hz2⟩:=info_parts infoSpan
  have hown0:=Lib.hid hown
  clear hown
  go_enter Tryz.func91,Tryz.ntmps91
  go_wp2_with (at_builtin;go_must (refine wpList_append_own_at _ rfl _ _ 48 rfl base 47 i0 _ 2 16 Tryz.underlying48 hi0 hz0 hz1 hz2 rfl (by decide) v xs.length (flat xs) rfl (hown0.out.alloc _) ⟨w.heap.size,0,none⟩ 1 1 [.int .i64 L,.int .i64 H] rfl rfl (cell_two _ _ _ _) ?c2 ?c3 ?c4 ?c5 ?_))
  case c2=>exact ⟨rfl,rfl⟩
  case c3=>simp only [maxLen];omega
  case c4=>omega
  case c5=>omega
  intro v1 w1 hown1 hg1 _ hat
  have HAT:=Lib.hid hat;clear hat
  go_wp2_with (fail)
  go_ret
  refine ⟨v1,rfl,?_,(World.grownBy_alloc w _ _).trans hg1,?_⟩
  ·rw [HP.out]
   unfold OwnsL
   rw [flat_append,List.length_append]
   exact hown1
  ·rcases HAT.out with e | e
   ·exact .inl e
   ·exact .inr ⟨_,e,by simp⟩
theorem put_any (base : Nat) (v : Value) (xs : List Span) (lo hi : Int) (w : World) (hown : OwnsL w base v xs) (hbase : base≤w.heap.size) (hlen : xs.length≤1099511627776) :
  Calls Tryz.prog 91 #[v,.int .i64 lo,.int .i64 hi] w (PutOut w base (putL xs lo hi)):=
 (put_strong base v xs lo hi w hown hbase hlen).mono fun _ _ ⟨v',he,ho,hg,_⟩=>⟨v',he,ho,(Below.refl base w).grown hg hbase (own_ge hown)⟩
end Go.Proofs.YtpcgaebbbioifaaGreatDoor.Sp
namespace Go.Proofs.YtpcgaebbbioifaaGreatDoor.Sp
set_option maxHeartbeats 64000000
open Go Go.RowKit
open Go.Lib (hid)
def CutRel (base : Nat) (xs q : List Span) (lo hi : Int) (w : World) (s0 s7 i : Value) (wr : World) : Prop:=
 ∃ (k : Nat) (cur : List Span) (lo' : Int),k≤q.length∧i = .int .i64 k∧s7 = .int .i64 lo'∧OwnsL wr base s0 cur∧cutL hi lo xs q = cutL hi lo' cur (q.drop k)∧cur.length≤xs.length + k ∧
  Below base w wr∧wr.cell? ⟨w.heap.size,1,none⟩ = some (.int .i64 hi)∧s0.ownBlock≠some w.heap.size∧w.heap.size < wr.heap.size
theorem cut_at {q : List Span} {k : Nat} {a b hi lo : Int} {cur : List Span} (hk : ∃ hl : k < q.length,q[k] = (a,b)) : cutL hi lo cur (q.drop k) = if hi < a then putL cur lo hi else cutL hi (b + 1) (putL cur lo (a - 1)) (q.drop (k + 1)):=by
 obtain ⟨hl,e⟩:=hk
 rw [cutL_drop hl,e]
theorem ok_at {q : List Span} {k : Nat} {a b : Int} (hq : Plain q) (hk : ∃ hl : k < q.length,q[k] = (a,b)) : a≤b∧-1073741824≤a∧b≤1073741824:=by
 obtain ⟨hl,e⟩:=hk
 have:=(hq.at_ hl).1
 rw [e] at this
 exact this
theorem cut_any (base : Nat) (v : Value) (xs q : List Span) (lo hi : Int) (Aq : Option Addr) (m cq : Nat) (w : World) (hown : OwnsL w base v xs) (hbase : base≤w.heap.size) (hr : RS w base Aq m q) (hq : Plain q) (hlen : xs.length≤68719476736) :
  Calls Tryz.prog 83 #[v,.agg #[.int .i64 lo,.int .i64 hi],.slice Aq m cq] w (PutOut w base (cutL hi lo xs q)):=by
 have hqs:=hq.short
 obtain rfl : q.length = m:=hr.1
 have hne0 : v.ownBlock≠some w.heap.size:=fun e=>by have:=(hown.lt _ e).2;omega
 have HNE:=hid hne0;clear hne0
 have HO0:=hid (World.ownsRow.alloc hown (.cells #[.int .i64 lo,.int .i64 hi] 47));clear hown
 have HQ:=hid hq;clear hq
 go_enter Tryz.func83,Tryz.ntmps83
 go_wp2_with (fail)
 go_loopw [0,7,14] (fun s0 s7 i wr=>CutRel base xs q lo hi w s0 s7 i wr) (fun _ _ i _=>q.length - (intOf i).toNat)
 case atStart=>exact ⟨0,xs,lo,Nat.zero_le _,rfl,rfl,HO0.out,rfl,by omega,(Below.refl _ _).alloc hbase _,by simp,HNE.out,by simp⟩
 case round=>
  obtain ⟨k,cur,lo',hk,rfl,rfl,ho,hcut,hfew,hb,hch,hne,hwz⟩:=hrel
  have hz:=hb.size
  have HO:=hid ho;clear ho
  have HC:=hid hcut;clear hcut
  have HN:=hid hne;clear hne
  by_cases hlt : k < q.length
  ·obtain ⟨b',off,a,b,hA,hbB,hlk,hc1,hc2⟩:=(hr.below hb).at_ hlt
   have hbs : b' < wr.heap.size:=by omega
   have hok:=ok_at HQ.out hlk
   have HL:=hid hlk;clear hlk
   rw [hA]
   clear hA
   by_cases hgt : hi < a
   ·have hfin:=HC.out
    rw [cut_at HL.out,if_pos hgt] at hfin
    have HF:=hid hfin;clear hfin
    go_wp2_with (fail)
    refine (put_any base _ cur lo' hi _ (World.ownsRow.alloc HO.out _) (by simp;omega) (by omega)).mono ?_
    rintro e w1 ⟨v1,rfl,ho1,hb1⟩
    go_wp2_with (fail)
    go_ret
    exact ⟨v1,rfl,by rw [HF.out];exact ho1,(hb.alloc (by omega) _).trans hb1⟩
   ·have hfin:=HC.out
    rw [cut_at HL.out,if_neg hgt] at hfin
    have HF:=hid hfin;clear hfin
    go_wp2_with (fail)
    refine (put_strong base _ cur lo' (a - 1) _ (World.ownsRow.alloc HO.out _) (by simp;omega) (by omega)).mono ?_
    rintro e w1 ⟨v1,rfl,ho1,hg1,hat1⟩
    have hz1:=hg1.size
    simp only [World.size_alloc] at hz1
    have hx : w1.cell? ⟨wr.heap.size,1,none⟩ = some (.int .i64 b):=hg1.cell (by simp) (fun e=>absurd (World.ownsRow.lt HO.out _ e.symm).2 (Nat.lt_irrefl _))
    have hh : w1.cell? ⟨w.heap.size,1,none⟩ = some (.int .i64 hi):=hg1.cell (by rw [World.cell?_alloc_lt _ _ _ hwz];exact hch) (fun e=>HN.out e.symm)
    have hne1 : v1.ownBlock≠some w.heap.size:=by
     rcases hat1 with e | ⟨g,e,hge⟩
     ·rw [e];exact HN.out
     ·rw [e]
      intro e2
      injection e2 with e2
      simp at hge
      omega
    have HN1:=hid hne1;clear hne1
    have HO1:=hid ho1;clear ho1
    have hb1 : Below base w w1:=(hb.alloc (by omega) _).grown hg1 (by simp;omega) (own_ge HO.out)
    have hl1:=putL_length cur lo' (a - 1)
    clear hg1 hat1
    go_wp2_with (fail)
    go_roundw
    case rel=>exact ⟨k + 1,putL cur lo' (a - 1),b + 1,by omega,by go_num,rfl,HO1.out,HF.out,by omega,hb1,hh,HN1.out,by omega⟩
    case measure=>simp [intOf];omega
  ·have hfin:=HC.out
   rw [List.drop_eq_nil_of_le (show q.length≤k by omega),cutL] at hfin
   have HF:=hid hfin;clear hfin
   go_wp2_with (fail)
   refine (put_any base _ cur lo' hi _ HO.out (by omega) (by omega)).mono ?_
   rintro e w1 ⟨v1,rfl,ho1,hb1⟩
   go_wp2_with (fail)
   go_ret
   exact ⟨v1,rfl,by rw [HF.out];exact ho1,hb.trans hb1⟩
end Go.Proofs.YtpcgaebbbioifaaGreatDoor.Sp
namespace Go.Proofs.YtpcgaebbbioifaaGreatDoor.Mi
open Go Go.RowKit Sp
theorem own_shape {w : World} {base : Nat} {e : TypeId} {size : Nat} {v : Value} {n : Nat} {xs : List Value} (h : w.ownsRow base e size v n xs) : ∃ A c,v = .slice A n c:=by
 obtain ⟨_,h2⟩:=h
 rcases h2 with ⟨hv,hn⟩ | ⟨g,cap,cur,hv,_⟩
 ·exact ⟨none,0,by rw [hv,hn]⟩
 ·exact ⟨_,cap,hv⟩
def RGs (w : World) (A : Option Addr) (n : Nat) (fam : List (List Span)) : Prop:=
 fam.length = n∧(0 < n→∃ b off,A = some ⟨b,off,none⟩∧b < w.heap.size∧∀ (j : Nat) (h : j < fam.length),∃ Aj cj,w.cell? ⟨b,off + j,none⟩ = some (.slice Aj fam[j].length cj)∧RS w w.heap.size Aj fam[j].length fam[j]∧fam[j].length≤cj∧(Aj = none→fam[j] = []∧cj = 0))
theorem RGs.belowM {w w' : World} {A : Option Addr} {n : Nat} {fam : List (List Span)} (h : RGs w A n fam) (hb : Below w.heap.size w w') : RGs w' A n fam:=
 ⟨h.1,fun hn=>by
  obtain ⟨b,off,e,hlt,hc⟩:=h.2 hn
  refine ⟨b,off,e,by have:=hb.size;omega,fun j hj=>?_⟩
  obtain ⟨Aj,cj,h1,h2,h3,h4⟩:=hc j hj
  exact ⟨Aj,cj,(hb.cell hlt).trans h1,h2.belowM hb,h3,h4⟩⟩
theorem RGs.at_ {w : World} {A : Option Addr} {n : Nat} {fam : List (List Span)} (h : RGs w A n fam) {k : Nat} (hk : k < fam.length) : ∃ b off Aj cj,A = some ⟨b,off,none⟩∧b < w.heap.size∧w.cell? ⟨b,off + k,none⟩ = some (.slice Aj fam[k].length cj)∧RS w w.heap.size Aj fam[k].length fam[k]∧fam[k].length≤cj∧(Aj = none→fam[k] = []∧cj = 0):=by
 obtain ⟨b,off,e,hb,hc⟩:=h.2 (by have:=h.1;omega)
 obtain ⟨Aj,cj,h1⟩:=hc k hk
 exact ⟨b,off,Aj,cj,e,hb,h1⟩
theorem RGs.nil_ (w : World) (A : Option Addr) : RGs w A 0 []:=⟨rfl,fun h=>absurd h (by omega)⟩
def keyL (bs : List Nat) : Lit:=.string (bs.map UInt8.ofNat)
def Small (bs : List Nat) : Prop:=∀ b∈bs,b < 256
structure Tells (D : DataW Unit) (st : List Entry) : Prop where
 isMap : Maps.IsMap D
 has : ∀ bs,Small bs→Maps.has D (keyL bs) = (placeOf st bs).isSome
 at_ : ∀ bs k,Small bs→placeOf st bs = some k→D.atKey (keyL bs) (.lit (.int .i64 0)) = .lit (.int .i64 (k : Int))
 small : ∀ e∈st,Small e.1
end Go.Proofs.YtpcgaebbbioifaaGreatDoor.Mi
namespace Go.Proofs.YtpcgaebbbioifaaGreatDoor.Fi
set_option maxHeartbeats 64000000
open Go Go.RowKit Sp
def domL (k : Int) : List (Int × Int):=if k = 1 then [(0,255)] else if k = 2 then [(0,55295),(57344,1114111)] else []
theorem one_RS {w : World} : Sp.RS (w.alloc (.cells #[.int .i64 0,.int .i64 255] 47)) (w.alloc (.cells #[.int .i64 0,.int .i64 255] 47)).heap.size (some ⟨w.heap.size,0,none⟩) 1 [(0,255)]:=by
 refine ⟨rfl,fun _=>⟨w.heap.size,0,rfl,by simp,fun j hj=>?_⟩⟩
 have : j = 0:=by simp at hj;exact hj
 subst this
 exact ⟨by simp,by simp⟩
theorem two_RS {w : World} : Sp.RS (w.alloc (.cells #[.int .i64 0,.int .i64 55295,.int .i64 57344,.int .i64 1114111] 47)) (w.alloc (.cells #[.int .i64 0,.int .i64 55295,.int .i64 57344,.int .i64 1114111] 47)).heap.size (some ⟨w.heap.size,0,none⟩) 2 [(0,55295),(57344,1114111)]:=by
 refine ⟨rfl,fun _=>⟨w.heap.size,0,rfl,by simp,fun j hj=>?_⟩⟩
 have : j = 0∨j = 1:=by simp at hj;omega
 rcases this with rfl | rfl
 all_goals
  exact ⟨by simp,by simp⟩
def DomC (k : Int) (w : World) (e : Ending) (w' : World) : Prop:=∃ A c,e = .returned (.slice A (domL k).length c)∧Sp.RS w' w'.heap.size A (domL k).length (domL k)∧Below w.heap.size w w'∧(domL k).length≤c
theorem domc_any (k : Int) (w : World) : Calls Tryz.prog 52 #[.int .i64 k] w (DomC k w):=by
 by_cases k1 : k = 1
 ·subst k1
  go_enter Tryz.func52,Tryz.ntmps52
  go_wp2_with (fail)
  go_ret
  exact ⟨_,1,rfl,one_RS,(Below.refl _ _).alloc (Nat.le_refl _) _,by decide⟩
 ·by_cases k2 : k = 2
  ·subst k2
   go_enter Tryz.func52,Tryz.ntmps52
   go_wp2_with (fail)
   go_ret
   exact ⟨_,2,rfl,two_RS,(Below.refl _ _).alloc (Nat.le_refl _) _,by decide⟩
  ·have h1 : (k == 1) = false:=by simpa using k1
   have h2 : (k == 2) = false:=by simpa using k2
   have HV:=Lib.hid (show domL k = [] by unfold domL;rw [if_neg k1,if_neg k2])
   clear k1 k2
   go_enter Tryz.func52,Tryz.ntmps52
   go_wp2_with (fail)
   go_ret
   exact ⟨none,0,by rw [HV.out];rfl,by rw [HV.out];exact Sp.RS.nil_ _ _ _,Below.refl _ _,by rw [HV.out];exact Nat.le_refl _⟩
end Go.Proofs.YtpcgaebbbioifaaGreatDoor.Fi
