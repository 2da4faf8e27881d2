import Derived.Test.YtbdmcibcenhpnaaGreatDoorProg
import Derived.Test.YtbdmcibcenhpnaaGreatDoorF2
import Derived.WalkSpells
import Derived.WalkLawsBesides
import Derived.BigQuiet
import Derived.Lib.Hide
set_option maxRecDepth 100000
namespace Go.Proofs.YtbdmcibcenhpnaaGreatDoor.Sp
set_option maxHeartbeats 64000000
open Go Go.RowKit
theorem below_drewN {B:Nat} {a w:World} (h:Below B a w) (n:Nat):Below B a (w.drewN n):=⟨h.os,h.tape,h.output,h.size,h.block⟩
theorem aj {a b:Bool} (h:a=b):Ending.returned (.bool a) = .returned (.bool b):=by rw[h]
def dY (b:Bool) (w:World) (e:Ending) (w':World):Prop:=e = .returned (.bool b)/\Below w.heap.size w w'
noncomputable def dP (l:List Span):Bool:=@decide (Plain l) (Classical.propDecidable _)
theorem iA {l:List Span} (h:Plain l):dP l=true:=by unfold dP;simpa using h
theorem fW {l:List Span} (h : ¬ Plain l):dP l=false:=by unfold dP;simpa using h
theorem f9 {l:List Span} {k:Nat} {lo hi:Int} (hk:∃hl:k<l.length,l[k]=(lo,hi)) (h:hi<lo\/lo < -1073741824\/1073741824<hi):false=dP l:=by
 obtain⟨hl,e⟩:=hk;refine(fW fun hp=>?_).symm;have:=(hp.at_ hl).1;rw[e]at this;unfold Ok at this;simp only at this;omega
theorem mJ {l:List Span} {k:Nat} {lo hi lo' hi':Int} (hk':∃hl:k<l.length,l[k]=(lo',hi')) (hk:∃hl:k+1<l.length,l[k+1]=(lo,hi)) (h:lo<=hi'+1):false=dP l:=by
 obtain⟨hl,e⟩:=hk;obtain⟨hl',e'⟩:=hk';refine(fW fun hp=>?_).symm;have:=(hp.at_ hl').2 _ (dD hl);rw[e,e']at this;simp only at this;omega
theorem lF {l:List Span} {lo hi:Int} (hk:∃hl:0<l.length,l[0]=(lo,hi)) (h1 : ¬ hi<lo) (h2 : ¬ lo < -1073741824) (h3 : ¬ 1073741824<hi):Plain (l.take (0+1)):=by
 obtain⟨hl,e⟩:=hk;rw[List.take_succ_eq_append_getElem hl,e];exact Plain.nil.snoc ⟨by simp only;omega,by simp only;omega,by simp only;omega⟩ (fun q hq=>by simp at hq)
theorem lG {l:List Span} {k:Nat} {lo hi lo' hi':Int} (hp:Plain (l.take (k+1))) (hk':∃hl:k<l.length,l[k]=(lo',hi')) (hk:∃hl:k+1<l.length,l[k+1]=(lo,hi)) (h1 : ¬ hi<lo) (h2 : ¬ lo < -1073741824) (h3 : ¬ 1073741824<hi) (h:hi'+1<lo) :
  Plain (l.take (k+1+1)):=by
 obtain⟨hl,e⟩:=hk;obtain⟨hl',e'⟩:=hk';rw[List.take_succ_eq_append_getElem hl,e];refine hp.snoc ⟨by simp only;omega,by simp only;omega,by simp only;omega⟩ (fun q hq=>?_);rw[List.take_succ_eq_append_getElem hl',e']at hp hq;rcases List.mem_append.1 hq with hq | hq
 ·have h4:=hp.append.2.2 q hq _ (List.mem_singleton.2 rfl)
  have h5:=hp.2 (lo',hi') (by simp);unfold Ok at h5;simp only at *;omega
 ·obtain rfl:=List.mem_singleton.1 hq
  simp only;omega
theorem wW {l:List Span} {k:Nat} {lo hi:Int} (hp:Plain (l.take (k+1))) (hk:∃hl:k<l.length,l[k]=(lo,hi)) : -1073741824<=hi/\hi<=1073741824:=by
 obtain⟨hl,e⟩:=hk;rw[List.take_succ_eq_append_getElem hl,e]at hp;have h5:=hp.2 (lo,hi) (by simp);unfold Ok at h5;simp only at h5;omega
def KL (l:List Span) (n:Nat) (w:World) (i:Value) (wr:World):Prop:=∃k:Nat,k<=n/\i = .int .i64 k/\Plain (l.take k)/\Below w.heap.size w wr
theorem mo (A:Option Addr) (n c:Nat) (l:List Span) (w:World) (h:RS w w.heap.size A n l) (hn:n<=1099511627776) :
  Calls Tryz.prog 53 #[.slice A n c] w (dY (dP l) w):=by
 go_enter Tryz.func53,Tryz.ntmps53;go_wp2_with (fail)
 go_loopw [7] (fun i wr=>KL l n w i wr) (fun i _=>n-(intOf i).toNat)
 case atStart=>exact⟨0,Nat.zero_le _,rfl,Plain.nil,Below.refl _ _⟩
 case round=>
  obtain⟨k,hk,rfl,hp,hb⟩:=hrel;have HP:=Lib.hid hp;clear hp;by_cases hlt:k<n
  ·have hr:=h.below hb
   obtain⟨b,off,lo,hi,hA,hbB,hlk,hc1,hc2⟩:=hr.at_ hlt;have hbs:b<wr.heap.size:=by have:=hb.size;omega
   have HL:=Lib.hid hlk;clear hlk;subst hA;by_cases a1:hi<lo
   ·go_wp2_with (fail)
    go_ret;exact⟨aj (f9 HL.out (by omega)),hb.alloc hb.size _⟩
   ·by_cases a2:lo < -1073741824
    ·go_wp2_with (fail)
     go_ret;exact⟨aj (f9 HL.out (by omega)),hb.alloc hb.size _⟩
    ·by_cases a3:1073741824<hi
     ·go_wp2_with (fail)
      go_ret;exact⟨aj (f9 HL.out (by omega)),hb.alloc hb.size _⟩
     ·rcases k with _ | m
      ·have hd:decide ((0:Int)<((0:Nat):Int))=false:=by simp
       simp only[Nat.zero_mul,Nat.add_zero]at hc1 hc2;go_wp2_with (fail);go_quiet (fail);go_wp2_with (fail)
       go_roundw
       case rel=>exact⟨0+1,by omega,by go_num,lF HL.out (by omega) (by omega) (by omega),below_drewN (hb.alloc hb.size _) _⟩
       case measure=>simp[intOf];omega
      ·obtain⟨b',off',lo',hi',hA,_,qJ,G6,Et⟩:=hr.at_ (k:=m) (by omega)
       injection hA with hA;injection hA with e1 e2 _;subst e1 e2;have hi1:=wW HP.out qJ;have HL':=Lib.hid qJ;clear qJ;have hd:decide ((0:Int)<((m+1:Nat):Int))=true:=by simp
       by_cases a4:lo<=hi'+1
       ·go_wp2_with (fail)
        go_quiet (fail);go_wp2_with (fail);go_ret;exact⟨aj (mJ HL'.out HL.out a4),below_drewN (hb.alloc hb.size _) _⟩
       ·go_wp2_with (fail)
        go_quiet (fail);go_wp2_with (fail)
        go_roundw
        case rel=>exact⟨m+1+1,by omega,by go_num,lG HP.out HL'.out HL.out (by omega) (by omega) (by omega) (by omega),below_drewN (hb.alloc hb.size _) _⟩
        case measure=>simp[intOf];omega
  ·have hkn:k=n:=by omega
   have hl:Plain l:=by have:=HP.out;rwa [List.take_of_length_le (by have:=h.1;omega)]at this
   have HB:=Lib.hid (iA hl);clear hkn hl;go_wp2_with (fail);go_ret;exact⟨aj HB.out.symm,hb⟩
end Go.Proofs.YtbdmcibcenhpnaaGreatDoor.Sp
namespace Go.Proofs.YtbdmcibcenhpnaaGreatDoor.Sp
set_option maxHeartbeats 64000000
open Go Go.RowKit
open Go.Lib (hid)
noncomputable def bC (l:List Span) (x:Int):Bool:=@decide (mem l x) (Classical.propDecidable _)
theorem eP {l:List Span} {x:Int} (h:mem l x):bC l x=true:=by unfold bC;simpa using h
theorem eT {l:List Span} {x:Int} (h : ¬ mem l x):bC l x=false:=by unfold bC;simpa using h
theorem fH {l:List Span} {x:Int} : bC l x=true↔mem l x:=by unfold bC;simp
theorem iW {l:List Span} {k:Nat} {lo hi x:Int} (hk:∃hl:k<l.length,l[k]=(lo,hi)):mem (l.take (k+1)) x↔mem (l.take k) x\/(Rng x/\lo<=x/\x<=hi):=by
 obtain⟨hl,e⟩:=hk;rw[aJ hl,e]
theorem DT {l:List Span} {k:Nat} {lo hi x:Int} (hk:∃hl:k<l.length,l[k]=(lo,hi)) (hx:Rng x) (h1:lo<=x) (h2:x<=hi):true=bC l x:=by
 obtain⟨hl,e⟩:=hk;exact(eP ⟨hx,_,List.getElem_mem hl,by rw[e];exact h1,by rw[e];exact h2⟩).symm
theorem uH {l:List Span} {k:Nat} {lo hi x:Int} (hk:∃hl:k<l.length,l[k]=(lo,hi)) (hn : ¬ mem (l.take k) x) (h:lo<=x->x<=hi->¬ Rng x) : ¬ mem (l.take (k+1)) x:=by
 rw[iW hk];rintro(h1 | ⟨h1,h2,h3⟩)
 ·exact hn h1
 ·exact h h2 h3 h1
def E1 (v:Value) (w:World) (e:Ending) (w':World):Prop:=e = .returned v/\w=w'
def Kr (l:List Span) (x:Int) (n:Nat) (i:Value):Prop:=∃k:Nat,k<=n/\i = .int .i64 k/\¬ mem (l.take k) x
theorem iP (A:Option Addr) (n c:Nat) (l:List Span) (x:Int) (w:World) (h:RS w w.heap.size A n l) (hn:n<=1099511627776) :
  Calls Tryz.prog 58 #[.slice A n c,.int .i64 x] w (E1 (.bool (bC l x)) w):=by
 go_enter Tryz.func58,Tryz.ntmps58;go_wp2_with (fail)
 go_loop [5] (fun i=>Kr l x n i) (fun i=>n-(intOf i).toNat)
 case atStart=>exact⟨0,Nat.zero_le _,rfl,by simpa using aI x⟩
 case round=>
  obtain⟨k,hk,rfl,hp⟩:=hrel;have HP:=hid hp;clear hp;by_cases hlt:k<n
  ·obtain⟨b,off,lo,hi,hA,hbB,hlk,hc1,hc2⟩:=h.at_ hlt
   have HL:=hid hlk;clear hlk;subst hA;by_cases a1:lo<=x
   ·by_cases a2:x<=hi
    ·by_cases a3 : -1073741824<=x
     ·by_cases a4:x<=1073741824
      ·go_wp2_with (fail)
       go_ret;exact⟨aj (DT HL.out ⟨by omega,by omega⟩ (by omega) (by omega)),rfl⟩
      ·go_wp2_with (fail)
       go_round
       case rel=>exact⟨k+1,by omega,by go_num,uH HL.out HP.out (fun _ _ h=>by unfold Rng at h;omega)⟩
       case measure=>simp[intOf];omega
     ·go_wp2_with (fail)
      go_round
      case rel=>exact⟨k+1,by omega,by go_num,uH HL.out HP.out (fun _ _ h=>by unfold Rng at h;omega)⟩
      case measure=>simp[intOf];omega
    ·go_wp2_with (fail)
     go_round
     case rel=>exact⟨k+1,by omega,by go_num,uH HL.out HP.out (fun _ _ _=>by omega)⟩
     case measure=>simp[intOf];omega
   ·go_wp2_with (fail)
    go_round
    case rel=>exact⟨k+1,by omega,by go_num,uH HL.out HP.out (fun _ _ _=>by omega)⟩
    case measure=>simp[intOf];omega
  ·have hm : ¬ mem l x:=by have:=HP.out;rwa [List.take_of_length_le (by have:=h.1;omega)]at this
   have HB:=hid (eT hm);clear hm;go_wp2_with (fail);go_ret;exact⟨aj HB.out.symm,rfl⟩
theorem mG:Tryz.prog.eqGuardType Tryz.prog.depth 47=false:=by kernel_rfl
theorem jr (w:World) (op:BinOp) (x y:Operand) (xs ys:Array Value):(eqGuard op 47 x y (.agg xs) (.agg ys)).run Tryz.prog w = .ok () w:=run_eqGuard_agg w op _ x y xs ys mG
theorem rQ (w:World) (p q r s:Int):(Op.equalIn 10000 47 (.agg #[.int .i64 p,.int .i64 q]) (.agg #[.int .i64 r,.int .i64 s])).run Tryz.prog w = .ok (p == r && q == s) w:=by
 have u3:=Tryz.underlying3;have a3:=Tryz.isAgg3;have z3:=Tryz.sizeOf3;have hS:Tryz.prog.underlying 47=some (.struct (Tryz.prog.fieldsOf 47)):=by kernel_rfl
 have hp:Tryz.prog.stoodInHeld 47=false:=by kernel_rfl
 rw[show(10000:Nat)=9999+1 from rfl,run_equalIn_agg w 9999 47 _ _ hS hp];simp only[Program.fieldsOf,Tryz.underlying47];go_simp;by_cases h1:p=r <;> by_cases h2:q=s <;> simp[h1,h2]
attribute [local go_sem] jr rQ
def Ig (l r:List Span) (n:Nat) (w:World) (i:Value) (wr:World):Prop:=∃k:Nat,k<=n/\i = .int .i64 k/\l.take k=r.take k/\Below w.heap.size w wr
theorem ug {l r:List Span} {k:Nat} {p q:Int×Int} (hk:∃hl:k<l.length,l[k]=p) (hk':∃hl:k<r.length,r[k]=q) (h:p≠q):false=decide (l=r):=by
 obtain⟨hl,e⟩:=hk;obtain⟨hr,e'⟩:=hk';refine(decide_eq_false fun he=>?_).symm;subst he;exact h (e.symm.trans e')
theorem zD {l r:List Span} {k:Nat} {p q:Int×Int} (hk:∃hl:k<l.length,l[k]=p) (hk':∃hl:k<r.length,r[k]=q) (h:p=q) (ht:l.take k=r.take k):l.take (k+1)=r.take (k+1):=by
 obtain⟨hl,e⟩:=hk;obtain⟨hr,e'⟩:=hk';rw[List.take_succ_eq_append_getElem hl,List.take_succ_eq_append_getElem hr,ht,e,e',h]
theorem uh (A A':Option Addr) (n n' c c':Nat) (l r:List Span) (w:World) (h:RS w w.heap.size A n l) (h':RS w w.heap.size A' n' r) (hn:n<=1099511627776) (hn':n'<=1099511627776) :
  Calls Tryz.prog 38 #[.slice A n c,.slice A' n' c'] w (dY (decide (l=r)) w):=by
 by_cases e:n=n'
 ·subst e
  go_enter Tryz.func38,Tryz.ntmps38;go_wp2_with (fail)
  go_loopw [5] (fun i wr=>Ig l r n w i wr) (fun i _=>n-(intOf i).toNat)
  case atStart=>exact⟨0,Nat.zero_le _,rfl,rfl,Below.refl _ _⟩
  case round=>
   obtain⟨k,hk,rfl,hp,hb⟩:=hrel;have HP:=hid hp;clear hp;by_cases hlt:k<n
   ·obtain⟨b,off,lo,hi,hA,hbB,hlk,hc1,hc2⟩:=(h.below hb).at_ hlt
    obtain⟨b',off',lo',hi',hA',K1,qJ,G6,Et⟩:=(h'.below hb).at_ hlt;have HL:=hid hlk;clear hlk;have HL':=hid qJ;clear qJ;subst hA hA';by_cases e1:lo=lo'
    ·by_cases e2:hi=hi'
     ·subst e1 e2
      go_wp2_with (fail);go_quiet (fail);go_wp2_with (fail)
      go_roundw
      case rel=>exact⟨k+1,by omega,by go_num,zD HL.out HL'.out rfl HP.out,below_drewN hb _⟩
      case measure=>simp[intOf];omega
     ·have hd:(hi == hi')=false:=by simpa using e2
      have HD:=hid (show(lo,hi)≠(lo',hi')from fun h=>e2 (congrArg Prod.snd h));clear e2;go_wp2_with (fail);go_quiet (fail);go_wp2_with (fail);go_ret;exact⟨aj (ug HL.out HL'.out HD.out),below_drewN hb _⟩
    ·have hd:(lo == lo')=false:=by simpa using e1
     have HD:=hid (show(lo,hi)≠(lo',hi')from fun h=>e1 (congrArg Prod.fst h));clear e1;go_wp2_with (fail);go_quiet (fail);go_wp2_with (fail);go_ret;exact⟨aj (ug HL.out HL'.out HD.out),below_drewN hb _⟩
   ·have hm:l=r:=by have:=HP.out;rwa [List.take_of_length_le (by have:=h.1;omega),List.take_of_length_le (by have:=h'.1;omega)]at this
    have HB:=hid (decide_eq_true hm);clear hm;go_wp2_with (fail);go_ret;exact⟨aj HB.out.symm,hb⟩
 ·have hl : ¬ l=r:=fun e'=>e (by rw[<- h.1,<- h'.1,e'])
  have HB:=hid (decide_eq_false hl);have hne:((n:Int) != (n':Int))=true:=by rw[bne_iff_ne];omega
  clear hl;go_enter Tryz.func38,Tryz.ntmps38;go_wp2_with (fail);go_ret;exact⟨aj HB.out.symm,Below.refl _ _⟩
end Go.Proofs.YtbdmcibcenhpnaaGreatDoor.Sp
namespace Go.Proofs.YtbdmcibcenhpnaaGreatDoor.Sp
set_option maxHeartbeats 64000000
open Go Go.RowKit
def av (w:World) (base:Nat) (v:Value) (xs:List Span):Prop:=w.ownsRow base 47 2 v xs.length (flat xs)
theorem bQ:(Tryz.prog.info? 47).map (fun i=>(i.zero,i.size,i.bytes))=some (some (.agg #[.int .i64 0,.int .i64 0]),2,16):=by kernel_rfl
theorem bt (w:World) (x y:Value) (t:TypeId):∀j u,[x,y][j]? = some u->(w.alloc (.cells #[x,y] t)).cell? ((⟨w.heap.size,0,none⟩:Addr).add j)=some u:=by
 intro j u hj
 match j,hj with
 | 0,hj=>simp at hj;subst hj;simp[Addr.add]
 | 1,hj=>simp at hj;subst hj;simp[Addr.add]
 | j+2,hj=>simp at hj
theorem cA {w:World} {base:Nat} {v:Value} {xs:List Span} (h:av w base v xs):∀k,v.ownBlock=some k->base<=k:=fun k hk=>(h.lt k hk).1
def vI (w:World) (base:Nat) (xs:List Span) (e:Ending) (w':World):Prop:=∃v',e = .returned v'/\av w' base v' xs/\Below base w w'
def Ph (w:World) (base:Nat) (v:Value) (xs:List Span) (e:Ending) (w':World):Prop:=
 ∃v',e = .returned v'/\av w' base v' xs/\w.grownBy w' v.ownBlock/\(v'.ownBlock=v.ownBlock\/∃g,v'.ownBlock=some g/\w.heap.size<=g)
theorem ni (base:Nat) (v:Value) (xs:List Span) (lo hi:Int) (w:World) (hown:av w base v xs) (hbase:base<=w.heap.size) (hlen:xs.length<=1099511627776) :
  Calls Tryz.prog 91 #[v,.int .i64 lo,.int .i64 hi] w (Ph w base v (gV xs lo hi)):=by
 obtain⟨L,hL⟩:∃L,(if lo < -1073741824 then(-1073741824:Int)else lo)=L:=⟨_,rfl⟩;obtain⟨H,hH⟩:∃H,(if 1073741824<hi then(1073741824:Int)else hi)=H:=⟨_,rfl⟩;have eL:max lo (-1073741824)=L:=by rw[<- hL];split <;> omega
 have eH:min hi 1073741824=H:=by rw[<- hH];split <;> omega
 by_cases hc:H<L
 ·have HP:=Lib.hid (show gV xs lo hi=xs by unfold gV;rw[eL,eH];exact if_pos hc)
  clear eL eH;go_enter Tryz.func91,Tryz.ntmps91;go_wp2_with (fail);go_ret;exact⟨v,rfl,by rw[HP.out];exact hown,World.grownBy.refl _ _,.inl rfl⟩
 ·have HP:=Lib.hid (show gV xs lo hi=xs++[(L,H)]by unfold gV;rw[eL,eH];exact if_neg hc)
  clear eL eH;obtain⟨i0,hi0,hz0,hz1,hz2⟩:=info_parts bQ;have hown0:=Lib.hid hown;clear hown;go_enter Tryz.func91,Tryz.ntmps91;go_wp2_with (at_builtin;go_must (refine wpList_append_own_at _ rfl _ _ 48 rfl base 47 i0 _ 2 16 Tryz.underlying48 hi0 hz0 hz1 hz2 rfl (by decide) v xs.length (flat xs) rfl (hown0.out.alloc _) ⟨w.heap.size,0,none⟩ 1 1 [.int .i64 L,.int .i64 H] rfl rfl (bt _ _ _ _) ?c2 ?c3 ?c4 ?c5 ?_))
  case c2=>exact⟨rfl,rfl⟩
  case c3=>simp only[maxLen];omega
  case c4=>omega
  case c5=>omega
  intro v1 w1 hown1 hg1 _ hat;have HAT:=Lib.hid hat;clear hat;go_wp2_with (fail);go_ret;refine⟨v1,rfl,?_,(World.grownBy_alloc w _ _).trans hg1,?_⟩
  ·rw[HP.out]
   unfold av;rw[aA,List.length_append];exact hown1
  ·rcases HAT.out with e | e
   ·exact .inl e
   ·exact .inr ⟨_,e,by simp⟩
theorem jx (base:Nat) (v:Value) (xs:List Span) (lo hi:Int) (w:World) (hown:av w base v xs) (hbase:base<=w.heap.size) (hlen:xs.length<=1099511627776) :
  Calls Tryz.prog 91 #[v,.int .i64 lo,.int .i64 hi] w (vI w base (gV xs lo hi)):=
 (ni base v xs lo hi w hown hbase hlen).mono fun _ _ ⟨v',he,ho,hg,_⟩=>⟨v',he,ho,(Below.refl base w).grown hg hbase (cA hown)⟩
end Go.Proofs.YtbdmcibcenhpnaaGreatDoor.Sp
namespace Go.Proofs.YtbdmcibcenhpnaaGreatDoor.Sp
set_option maxHeartbeats 64000000
open Go Go.RowKit
open Go.Lib (hid)
def KG (base:Nat) (xs q:List Span) (lo hi:Int) (w:World) (s0 s7 i:Value) (wr:World):Prop:=
 ∃(k:Nat) (cur:List Span) (lo':Int),k<=q.length/\i = .int .i64 k/\s7 = .int .i64 lo'/\av wr base s0 cur/\mL hi lo xs q=mL hi lo' cur (q.drop k)/\cur.length<=xs.length+k /\
  Below base w wr/\wr.cell? ⟨w.heap.size,1,none⟩=some (.int .i64 hi)/\s0.ownBlock≠some w.heap.size/\w.heap.size<wr.heap.size
theorem FT {q:List Span} {k:Nat} {a b hi lo:Int} {cur:List Span} (hk:∃hl:k<q.length,q[k]=(a,b)):mL hi lo cur (q.drop k)=if hi<a then gV cur lo hi else mL hi (b+1) (gV cur lo (a-1)) (q.drop (k+1)):=by
 obtain⟨hl,e⟩:=hk;rw[BP hl,e]
theorem zY {q:List Span} {k:Nat} {a b:Int} (hq:Plain q) (hk:∃hl:k<q.length,q[k]=(a,b)):a<=b/\-1073741824<=a/\b<=1073741824:=by
 obtain⟨hl,e⟩:=hk;have:=(hq.at_ hl).1;rw[e]at this;exact this
theorem BO (base:Nat) (v:Value) (xs q:List Span) (lo hi:Int) (Aq:Option Addr) (m cq:Nat) (w:World) (hown:av w base v xs) (hbase:base<=w.heap.size) (hr:RS w base Aq m q) (hq:Plain q) (hlen:xs.length<=68719476736) :
  Calls Tryz.prog 83 #[v,.agg #[.int .i64 lo,.int .i64 hi],.slice Aq m cq] w (vI w base (mL hi lo xs q)):=by
 have hqs:=hq.short;obtain rfl:q.length=m:=hr.1;have hne0:v.ownBlock≠some w.heap.size:=fun e=>by have:=(hown.lt _ e).2;omega
 have HNE:=hid hne0;clear hne0;have HO0:=hid (World.ownsRow.alloc hown (.cells #[.int .i64 lo,.int .i64 hi] 47));clear hown;have HQ:=hid hq;clear hq;go_enter Tryz.func83,Tryz.ntmps83;go_wp2_with (fail)
 go_loopw [0,7,14] (fun s0 s7 i wr=>KG base xs q lo hi w s0 s7 i wr) (fun _ _ i _=>q.length-(intOf i).toNat)
 case atStart=>exact⟨0,xs,lo,Nat.zero_le _,rfl,rfl,HO0.out,rfl,by omega,(Below.refl _ _).alloc hbase _,by simp,HNE.out,by simp⟩
 case round=>
  obtain⟨k,cur,lo',hk,rfl,rfl,ho,hcut,sO,hb,hch,hne,hwz⟩:=hrel;have hz:=hb.size;have HO:=hid ho;clear ho;have HC:=hid hcut;clear hcut;have HN:=hid hne;clear hne;by_cases hlt:k<q.length
  ·obtain⟨b',off,a,b,hA,hbB,hlk,hc1,hc2⟩:=(hr.below hb).at_ hlt
   have hbs:b'<wr.heap.size:=by omega
   have hok:=zY HQ.out hlk;have HL:=hid hlk;clear hlk;rw[hA];clear hA;by_cases hgt:hi<a
   ·have hfin:=HC.out
    rw[FT HL.out,if_pos hgt]at hfin;have HF:=hid hfin;clear hfin;go_wp2_with (fail);refine(jx base _ cur lo' hi _ (World.ownsRow.alloc HO.out _) (by simp;omega) (by omega)).mono ?_;rintro e w1 ⟨v1,rfl,ho1,hb1⟩;go_wp2_with (fail);go_ret;exact⟨v1,rfl,by rw[HF.out];exact ho1,(hb.alloc (by omega) _).trans hb1⟩
   ·have hfin:=HC.out
    rw[FT HL.out,if_neg hgt]at hfin;have HF:=hid hfin;clear hfin;go_wp2_with (fail);refine(ni base _ cur lo' (a-1) _ (World.ownsRow.alloc HO.out _) (by simp;omega) (by omega)).mono ?_;rintro e w1 ⟨v1,rfl,ho1,hg1,hat1⟩;have hz1:=hg1.size;simp only[World.size_alloc]at hz1;have hx:w1.cell? ⟨wr.heap.size,1,none⟩=some (.int .i64 b):=hg1.cell (by simp) (fun e=>absurd (World.ownsRow.lt HO.out _ e.symm).2 (Nat.lt_irrefl _));have hh:w1.cell? ⟨w.heap.size,1,none⟩=some (.int .i64 hi):=hg1.cell (by rw[World.cell?_alloc_lt _ _ _ hwz];exact hch) (fun e=>HN.out e.symm);have hne1:v1.ownBlock≠some w.heap.size:=by
     rcases hat1 with e | ⟨g,e,hge⟩
     ·rw[e];exact HN.out
     ·rw[e]
      intro e2;injection e2 with e2;simp at hge;omega
    have HN1:=hid hne1;clear hne1;have HO1:=hid ho1;clear ho1;have hb1:Below base w w1:=(hb.alloc (by omega) _).grown hg1 (by simp;omega) (cA HO.out);have hl1:=lD cur lo' (a-1);clear hg1 hat1;go_wp2_with (fail)
    go_roundw
    case rel=>exact⟨k+1,gV cur lo' (a-1),b+1,by omega,by go_num,rfl,HO1.out,HF.out,by omega,hb1,hh,HN1.out,by omega⟩
    case measure=>simp[intOf];omega
  ·have hfin:=HC.out
   rw[List.drop_eq_nil_of_le (show q.length<=k by omega),mL]at hfin;have HF:=hid hfin;clear hfin;go_wp2_with (fail);refine(jx base _ cur lo' hi _ HO.out (by omega) (by omega)).mono ?_;rintro e w1 ⟨v1,rfl,ho1,hb1⟩;go_wp2_with (fail);go_ret;exact⟨v1,rfl,by rw[HF.out];exact ho1,hb.trans hb1⟩
end Go.Proofs.YtbdmcibcenhpnaaGreatDoor.Sp
namespace Go.Proofs.YtbdmcibcenhpnaaGreatDoor.Mi
open Go Go.RowKit Sp
theorem aX {w:World} {base:Nat} {e:TypeId} {size:Nat} {v:Value} {n:Nat} {xs:List Value} (h:w.ownsRow base e size v n xs):∃A c,v = .slice A n c:=by
 obtain⟨_,h2⟩:=h;rcases h2 with⟨hv,hn⟩ | ⟨g,cap,cur,hv,_⟩
 ·exact⟨none,0,by rw[hv,hn]⟩
 ·exact⟨_,cap,hv⟩
def RGs (w:World) (A:Option Addr) (n:Nat) (fam:List (List Span)):Prop:=
 fam.length=n/\(0<n->∃b off,A=some ⟨b,off,none⟩/\b<w.heap.size/\∀(j:Nat) (h:j<fam.length),∃Aj cj,w.cell? ⟨b,off+j,none⟩=some (.slice Aj fam[j].length cj)/\RS w w.heap.size Aj fam[j].length fam[j]/\fam[j].length<=cj/\(Aj=none->fam[j]=[]/\cj=0))
theorem RGs.ah {w w':World} {A:Option Addr} {n:Nat} {fam:List (List Span)} (h:RGs w A n fam) (hb:Below w.heap.size w w'):RGs w' A n fam:=
 ⟨h.1,fun hn=>by
  obtain⟨b,off,e,hlt,hc⟩:=h.2 hn;refine⟨b,off,e,by have:=hb.size;omega,fun j hj=>?_⟩;obtain⟨Aj,cj,h1,h2,h3,h4⟩:=hc j hj;exact⟨Aj,cj,(hb.cell hlt).trans h1,h2.ah hb,h3,h4⟩⟩
theorem RGs.at_ {w:World} {A:Option Addr} {n:Nat} {fam:List (List Span)} (h:RGs w A n fam) {k:Nat} (hk:k<fam.length):∃b off Aj cj,A=some ⟨b,off,none⟩/\b<w.heap.size/\w.cell? ⟨b,off+k,none⟩=some (.slice Aj fam[k].length cj)/\RS w w.heap.size Aj fam[k].length fam[k]/\fam[k].length<=cj/\(Aj=none->fam[k]=[]/\cj=0):=by
 obtain⟨b,off,e,hb,hc⟩:=h.2 (by have:=h.1;omega);obtain⟨Aj,cj,h1⟩:=hc k hk;exact⟨b,off,Aj,cj,e,hb,h1⟩
theorem RGs.dS (w:World) (A:Option Addr):RGs w A 0 []:=⟨rfl,fun h=>absurd h (by omega)⟩
def Nr (bs:List Nat):Lit:=.string (bs.map UInt8.ofNat)
def Small (bs:List Nat):Prop:=∀b∈bs,b<256
structure Pf (D:DataW Unit) (st:List Entry):Prop where
 isMap:Maps.IsMap D
 has:∀bs,Small bs->Maps.has D (Nr bs)=(placeOf st bs).isSome
 at_:∀bs k,Small bs->placeOf st bs=some k->D.atKey (Nr bs) (.lit (.int .i64 0)) = .lit (.int .i64 (k:Int))
 small:∀e∈st,Small e.1
end Go.Proofs.YtbdmcibcenhpnaaGreatDoor.Mi
namespace Go.Proofs.YtbdmcibcenhpnaaGreatDoor.Fi
set_option maxHeartbeats 64000000
open Go Go.RowKit Sp
def dK (k:Int):List (Int×Int):=if k=1 then[(0,255)]else if k=2 then[(0,55295),(57344,1114111)]else[]
theorem uD {w:World} : Sp.RS (w.alloc (.cells #[.int .i64 0,.int .i64 255] 47)) (w.alloc (.cells #[.int .i64 0,.int .i64 255] 47)).heap.size (some ⟨w.heap.size,0,none⟩) 1 [(0,255)]:=by
 refine⟨rfl,fun _=>⟨w.heap.size,0,rfl,by simp,fun j hj=>?_⟩⟩;have:j=0:=by simp at hj;exact hj
 subst this;exact⟨by simp,by simp⟩
theorem tQ {w:World} : Sp.RS (w.alloc (.cells #[.int .i64 0,.int .i64 55295,.int .i64 57344,.int .i64 1114111] 47)) (w.alloc (.cells #[.int .i64 0,.int .i64 55295,.int .i64 57344,.int .i64 1114111] 47)).heap.size (some ⟨w.heap.size,0,none⟩) 2 [(0,55295),(57344,1114111)]:=by
 refine⟨rfl,fun _=>⟨w.heap.size,0,rfl,by simp,fun j hj=>?_⟩⟩;have:j=0\/j=1:=by simp at hj;omega
 rcases this with rfl | rfl;all_goals
  exact⟨by simp,by simp⟩
def Li (k:Int) (w:World) (e:Ending) (w':World):Prop:=∃A c,e = .returned (.slice A (dK k).length c)/\Sp.RS w' w'.heap.size A (dK k).length (dK k)/\Below w.heap.size w w'/\(dK k).length<=c
theorem kJ (k:Int) (w:World):Calls Tryz.prog 52 #[.int .i64 k] w (Li k w):=by
 by_cases k1:k=1
 ·subst k1
  go_enter Tryz.func52,Tryz.ntmps52;go_wp2_with (fail);go_ret;exact⟨_,1,rfl,uD,(Below.refl _ _).alloc (Nat.le_refl _) _,by decide⟩
 ·by_cases k2:k=2
  ·subst k2
   go_enter Tryz.func52,Tryz.ntmps52;go_wp2_with (fail);go_ret;exact⟨_,2,rfl,tQ,(Below.refl _ _).alloc (Nat.le_refl _) _,by decide⟩
  ·have h1:(k == 1)=false:=by simpa using k1
   have h2:(k == 2)=false:=by simpa using k2
   have HV:=Lib.hid (show dK k=[]by unfold dK;rw[if_neg k1,if_neg k2]);clear k1 k2;go_enter Tryz.func52,Tryz.ntmps52;go_wp2_with (fail);go_ret;exact⟨none,0,by rw[HV.out];rfl,by rw[HV.out];exact Sp.RS.dS _ _ _,Below.refl _ _,by rw[HV.out];exact Nat.le_refl _⟩
end Go.Proofs.YtbdmcibcenhpnaaGreatDoor.Fi
