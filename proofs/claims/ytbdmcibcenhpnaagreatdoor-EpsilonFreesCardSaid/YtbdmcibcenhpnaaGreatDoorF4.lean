import Derived.Test.YtbdmcibcenhpnaaGreatDoorF3
import Derived.Deep.RegionHeld3
set_option maxRecDepth 100000
namespace Go.Proofs.YtbdmcibcenhpnaaGreatDoor.Pa
set_option maxHeartbeats 64000000
open Go Go.RowKit Sp
abbrev prt (a d t u:Int):Value:=.agg #[.int .i64 a,.int .i64 d,.int .i64 t,.int .i64 u]
theorem oU (a d t u:Int) (w:World):Calls Tryz.prog 123 #[prt a d t u] w (dY (decide (Bits d t u)) w):=by
 by_cases hb:Bits d t u
 ·rw[decide_eq_true hb]
  obtain⟨h1,h2,h3,h4,h5,h6,h7⟩:=hb;by_cases h8:u=0
  ·subst h8
   go_enter Tryz.func123,Tryz.ntmps123;go_wp2_with (fail);go_ret;exact⟨rfl,(Below.refl _ _).alloc (Nat.le_refl _) _⟩
  ·have h7':t<=6:=by omega
   have h8':(u == 0)=false:=by simpa using h8
   clear h7 h8;go_enter Tryz.func123,Tryz.ntmps123;go_wp2_with (fail);go_ret;exact⟨rfl,(Below.refl _ _).alloc (Nat.le_refl _) _⟩
 ·rw[decide_eq_false hb]
  by_cases h1:0<=d
  ·by_cases h2:d<=20
   ·by_cases h3:1<=t
    ·by_cases h4:t<=21
     ·by_cases h5:0<=u
      ·by_cases h6:u<=20
       ·have h7:6<t:=by unfold Bits at hb;omega
        have h8:(u == 0)=false:=by unfold Bits at hb;simp;omega
        clear hb;go_enter Tryz.func123,Tryz.ntmps123;go_wp2_with (fail);go_ret;exact⟨aj (by simp;omega),(Below.refl _ _).alloc (Nat.le_refl _) _⟩
       ·clear hb
        go_enter Tryz.func123,Tryz.ntmps123;go_wp2_with (fail);go_ret;exact⟨rfl,(Below.refl _ _).alloc (Nat.le_refl _) _⟩
      ·clear hb
       go_enter Tryz.func123,Tryz.ntmps123;go_wp2_with (fail);go_ret;exact⟨rfl,(Below.refl _ _).alloc (Nat.le_refl _) _⟩
     ·clear hb
      go_enter Tryz.func123,Tryz.ntmps123;go_wp2_with (fail);go_ret;exact⟨rfl,(Below.refl _ _).alloc (Nat.le_refl _) _⟩
    ·clear hb
     go_enter Tryz.func123,Tryz.ntmps123;go_wp2_with (fail);go_ret;exact⟨rfl,(Below.refl _ _).alloc (Nat.le_refl _) _⟩
   ·clear hb
    go_enter Tryz.func123,Tryz.ntmps123;go_wp2_with (fail);go_ret;exact⟨rfl,(Below.refl _ _).alloc (Nat.le_refl _) _⟩
  ·clear hb
   go_enter Tryz.func123,Tryz.ntmps123;go_wp2_with (fail);go_ret;exact⟨rfl,(Below.refl _ _).alloc (Nat.le_refl _) _⟩
def aT (a d t u n:Int):Bool:=decide (0<=a/\a<n/\Bits d t u)
theorem qd (a d t u n:Int) (w:World):Calls Tryz.prog 102 #[prt a d t u,.int .i64 n] w (dY (aT a d t u n) w):=by
 by_cases h1:0<=a
 ·by_cases h2:a<n
  ·have e:aT a d t u n=decide (Bits d t u):=by unfold aT;simp[h1,h2]
   have HE:=Lib.hid e;have HB:=Lib.hid (oU a d t u);clear e;go_enter Tryz.func102,Tryz.ntmps102;go_wp2_with (fail);refine(HB.out _).mono ?_;rintro e w1 ⟨rfl,hb1⟩;go_wp2_with (fail);go_ret;exact⟨aj HE.out.symm,((Below.refl _ _).alloc (Nat.le_refl _) _).trans (hb1.mono (by simp))⟩
  ·have HE:=Lib.hid (show aT a d t u n=false by unfold aT;simp[h2])
   go_enter Tryz.func102,Tryz.ntmps102;go_wp2_with (fail);go_ret;exact⟨aj HE.out.symm,(Below.refl _ _).alloc (Nat.le_refl _) _⟩
 ·have HE:=Lib.hid (show aT a d t u n=false by unfold aT;simp[h1])
  go_enter Tryz.func102,Tryz.ntmps102;go_wp2_with (fail);go_ret;exact⟨aj HE.out.symm,(Below.refl _ _).alloc (Nat.le_refl _) _⟩
def Ms (a d t u:Int) (w:World) (e:Ending) (w':World):Prop:=e = .returned (prt a d t u)/\Below w.heap.size w w'
theorem fT (a:Int) (w:World):Calls Tryz.prog 103 #[.int .i64 a] w (Ms a 0 21 0 w):=by
 go_enter Tryz.func103,Tryz.ntmps103;go_wp2_with (fail);exact bodyPost_ret (v:=prt a 0 21 0) (by simp[results,Tryz.results103,go_sem]) rfl ⟨rfl,(Below.refl _ _).alloc (Nat.le_refl _) _⟩
end Go.Proofs.YtbdmcibcenhpnaaGreatDoor.Pa
namespace Go.Proofs.YtbdmcibcenhpnaaGreatDoor.Pa
set_option maxHeartbeats 64000000
open Go Go.RowKit Sp
open Go.Lib (hid)
def Jc (v:Int) (w:World) (e:Ending) (w':World):Prop:=e = .returned (.int .i64 v)/\Below w.heap.size w w'
theorem Dw {a b:Int} (h:a=b):Ending.returned (.int .i64 a) = .returned (.int .i64 b):=by rw[h]
theorem jw (n:Int):(2:Int) ^ n.toNat=pw n:=rfl
theorem uL (a k:Nat):a &&& (2 ^ k-1)=a % 2 ^ k:=Nat.and_two_pow_sub_one_eq_mod a k
theorem oT (z t:Int) (h0:0<=z) (h1:z<=9223372036854775807) (ht:t<=62):bits .and .i64 z (pw t-1)=z % pw t:=by
 have hp:=aU t;have hp2:=fA t 62 ht;have e62:pw 62=4611686018427387904:=by decide
 have hm:=mod_lt z t;obtain⟨a,rfl⟩:=Int.eq_ofNat_of_zero_le h0;have e:pw t-1=((2 ^ t.toNat-1:Nat):Int):=by
  have:(1:Nat)<=2 ^ t.toNat:=Nat.one_le_two_pow;unfold pw;rw[Int.ofNat_sub this];simp
 have e2:((a:Int) % pw t)=((a % 2 ^ t.toNat:Nat):Int):=by unfold pw;simp
 have hlt:a % 2 ^ t.toNat<9223372036854775808:=by omega
 have hb:a<18446744073709551616:=by omega
 have hc:2 ^ t.toNat-1<18446744073709551616:=by omega
 rw[e2,<- uL,e];rw[<- uL]at hlt
 generalize 2 ^ t.toNat-1=c at *
 have ea:(BitVec.ofInt 64 (a:Int)).toNat=a:=by rw[BitVec.toNat_ofInt];omega
 have ec:(BitVec.ofInt 64 (c:Int)).toNat=c:=by rw[BitVec.toNat_ofInt];omega
 show IntKind.i64.wrap ((BitVec.ofInt 64 (a:Int) &&& BitVec.ofInt 64 (c:Int)).toNat:Int)=_;rw[BitVec.toNat_and,ea,ec];exact IntWalk.i64_in _ (by omega)
theorem boxed4 {w w1:World} {x y z v:Value} {t:TypeId} (hb:Below (w.alloc (.cells #[x,y,z,v] t)).heap.size (w.alloc (.cells #[x,y,z,v] t)) w1) :
  w1.cell? ⟨w.heap.size,0,none⟩=some x/\w1.cell? ⟨w.heap.size,1,none⟩=some y/\w1.cell? ⟨w.heap.size,2,none⟩=some z/\w1.cell? ⟨w.heap.size,3,none⟩=some v:=by
 have key:∀i,w1.cell? ⟨w.heap.size,i,none⟩=(w.alloc (.cells #[x,y,z,v] t)).cell? ⟨w.heap.size,i,none⟩:=fun i=>hb.cell (p:=⟨w.heap.size,i,none⟩) (by simp)
 rw[key,key,key,key];refine⟨?_,?_,?_,?_⟩ <;> simp
attribute [local go_sem] jw
theorem uF (a d t u:Int) (h1:1<=t) (h2:t<=21) (w:World):Calls Tryz.prog 131 #[prt a d t u] w (Jc (pw t-1) w):=by
 have hp:=aU t;have hq:=mH h2 pw21;have h3:0<=t:=by omega
 have h4:t<=64:=by omega
 go_enter Tryz.func131,Tryz.ntmps131;go_wp2_with (fail);go_ret;exact⟨rfl,(Below.refl _ _).alloc (Nat.le_refl _) _⟩
def Ka (n:Int) (x i:Value):Prop:=∃k:Nat,(k:Int)<=n/\i = .int .i64 k/\x = .int .i64 (pw k)
theorem ow (n:Int) (h0:0<=n) (h1:n<=60) (w:World):Calls Tryz.prog 61 #[.int .i64 n] w (E1 (.int .i64 (pw n)) w):=by
 go_enter Tryz.func61,Tryz.ntmps61;go_wp2_with (fail)
 go_loop [3,4] (fun x i=>Ka n x i) (fun _ i=>(n-intOf i).toNat)
 case atStart=>exact⟨0,by omega,rfl,rfl⟩
 case round=>
  obtain⟨k,hk,rfl,rfl⟩:=hrel;by_cases hlt:(k:Int)<n
  ·have hp:=aU k
   have hq:=mH (n:=k) (k:=60) (m:=1152921504606846976) (by omega) (by decide);have HS:=hid (zP k (by omega));go_wp2_with (fail)
   go_round
   case rel=>exact⟨k+1,by omega,by go_num,by rw[show((k+1:Nat):Int)=(k:Int)+1 from rfl,HS.out]⟩
   case measure=>simp[intOf];omega
  ·have HE:=hid (show pw k=pw n by rw[show(k:Int)=n from by omega])
   go_wp2_with (fail);go_ret;exact⟨Dw HE.out,rfl⟩
theorem lC (a d t u:Int) (w:World):Calls Tryz.prog 98 #[prt a d t u] w (dY (decide (Bits d t u)) w):=by
 have fin:∀b:Bool,decide (Bits d t u)=b->∀{e:Ending} {w':World},e = .returned (.bool b)->Below w.heap.size w w'->dY (decide (Bits d t u)) w e w':=fun b h e w' h1 h2=>⟨by rw[h];exact h1,h2⟩
 have FIN:=hid fin;clear fin;have neg : ¬ Bits d t u->decide (Bits d t u)=false:=fun h=>decide_eq_false h
 have pos:Bits d t u->decide (Bits d t u)=true:=fun h=>decide_eq_true h
 by_cases h1:d<0
 ·have HE:=hid (neg (by unfold Bits;omega));clear pos neg
  go_enter Tryz.func98,Tryz.ntmps98;go_wp2_with (fail);go_ret;exact FIN.out _ HE.out rfl ((Below.refl _ _).alloc (Nat.le_refl _) _)
 by_cases h2:20<d
 ·have HE:=hid (neg (by unfold Bits;omega));clear pos neg
  go_enter Tryz.func98,Tryz.ntmps98;go_wp2_with (fail);go_ret;exact FIN.out _ HE.out rfl ((Below.refl _ _).alloc (Nat.le_refl _) _)
 by_cases h3:t<1
 ·have HE:=hid (neg (by unfold Bits;omega));clear pos neg
  go_enter Tryz.func98,Tryz.ntmps98;go_wp2_with (fail);go_ret;exact FIN.out _ HE.out rfl ((Below.refl _ _).alloc (Nat.le_refl _) _)
 by_cases h4:21<t
 ·have HE:=hid (neg (by unfold Bits;omega));clear pos neg
  go_enter Tryz.func98,Tryz.ntmps98;go_wp2_with (fail);go_ret;exact FIN.out _ HE.out rfl ((Below.refl _ _).alloc (Nat.le_refl _) _)
 by_cases h5:u<0
 ·have HE:=hid (neg (by unfold Bits;omega));clear pos neg
  go_enter Tryz.func98,Tryz.ntmps98;go_wp2_with (fail);go_ret;exact FIN.out _ HE.out rfl ((Below.refl _ _).alloc (Nat.le_refl _) _)
 by_cases h6:20<u
 ·have HE:=hid (neg (by unfold Bits;omega));clear pos neg
  go_enter Tryz.func98,Tryz.ntmps98;go_wp2_with (fail);go_ret;exact FIN.out _ HE.out rfl ((Below.refl _ _).alloc (Nat.le_refl _) _)
 by_cases h7:u=0
 ·subst h7
  have HE:=hid (pos (by unfold Bits;omega));clear pos neg;go_enter Tryz.func98,Tryz.ntmps98;go_wp2_with (fail);go_ret;exact FIN.out _ HE.out rfl ((Below.refl _ _).alloc (Nat.le_refl _) _)
 have h8:(u == 0)=false:=by simpa using h7
 by_cases h9:t<=6
 ·have HE:=hid (pos (by unfold Bits;omega));clear pos neg h7
  have h9':decide (t<=6)=true:=by simpa using h9
  go_enter Tryz.func98,Tryz.ntmps98;go_wp2_with (fail);go_ret;exact FIN.out _ HE.out rfl ((Below.refl _ _).alloc (Nat.le_refl _) _)
 ·have HE:=hid (neg (by unfold Bits;omega));clear pos neg h7
  have h9':decide (t<=6)=false:=by simpa using h9
  go_enter Tryz.func98,Tryz.ntmps98;go_wp2_with (fail);go_ret;exact FIN.out _ HE.out rfl ((Below.refl _ _).alloc (Nat.le_refl _) _)
theorem cw (a d t u n:Int) (w:World):Calls Tryz.prog 73 #[prt a d t u,.int .i64 n] w (dY (aT a d t u n) w):=by
 have HB:=hid (lC a d t u);by_cases h0:Bits d t u
 ·rw[decide_eq_true h0]at HB
  by_cases h1:0<=a
  ·by_cases h2:a<n
   ·have HE:=hid (show aT a d t u n=true by unfold aT;simp[h1,h2,h0])
    have h2':decide (a<n)=true:=by simpa using h2
    clear h0;go_enter Tryz.func73,Tryz.ntmps73;go_wp2_with (fail);refine(HB.out _).mono ?_;rintro e w1 ⟨rfl,hb1⟩;have q:=boxed4 hb1;go_wp2_with (fail);go_ret;exact⟨aj HE.out.symm,((Below.refl _ _).alloc (Nat.le_refl _) _).trans (hb1.mono (by simp))⟩
   ·have HE:=hid (show aT a d t u n=false by unfold aT;simp[h2])
    have h2':decide (a<n)=false:=by simpa using h2
    clear h0;go_enter Tryz.func73,Tryz.ntmps73;go_wp2_with (fail);refine(HB.out _).mono ?_;rintro e w1 ⟨rfl,hb1⟩;have q:=boxed4 hb1;go_wp2_with (fail);go_ret;exact⟨aj HE.out.symm,((Below.refl _ _).alloc (Nat.le_refl _) _).trans (hb1.mono (by simp))⟩
  ·have HE:=hid (show aT a d t u n=false by unfold aT;simp[h1])
   clear h0;go_enter Tryz.func73,Tryz.ntmps73;go_wp2_with (fail);refine(HB.out _).mono ?_;rintro e w1 ⟨rfl,hb1⟩;have q:=boxed4 hb1;go_wp2_with (fail);go_ret;exact⟨aj HE.out.symm,((Below.refl _ _).alloc (Nat.le_refl _) _).trans (hb1.mono (by simp))⟩
 ·rw[decide_eq_false h0]at HB
  have HE:=hid (show aT a d t u n=false by unfold aT;simp[h0]);clear h0;go_enter Tryz.func73,Tryz.ntmps73;go_wp2_with (fail);refine(HB.out _).mono ?_;rintro e w1 ⟨rfl,hb1⟩;go_wp2_with (fail);go_ret;exact⟨aj HE.out.symm,((Below.refl _ _).alloc (Nat.le_refl _) _).trans (hb1.mono (by simp))⟩
def Og (v:Int×Bool) (w:World) (e:Ending) (w':World):Prop:=e = .returned (.tuple #[.int .i64 v.1,.bool v.2])/\Below w.heap.size w w'
theorem qj {a:Int} {b:Bool} {v:Int×Bool} (h:v=(a,b)):Ending.returned (.tuple #[.int .i64 a,.bool b]) = .returned (.tuple #[.int .i64 v.1,.bool v.2]):=by rw[h]
theorem dL {d t u x:Int} (h : ¬ vJ d t u x):Gi d t u x=(0,false):=if_neg h
theorem yR (a d t u x:Int) (w:World) (hx:x<=9223372036854775807):Calls Tryz.prog 138 #[prt a d t u,.int .i64 x] w (Og (Gi d t u x) w):=by
 have HB:=hid (oU a d t u);by_cases h0:Bits d t u
 ·rw[decide_eq_true h0]at HB
  by_cases h1:x<0
  ·have HE:=hid (dL (show ¬ vJ d t u x by unfold vJ;omega))
   clear h0;go_enter Tryz.func138,Tryz.ntmps138;go_wp2_with (fail);refine(HB.out _).mono ?_;rintro e w1 ⟨rfl,hb1⟩;go_wp2_with (fail);go_ret2;exact⟨qj HE.out,((Below.refl _ _).alloc (Nat.le_refl _) _).trans (hb1.mono (by simp))⟩
  ·by_cases h2:2097151<x
   ·have HE:=hid (dL (show ¬ vJ d t u x by unfold vJ;omega))
    clear h0;go_enter Tryz.func138,Tryz.ntmps138;go_wp2_with (fail);refine(HB.out _).mono ?_;rintro e w1 ⟨rfl,hb1⟩;go_wp2_with (fail);go_ret2;exact⟨qj HE.out,((Below.refl _ _).alloc (Nat.le_refl _) _).trans (hb1.mono (by simp))⟩
   ·have HE:=hid (show Gi d t u x=(dc d t u x,true)from if_pos ⟨h0,by omega,by omega⟩)
    have hv:=bw h0 x;unfold dc at hv;obtain⟨b1,b2,b3,b4,b5,b6,b7⟩:=h0;have lo:=kB (d:=d) (x:=x) (by omega);have HL:=hid (oT (x / pw d) t lo.1 (by omega) (by omega));have HM:=hid (uF a d t u b3 b4);have hm:=mod_lt (x / pw d) t;have c1:d<=64:=by omega
    have c2:u<=64:=by omega
    clear b7;go_enter Tryz.func138,Tryz.ntmps138;go_wp2_with (fail);refine(HB.out _).mono ?_;rintro e w1 ⟨rfl,hb1⟩;have q:=boxed4 hb1;have hz:w.heap.size+1<=w1.heap.size:=by have:=hb1.size;simp at this;omega
    go_wp2_with (fail)
    go_region_held3 (fun w'=>w'.cell? ⟨w.heap.size,0,none⟩=some (.int .i64 a)/\w'.cell? ⟨w.heap.size,1,none⟩=some (.int .i64 d)/\w'.cell? ⟨w.heap.size,2,none⟩=some (.int .i64 t)/\w'.cell? ⟨w.heap.size,3,none⟩=some (.int .i64 u))
     (first | go_keep | (go_split_ands;refine⟨?_,?_,?_,?_⟩;all_goals (rw[hb2.cell (by simp;omega)];assumption)))
     (first | (go_at_call 131;refine(HM.out _).mono ?_;rintro e w2 ⟨rfl,hb2⟩))
    have HW:IntKind.i64.wrap (bits BinOp.and IntKind.i64 (x / pw d) (pw t-1)*pw u)=dc d t u x:=by
     rw[HL.out,IntWalk.i64_in _ (by omega)];rfl
    rw[HW];have HB2:=hid (hb1.drew.trans (hb2.mono (by simp;omega)));clear HW hb2 hb1;go_wp2_with (fail);go_ret2;exact⟨qj HE.out,((Below.refl _ _).alloc (Nat.le_refl _) _).trans (HB2.out.mono (by simp))⟩
 ·rw[decide_eq_false h0]at HB
  have HE:=hid (dL (show ¬ vJ d t u x from fun h=>h0 h.1));clear h0;go_enter Tryz.func138,Tryz.ntmps138;go_wp2_with (fail);refine(HB.out _).mono ?_;rintro e w1 ⟨rfl,hb1⟩;go_wp2_with (fail);go_ret2;exact⟨qj HE.out,((Below.refl _ _).alloc (Nat.le_refl _) _).trans (hb1.mono (by simp))⟩
theorem iT {P:Program} {f:FuncId} {args:Array Value} {w:World} {n:Nat} {v:Value} (h:Calls P f args (w.drewN n) (E1 v (w.drewN n))):Calls P f args (w.drewN n) fun e w''=>e = .returned v/\∃m,w''=w.drewN m:=
 h.mono fun _ _ ⟨he,hm⟩=>⟨he,n,hm.symm⟩
theorem wL (a d t u x:Int) (w:World) (hx:x<=9223372036854775807):Calls Tryz.prog 77 #[prt a d t u,.int .i64 x] w (Og (Gi d t u x) w):=by
 have HB:=hid (lC a d t u);by_cases h0:Bits d t u
 ·rw[decide_eq_true h0]at HB
  by_cases h1:x<0
  ·have HE:=hid (dL (show ¬ vJ d t u x by unfold vJ;omega))
   clear h0;go_enter Tryz.func77,Tryz.ntmps77;go_wp2_with (fail);refine(HB.out _).mono ?_;rintro e w1 ⟨rfl,hb1⟩;go_wp2_with (fail);go_ret2;exact⟨qj HE.out,((Below.refl _ _).alloc (Nat.le_refl _) _).trans (hb1.mono (by simp))⟩
  ·by_cases h2:2097152<=x
   ·have HE:=hid (dL (show ¬ vJ d t u x by unfold vJ;omega))
    clear h0;go_enter Tryz.func77,Tryz.ntmps77;go_wp2_with (fail);refine(HB.out _).mono ?_;rintro e w1 ⟨rfl,hb1⟩;go_wp2_with (fail);go_ret2;exact⟨qj HE.out,((Below.refl _ _).alloc (Nat.le_refl _) _).trans (hb1.mono (by simp))⟩
   ·have HE:=hid (show Gi d t u x=(dc d t u x,true)from if_pos ⟨h0,by omega,by omega⟩)
    have hv:=bw h0 x;unfold dc at hv;obtain⟨b1,b2,b3,b4,b5,b6,b7⟩:=h0;have HW:IntKind.i64.wrap (x / pw d % pw t*pw u)=dc d t u x:=by rw[IntWalk.i64_in _ (by omega)];rfl
    have HWH:=hid HW;have lo:=kB (d:=d) (x:=x) (by omega);have hm:=mod_lt (x / pw d) t;have p1:=aU d;have p2:=aU t;have p3:=aU u;have e1:(pw d == 0)=false:=by simp;omega
    have e2:(pw t == 0)=false:=by simp;omega
    clear b7;go_enter Tryz.func77,Tryz.ntmps77;go_wp2_with (fail);refine(HB.out _).mono ?_;rintro e w1 ⟨rfl,hb1⟩;have q:=boxed4 hb1;go_wp2_with (fail);go_quiet ((go_at_call 61;exact iT (ow _ (by omega) (by omega) _)));go_wp2_with (fail);go_ret2;exact⟨qj HE.out,below_drewN (((Below.refl _ _).alloc (Nat.le_refl _) _).trans (hb1.mono (by simp))) _⟩
 ·rw[decide_eq_false h0]at HB
  have HE:=hid (dL (show ¬ vJ d t u x from fun h=>h0 h.1));clear h0;go_enter Tryz.func77,Tryz.ntmps77;go_wp2_with (fail);refine(HB.out _).mono ?_;rintro e w1 ⟨rfl,hb1⟩;go_wp2_with (fail);go_ret2;exact⟨qj HE.out,((Below.refl _ _).alloc (Nat.le_refl _) _).trans (hb1.mono (by simp))⟩
end Go.Proofs.YtbdmcibcenhpnaaGreatDoor.Pa
namespace Go.Proofs.YtbdmcibcenhpnaaGreatDoor.Te
open Go Go.RowKit Sp Pa
abbrev PT:=Int×Int×Int×Int
def RP (w:World) (B:Nat) (A:Option Addr) (n:Nat) (l:List PT):Prop:=
 l.length=n/\(0<n->∃b off,A=some ⟨b,off,none⟩/\b<B/\∀(j:Nat) (h:j<l.length),w.cell? ⟨b,off+j*4,none⟩=some (.int .i64 l[j].1)/\w.cell? ⟨b,off+j*4+1,none⟩=some (.int .i64 l[j].2.1)/\w.cell? ⟨b,off+j*4+2,none⟩=some (.int .i64 l[j].2.2.1)/\w.cell? ⟨b,off+j*4+3,none⟩=some (.int .i64 l[j].2.2.2))
section
variable {w w':World} {B B' n:Nat} {A:Option Addr} {l:List PT}
theorem RP.dS (w:World) (B:Nat) (A:Option Addr):RP w B A 0 []:=⟨rfl,fun h=>absurd h (by omega)⟩
theorem RP.at_ {k:Nat} (h:RP w B A n l) (hk:k<n):∃b off,∃a d t u:Int,A=some ⟨b,off,none⟩/\b<B/\(∃hl:k<l.length,l[k]=(a,d,t,u))/\w.cell? ⟨b,off+k*4,none⟩=some (.int .i64 a)/\w.cell? ⟨b,off+k*4+1,none⟩=some (.int .i64 d)/\w.cell? ⟨b,off+k*4+2,none⟩=some (.int .i64 t)/\w.cell? ⟨b,off+k*4+3,none⟩=some (.int .i64 u):=by
 obtain⟨b,off,e,hb,hc⟩:=h.2 (by omega);have hl:k<l.length:=by have:=h.1;omega
 exact⟨b,off,l[k].1,l[k].2.1,l[k].2.2.1,l[k].2.2.2,e,hb,⟨hl,rfl⟩,hc k hl⟩
theorem RP.keep (h:RP w B A n l) (hk:∀p:Addr,p.block<B->w'.cell? p=w.cell? p):RP w' B A n l:=
 ⟨h.1,fun hn=>by
  obtain⟨b,off,e,hb,hc⟩:=h.2 hn;exact⟨b,off,e,hb,fun j hj=>⟨(hk _ hb).trans (hc j hj).1,(hk _ hb).trans (hc j hj).2.1,(hk _ hb).trans (hc j hj).2.2.1,(hk _ hb).trans (hc j hj).2.2.2⟩⟩⟩
theorem RP.more (h:RP w B A n l) (hB:B<=B'):RP w B' A n l:=
 ⟨h.1,fun hn=>by
  obtain⟨b,off,e,hb,hc⟩:=h.2 hn;exact⟨b,off,e,by omega,hc⟩⟩
theorem RP.below (h:RP w B A n l) (hb:Below B w w'):RP w' B A n l:=h.keep fun _ hp=>hb.cell hp
theorem RP.ah (h:RP w w.heap.size A n l) (hb:Below w.heap.size w w'):RP w' w'.heap.size A n l:=(h.below hb).more hb.size
end
abbrev trm (b d t u s:Int) (A:Option Addr) (n c:Nat):Value:=.agg #[.int .i64 b,.int .i64 d,.int .i64 t,.int .i64 u,.int .i64 s,.slice A n c]
abbrev aR (b d t u s:Int) (A:Option Addr) (n c:Nat):Array Value:=#[.int .i64 b,.int .i64 d,.int .i64 t,.int .i64 u,.int .i64 s,.slice A n c]
def Boxed6 (W:World) (g:Nat) (b d t u s:Int) (A:Option Addr) (n c:Nat):Prop:=
 W.cell? ⟨g,0,none⟩=some (.int .i64 b)/\W.cell? ⟨g,1,none⟩=some (.int .i64 d)/\W.cell? ⟨g,2,none⟩=some (.int .i64 t)/\W.cell? ⟨g,3,none⟩=some (.int .i64 u)/\W.cell? ⟨g,4,none⟩=some (.int .i64 s)/\W.cell? ⟨g,5,none⟩=some (.slice A n c)
theorem boxed6 {w w1:World} {b d t u s:Int} {A:Option Addr} {n c:Nat} {ty:TypeId} (hb:Below (w.alloc (.cells (aR b d t u s A n c) ty)).heap.size (w.alloc (.cells (aR b d t u s A n c) ty)) w1):Boxed6 w1 w.heap.size b d t u s A n c:=by
 have key:∀i,w1.cell? ⟨w.heap.size,i,none⟩=(w.alloc (.cells (aR b d t u s A n c) ty)).cell? ⟨w.heap.size,i,none⟩:=fun i=>hb.cell (p:=⟨w.heap.size,i,none⟩) (by simp)
 unfold Boxed6;rw[key,key,key,key,key,key];refine⟨?_,?_,?_,?_,?_,?_⟩ <;> simp[aR]
theorem mI:Tryz.prog.eqGuardType Tryz.prog.depth 94=false:=by kernel_rfl
theorem eM (w:World) (op:BinOp) (x y:Operand) (xs ys:Array Value):(eqGuard op 94 x y (.agg xs) (.agg ys)).run Tryz.prog w = .ok () w:=run_eqGuard_agg w op _ x y xs ys mI
theorem sj (w:World) (a b c e a' b' c' e':Int):(Op.equalIn 10000 94 (prt a b c e) (prt a' b' c' e')).run Tryz.prog w = .ok (a == a' && (b == b' && (c == c' && e == e'))) w:=by
 have u3:=Tryz.underlying3;have a3:=Tryz.isAgg3;have z3:=Tryz.sizeOf3;have hS:Tryz.prog.underlying 94=some (.struct (Tryz.prog.fieldsOf 94)):=by kernel_rfl
 have hp:Tryz.prog.stoodInHeld 94=false:=by kernel_rfl
 rw[show(10000:Nat)=9999+1 from rfl,run_equalIn_agg w 9999 94 _ _ hS hp];simp only[Program.fieldsOf,Tryz.underlying94];go_simp;by_cases h1:a=a' <;> by_cases h2:b=b' <;> by_cases h3:c=c' <;> by_cases h4:e=e' <;> simp[h1,h2,h3,h4]
def pEq (a b c e a' b' c' e':Int):Bool:=a == a' && (b == b' && (c == c' && e == e'))
theorem oG (w:World) (a b c e a' b' c' e':Int):(Op.equalIn 10000 94 (prt a b c e) (prt a' b' c' e')).run Tryz.prog w = .ok (pEq a b c e a' b' c' e') w:=sj w a b c e a' b' c' e'
def Sm (x:Int):Prop:=-1114111<=x/\x<=1114111
instance (x:Int):Decidable (Sm x):=by unfold Sm;infer_instance
def bh (p:PT):Bool:=p.2.1 == 0 && (p.2.2.1 == 21 && p.2.2.2 == 0)
def ny (b d t u:Int):Bool:=b == 0 && (d == 0 && (t == 21 && u == 0))
end Go.Proofs.YtbdmcibcenhpnaaGreatDoor.Te
namespace Go.Proofs.YtbdmcibcenhpnaaGreatDoor.Te
set_option maxHeartbeats 64000000
open Go Go.RowKit Sp Pa
open Go.Lib (hid)
attribute [local go_sem] eM sj
theorem pV (x:Int) (w:World):Calls Tryz.prog 101 #[.int .i64 x] w (E1 (.bool (decide (Sm x))) w):=by
 by_cases h1 : -1114111<=x
 ·by_cases h2:x<=1114111
  ·rw[decide_eq_true (show Sm x from⟨h1,h2⟩)]
   go_enter Tryz.func101,Tryz.ntmps101;go_wp2_with (fail);go_ret;exact⟨rfl,rfl⟩
  ·rw[decide_eq_false (show ¬ Sm x from fun h=>h2 h.2)]
   go_enter Tryz.func101,Tryz.ntmps101;go_wp2_with (fail);go_ret;exact⟨rfl,rfl⟩
 ·rw[decide_eq_false (show ¬ Sm x from fun h=>h1 h.1)]
  go_enter Tryz.func101,Tryz.ntmps101;go_wp2_with (fail);go_ret;exact⟨rfl,rfl⟩
theorem dM (x:Int) (w:World):Calls Tryz.prog 97 #[.int .i64 x] w (E1 (.bool (decide (Sm x))) w):=by
 by_cases h1 : -1114111<=x
 ·by_cases h2:x<=1114111
  ·rw[decide_eq_true (show Sm x from⟨h1,h2⟩)]
   go_enter Tryz.func97,Tryz.ntmps97;go_wp2_with (fail);go_ret;exact⟨rfl,rfl⟩
  ·rw[decide_eq_false (show ¬ Sm x from fun h=>h2 h.2)]
   go_enter Tryz.func97,Tryz.ntmps97;go_wp2_with (fail);go_ret;exact⟨rfl,rfl⟩
 ·rw[decide_eq_false (show ¬ Sm x from fun h=>h1 h.1)]
  go_enter Tryz.func97,Tryz.ntmps97;go_wp2_with (fail);go_ret;exact⟨rfl,rfl⟩
theorem lM (b d t u s:Int) (A:Option Addr) (n c:Nat) (w:World):Calls Tryz.prog 96 #[trm b d t u s A n c] w (Ms 0 d t u w):=by
 go_enter Tryz.func96,Tryz.ntmps96;go_wp2_with (fail);exact bodyPost_ret (v:=prt 0 d t u) (by simp[results,Tryz.results96,go_sem]) rfl ⟨rfl,(((Below.refl _ _).alloc (Nat.le_refl _) _).alloc (by simp) _)⟩
theorem mY (b d t u s:Int) (A:Option Addr) (n c:Nat) (w:World):Calls Tryz.prog 99 #[trm b d t u s A n c] w (Ms 0 d t u w):=by
 go_enter Tryz.func99,Tryz.ntmps99;go_wp2_with (fail);exact bodyPost_ret (v:=prt 0 d t u) (by simp[results,Tryz.results99,go_sem]) rfl ⟨rfl,(((Below.refl _ _).alloc (Nat.le_refl _) _).alloc (by simp) _)⟩
theorem qF (x:Int) (w:World):Calls Tryz.prog 84 #[.int .i64 x] w (E1 (.bool (decide (x=1\/x=2))) w):=by
 by_cases h1:x=1
 ·subst h1
  rw[decide_eq_true (by omega)];go_enter Tryz.func84,Tryz.ntmps84;go_wp2_with (fail);go_ret;exact⟨rfl,rfl⟩
 ·have h1':(x == 1)=false:=by simpa using h1
  by_cases h2:x=2
  ·subst h2
   rw[decide_eq_true (by omega)];go_enter Tryz.func84,Tryz.ntmps84;go_wp2_with (fail);go_ret;exact⟨rfl,rfl⟩
  ·have h2':(x == 2)=false:=by simpa using h2
   rw[decide_eq_false (by omega)];go_enter Tryz.func84,Tryz.ntmps84;go_wp2_with (fail);go_ret;exact⟨rfl,rfl⟩
theorem tG (a d t u:Int) (w:World):Calls Tryz.prog 74 #[prt a d t u] w (dY (bh (a,d,t,u)) w):=by
 unfold bh;by_cases h1:d=0
 ·subst h1
  by_cases h2:t=21
  ·subst h2
   go_enter Tryz.func74,Tryz.ntmps74;go_wp2_with (fail);go_ret;exact⟨rfl,(Below.refl _ _).alloc (Nat.le_refl _) _⟩
  ·have h2':(t == 21)=false:=by simpa using h2
   go_enter Tryz.func74,Tryz.ntmps74;go_wp2_with (fail);go_ret;exact⟨aj (by simp[h2]),(Below.refl _ _).alloc (Nat.le_refl _) _⟩
 ·have h1':(d == 0)=false:=by simpa using h1
  go_enter Tryz.func74,Tryz.ntmps74;go_wp2_with (fail);go_ret;exact⟨aj (by simp[h1]),(Below.refl _ _).alloc (Nat.le_refl _) _⟩
theorem vW (b d t u s:Int) (A:Option Addr) (n c:Nat) (w:World):Calls Tryz.prog 88 #[trm b d t u s A n c] w (dY (ny b d t u) w):=by
 have HO:=hid (lM b d t u s A n c);have HW:=hid (fT 0);unfold ny;by_cases h1:b=0
 ·subst h1
  go_enter Tryz.func88,Tryz.ntmps88;go_wp2_with (fail);refine(HO.out _).mono ?_;rintro e w1 ⟨rfl,hb1⟩;go_wp2_with (fail);refine(HW.out _).mono ?_;rintro e w2 ⟨rfl,hb2⟩;go_wp2_with (fail);all_goals go_ret
  all_goals exact⟨aj (by simp_all),((Below.refl _ _).alloc (Nat.le_refl _) _).trans ((hb1.trans (hb2.mono hb1.size)).mono (by simp))⟩
 ·have h1':(b == 0)=false:=by simpa using h1
  go_enter Tryz.func88,Tryz.ntmps88;go_wp2_with (fail);go_ret;exact⟨aj (by simp[h1]),(Below.refl _ _).alloc (Nat.le_refl _) _⟩
theorem wN (b d t u s:Int) (A:Option Addr) (n c:Nat) (w:World):Calls Tryz.prog 75 #[trm b d t u s A n c] w (dY (ny b d t u) w):=by
 have HO:=hid (mY b d t u s A n c);have HA:=hid (tG 0 d t u);unfold ny;by_cases h1:b=0
 ·subst h1
  go_enter Tryz.func75,Tryz.ntmps75;go_wp2_with (fail);refine(HO.out _).mono ?_;rintro e w1 ⟨rfl,hb1⟩;go_wp2_with (fail);refine(HA.out _).mono ?_;rintro e w2 ⟨rfl,hb2⟩;go_wp2_with (fail);go_ret;exact⟨aj (by simp[bh]),((Below.refl _ _).alloc (Nat.le_refl _) _).trans ((hb1.trans (hb2.mono hb1.size)).mono (by simp))⟩
 ·have h1':(b == 0)=false:=by simpa using h1
  go_enter Tryz.func75,Tryz.ntmps75;go_wp2_with (fail);go_ret;exact⟨aj (by simp[h1]),(Below.refl _ _).alloc (Nat.le_refl _) _⟩
def KQ (n:Int) (l:List PT) (k:Nat):Prop:=∀q∈l.take k,aT q.1 q.2.1 q.2.2.1 q.2.2.2 n=true
theorem gq {n:Int} {l:List PT} {k:Nat} {a d t u:Int} (h:KQ n l k) (hk:∃hl:k<l.length,l[k]=(a,d,t,u)) (hr:aT a d t u n=true):KQ n l (k+1):=by
 obtain⟨hl,e⟩:=hk;intro q hq;rw[List.take_succ_eq_append_getElem hl,List.mem_append]at hq;rcases hq with hq | hq
 ·exact h q hq
 ·rw[List.mem_singleton,e]at hq
  subst hq;exact hr
def cC (n:Int) (l:List PT):Bool:=l.all fun q=>aT q.1 q.2.1 q.2.2.1 q.2.2.2 n
theorem dQ {n:Int} {l:List PT} (h:KQ n l l.length):cC n l=true:=by
 unfold cC;rw[List.all_eq_true];intro q hq;exact h q (by rw[List.take_length];exact hq)
theorem dA {n:Int} {l:List PT} {k:Nat} {a d t u:Int} (hk:∃hl:k<l.length,l[k]=(a,d,t,u)) (hr:aT a d t u n=false):cC n l=false:=by
 obtain⟨hl,e⟩:=hk;unfold cC;rw[Bool.eq_false_iff];intro h;have:=(List.all_eq_true.1 h) l[k] (List.getElem_mem hl);rw[e]at this;simp only at this;rw[hr]at this
 cases this
def Pj (n:Int) (l:List PT) (B:Nat) (w2:World) (i:Value) (wr:World):Prop:=
 ∃k:Nat,k<=l.length/\i = .int .i64 k/\KQ n l k/\Below B w2 wr
theorem mR (b d t u s:Int) (A:Option Addr) (n c:Nat) (l:List PT) (m:Int) (w:World) (h:RP w w.heap.size A n l) (hn:n<=maxLen) :
  Calls Tryz.prog 86 #[trm b d t u s A n c,.int .i64 m] w (dY (cC m l) w):=by
 unfold maxLen at hn;have hlen:=h.1;subst hlen;have hbw:Below w.heap.size w (w.alloc (.cells (aR b d t u s A l.length c) 51)):=(Below.refl _ w).alloc (Nat.le_refl _) _;obtain⟨w0,hw0⟩:∃w0,w.alloc (.cells (aR b d t u s A l.length c) 51)=w0:=⟨_,rfl⟩;have X6:=hid (fun W (hb:Below w0.heap.size w0 W)=>show Boxed6 W w.heap.size b d t u s A l.length c from by rw[<- hw0]at hb;exact boxed6 hb);rw[hw0]at hbw;have HW:=hid hbw;have H:=hid (h.ah hbw);obtain⟨r0,r1,r2,r3,r4,r5⟩:=X6.out w0 (Below.refl _ _);clear h hbw;go_enter Tryz.func86,Tryz.ntmps86;go_wp2_with (fail)
 go_loopw [10] (fun i wr=>Pj m l w0.heap.size w0 i wr) (fun i _=>l.length-(intOf i).toNat)
 case atStart=>exact⟨0,Nat.zero_le _,rfl,fun q hq=>by simp at hq,Below.refl _ _⟩
 case round=>
  obtain⟨k,hk,rfl,hA,hb⟩:=hrel;have HA:=hid hA;have HB:=hid hb;have hz:=hb.size;by_cases hlt:k<l.length
  ·obtain⟨bb,off,a',d',t',u',hA',hbB,hlk,c1,c2,c3,c4⟩:=(H.out.below hb).at_ hlt
   have HLK:=hid hlk;have HR:=hid (qd a' d' t' u' m);subst hA';clear hA hb hlk r0 r1 r2 r3 r4 r5;rcases hr:aT a' d' t' u' m with _ | _
   ·rw[hr]at HR
    have HRR:=hid hr;clear hr;go_wp2_with (fail);refine(HR.out _).mono ?_;rintro e w2 ⟨rfl,hb2⟩;go_wp2_with (fail);go_ret;exact⟨aj (dA HLK.out HRR.out).symm,HW.out.trans ((HB.out.trans (((Below.refl _ _).alloc (Nat.le_refl _) _ |>.trans (hb2.mono (by simp))).mono hz)).mono HW.out.size)⟩
   ·rw[hr]at HR
    have HRR:=hid hr;clear hr;go_wp2_with (fail);refine(HR.out _).mono ?_;rintro e w2 ⟨rfl,hb2⟩;go_wp2_with (fail)
    go_roundw
    case rel=>exact⟨k+1,by omega,by go_num,gq HA.out HLK.out HRR.out,HB.out.trans (((Below.refl _ _).alloc (Nat.le_refl _) _ |>.trans (hb2.mono (by simp))).mono hz)⟩
    case measure=>simp[intOf];omega
  ·have hkl:k=l.length:=by omega
   subst hkl;go_wp2_with (fail);go_ret;exact⟨aj (dQ HA.out).symm,HW.out.trans (HB.out.mono HW.out.size)⟩
def Sy (x:Int):Prop:=0<=x/\x<=1114111
instance (x:Int):Decidable (Sy x):=by unfold Sy;infer_instance
theorem mS (x:Int) (w:World):Calls Tryz.prog 112 #[.int .i64 x] w (E1 (.bool (decide (Sy x))) w):=by
 by_cases h1:0<=x
 ·by_cases h2:x<=1114111
  ·rw[decide_eq_true (show Sy x from⟨h1,h2⟩)]
   go_enter Tryz.func112,Tryz.ntmps112;go_wp2_with (fail);go_ret;exact⟨rfl,rfl⟩
  ·rw[decide_eq_false (show ¬ Sy x from fun h=>h2 h.2)]
   go_enter Tryz.func112,Tryz.ntmps112;go_wp2_with (fail);go_ret;exact⟨rfl,rfl⟩
 ·rw[decide_eq_false (show ¬ Sy x from fun h=>h1 h.1)]
  go_enter Tryz.func112,Tryz.ntmps112;go_wp2_with (fail);go_ret;exact⟨rfl,rfl⟩
def Fh (b d t u x:Int):Int×Bool:=if Sy x/\Bits d t u then(wrap64 (b+dc d t u x),true)else(0,false)
section
variable {w w':World} {B B' n:Nat} {A:Option Addr} {l:List Int}
end
def atI (xs:List Int) (a:Int):Int:=xs.getD a.toNat 0
theorem Hv {xs:List Int} {a x:Int} {k:Nat} (ha:a=k) (h:∃hl:k<xs.length,xs[k]=x):atI xs a=x:=by
 obtain⟨hl,e⟩:=h;unfold atI;rw[ha,Int.toNat_natCast];simp[hl,e]
def lS (xs:List Int) (s:Int) (l:List PT):Int:=l.foldl (fun acc q=>wrap64 (acc+dc q.2.1 q.2.2.1 q.2.2.2 (atI xs q.1))) s
def Qk (xs:List Int) (k:Nat):Prop:=∀x∈xs.take k,Sy x
noncomputable def Gm (xs:List Int):Bool:=@decide (∀x∈xs,Sy x) (Classical.propDecidable _)
theorem za {xs:List Int} (h:Qk xs xs.length):Gm xs=true:=by
 unfold Gm;have:∀x∈xs,Sy x:=fun x hx=>h x (by rw[List.take_length];exact hx)
 simpa using this
noncomputable def mP (b d t u s:Int) (l:List PT) (xs:List Int):Int×Bool:=if Gm xs=true/\cC xs.length l=true then Fh b d t u (lS xs s l)else(0,false)
theorem xK {xs:List Int} {s:Int} {l:List PT} {k:Nat} {a d t u:Int} (hk:∃hl:k<l.length,l[k]=(a,d,t,u)):lS xs s (l.take (k+1))=wrap64 (lS xs s (l.take k)+dc d t u (atI xs a)):=by
 obtain⟨hl,e⟩:=hk;unfold lS;rw[List.take_succ_eq_append_getElem hl,List.foldl_append,e];rfl
end Go.Proofs.YtbdmcibcenhpnaaGreatDoor.Te
namespace Go.Proofs.YtbdmcibcenhpnaaGreatDoor.De
open Go Go.RowKit Sp Pa Te Mi
structure TmL where
 b:Int
 d:Int
 t:Int
 u:Int
 s:Int
 ps:List PT
deriving Inhabited
structure RuL where
 frm:Int
 to_:Int
 gs:List (List Span)
 eat:Int
 out:List TmL
deriving Inhabited
structure FiL where
 frm:Int
 gs:List (List Span)
 out:List TmL
deriving Inhabited
def rN (x:Int):Prop:=-9223372036854775808<=x/\x<=9223372036854775807
def RTm (w:World) (A:Option Addr) (n:Nat) (l:List TmL):Prop:=
 l.length=n/\(0<n->∃b off,A=some ⟨b,off,none⟩/\b<w.heap.size/\∀(j:Nat) (h:j<l.length),
  w.cell? ⟨b,off+j*6,none⟩=some (.int .i64 l[j].b)/\w.cell? ⟨b,off+j*6+1,none⟩=some (.int .i64 l[j].d)/\w.cell? ⟨b,off+j*6+2,none⟩=some (.int .i64 l[j].t)/\w.cell? ⟨b,off+j*6+3,none⟩=some (.int .i64 l[j].u)/\w.cell? ⟨b,off+j*6+4,none⟩=some (.int .i64 l[j].s) /\
  ∃A' c',w.cell? ⟨b,off+j*6+5,none⟩=some (.slice A' l[j].ps.length c')/\RP w w.heap.size A' l[j].ps.length l[j].ps/\l[j].ps.length<=c'/\l[j].ps.length<=maxLen)
def RRu (w:World) (A:Option Addr) (n:Nat) (l:List RuL):Prop:=
 l.length=n/\(0<n->∃b off,A=some ⟨b,off,none⟩/\b<w.heap.size/\∀(j:Nat) (h:j<l.length),
  w.cell? ⟨b,off+j*5,none⟩=some (.int .i64 l[j].frm)/\w.cell? ⟨b,off+j*5+1,none⟩=some (.int .i64 l[j].to_)/\w.cell? ⟨b,off+j*5+3,none⟩=some (.int .i64 l[j].eat) /\
  (∃A' c',w.cell? ⟨b,off+j*5+2,none⟩=some (.slice A' l[j].gs.length c')/\RGs w A' l[j].gs.length l[j].gs/\l[j].gs.length<=c'/\l[j].gs.length<=maxLen/\∀g∈l[j].gs,g.length<=maxLen) /\
  ∃A' c',w.cell? ⟨b,off+j*5+4,none⟩=some (.slice A' l[j].out.length c')/\RTm w A' l[j].out.length l[j].out/\l[j].out.length<=c'/\l[j].out.length<=maxLen/\rN l[j].eat)
def RFi (w:World) (A:Option Addr) (n:Nat) (l:List FiL):Prop:=
 l.length=n/\(0<n->∃b off,A=some ⟨b,off,none⟩/\b<w.heap.size/\∀(j:Nat) (h:j<l.length),
  w.cell? ⟨b,off+j*3,none⟩=some (.int .i64 l[j].frm) /\
  (∃A' c',w.cell? ⟨b,off+j*3+1,none⟩=some (.slice A' l[j].gs.length c')/\RGs w A' l[j].gs.length l[j].gs/\l[j].gs.length<=c'/\l[j].gs.length<=maxLen/\∀g∈l[j].gs,g.length<=maxLen) /\
  ∃A' c',w.cell? ⟨b,off+j*3+2,none⟩=some (.slice A' l[j].out.length c')/\RTm w A' l[j].out.length l[j].out/\l[j].out.length<=c'/\l[j].out.length<=maxLen)
def rM (w:World) (A:Option Addr) (n m k:Nat):Prop:=∀b off,A=some ⟨b,off,none⟩->∀j,j<n->∀l c,w.cell? ⟨b,off+j*m+k,none⟩=some (.slice none l c)->c=0
theorem RTm.dS (w:World) (A:Option Addr):RTm w A 0 []:=⟨rfl,fun h=>absurd h (by omega)⟩
theorem RRu.dS (w:World) (A:Option Addr):RRu w A 0 []:=⟨rfl,fun h=>absurd h (by omega)⟩
theorem RFi.dS (w:World) (A:Option Addr):RFi w A 0 []:=⟨rfl,fun h=>absurd h (by omega)⟩
section
variable {w w':World} {A:Option Addr} {n:Nat}
theorem RTm.ah {l:List TmL} (h:RTm w A n l) (hb:Below w.heap.size w w'):RTm w' A n l:=
 ⟨h.1,fun hn=>by
  obtain⟨b,off,e,hlt,hc⟩:=h.2 hn;refine⟨b,off,e,by have:=hb.size;omega,fun j hj=>?_⟩;obtain⟨h1,h2,h3,h4,h5,A',c',h6,h7,h8⟩:=hc j hj;exact⟨(hb.cell hlt).trans h1,(hb.cell hlt).trans h2,(hb.cell hlt).trans h3,(hb.cell hlt).trans h4,(hb.cell hlt).trans h5,A',c',(hb.cell hlt).trans h6,h7.ah hb,h8⟩⟩
theorem RRu.ah {l:List RuL} (h:RRu w A n l) (hb:Below w.heap.size w w'):RRu w' A n l:=
 ⟨h.1,fun hn=>by
  obtain⟨b,off,e,hlt,hc⟩:=h.2 hn;refine⟨b,off,e,by have:=hb.size;omega,fun j hj=>?_⟩;obtain⟨h1,h2,h3,⟨A',c',h4,h5,h6⟩,A2,c2,h7,h8,h9⟩:=hc j hj;exact⟨(hb.cell hlt).trans h1,(hb.cell hlt).trans h2,(hb.cell hlt).trans h3,⟨A',c',(hb.cell hlt).trans h4,h5.ah hb,h6⟩,A2,c2,(hb.cell hlt).trans h7,h8.ah hb,h9⟩⟩
theorem RFi.ah {l:List FiL} (h:RFi w A n l) (hb:Below w.heap.size w w'):RFi w' A n l:=
 ⟨h.1,fun hn=>by
  obtain⟨b,off,e,hlt,hc⟩:=h.2 hn;refine⟨b,off,e,by have:=hb.size;omega,fun j hj=>?_⟩;obtain⟨h1,⟨A',c',h4,h5,h6⟩,A2,c2,h7,h8,h9⟩:=hc j hj;exact⟨(hb.cell hlt).trans h1,⟨A',c',(hb.cell hlt).trans h4,h5.ah hb,h6⟩,A2,c2,(hb.cell hlt).trans h7,h8.ah hb,h9⟩⟩
theorem RTm.at_ {l:List TmL} (h:RTm w A n l) {k:Nat} (hk:k<l.length):∃b off,A=some ⟨b,off,none⟩/\b<w.heap.size /\
  w.cell? ⟨b,off+k*6,none⟩=some (.int .i64 l[k].b)/\w.cell? ⟨b,off+k*6+1,none⟩=some (.int .i64 l[k].d)/\w.cell? ⟨b,off+k*6+2,none⟩=some (.int .i64 l[k].t)/\w.cell? ⟨b,off+k*6+3,none⟩=some (.int .i64 l[k].u)/\w.cell? ⟨b,off+k*6+4,none⟩=some (.int .i64 l[k].s) /\
  ∃A' c',w.cell? ⟨b,off+k*6+5,none⟩=some (.slice A' l[k].ps.length c')/\RP w w.heap.size A' l[k].ps.length l[k].ps/\l[k].ps.length<=c'/\l[k].ps.length<=maxLen:=by
 obtain⟨b,off,e,hb,hc⟩:=h.2 (by have:=h.1;omega);exact⟨b,off,e,hb,hc k hk⟩
theorem RRu.at_ {l:List RuL} (h:RRu w A n l) {k:Nat} (hk:k<l.length):∃b off A' c' A2 c2,A=some ⟨b,off,none⟩/\b<w.heap.size /\
  w.cell? ⟨b,off+k*5,none⟩=some (.int .i64 l[k].frm)/\w.cell? ⟨b,off+k*5+1,none⟩=some (.int .i64 l[k].to_)/\w.cell? ⟨b,off+k*5+2,none⟩=some (.slice A' l[k].gs.length c')/\w.cell? ⟨b,off+k*5+3,none⟩=some (.int .i64 l[k].eat)/\w.cell? ⟨b,off+k*5+4,none⟩=some (.slice A2 l[k].out.length c2) /\
  (RGs w A' l[k].gs.length l[k].gs/\l[k].gs.length<=c'/\l[k].gs.length<=maxLen/\∀g∈l[k].gs,g.length<=maxLen)/\RTm w A2 l[k].out.length l[k].out/\l[k].out.length<=c2/\l[k].out.length<=maxLen/\rN l[k].eat:=by
 obtain⟨b,off,e,hb,hc⟩:=h.2 (by have:=h.1;omega);obtain⟨h1,h2,h3,⟨A',c',h4,h5⟩,A2,c2,h6,h7⟩:=hc k hk;exact⟨b,off,A',c',A2,c2,e,hb,h1,h2,h4,h3,h6,h5,h7⟩
theorem RFi.at_ {l:List FiL} (h:RFi w A n l) {k:Nat} (hk:k<l.length):∃b off A' c' A2 c2,A=some ⟨b,off,none⟩/\b<w.heap.size /\
  w.cell? ⟨b,off+k*3,none⟩=some (.int .i64 l[k].frm)/\w.cell? ⟨b,off+k*3+1,none⟩=some (.slice A' l[k].gs.length c')/\w.cell? ⟨b,off+k*3+2,none⟩=some (.slice A2 l[k].out.length c2) /\
  (RGs w A' l[k].gs.length l[k].gs/\l[k].gs.length<=c'/\l[k].gs.length<=maxLen/\∀g∈l[k].gs,g.length<=maxLen)/\RTm w A2 l[k].out.length l[k].out/\l[k].out.length<=c2/\l[k].out.length<=maxLen:=by
 obtain⟨b,off,e,hb,hc⟩:=h.2 (by have:=h.1;omega);obtain⟨h1,⟨A',c',h4,h5⟩,A2,c2,h6,h7⟩:=hc k hk;exact⟨b,off,A',c',A2,c2,e,hb,h1,h4,h6,h5,h7⟩
end
abbrev dsc (i o n s:Int) (A:Option Addr) (r cr:Nat) (B:Option Addr) (f cf:Nat):Value:=.agg #[.int .i64 i,.int .i64 o,.int .i64 n,.int .i64 s,.slice A r cr,.slice B f cf]
end Go.Proofs.YtbdmcibcenhpnaaGreatDoor.De
namespace Go.Proofs.YtbdmcibcenhpnaaGreatDoor.Te
set_option maxHeartbeats 64000000
open Go Go.RowKit Sp Pa
open Go.Lib (hid)
attribute [local go_sem] eM sj
def mM:List PT->Bool
 | []=>true
 | [p]=>bh p
 | _=>false
def mw (l:List PT) (k:Nat):Prop:=∀i,(h:i+1<l.length)->i+1<k->l[i].2.2.2<l[i+1].2.2.2
noncomputable def qc (l:List PT):Bool:=@decide (mw l l.length) (Classical.propDecidable _)
theorem jv {l:List PT} {k:Nat} (h:mw l k) (hk:l.length<=k):qc l=true:=by
 unfold qc;have:mw l l.length:=fun i h1 h2=>h i h1 (by omega)
 simpa using this
theorem lg {l:List PT} {i:Nat} {a d t u a' d' t' u':Int} (h0:∃hl:i<l.length,l[i]=(a,d,t,u)) (h1:∃hl:i+1<l.length,l[i+1]=(a',d',t',u')) (hu:u'<=u):qc l=false:=by
 obtain⟨l0,e0⟩:=h0;obtain⟨l1,e1⟩:=h1;unfold qc;have : ¬ mw l l.length:=fun h=>by
  have:=h i l1 l1;rw[e0,e1]at this;simp only at this;omega
 simpa using this
theorem qb {l:List PT} {i:Nat} {a d t u a' d' t' u':Int} (h:mw l (i+1)) (h0:∃hl:i<l.length,l[i]=(a,d,t,u)) (h1:∃hl:i+1<l.length,l[i+1]=(a',d',t',u')) (hu:u<u'):mw l (i+2):=by
 obtain⟨l0,e0⟩:=h0;obtain⟨l1,e1⟩:=h1;intro j hj hk;by_cases e:j=i
 ·subst e
  rw[e0,e1];exact hu
 ·exact h j hj (by omega)
noncomputable def iE (b d t u s:Int) (l:List PT):Bool:=decide (Sm b) && (decide (Sm s) && (decide (Bits d t u) && (decide (l.length<=4) && qc l)))
def Oh (l:List PT) (B:Nat) (w2:World) (i:Value) (wr:World):Prop:=
 ∃k:Nat,(k+1<=l.length\/k=0)/\i = .int .i64 ((k+1:Nat):Int)/\mw l (k+1)/\Below B w2 wr
theorem tS (b d t u s:Int) (A:Option Addr) (n c:Nat) (l:List PT) (w:World) (h:RP w w.heap.size A n l) (hn:n<=maxLen) :
  Calls Tryz.prog 85 #[trm b d t u s A n c] w (dY (iE b d t u s l) w):=by
 unfold maxLen at hn;have hlen:=h.1;subst hlen;have hbw:Below w.heap.size w (w.alloc (.cells (aR b d t u s A l.length c) 51)):=(Below.refl _ w).alloc (Nat.le_refl _) _;obtain⟨w0,hw0⟩:∃w0,w.alloc (.cells (aR b d t u s A l.length c) 51)=w0:=⟨_,rfl⟩;have X6:=hid (fun W (hb:Below w0.heap.size w0 W)=>show Boxed6 W w.heap.size b d t u s A l.length c from by rw[<- hw0]at hb;exact boxed6 hb);rw[hw0]at hbw;have hz0:w.heap.size<w0.heap.size:=by rw[<- hw0];simp
 have HW:=hid hbw;have H:=hid (h.ah hbw);have HB0:=hid (Below.refl w0.heap.size w0);obtain⟨r0,r1,r2,r3,r4,r5⟩:=X6.out w0 (Below.refl _ _);clear h hbw;have HS:=hid (pV b);have HS2:=hid (pV s);have HO:=hid (lM b d t u s A l.length c);have HR:=hid (qd 0 d t u 1);by_cases h1:Sm b
 case neg=>
  rw[decide_eq_false h1]at HS;go_enter Tryz.func85,Tryz.ntmps85;go_wp2_with (fail);refine(HS.out _).mono ?_;rintro e w1 ⟨rfl,rfl⟩;go_wp2_with (fail);go_ret;exact⟨aj (by simp[iE,h1]),HW.out⟩
 rw[decide_eq_true h1]at HS;by_cases h2:Sm s
 case neg=>
  rw[decide_eq_false h2]at HS2;go_enter Tryz.func85,Tryz.ntmps85;go_wp2_with (fail);refine(HS.out _).mono ?_;rintro e w1 ⟨rfl,rfl⟩;go_wp2_with (fail);refine(HS2.out _).mono ?_;rintro e w1 ⟨rfl,rfl⟩;go_wp2_with (fail);go_ret;exact⟨aj (by simp[iE,h2]),HW.out⟩
 rw[decide_eq_true h2]at HS2;by_cases h3:Bits d t u
 case neg=>
  rw[show aT 0 d t u 1=false from(by simp[aT,h3])]at HR;go_enter Tryz.func85,Tryz.ntmps85;go_wp2_with (fail);refine(HS.out _).mono ?_;rintro e w1 ⟨rfl,rfl⟩;go_wp2_with (fail);refine(HS2.out _).mono ?_;rintro e w1 ⟨rfl,rfl⟩;go_wp2_with (fail);refine(HO.out _).mono ?_;rintro e w1 ⟨rfl,hb1⟩;go_wp2_with (fail);refine(HR.out _).mono ?_;rintro e w2 ⟨rfl,hb2⟩;go_wp2_with (fail);go_ret;exact⟨aj (by simp[iE,h3]),HW.out.trans ((hb1.trans (hb2.mono hb1.size)).mono HW.out.size)⟩
 rw[show aT 0 d t u 1=true from(by simp[aT,h3])]at HR;by_cases h4:l.length<=4
 case neg=>
  go_enter Tryz.func85,Tryz.ntmps85;go_wp2_with (fail);refine(HS.out _).mono ?_;rintro e w1 ⟨rfl,rfl⟩;go_wp2_with (fail);refine(HS2.out _).mono ?_;rintro e w1 ⟨rfl,rfl⟩;go_wp2_with (fail);refine(HO.out _).mono ?_;rintro e w1 ⟨rfl,hb1⟩;go_wp2_with (fail);refine(HR.out _).mono ?_;rintro e w2 ⟨rfl,hb2⟩;have hb:=hb1.trans (hb2.mono hb1.size);obtain⟨q0,q1,q2,q3,q4,q5⟩:=X6.out w2 hb;have HBB:=hid hb;clear hb hb1 hb2 r0 r1 r2 r3 r4 r5;go_wp2_with (fail);go_ret;exact⟨aj (by simp[iE,h4]),HW.out.trans (HBB.out.mono HW.out.size)⟩
 have HN:=hid (show iE b d t u s l=qc l from by simp[iE,h1,h2,h3,h4]);clear h1 h2 h3;go_enter Tryz.func85,Tryz.ntmps85;go_wp2_with (fail);refine(HS.out _).mono ?_;rintro e w1 ⟨rfl,rfl⟩;go_wp2_with (fail);refine(HS2.out _).mono ?_;rintro e w1 ⟨rfl,rfl⟩;go_wp2_with (fail);refine(HO.out _).mono ?_;rintro e w1 ⟨rfl,hb1⟩;go_wp2_with (fail);refine(HR.out _).mono ?_;rintro e w2 ⟨rfl,hb2⟩;have hb:=hb1.trans (hb2.mono hb1.size);obtain⟨q0,q1,q2,q3,q4,q5⟩:=X6.out w2 hb;have HBB:=hid hb;clear hb hb1 hb2 r0 r1 r2 r3 r4 r5;go_wp2_with (fail)
 go_loopw [3] (fun i wr=>Oh l w0.heap.size w0 i wr) (fun i _=>l.length+1-(intOf i).toNat)
 case atStart=>exact⟨0,.inr rfl,rfl,fun i _ hi=>by omega,HBB.out⟩
 case round=>
  obtain⟨k,hk,rfl,hA,hb⟩:=hrel;have HA:=hid hA;have HB:=hid hb;have hz:=hb.size;obtain⟨r0,r1,r2,r3,r4,r5⟩:=X6.out wr hb;by_cases hlt:k+1<l.length
  ·obtain⟨bb,off,a',d',t',u',hA',hbB,hlk,c1,c2,c3,c4⟩:=(H.out.below hb).at_ hlt
   obtain⟨bb',off',a'',d'',t'',u'',Ew,K1,qJ,c1',c2',c3',c4'⟩:=(H.out.below hb).at_ (k:=k) (by omega);subst hA';injection Ew with Ew;injection Ew with e1 e2 _;subst e1 e2;have HLK:=hid hlk;have Kv:=hid qJ;clear hA hb hlk qJ q0 q1 q2 q3 q4 q5 hk;by_cases a4:u'<=u''
   ·go_wp2_with (fail)
    go_quiet (fail);go_wp2_with (fail);go_ret;exact⟨aj (HN.out.trans (lg Kv.out HLK.out a4)).symm,HW.out.trans ((below_drewN HB.out _).mono HW.out.size)⟩
   ·go_wp2_with (fail)
    go_quiet (fail);go_wp2_with (fail)
    go_roundw
    case rel=>exact⟨k+1,by omega,by go_num,qb HA.out Kv.out HLK.out (by omega),below_drewN HB.out _⟩
    case measure=>simp[intOf];omega
  ·have HT:=hid (jv hA (by omega))
   clear hA hb;go_wp2_with (fail);go_ret;exact⟨aj (HN.out.trans HT.out).symm,HW.out.trans (HB.out.mono HW.out.size)⟩
theorem Dv (b d t u s:Int) (A:Option Addr) (n c:Nat) (l:List PT) (w:World) (h:RP w w.heap.size A n l) (hn:n<=maxLen) :
  Calls Tryz.prog 72 #[trm b d t u s A n c] w (dY (iE b d t u s l) w):=by
 unfold maxLen at hn;have hlen:=h.1;subst hlen;have hbw:Below w.heap.size w (w.alloc (.cells (aR b d t u s A l.length c) 51)):=(Below.refl _ w).alloc (Nat.le_refl _) _;obtain⟨w0,hw0⟩:∃w0,w.alloc (.cells (aR b d t u s A l.length c) 51)=w0:=⟨_,rfl⟩;have X6:=hid (fun W (hb:Below w0.heap.size w0 W)=>show Boxed6 W w.heap.size b d t u s A l.length c from by rw[<- hw0]at hb;exact boxed6 hb);rw[hw0]at hbw;have hz0:w.heap.size<w0.heap.size:=by rw[<- hw0];simp
 have HW:=hid hbw;have H:=hid (h.ah hbw);have HB0:=hid (Below.refl w0.heap.size w0);obtain⟨r0,r1,r2,r3,r4,r5⟩:=X6.out w0 (Below.refl _ _);clear h hbw;have HS:=hid (dM b);have HS2:=hid (dM s);have HO:=hid (mY b d t u s A l.length c);have HR:=hid (lC 0 d t u);by_cases h1:Sm b
 case neg=>
  rw[decide_eq_false h1]at HS;go_enter Tryz.func72,Tryz.ntmps72;go_wp2_with (fail);refine(HS.out _).mono ?_;rintro e w1 ⟨rfl,rfl⟩;go_wp2_with (fail);go_ret;exact⟨aj (by simp[iE,h1]),HW.out⟩
 rw[decide_eq_true h1]at HS;by_cases h2:Sm s
 case neg=>
  rw[decide_eq_false h2]at HS2;go_enter Tryz.func72,Tryz.ntmps72;go_wp2_with (fail);refine(HS.out _).mono ?_;rintro e w1 ⟨rfl,rfl⟩;go_wp2_with (fail);refine(HS2.out _).mono ?_;rintro e w1 ⟨rfl,rfl⟩;go_wp2_with (fail);go_ret;exact⟨aj (by simp[iE,h2]),HW.out⟩
 rw[decide_eq_true h2]at HS2;by_cases h3:Bits d t u
 case neg=>
  rw[show decide (Bits d t u)=false from(decide_eq_false h3)]at HR;go_enter Tryz.func72,Tryz.ntmps72;go_wp2_with (fail);refine(HS.out _).mono ?_;rintro e w1 ⟨rfl,rfl⟩;go_wp2_with (fail);refine(HS2.out _).mono ?_;rintro e w1 ⟨rfl,rfl⟩;go_wp2_with (fail);refine(HO.out _).mono ?_;rintro e w1 ⟨rfl,hb1⟩;go_wp2_with (fail);refine(HR.out _).mono ?_;rintro e w2 ⟨rfl,hb2⟩;go_wp2_with (fail);go_ret;exact⟨aj (by simp[iE,h3]),HW.out.trans ((hb1.trans (hb2.mono hb1.size)).mono HW.out.size)⟩
 rw[show decide (Bits d t u)=true from(decide_eq_true h3)]at HR;by_cases h4:l.length<=4
 case neg=>
  go_enter Tryz.func72,Tryz.ntmps72;go_wp2_with (fail);refine(HS.out _).mono ?_;rintro e w1 ⟨rfl,rfl⟩;go_wp2_with (fail);refine(HS2.out _).mono ?_;rintro e w1 ⟨rfl,rfl⟩;go_wp2_with (fail);refine(HO.out _).mono ?_;rintro e w1 ⟨rfl,hb1⟩;go_wp2_with (fail);refine(HR.out _).mono ?_;rintro e w2 ⟨rfl,hb2⟩;have hb:=hb1.trans (hb2.mono hb1.size);obtain⟨q0,q1,q2,q3,q4,q5⟩:=X6.out w2 hb;have HBB:=hid hb;clear hb hb1 hb2 r0 r1 r2 r3 r4 r5;go_wp2_with (fail);go_ret;exact⟨aj (by simp[iE,h4]),HW.out.trans (HBB.out.mono HW.out.size)⟩
 have HN:=hid (show iE b d t u s l=qc l from by simp[iE,h1,h2,h3,h4]);clear h1 h2 h3;go_enter Tryz.func72,Tryz.ntmps72;go_wp2_with (fail);refine(HS.out _).mono ?_;rintro e w1 ⟨rfl,rfl⟩;go_wp2_with (fail);refine(HS2.out _).mono ?_;rintro e w1 ⟨rfl,rfl⟩;go_wp2_with (fail);refine(HO.out _).mono ?_;rintro e w1 ⟨rfl,hb1⟩;go_wp2_with (fail);refine(HR.out _).mono ?_;rintro e w2 ⟨rfl,hb2⟩;have hb:=hb1.trans (hb2.mono hb1.size);obtain⟨q0,q1,q2,q3,q4,q5⟩:=X6.out w2 hb;have HBB:=hid hb;clear hb hb1 hb2 r0 r1 r2 r3 r4 r5;go_wp2_with (fail)
 go_loopw [3] (fun i wr=>Oh l w0.heap.size w0 i wr) (fun i _=>l.length+1-(intOf i).toNat)
 case atStart=>exact⟨0,.inr rfl,rfl,fun i _ hi=>by omega,HBB.out⟩
 case round=>
  obtain⟨k,hk,rfl,hA,hb⟩:=hrel;have HA:=hid hA;have HB:=hid hb;have hz:=hb.size;obtain⟨r0,r1,r2,r3,r4,r5⟩:=X6.out wr hb;by_cases hlt:k+1<l.length
  ·obtain⟨bb,off,a',d',t',u',hA',hbB,hlk,c1,c2,c3,c4⟩:=(H.out.below hb).at_ hlt
   obtain⟨bb',off',a'',d'',t'',u'',Ew,K1,qJ,c1',c2',c3',c4'⟩:=(H.out.below hb).at_ (k:=k) (by omega);subst hA';injection Ew with Ew;injection Ew with e1 e2 _;subst e1 e2;have HLK:=hid hlk;have Kv:=hid qJ;clear hA hb hlk qJ q0 q1 q2 q3 q4 q5 hk;by_cases a4:u'<=u''
   ·go_wp2_with (fail)
    go_quiet (fail);go_wp2_with (fail);go_ret;exact⟨aj (HN.out.trans (lg Kv.out HLK.out a4)).symm,HW.out.trans ((below_drewN HB.out _).mono HW.out.size)⟩
   ·go_wp2_with (fail)
    go_quiet (fail);go_wp2_with (fail)
    go_roundw
    case rel=>exact⟨k+1,by omega,by go_num,qb HA.out Kv.out HLK.out (by omega),below_drewN HB.out _⟩
    case measure=>simp[intOf];omega
  ·have HT:=hid (jv hA (by omega))
   clear hA hb;go_wp2_with (fail);go_ret;exact⟨aj (HN.out.trans HT.out).symm,HW.out.trans (HB.out.mono HW.out.size)⟩
end Go.Proofs.YtbdmcibcenhpnaaGreatDoor.Te
namespace Go.Proofs.YtbdmcibcenhpnaaGreatDoor.Fi
open Sp Pa Te
theorem BM {N D:Int} (hN:1<=N) (hD:1<=D) (hdvd:N∣D\/D∣N) (m y:Int) (h0:0<=y) (h1:y<N):(N*m+y) / D=(N*m) / D+y / D:=by
 rcases hdvd with⟨c,rfl⟩ | ⟨c,rfl⟩
 ·have hc:0<c:=by
   rcases Int.lt_or_le 0 c with h | h
   ·exact h
   ·have:=Int.mul_le_mul_of_nonneg_left h (show 0<=N by omega)
    omega
  rw[<- Int.ediv_ediv_of_nonneg (by omega:0<=N),<- Int.ediv_ediv_of_nonneg (by omega:0<=N),<- Int.ediv_ediv_of_nonneg (by omega:0<=N)];rw[Int.add_comm,Int.add_mul_ediv_left _ _ (by omega:N≠0),Int.ediv_eq_zero_of_lt h0 h1,Int.mul_ediv_cancel_left _ (by omega:N≠0)];simp
 ·rw[Int.mul_assoc,Int.add_comm,Int.add_mul_ediv_left _ _ (by omega:D≠0),Int.mul_ediv_cancel_left _ (by omega:D≠0),Int.add_comm]
theorem ur {a b:Int} (h0:0<=a) (h:a<=b):pw a∣pw b:=⟨pw (b-a),by rw[<- Fv a (b-a) h0 (by omega)];congr 1;omega⟩
theorem GN {N T:Int} (hN:1<=N) (hT:1<=T) (hdvd:N∣T\/T∣N) (m y:Int) (h0:0<=y) (h1:y<N):(N*m+y) % T=(N*m) % T+y % T:=by
 have h2:=BM hN hT hdvd m y h0 h1;have e1:=Int.mul_ediv_add_emod (N*m+y) T;have e2:=Int.mul_ediv_add_emod (N*m) T;have e3:=Int.mul_ediv_add_emod y T;rw[h2,Int.mul_add]at e1;omega
theorem Gh {d t u n:Int} (hd:0<=d) (ht:0<=t) (hn:0<=n) (m y:Int) (h0:0<=y) (h1:y<pw n):dc d t u (pw n*m+y)=dc d t u (pw n*m)+dc d t u y:=by
 unfold dc;have hdv:pw n∣pw d\/pw d∣pw n:=by
  rcases Int.le_total n d with h | h
  ·exact .inl (ur hn h)
  ·exact .inr (ur hd h)
 rw[BM (aU n) (aU d) hdv m y h0 h1];rw[<- Int.add_mul]
 congr 1
 rcases Int.le_total n d with h | h
 ·have hy:y / pw d=0:=Int.ediv_eq_zero_of_lt h0 (by have:=fA n d h;omega)
  rw[hy];simp
 ·have e:pw n=pw (n-d)*pw d:=by rw[<- Fv _ _ (by omega) hd];congr 1;omega
  have e2:pw n*m / pw d=pw (n-d)*m:=by
   rw[e,Int.mul_right_comm,Int.mul_ediv_cancel _ (by have:=aU d;omega)]
  rw[e2];have O3:pw (n-d)∣pw t\/pw t∣pw (n-d):=by
   rcases Int.le_total (n-d) t with h | h
   ·exact .inl (ur (by omega) h)
   ·exact .inr (ur ht h)
  refine GN (aU _) (aU t) O3 m (y / pw d) (Int.ediv_nonneg h0 (by have:=aU d;omega)) ?_;exact(Int.ediv_lt_iff_lt_mul (by have:=aU d;omega)).2 (by rw[<- e];exact h1)
def dJ (ps:List PT) (x:Int):Int:=(ps.map fun q=>dc q.2.1 q.2.2.1 q.2.2.2 x).sum
def BitsAll (ps:List PT):Prop:=∀q∈ps,Bits q.2.1 q.2.2.1 q.2.2.2
theorem j7 (x:Int):dJ [] x=0:=rfl
theorem kP (a b:List PT) (x:Int):dJ (a++b) x=dJ a x+dJ b x:=by unfold dJ;rw[List.map_append,List.sum_append]
theorem jZ (q:PT) (x:Int):dJ [q] x=dc q.2.1 q.2.2.1 q.2.2.2 x:=by simp[dJ]
theorem fU (q:PT) (ps:List PT) (x:Int):dJ (q::ps) x=dc q.2.1 q.2.2.1 q.2.2.2 x+dJ ps x:=by simp[dJ]
theorem bk:∀{ps:List PT},BitsAll ps->∀x,0<=dJ ps x/\dJ ps x<=66060288*ps.length
 | [],_,x=>by simp[dJ]
 | q::ps,h,x=>by
  have h1:=bw (h q (List.mem_cons_self ..)) x;have h2:=bk (fun r hr=>h r (List.mem_cons_of_mem _ hr)) x (ps:=ps);rw[fU,List.length_cons];omega
theorem kO:∀{ps:List PT},BitsAll ps->∀{n:Int},0<=n->∀m y,0<=y->y<pw n->dJ ps (pw n*m+y)=dJ ps (pw n*m)+dJ ps y
 | [],_,_,_,_,_,_,_=>rfl
 | q::ps,h,n,hn,m,y,h0,h1=>by
  have hq:=h q (List.mem_cons_self ..);have h2:=kO (fun r hr=>h r (List.mem_cons_of_mem _ hr)) (ps:=ps) hn m y h0 h1;rw[fU,fU,fU,h2,Gh hq.1 (by have:=hq.2.2.1;omega) hn m y h0 h1];omega
def yJ (ps:List PT) (n:Nat) (y:Int):Prop:=∃z,0<=z/\z<pw n/\dJ ps z=y
theorem ox:∀ps:List PT,dJ ps 0=0
 | []=>rfl
 | q::ps=>by rw[fU,ox ps];simp[dc]
theorem Ah (ps:List PT) (y:Int):yJ ps 0 y↔y=0:=by
 unfold yJ;have h0:pw ((0:Nat):Int)=1:=oD;rw[h0]
 constructor
 ·rintro⟨z,h0,h1,rfl⟩
  obtain rfl:z=0:=by omega
  exact ox ps
 ·rintro rfl
  exact⟨0,by omega,by omega,ox ps⟩
theorem Ai {ps:List PT} (h:BitsAll ps) (n:Nat) (y:Int):yJ ps (n+1) y↔yJ ps n y\/yJ ps n (y-dJ ps (pw n)):=by
 unfold yJ;have e:pw ((n+1:Nat):Int)=2*pw n:=by rw[Int.natCast_add];exact zP n (Int.natCast_nonneg _)
 rw[e]
 constructor
 ·rintro⟨z,h0,h1,rfl⟩
  rcases Int.lt_or_le z (pw n)with q | q
  ·exact .inl ⟨z,h0,q,rfl⟩
  ·refine .inr ⟨z-pw n,by omega,by omega,?_⟩
   have:=kO h (Int.natCast_nonneg n) 1 (z-pw n) (by omega) (by omega);rw[Int.mul_one,show pw n+(z-pw n)=z by omega]at this;omega
 ·rintro(⟨z,h0,h1,rfl⟩ | ⟨z,h0,h1,h2⟩)
  ·exact⟨z,h0,by omega,rfl⟩
  ·refine⟨pw n+z,by omega,by omega,?_⟩
   have:=kO h (Int.natCast_nonneg n) 1 z h0 h1;rw[Int.mul_one]at this;omega
def tJ (ps:List PT) (a b:Int) (y:Int):Prop:=∃x,a<=x/\x<b/\dJ ps x=y
theorem wH {ps:List PT} (h:BitsAll ps) {n:Nat} {a m:Int} (ha:a=pw n*m) (y:Int):tJ ps a (a+pw n) y↔yJ ps n (y-dJ ps a):=by
 subst ha;unfold tJ yJ
 constructor
 ·rintro⟨x,h0,h1,rfl⟩
  refine⟨x-pw n*m,by omega,by omega,?_⟩;have:=kO h (Int.natCast_nonneg n) m (x-pw n*m) (by omega) (by omega);rw[show pw n*m+(x-pw n*m)=x by omega]at this;omega
 ·rintro⟨z,h0,h1,h2⟩
  refine⟨pw n*m+z,by omega,by omega,?_⟩;have:=kO h (Int.natCast_nonneg n) m z h0 h1;omega
theorem rS {ps:List PT} {a b c:Int} (hab:a<=b) (hbc:b<=c) (y:Int):tJ ps a c y↔tJ ps a b y\/tJ ps b c y:=by
 unfold tJ
 constructor
 ·rintro⟨x,h0,h1,h2⟩
  rcases Int.lt_or_le x b with q | q
  ·exact .inl ⟨x,h0,q,h2⟩
  ·exact .inr ⟨x,q,h1,h2⟩
 ·rintro(⟨x,h0,h1,h2⟩ | ⟨x,h0,h1,h2⟩)
  ·exact⟨x,h0,by omega,h2⟩
  ·exact⟨x,by omega,h1,h2⟩
def gX (ps:List PT) (s:List Span) (y:Int):Prop:=∃x,mem s x/\dJ ps x=y
end Go.Proofs.YtbdmcibcenhpnaaGreatDoor.Fi
namespace Go.Proofs.YtbdmcibcenhpnaaGreatDoor.Te
set_option maxHeartbeats 64000000
open Go Go.RowKit Sp Pa
open Go.Lib (hid)
attribute [local go_sem] eM oG
theorem x9 (b d t u s:Int) (A:Option Addr) (n c:Nat) (l:List PT) (w:World) (h:RP w w.heap.size A n l) (hn:n<=maxLen) :
  Calls Tryz.prog 87 #[trm b d t u s A n c] w (dY (mM l) w):=by
 by_cases n0:n=0
 ·subst n0
  unfold maxLen at hn;have hlen:=h.1;have hbw:Below w.heap.size w (w.alloc (.cells (aR b d t u s A 0 c) 51)):=(Below.refl _ w).alloc (Nat.le_refl _) _;obtain⟨w0,hw0⟩:∃w0,w.alloc (.cells (aR b d t u s A 0 c) 51)=w0:=⟨_,rfl⟩;have X6:=hid (fun W (hb:Below w0.heap.size w0 W)=>show Boxed6 W w.heap.size b d t u s A 0 c from by rw[<- hw0]at hb;exact boxed6 hb);rw[hw0]at hbw;have hz0:w.heap.size<w0.heap.size:=by rw[<- hw0];simp
  have HW:=hid hbw;have H:=hid (h.ah hbw);have HB0:=hid (Below.refl w0.heap.size w0);obtain⟨r0,r1,r2,r3,r4,r5⟩:=X6.out w0 (Below.refl _ _);clear h hbw;obtain rfl:=List.eq_nil_of_length_eq_zero hlen;go_enter Tryz.func87,Tryz.ntmps87;go_wp2_with (fail);go_quiet (fail);go_wp2_with (fail);go_ret;exact⟨rfl,HW.out.trans ((below_drewN (Below.refl _ w0) _).mono HW.out.size)⟩
 by_cases n1:n=1
 ·subst n1
  unfold maxLen at hn;have hlen:=h.1;have hbw:Below w.heap.size w (w.alloc (.cells (aR b d t u s A 1 c) 51)):=(Below.refl _ w).alloc (Nat.le_refl _) _;obtain⟨w0,hw0⟩:∃w0,w.alloc (.cells (aR b d t u s A 1 c) 51)=w0:=⟨_,rfl⟩;have X6:=hid (fun W (hb:Below w0.heap.size w0 W)=>show Boxed6 W w.heap.size b d t u s A 1 c from by rw[<- hw0]at hb;exact boxed6 hb);rw[hw0]at hbw;have hz0:w.heap.size<w0.heap.size:=by rw[<- hw0];simp
  have HW:=hid hbw;have H:=hid (h.ah hbw);have HB0:=hid (Below.refl w0.heap.size w0);obtain⟨r0,r1,r2,r3,r4,r5⟩:=X6.out w0 (Below.refl _ _);clear h hbw;obtain⟨bb,off,a',d',t',u',hA',hbB,hlk,c1,c2,c3,c4⟩:=H.out.at_ (k:=0) (by omega);subst hA';simp only[Nat.zero_mul,Nat.add_zero]at c1 c2 c3 c4;have HC:=hid (show mM l=bh (a',d',t',u')from by
   obtain⟨hl,e⟩:=hlk
   match l,hlen with
   | [p],_=>simp only[List.getElem_cons_zero]at e;subst e;rfl)
  have Q:=hid (show∀W,Below w0.heap.size w0 W->W.cell? ⟨w.heap.size,5,none⟩=some (.slice (some ⟨bb,off,none⟩) 1 c)/\W.cell? ⟨bb,off,none⟩=some (.int .i64 a')/\W.cell? ⟨bb,off+1,none⟩=some (.int .i64 d')/\W.cell? ⟨bb,off+2,none⟩=some (.int .i64 t')/\W.cell? ⟨bb,off+3,none⟩=some (.int .i64 u')from fun W hW=>⟨(X6.out W hW).2.2.2.2.2,(hW.cell hbB).trans c1,(hW.cell hbB).trans c2,(hW.cell hbB).trans c3,(hW.cell hbB).trans c4⟩);clear hlk;by_cases z1:d'=0
  ·by_cases z2:t'=21
   ·by_cases z3:u'=0
    ·subst z1 z2 z3
     go_enter Tryz.func87,Tryz.ntmps87;go_wp2_with (fail)
     go_region_held3 (fun w'=>w'.cell? ⟨w.heap.size,5,none⟩=some (.slice (some ⟨bb,off,none⟩) 1 c)/\w'.cell? ⟨bb,off,none⟩=some (.int .i64 a')/\w'.cell? ⟨bb,off+1,none⟩=some (.int .i64 0)/\w'.cell? ⟨bb,off+2,none⟩=some (.int .i64 21)/\w'.cell? ⟨bb,off+3,none⟩=some (.int .i64 0))
      (first | exact Q.out _ (Below.refl _ _).drew | exact Q.out _ (Below.refl _ _) | exact Q.out _ hB2 | go_keep)
      (first
       | (go_at_call 103;(with_reducible refine(fT _ _).mono ?_);rintro q2 w2 ⟨rfl,hb2⟩;have hB2:Below w0.heap.size w0 w2:=(Below.refl _ w0).drew.trans (hb2.mono (by simp))))
     go_wp2_with (fail);go_ret;exact⟨aj (by rw[HC.out];rfl),HW.out.trans (hB2.mono HW.out.size)⟩
    ·have z3':(u' == 0)=false:=by simpa using z3
     subst z1 z2;go_enter Tryz.func87,Tryz.ntmps87;go_wp2_with (fail)
     go_region_held3 (fun w'=>w'.cell? ⟨w.heap.size,5,none⟩=some (.slice (some ⟨bb,off,none⟩) 1 c)/\w'.cell? ⟨bb,off,none⟩=some (.int .i64 a')/\w'.cell? ⟨bb,off+1,none⟩=some (.int .i64 0)/\w'.cell? ⟨bb,off+2,none⟩=some (.int .i64 21)/\w'.cell? ⟨bb,off+3,none⟩=some (.int .i64 u'))
      (first | exact Q.out _ (Below.refl _ _).drew | exact Q.out _ (Below.refl _ _) | exact Q.out _ hB2 | go_keep)
      (first
       | (go_at_call 103;(with_reducible refine(fT _ _).mono ?_);rintro q2 w2 ⟨rfl,hb2⟩;have hB2:Below w0.heap.size w0 w2:=(Below.refl _ w0).drew.trans (hb2.mono (by simp))))
     go_wp2_with (fail);go_ret;exact⟨aj (by rw[HC.out];simp[bh,z3]),HW.out.trans (hB2.mono HW.out.size)⟩
   ·have z2':(t' == 21)=false:=by simpa using z2
    subst z1;go_enter Tryz.func87,Tryz.ntmps87;go_wp2_with (fail)
    go_region_held3 (fun w'=>w'.cell? ⟨w.heap.size,5,none⟩=some (.slice (some ⟨bb,off,none⟩) 1 c)/\w'.cell? ⟨bb,off,none⟩=some (.int .i64 a')/\w'.cell? ⟨bb,off+1,none⟩=some (.int .i64 0)/\w'.cell? ⟨bb,off+2,none⟩=some (.int .i64 t')/\w'.cell? ⟨bb,off+3,none⟩=some (.int .i64 u'))
     (first | exact Q.out _ (Below.refl _ _).drew | exact Q.out _ (Below.refl _ _) | exact Q.out _ hB2 | go_keep)
     (first
      | (go_at_call 103;(with_reducible refine(fT _ _).mono ?_);rintro q2 w2 ⟨rfl,hb2⟩;have hB2:Below w0.heap.size w0 w2:=(Below.refl _ w0).drew.trans (hb2.mono (by simp))))
    go_wp2_with (fail);go_ret;exact⟨aj (by rw[HC.out];simp[bh,z2]),HW.out.trans (hB2.mono HW.out.size)⟩
  ·have z1':(d' == 0)=false:=by simpa using z1
   go_enter Tryz.func87,Tryz.ntmps87;go_wp2_with (fail)
   go_region_held3 (fun w'=>w'.cell? ⟨w.heap.size,5,none⟩=some (.slice (some ⟨bb,off,none⟩) 1 c)/\w'.cell? ⟨bb,off,none⟩=some (.int .i64 a')/\w'.cell? ⟨bb,off+1,none⟩=some (.int .i64 d')/\w'.cell? ⟨bb,off+2,none⟩=some (.int .i64 t')/\w'.cell? ⟨bb,off+3,none⟩=some (.int .i64 u'))
    (first | exact Q.out _ (Below.refl _ _).drew | exact Q.out _ (Below.refl _ _) | exact Q.out _ hB2 | go_keep)
    (first
     | (go_at_call 103;(with_reducible refine(fT _ _).mono ?_);rintro q2 w2 ⟨rfl,hb2⟩;have hB2:Below w0.heap.size w0 w2:=(Below.refl _ w0).drew.trans (hb2.mono (by simp))))
   go_wp2_with (fail);go_ret;exact⟨aj (by rw[HC.out];simp[bh,z1]),HW.out.trans (hB2.mono HW.out.size)⟩
 unfold maxLen at hn;have hlen:=h.1;have hbw:Below w.heap.size w (w.alloc (.cells (aR b d t u s A n c) 51)):=(Below.refl _ w).alloc (Nat.le_refl _) _;obtain⟨w0,hw0⟩:∃w0,w.alloc (.cells (aR b d t u s A n c) 51)=w0:=⟨_,rfl⟩;have X6:=hid (fun W (hb:Below w0.heap.size w0 W)=>show Boxed6 W w.heap.size b d t u s A n c from by rw[<- hw0]at hb;exact boxed6 hb);rw[hw0]at hbw;have hz0:w.heap.size<w0.heap.size:=by rw[<- hw0];simp
 have HW:=hid hbw;have H:=hid (h.ah hbw);have HB0:=hid (Below.refl w0.heap.size w0);obtain⟨r0,r1,r2,r3,r4,r5⟩:=X6.out w0 (Below.refl _ _);clear h hbw;have hd0:((n:Int) == 0)=false:=by simp;omega
 have hd1:((n:Int) == 1)=false:=by simp;omega
 have HC:=hid (show mM l=false from by
  match l,hlen with
  | [],e=>exact absurd e.symm n0
  | [_],e=>exact absurd e.symm n1
  | _::_::_,_=>rfl)
 go_enter Tryz.func87,Tryz.ntmps87;go_wp2_with (fail);go_quiet (fail);go_wp2_with (fail);go_ret;exact⟨aj HC.out.symm,HW.out.trans ((below_drewN (Below.refl _ w0) _).mono HW.out.size)⟩
end Go.Proofs.YtbdmcibcenhpnaaGreatDoor.Te
namespace Go.Proofs.YtbdmcibcenhpnaaGreatDoor.Te
set_option maxHeartbeats 64000000
open Go Go.RowKit Sp Pa
open Go.Lib (hid)
def Kh (l:List PT) (B:Nat) (w2:World) (iv:Value) (wr:World):Prop:=∃k:Nat,k<=l.length/\iv = .int .i64 k/\Below B w2 wr
attribute [local go_sem] eM oG
theorem Dq (b d t u s:Int) (A B:Option Addr) (n c e:Nat) (l:List PT) (w:World) (h:RP w w.heap.size A n l) (h':RP w w.heap.size B n l) (hn:n<=maxLen) :
  Calls Tryz.prog 39 #[trm b d t u s A n c,trm b d t u s B n e] w (dY true w):=by
 unfold maxLen at hn;have hlen:=h.1;subst hlen;have hb1:Below w.heap.size w (w.alloc (.cells (aR b d t u s A l.length c) 51)):=(Below.refl _ w).alloc (Nat.le_refl _) _;obtain⟨w1,hw1⟩:∃w1,w.alloc (.cells (aR b d t u s A l.length c) 51)=w1:=⟨_,rfl⟩;have hs1:w1.heap.size=w.heap.size+1:=by rw[<- hw1];simp
 have hbw:Below w1.heap.size w1 (w1.alloc (.cells (aR b d t u s B l.length e) 51)):=(Below.refl _ w1).alloc (Nat.le_refl _) _;obtain⟨w0,hw0⟩:∃w0,w1.alloc (.cells (aR b d t u s B l.length e) 51)=w0:=⟨_,rfl⟩;have hs0:w0.heap.size=w.heap.size+1+1:=by rw[<- hw0];simp[hs1]
 have X5:=hid (fun W (hb:Below w0.heap.size w0 W)=>show Boxed6 W w.heap.size b d t u s A l.length c from by
  rw[<- hw1]at hbw hw0;rw[<- hw0]at hb;exact boxed6 (((Below.refl _ _).alloc (Nat.le_refl _) _).trans (hb.mono (by simp))))
 have X6:=hid (fun W (hb:Below w0.heap.size w0 W)=>show Boxed6 W w1.heap.size b d t u s B l.length e from by rw[<- hw0]at hb;exact boxed6 hb);rw[hw0]at hbw;rw[hw1]at hb1;have HW:=hid (hb1.trans (hbw.mono hb1.size));have H:=hid (h.ah HW.out);have H':=hid (h'.ah HW.out);obtain⟨r0,r1,r2,r3,r4,r5⟩:=X5.out w0 (Below.refl _ _);obtain⟨q0,q1,q2,q3,q4,q5⟩:=X6.out w0 (Below.refl _ _);rw[hs1]at X6 q0 q1 q2 q3 q4 q5;clear h h' hbw hb1;go_enter Tryz.func39,Tryz.ntmps39;go_wp2_with (fail)
 go_loopw [5] (fun i wr=>Kh l w0.heap.size w0 i wr) (fun i _=>l.length-(intOf i).toNat)
 case atStart=>exact⟨0,Nat.zero_le _,rfl,Below.refl _ _⟩
 case round=>
  obtain⟨k,hk,rfl,hb⟩:=hrel;have HB:=hid hb;have hz:=hb.size;obtain⟨y0,y1,y2,y3,y4,y5⟩:=X5.out wr hb;obtain⟨z0,z1,z2,z3,z4,z5⟩:=X6.out wr hb;clear r0 r1 r2 r3 r4 r5 q0 q1 q2 q3 q4 q5;by_cases hlt:k<l.length
  ·obtain⟨bb,off,a',d',t',u',hA',hbB,hlk,c1,c2,c3,c4⟩:=(H.out.below hb).at_ hlt
   obtain⟨bb',off',a'',d'',t'',u'',Ew,K1,qJ,c1',c2',c3',c4'⟩:=(H'.out.below hb).at_ hlt;subst hA' Ew;obtain⟨hl,e1⟩:=hlk;obtain⟨_,e2⟩:=qJ;rw[e1]at e2;injection e2 with f1 f2;injection f2 with f2 f3;injection f3 with f3 f4;subst f1 f2 f3 f4;clear e1 hb;go_wp2_with (fail);go_quiet (fail);go_wp2_with (fail)
   go_roundw
   case rel=>exact⟨k+1,by omega,by go_num,below_drewN HB.out _⟩
   case measure=>simp[intOf];omega
  ·have hkl:k=l.length:=by omega
   subst hkl;clear hb;go_wp2_with (fail);go_ret;exact⟨rfl,HW.out.trans (HB.out.mono HW.out.size)⟩
theorem DF:∀(w:World) (a:Option Addr) (n c n' c':Nat),(binOp .eql 49 (.slice a n c) (.slice none n' c')).run Tryz.prog w = .ok (.bool a.isNone) w:=fun w a n c n' c'=>Lib.run_eql_slice_nil w _ _ a n c n' c' Tryz.underlying49
attribute [local go_sem] eM oG
abbrev Oc (p:PT):List Value:=[.int .i64 p.1,.int .i64 p.2.1,.int .i64 p.2.2.1,.int .i64 p.2.2.2]
def gi (l:List PT):List Value:=l.flatMap Oc
theorem nT (p:PT) (l:List PT):gi (p::l) = .int .i64 p.1 :: .int .i64 p.2.1 :: .int .i64 p.2.2.1 :: .int .i64 p.2.2.2::gi l:=rfl
theorem jO (l:List PT):(gi l).length=l.length*4:=by
 induction l with
 | nil=>rfl
 | cons p l ih=>rw[nT];simp only[List.length_cons];omega
theorem qP (l r:List PT):gi (l++r)=gi l++gi r:=List.flatMap_append
theorem vm:∀(l:List PT) (j:Nat) (h:j<l.length),(gi l)[4*j]? = some (.int .i64 l[j].1)/\(gi l)[4*j+1]? = some (.int .i64 l[j].2.1)/\(gi l)[4*j+2]? = some (.int .i64 l[j].2.2.1)/\(gi l)[4*j+3]? = some (.int .i64 l[j].2.2.2):=by
 intro l
 induction l with
 | nil=>intro j h;simp at h
 | cons p l ih=>
  intro j h
  cases j with
  | zero=>exact⟨rfl,rfl,rfl,rfl⟩
  | succ j=>
   have:=ih j (by simpa using h);rw[nT];rw[show 4*(j+1)=4*j+1+1+1+1 from by omega];simpa using this
theorem Bu (l:List PT):∀u∈gi l,u.oneCell'=true:=by
 intro u hu;obtain⟨p,_,hp⟩:=List.mem_flatMap.1 hu;simp[Oc]at hp;rcases hp with rfl | rfl | rfl | rfl <;> rfl
theorem Ii {w:World} {B n:Nat} {ad:Addr} {l:List PT} (h:RP w B (some ad) n l):∀j u,(gi l)[j]? = some u->w.cell? (ad.add j)=some u:=by
 intro j u hu;have hj:j<l.length*4:=by
  rcases Nat.lt_or_ge j (l.length*4)with h1 | h1
  ·exact h1
  ·rw[List.getElem?_eq_none (by rw[jO];exact h1)]at hu;cases hu
 obtain⟨b,off,hA,_,hc⟩:=h.2 (by rw[<- h.1];omega);injection hA with hA;subst hA;have h1:j / 4<l.length:=by omega
 obtain⟨a0,a1,a2,a3⟩:=vm l (j / 4) h1;obtain⟨c0,c1,c2,c3⟩:=hc (j / 4) h1;rw[Go.WideShapes.add_plain];rcases (show j=4*(j / 4)\/j=4*(j / 4)+1\/j=4*(j / 4)+2\/j=4*(j / 4)+3 from by omega)with e | e | e | e
 ·rw[e,a0]at hu
  rw[show off+j=off+j / 4*4 from by omega,c0];exact hu
 ·rw[e,a1]at hu
  rw[show off+j=off+j / 4*4+1 from by omega,c1];exact hu
 ·rw[e,a2]at hu
  rw[show off+j=off+j / 4*4+2 from by omega,c2];exact hu
 ·rw[e,a3]at hu
  rw[show off+j=off+j / 4*4+3 from by omega,c3];exact hu
def rF (w:World) (base:Nat) (v:Value) (l:List PT):Prop:=w.ownsRow base 94 4 v l.length (gi l)
theorem uQ:(Tryz.prog.info? 94).map (fun i=>(i.zero,i.size,i.bytes))=some (some (.agg #[.int .i64 0,.int .i64 0,.int .i64 0,.int .i64 0]),4,32):=by kernel_rfl
theorem zV {w:World} {base:Nat} {v:Value} {l:List PT} (h:rF w base v l):∃A c,v = .slice A l.length c/\RP w w.heap.size A l.length l/\l.length<=c/\∀b off,A=some ⟨b,off,none⟩->base<=b:=by
 have h0:=h;obtain⟨h1,h2⟩:=h;rcases h2 with⟨hv,hn⟩ | ⟨g,cap,cur,hv,hb,hr⟩
 ·obtain rfl:l=[]:=List.eq_nil_of_length_eq_zero hn
  exact⟨none,0,hv,RP.dS _ _ _,Nat.le_refl _,fun _ _ e=>by cases e⟩
 ·subst hv
  refine⟨some ⟨g,0,none⟩,cap,rfl,⟨rfl,fun hn=>?_⟩,hr.2.1,fun b off e=>by injection e with e;injection e with e _ _;omega⟩;refine⟨g,0,rfl,(World.ownsRow.lt h0 g rfl).2,fun j hj=>?_⟩;obtain⟨a0,a1,a2,a3⟩:=vm l j hj;have c0:=World.ownsRow.cells h0 (g:=g) rfl (4*j) _ a0;have c1:=World.ownsRow.cells h0 (g:=g) rfl (4*j+1) _ a1;have c2:=World.ownsRow.cells h0 (g:=g) rfl (4*j+2) _ a2;have c3:=World.ownsRow.cells h0 (g:=g) rfl (4*j+3) _ a3;rw[Go.WideShapes.add_plain]at c0 c1 c2 c3;simp only[Nat.zero_add]at *;rw[show j*4=4*j from by omega];exact⟨c0,c1,c2,c3⟩
section
variable {W W' w:World} {g B:Nat} {b d t u s:Int} {A:Option Addr} {n c:Nat} {ty:TypeId}
end
end Go.Proofs.YtbdmcibcenhpnaaGreatDoor.Te
namespace Go.Proofs.YtbdmcibcenhpnaaGreatDoor.Te
set_option maxHeartbeats 64000000
open Go Go.RowKit Sp Pa
open Go.Lib (hid)
noncomputable def aK (i o m b d t u s:Int) (l:List PT):Bool:=decide (i=1\/i=2) && (decide (o=1\/o=2) && (iE b d t u s l && (cC m l && ((!(i == 2) || mM l) && (!(o == 2) || ny b d t u)))))
theorem vA {l:List PT} (h:l.length<=1) (ha:∀q∈l,bh q=true):mM l=true:=by
 match l,h,ha with
 | [],_,_=>rfl
 | [p],_,ha=>exact ha p (by simp)
theorem jG {l:List PT} (h:2<=l.length):mM l=false:=by
 match l,h with
 | _::_::_,_=>rfl
theorem q9 {l:List PT} {k:Nat} {a d t u:Int} (hk:∃hl:k<l.length,l[k]=(a,d,t,u)) (ha:bh (a,d,t,u)=false):mM l=false:=by
 obtain⟨hl,e⟩:=hk
 match l,hl,e with
 | [p],hl,e=>
  have:k=0:=by simp at hl;omega
  subst this;simp only[List.getElem_cons_zero]at e;subst e;exact ha
 | _::_::_,_,_=>rfl
theorem vV (i o m b d t u s:Int) (A:Option Addr) (n c:Nat) (l:List PT) (w:World) (h:RP w w.heap.size A n l) (hn:n<=maxLen) :
  Calls Tryz.prog 67 #[trm b d t u s A n c,.int .i64 i,.int .i64 o,.int .i64 m] w (dY (aK i o m b d t u s l) w):=by
 unfold maxLen at hn;have hlen:=h.1;subst hlen;have hbw:Below w.heap.size w (w.alloc (.cells (aR b d t u s A l.length c) 51)):=(Below.refl _ w).alloc (Nat.le_refl _) _;obtain⟨w0,hw0⟩:∃w0,w.alloc (.cells (aR b d t u s A l.length c) 51)=w0:=⟨_,rfl⟩;have X6:=hid (fun W (hb:Below w0.heap.size w0 W)=>show Boxed6 W w.heap.size b d t u s A l.length c from by rw[<- hw0]at hb;exact boxed6 hb);rw[hw0]at hbw;have HW:=hid hbw;have H:=hid (h.ah hbw);have HB0:=hid (Below.refl w0.heap.size w0);obtain⟨r0,r1,r2,r3,r4,r5⟩:=X6.out w0 (Below.refl _ _);clear h hbw;have HI:=hid (qF i);have HO:=hid (qF o);have HN:=hid (fun W (hW:RP W W.heap.size A l.length l)=>tS b d t u s A l.length c l W hW hn);have HP:=hid (fun W (hW:RP W W.heap.size A l.length l)=>mR b d t u s A l.length c l m W hW hn);have HC:=hid (fun W (hW:RP W W.heap.size A l.length l)=>x9 b d t u s A l.length c l W hW hn);have HL:=hid (vW b d t u s A l.length c);by_cases k1:i=1\/i=2
 case neg=>
  rw[decide_eq_false k1]at HI;go_enter Tryz.func67,Tryz.ntmps67;go_wp2_with (fail);refine(HI.out _).mono ?_;rintro e w9 ⟨rfl,rfl⟩;go_wp2_with (fail);go_ret;exact⟨aj (by simp[aK,k1]),HW.out.trans (HB0.out.mono HW.out.size)⟩
 rw[decide_eq_true k1]at HI;by_cases k2:o=1\/o=2
 case neg=>
  rw[decide_eq_false k2]at HO;go_enter Tryz.func67,Tryz.ntmps67;go_wp2_with (fail);refine(HI.out _).mono ?_;rintro e w9 ⟨rfl,rfl⟩;go_wp2_with (fail);refine(HO.out _).mono ?_;rintro e w9 ⟨rfl,rfl⟩;go_wp2_with (fail);go_ret;exact⟨aj (by simp[aK,k2]),HW.out.trans (HB0.out.mono HW.out.size)⟩
 rw[decide_eq_true k2]at HO;rcases k3:iE b d t u s l with _ | _
 case false=>
  rw[k3]at HN;go_enter Tryz.func67,Tryz.ntmps67;go_wp2_with (fail);refine(HI.out _).mono ?_;rintro e w9 ⟨rfl,rfl⟩;go_wp2_with (fail);refine(HO.out _).mono ?_;rintro e w9 ⟨rfl,rfl⟩;go_wp2_with (fail);refine(HN.out _ (H.out.ah HB0.out)).mono ?_;rintro e w1 ⟨rfl,hb1⟩;have HB1:=hid (HB0.out.trans (hb1.mono HB0.out.size));clear r0 r1 r2 r3 r4 r5;obtain⟨r0,r1,r2,r3,r4,r5⟩:=X6.out w1 HB1.out;clear hb1;go_wp2_with (fail);go_ret;exact⟨aj (by simp[aK,k3]),HW.out.trans (HB1.out.mono HW.out.size)⟩
 case true=>
 rw[k3]at HN;rcases k4:cC m l with _ | _
 case false=>
  rw[k4]at HP;go_enter Tryz.func67,Tryz.ntmps67;go_wp2_with (fail);refine(HI.out _).mono ?_;rintro e w9 ⟨rfl,rfl⟩;go_wp2_with (fail);refine(HO.out _).mono ?_;rintro e w9 ⟨rfl,rfl⟩;go_wp2_with (fail);refine(HN.out _ (H.out.ah HB0.out)).mono ?_;rintro e w1 ⟨rfl,hb1⟩;have HB1:=hid (HB0.out.trans (hb1.mono HB0.out.size));clear r0 r1 r2 r3 r4 r5;obtain⟨r0,r1,r2,r3,r4,r5⟩:=X6.out w1 HB1.out;clear hb1;go_wp2_with (fail);refine(HP.out _ (H.out.ah HB1.out)).mono ?_;rintro e w2 ⟨rfl,hb2⟩;have HB2:=hid (HB1.out.trans (hb2.mono HB1.out.size));clear r0 r1 r2 r3 r4 r5;obtain⟨r0,r1,r2,r3,r4,r5⟩:=X6.out w2 HB2.out;clear hb2;go_wp2_with (fail);go_ret;exact⟨aj (by simp[aK,k4]),HW.out.trans (HB2.out.mono HW.out.size)⟩
 case true=>
 rw[k4]at HP;rcases k1 with rfl | rfl
 ·rcases k2 with rfl | rfl
  ·go_enter Tryz.func67,Tryz.ntmps67
   go_wp2_with (fail);refine(HI.out _).mono ?_;rintro e w9 ⟨rfl,rfl⟩;go_wp2_with (fail);refine(HO.out _).mono ?_;rintro e w9 ⟨rfl,rfl⟩;go_wp2_with (fail);refine(HN.out _ (H.out.ah HB0.out)).mono ?_;rintro e w1 ⟨rfl,hb1⟩;have HB1:=hid (HB0.out.trans (hb1.mono HB0.out.size));clear r0 r1 r2 r3 r4 r5;obtain⟨r0,r1,r2,r3,r4,r5⟩:=X6.out w1 HB1.out;clear hb1;go_wp2_with (fail);refine(HP.out _ (H.out.ah HB1.out)).mono ?_;rintro e w2 ⟨rfl,hb2⟩;have HB2:=hid (HB1.out.trans (hb2.mono HB1.out.size));clear r0 r1 r2 r3 r4 r5;obtain⟨r0,r1,r2,r3,r4,r5⟩:=X6.out w2 HB2.out;clear hb2;go_wp2_with (fail);go_ret;exact⟨aj (by simp[aK,k3,k4]),HW.out.trans (HB2.out.mono HW.out.size)⟩
  ·go_enter Tryz.func67,Tryz.ntmps67
   go_wp2_with (fail);refine(HI.out _).mono ?_;rintro e w9 ⟨rfl,rfl⟩;go_wp2_with (fail);refine(HO.out _).mono ?_;rintro e w9 ⟨rfl,rfl⟩;go_wp2_with (fail);refine(HN.out _ (H.out.ah HB0.out)).mono ?_;rintro e w1 ⟨rfl,hb1⟩;have HB1:=hid (HB0.out.trans (hb1.mono HB0.out.size));clear r0 r1 r2 r3 r4 r5;obtain⟨r0,r1,r2,r3,r4,r5⟩:=X6.out w1 HB1.out;clear hb1;go_wp2_with (fail);refine(HP.out _ (H.out.ah HB1.out)).mono ?_;rintro e w2 ⟨rfl,hb2⟩;have HB2:=hid (HB1.out.trans (hb2.mono HB1.out.size));clear r0 r1 r2 r3 r4 r5;obtain⟨r0,r1,r2,r3,r4,r5⟩:=X6.out w2 HB2.out;clear hb2;go_wp2_with (fail);refine(HL.out _).mono ?_;rintro e w3 ⟨rfl,hb3⟩;have HB3:=hid (HB2.out.trans (hb3.mono HB2.out.size));clear r0 r1 r2 r3 r4 r5;obtain⟨r0,r1,r2,r3,r4,r5⟩:=X6.out w3 HB3.out;clear hb3;go_wp2_with (fail);go_ret;exact⟨aj (by simp[aK,k3,k4]),HW.out.trans (HB3.out.mono HW.out.size)⟩
 ·rcases k5:mM l with _ | _
  ·rw[k5]at HC
   go_enter Tryz.func67,Tryz.ntmps67;go_wp2_with (fail);refine(HI.out _).mono ?_;rintro e w9 ⟨rfl,rfl⟩;go_wp2_with (fail);refine(HO.out _).mono ?_;rintro e w9 ⟨rfl,rfl⟩;go_wp2_with (fail);refine(HN.out _ (H.out.ah HB0.out)).mono ?_;rintro e w1 ⟨rfl,hb1⟩;have HB1:=hid (HB0.out.trans (hb1.mono HB0.out.size));clear r0 r1 r2 r3 r4 r5;obtain⟨r0,r1,r2,r3,r4,r5⟩:=X6.out w1 HB1.out;clear hb1;go_wp2_with (fail);refine(HP.out _ (H.out.ah HB1.out)).mono ?_;rintro e w2 ⟨rfl,hb2⟩;have HB2:=hid (HB1.out.trans (hb2.mono HB1.out.size));clear r0 r1 r2 r3 r4 r5;obtain⟨r0,r1,r2,r3,r4,r5⟩:=X6.out w2 HB2.out;clear hb2;go_wp2_with (fail);refine(HC.out _ (H.out.ah HB2.out)).mono ?_;rintro e w3 ⟨rfl,hb3⟩;have HB3:=hid (HB2.out.trans (hb3.mono HB2.out.size));clear r0 r1 r2 r3 r4 r5;obtain⟨r0,r1,r2,r3,r4,r5⟩:=X6.out w3 HB3.out;clear hb3;go_wp2_with (fail);go_ret;exact⟨aj (by simp[aK,k5]),HW.out.trans (HB3.out.mono HW.out.size)⟩
  ·rw[k5]at HC
   rcases k2 with rfl | rfl
   ·go_enter Tryz.func67,Tryz.ntmps67
    go_wp2_with (fail);refine(HI.out _).mono ?_;rintro e w9 ⟨rfl,rfl⟩;go_wp2_with (fail);refine(HO.out _).mono ?_;rintro e w9 ⟨rfl,rfl⟩;go_wp2_with (fail);refine(HN.out _ (H.out.ah HB0.out)).mono ?_;rintro e w1 ⟨rfl,hb1⟩;have HB1:=hid (HB0.out.trans (hb1.mono HB0.out.size));clear r0 r1 r2 r3 r4 r5;obtain⟨r0,r1,r2,r3,r4,r5⟩:=X6.out w1 HB1.out;clear hb1;go_wp2_with (fail);refine(HP.out _ (H.out.ah HB1.out)).mono ?_;rintro e w2 ⟨rfl,hb2⟩;have HB2:=hid (HB1.out.trans (hb2.mono HB1.out.size));clear r0 r1 r2 r3 r4 r5;obtain⟨r0,r1,r2,r3,r4,r5⟩:=X6.out w2 HB2.out;clear hb2;go_wp2_with (fail);refine(HC.out _ (H.out.ah HB2.out)).mono ?_;rintro e w3 ⟨rfl,hb3⟩;have HB3:=hid (HB2.out.trans (hb3.mono HB2.out.size));clear r0 r1 r2 r3 r4 r5;obtain⟨r0,r1,r2,r3,r4,r5⟩:=X6.out w3 HB3.out;clear hb3;go_wp2_with (fail);go_ret;exact⟨aj (by simp[aK,k3,k4,k5]),HW.out.trans (HB3.out.mono HW.out.size)⟩
   ·go_enter Tryz.func67,Tryz.ntmps67
    go_wp2_with (fail);refine(HI.out _).mono ?_;rintro e w9 ⟨rfl,rfl⟩;go_wp2_with (fail);refine(HO.out _).mono ?_;rintro e w9 ⟨rfl,rfl⟩;go_wp2_with (fail);refine(HN.out _ (H.out.ah HB0.out)).mono ?_;rintro e w1 ⟨rfl,hb1⟩;have HB1:=hid (HB0.out.trans (hb1.mono HB0.out.size));clear r0 r1 r2 r3 r4 r5;obtain⟨r0,r1,r2,r3,r4,r5⟩:=X6.out w1 HB1.out;clear hb1;go_wp2_with (fail);refine(HP.out _ (H.out.ah HB1.out)).mono ?_;rintro e w2 ⟨rfl,hb2⟩;have HB2:=hid (HB1.out.trans (hb2.mono HB1.out.size));clear r0 r1 r2 r3 r4 r5;obtain⟨r0,r1,r2,r3,r4,r5⟩:=X6.out w2 HB2.out;clear hb2;go_wp2_with (fail);refine(HC.out _ (H.out.ah HB2.out)).mono ?_;rintro e w3 ⟨rfl,hb3⟩;have HB3:=hid (HB2.out.trans (hb3.mono HB2.out.size));clear r0 r1 r2 r3 r4 r5;obtain⟨r0,r1,r2,r3,r4,r5⟩:=X6.out w3 HB3.out;clear hb3;go_wp2_with (fail);refine(HL.out _).mono ?_;rintro e w4 ⟨rfl,hb4⟩;have HB4:=hid (HB3.out.trans (hb4.mono HB3.out.size));clear r0 r1 r2 r3 r4 r5;obtain⟨r0,r1,r2,r3,r4,r5⟩:=X6.out w4 HB4.out;clear hb4;go_wp2_with (fail);go_ret;exact⟨aj (by simp[aK,k3,k4,k5]),HW.out.trans (HB4.out.mono HW.out.size)⟩
def K5 (i m:Int) (l:List PT) (B:Nat) (w2:World) (iv:Value) (wr:World):Prop:=
 ∃k:Nat,k<=l.length/\iv = .int .i64 k/\KQ m l k/\(i=2->k<=1/\∀q∈l.take k,bh q=true)/\Below B w2 wr
theorem rW (i o m b d t u s:Int) (A:Option Addr) (n c:Nat) (l:List PT) (w:World) (h:RP w w.heap.size A n l) (hn:n<=maxLen) :
  Calls Tryz.prog 59 #[trm b d t u s A n c,.int .i64 i,.int .i64 o,.int .i64 m] w (dY (aK i o m b d t u s l) w):=by
 unfold maxLen at hn;have hlen:=h.1;subst hlen;have hbw:Below w.heap.size w (w.alloc (.cells (aR b d t u s A l.length c) 51)):=(Below.refl _ w).alloc (Nat.le_refl _) _;obtain⟨w0,hw0⟩:∃w0,w.alloc (.cells (aR b d t u s A l.length c) 51)=w0:=⟨_,rfl⟩;have X6:=hid (fun W (hb:Below w0.heap.size w0 W)=>show Boxed6 W w.heap.size b d t u s A l.length c from by rw[<- hw0]at hb;exact boxed6 hb);rw[hw0]at hbw;have HW:=hid hbw;have H:=hid (h.ah hbw);have HB0:=hid (Below.refl w0.heap.size w0);obtain⟨r0,r1,r2,r3,r4,r5⟩:=X6.out w0 (Below.refl _ _);clear h hbw;have HN:=hid (fun W (hW:RP W W.heap.size A l.length l)=>Dv b d t u s A l.length c l W hW hn);have HL:=hid (wN b d t u s A l.length c);by_cases k1:i=1\/i=2
 case neg=>
  have e1:(i == 1)=false:=by simp;omega
  have e2:(i == 2)=false:=by simp;omega
  go_enter Tryz.func59,Tryz.ntmps59;go_wp2_with (fail);go_ret;exact⟨aj (by simp[aK,k1]),HW.out.trans (HB0.out.mono HW.out.size)⟩
 by_cases k2:o=1\/o=2
 case neg=>
  have e1:(o == 1)=false:=by simp;omega
  have e2:(o == 2)=false:=by simp;omega
  rcases k1 with rfl | rfl;all_goals
   go_enter Tryz.func59,Tryz.ntmps59;go_wp2_with (fail);go_ret;exact⟨aj (by simp[aK,k2]),HW.out.trans (HB0.out.mono HW.out.size)⟩
 rcases k3:iE b d t u s l with _ | _
 case false=>
  rw[k3]at HN;rcases k1 with rfl | rfl <;> rcases k2 with rfl | rfl;all_goals
   go_enter Tryz.func59,Tryz.ntmps59;go_wp2_with (fail);refine(HN.out _ (H.out.ah HB0.out)).mono ?_;rintro e w1 ⟨rfl,hb1⟩;have HB1:=hid (HB0.out.trans (hb1.mono HB0.out.size));clear r0 r1 r2 r3 r4 r5;obtain⟨r0,r1,r2,r3,r4,r5⟩:=X6.out w1 HB1.out;clear hb1;go_wp2_with (fail);go_ret;exact⟨aj (by simp[aK,k3]),HW.out.trans (HB1.out.mono HW.out.size)⟩
 case true=>
 rw[k3]at HN;have K3:=hid k3;clear k3;rcases k1 with rfl | rfl <;> rcases k2 with rfl | rfl
 ·go_enter Tryz.func59,Tryz.ntmps59
  go_wp2_with (fail);refine(HN.out _ (H.out.ah HB0.out)).mono ?_;rintro e w1 ⟨rfl,hb1⟩;have HB1:=hid (HB0.out.trans (hb1.mono HB0.out.size));clear r0 r1 r2 r3 r4 r5;obtain⟨r0,r1,r2,r3,r4,r5⟩:=X6.out w1 HB1.out;clear hb1;go_wp2_with (fail)
  go_loopw [9] (fun iv wr=>K5 1 m l w0.heap.size w0 iv wr) (fun iv _=>l.length-(intOf iv).toNat)
  case atStart=>exact⟨0,Nat.zero_le _,rfl,fun q hq=>by simp at hq,fun _=>⟨Nat.zero_le _,fun q hq=>by simp at hq⟩,HB1.out⟩
  case round=>
   obtain⟨k,hk,rfl,hA,hS,hb⟩:=hrel;have HA:=hid hA;have HS:=hid hS;have HB:=hid hb;have hz:=hb.size;obtain⟨q0,q1,q2,q3,q4,q5⟩:=X6.out wr hb;clear r0 r1 r2 r3 r4 r5;by_cases hlt:k<l.length
   ·obtain⟨bb,off,a',d',t',u',hA',hbB,hlk,c1,c2,c3,c4⟩:=(H.out.below hb).at_ hlt
    have HLK:=hid hlk;have HR:=hid (cw a' d' t' u' m);have HC2:=hid (show∀W,Below wr.heap.size wr W->W.cell? ⟨bb,off+k*4,none⟩=some (.int .i64 a')/\W.cell? ⟨bb,off+k*4+1,none⟩=some (.int .i64 d')/\W.cell? ⟨bb,off+k*4+2,none⟩=some (.int .i64 t')/\W.cell? ⟨bb,off+k*4+3,none⟩=some (.int .i64 u')from fun W hW=>⟨(hW.cell (by simp only;omega)).trans c1,(hW.cell (by simp only;omega)).trans c2,(hW.cell (by simp only;omega)).trans c3,(hW.cell (by simp only;omega)).trans c4⟩);subst hA';clear hA hS hb hlk;rcases hr:aT a' d' t' u' m with _ | _
    ·rw[hr]at HR
     have HRR:=hid hr;clear hr;go_wp2_with (fail);refine(HR.out _).mono ?_;rintro e w2 ⟨rfl,hb2⟩;go_wp2_with (fail);go_ret;exact⟨aj (by simp[aK,dA HLK.out HRR.out]),HW.out.trans ((HB.out.trans (hb2.mono hz)).mono HW.out.size)⟩
    ·rw[hr]at HR
     have HRR:=hid hr;clear hr;go_wp2_with (fail);refine(HR.out _).mono ?_;rintro e w2 ⟨rfl,hb2⟩;go_wp2_with (fail)
     go_roundw
     case rel=>exact⟨k+1,by omega,by go_num,gq HA.out HLK.out HRR.out,fun e=>absurd e (by decide),HB.out.trans (hb2.mono hz)⟩
     case measure=>simp[intOf];omega
   ·have hkl:k=l.length:=by omega
    subst hkl;have HP:=hid (dQ hA);clear hA hS hb;go_wp2_with (fail);go_ret;exact⟨aj (by simp[aK,K3.out,HP.out]),HW.out.trans (HB.out.mono HW.out.size)⟩
 ·go_enter Tryz.func59,Tryz.ntmps59
  go_wp2_with (fail);refine(HN.out _ (H.out.ah HB0.out)).mono ?_;rintro e w1 ⟨rfl,hb1⟩;have HB1:=hid (HB0.out.trans (hb1.mono HB0.out.size));clear r0 r1 r2 r3 r4 r5;obtain⟨r0,r1,r2,r3,r4,r5⟩:=X6.out w1 HB1.out;clear hb1;go_wp2_with (fail)
  go_loopw [9] (fun iv wr=>K5 1 m l w0.heap.size w0 iv wr) (fun iv _=>l.length-(intOf iv).toNat)
  case atStart=>exact⟨0,Nat.zero_le _,rfl,fun q hq=>by simp at hq,fun _=>⟨Nat.zero_le _,fun q hq=>by simp at hq⟩,HB1.out⟩
  case round=>
   obtain⟨k,hk,rfl,hA,hS,hb⟩:=hrel;have HA:=hid hA;have HS:=hid hS;have HB:=hid hb;have hz:=hb.size;obtain⟨q0,q1,q2,q3,q4,q5⟩:=X6.out wr hb;clear r0 r1 r2 r3 r4 r5;by_cases hlt:k<l.length
   ·obtain⟨bb,off,a',d',t',u',hA',hbB,hlk,c1,c2,c3,c4⟩:=(H.out.below hb).at_ hlt
    have HLK:=hid hlk;have HR:=hid (cw a' d' t' u' m);have HC2:=hid (show∀W,Below wr.heap.size wr W->W.cell? ⟨bb,off+k*4,none⟩=some (.int .i64 a')/\W.cell? ⟨bb,off+k*4+1,none⟩=some (.int .i64 d')/\W.cell? ⟨bb,off+k*4+2,none⟩=some (.int .i64 t')/\W.cell? ⟨bb,off+k*4+3,none⟩=some (.int .i64 u')from fun W hW=>⟨(hW.cell (by simp only;omega)).trans c1,(hW.cell (by simp only;omega)).trans c2,(hW.cell (by simp only;omega)).trans c3,(hW.cell (by simp only;omega)).trans c4⟩);subst hA';clear hA hS hb hlk;rcases hr:aT a' d' t' u' m with _ | _
    ·rw[hr]at HR
     have HRR:=hid hr;clear hr;go_wp2_with (fail);refine(HR.out _).mono ?_;rintro e w2 ⟨rfl,hb2⟩;go_wp2_with (fail);go_ret;exact⟨aj (by simp[aK,dA HLK.out HRR.out]),HW.out.trans ((HB.out.trans (hb2.mono hz)).mono HW.out.size)⟩
    ·rw[hr]at HR
     have HRR:=hid hr;clear hr;go_wp2_with (fail);refine(HR.out _).mono ?_;rintro e w2 ⟨rfl,hb2⟩;go_wp2_with (fail)
     go_roundw
     case rel=>exact⟨k+1,by omega,by go_num,gq HA.out HLK.out HRR.out,fun e=>absurd e (by decide),HB.out.trans (hb2.mono hz)⟩
     case measure=>simp[intOf];omega
   ·have hkl:k=l.length:=by omega
    subst hkl;have HP:=hid (dQ hA);clear hA hS hb;go_wp2_with (fail);refine(HL.out _).mono ?_;rintro e w3 ⟨rfl,hb3⟩;go_wp2_with (fail);go_ret;exact⟨aj (by simp[aK,K3.out,HP.out]),HW.out.trans ((HB.out.trans (hb3.mono hz)).mono HW.out.size)⟩
 ·go_enter Tryz.func59,Tryz.ntmps59
  go_wp2_with (fail);refine(HN.out _ (H.out.ah HB0.out)).mono ?_;rintro e w1 ⟨rfl,hb1⟩;have HB1:=hid (HB0.out.trans (hb1.mono HB0.out.size));clear r0 r1 r2 r3 r4 r5;obtain⟨r0,r1,r2,r3,r4,r5⟩:=X6.out w1 HB1.out;clear hb1;go_wp2_with (fail)
  go_loopw [9] (fun iv wr=>K5 2 m l w0.heap.size w0 iv wr) (fun iv _=>l.length-(intOf iv).toNat)
  case atStart=>exact⟨0,Nat.zero_le _,rfl,fun q hq=>by simp at hq,fun _=>⟨Nat.zero_le _,fun q hq=>by simp at hq⟩,HB1.out⟩
  case round=>
   obtain⟨k,hk,rfl,hA,hS,hb⟩:=hrel;have HA:=hid hA;have HS:=hid hS;have HB:=hid hb;have hz:=hb.size;obtain⟨q0,q1,q2,q3,q4,q5⟩:=X6.out wr hb;clear r0 r1 r2 r3 r4 r5;by_cases hlt:k<l.length
   ·obtain⟨bb,off,a',d',t',u',hA',hbB,hlk,c1,c2,c3,c4⟩:=(H.out.below hb).at_ hlt
    have HLK:=hid hlk;have HR:=hid (cw a' d' t' u' m);have HT:=hid (tG a' d' t' u');have HC2:=hid (show∀W,Below wr.heap.size wr W->W.cell? ⟨bb,off+k*4,none⟩=some (.int .i64 a')/\W.cell? ⟨bb,off+k*4+1,none⟩=some (.int .i64 d')/\W.cell? ⟨bb,off+k*4+2,none⟩=some (.int .i64 t')/\W.cell? ⟨bb,off+k*4+3,none⟩=some (.int .i64 u')from fun W hW=>⟨(hW.cell (by simp only;omega)).trans c1,(hW.cell (by simp only;omega)).trans c2,(hW.cell (by simp only;omega)).trans c3,(hW.cell (by simp only;omega)).trans c4⟩);subst hA';clear hA hS hb hlk;rcases hr:aT a' d' t' u' m with _ | _
    ·rw[hr]at HR
     have HRR:=hid hr;clear hr;go_wp2_with (fail);refine(HR.out _).mono ?_;rintro e w2 ⟨rfl,hb2⟩;go_wp2_with (fail);go_ret;exact⟨aj (by simp[aK,dA HLK.out HRR.out]),HW.out.trans ((HB.out.trans (hb2.mono hz)).mono HW.out.size)⟩
    ·rw[hr]at HR
     have HRR:=hid hr;clear hr;rcases k with _ | k
     ·simp only[Nat.zero_mul,Nat.add_zero]at c1 c2 c3 c4
      rcases ht:bh (a',d',t',u')with _ | _
      ·rw[ht]at HT
       have HTT:=hid ht;clear ht;go_wp2_with (fail);refine(HR.out _).mono ?_;rintro e w2 ⟨rfl,hb2⟩;obtain⟨s1,s2,s3,s4⟩:=HC2.out _ hb2;have hbx:=HB.out.trans (hb2.mono hz);obtain⟨z0,z1,z2,z3,z4,z5⟩:=X6.out w2 hbx;clear q0 q1 q2 q3 q4 q5 c1 c2 c3 c4;have HBX:=hid hbx;clear hbx hb2;simp only[Nat.zero_mul,Nat.add_zero]at s1 s2 s3 s4;go_wp2_with (fail);refine(HT.out _).mono ?_;rintro e w3 ⟨rfl,hb3⟩;go_wp2_with (fail);go_ret;exact⟨aj (by simp[aK,q9 HLK.out HTT.out]),HW.out.trans ((HBX.out.trans (hb3.mono HBX.out.size)).mono HW.out.size)⟩
      ·rw[ht]at HT
       have HTT:=hid ht;clear ht;go_wp2_with (fail);refine(HR.out _).mono ?_;rintro e w2 ⟨rfl,hb2⟩;obtain⟨s1,s2,s3,s4⟩:=HC2.out _ hb2;have hbx:=HB.out.trans (hb2.mono hz);obtain⟨z0,z1,z2,z3,z4,z5⟩:=X6.out w2 hbx;clear q0 q1 q2 q3 q4 q5 c1 c2 c3 c4;have HBX:=hid hbx;clear hbx hb2;simp only[Nat.zero_mul,Nat.add_zero]at s1 s2 s3 s4;go_wp2_with (fail);refine(HT.out _).mono ?_;rintro e w3 ⟨rfl,hb3⟩;go_wp2_with (fail)
       go_roundw
       case rel=>exact⟨0+1,by omega,by go_num,gq HA.out HLK.out HRR.out,fun _=>⟨Nat.le_refl _,fun q hq=>by
        obtain⟨hl,e⟩:=HLK.out;rw[List.take_succ_eq_append_getElem hl,List.mem_append]at hq;rcases hq with hq | hq
        ·simp at hq
        ·rw[List.mem_singleton,e]at hq
         subst hq;exact HTT.out⟩,HBX.out.trans (hb3.mono HBX.out.size)⟩
       case measure=>simp[intOf];omega
     ·have hkd:decide ((0:Int)<((k+1:Nat):Int))=true:=by simp
      go_wp2_with (fail);refine(HR.out _).mono ?_;rintro e w2 ⟨rfl,hb2⟩;go_wp2_with (fail);go_ret;exact⟨aj (by simp[aK,jG (l:=l) (by omega)]),HW.out.trans ((HB.out.trans (hb2.mono hz)).mono HW.out.size)⟩
   ·have hkl:k=l.length:=by omega
    subst hkl;have HP:=hid (dQ hA);have HCB:=hid (vA (hS rfl).1 (fun q hq=>(hS rfl).2 q (by rw[List.take_length];exact hq)));clear hA hS hb;go_wp2_with (fail);go_ret;exact⟨aj (by simp[aK,K3.out,HP.out,HCB.out]),HW.out.trans (HB.out.mono HW.out.size)⟩
 ·go_enter Tryz.func59,Tryz.ntmps59
  go_wp2_with (fail);refine(HN.out _ (H.out.ah HB0.out)).mono ?_;rintro e w1 ⟨rfl,hb1⟩;have HB1:=hid (HB0.out.trans (hb1.mono HB0.out.size));clear r0 r1 r2 r3 r4 r5;obtain⟨r0,r1,r2,r3,r4,r5⟩:=X6.out w1 HB1.out;clear hb1;go_wp2_with (fail)
  go_loopw [9] (fun iv wr=>K5 2 m l w0.heap.size w0 iv wr) (fun iv _=>l.length-(intOf iv).toNat)
  case atStart=>exact⟨0,Nat.zero_le _,rfl,fun q hq=>by simp at hq,fun _=>⟨Nat.zero_le _,fun q hq=>by simp at hq⟩,HB1.out⟩
  case round=>
   obtain⟨k,hk,rfl,hA,hS,hb⟩:=hrel;have HA:=hid hA;have HS:=hid hS;have HB:=hid hb;have hz:=hb.size;obtain⟨q0,q1,q2,q3,q4,q5⟩:=X6.out wr hb;clear r0 r1 r2 r3 r4 r5;by_cases hlt:k<l.length
   ·obtain⟨bb,off,a',d',t',u',hA',hbB,hlk,c1,c2,c3,c4⟩:=(H.out.below hb).at_ hlt
    have HLK:=hid hlk;have HR:=hid (cw a' d' t' u' m);have HT:=hid (tG a' d' t' u');have HC2:=hid (show∀W,Below wr.heap.size wr W->W.cell? ⟨bb,off+k*4,none⟩=some (.int .i64 a')/\W.cell? ⟨bb,off+k*4+1,none⟩=some (.int .i64 d')/\W.cell? ⟨bb,off+k*4+2,none⟩=some (.int .i64 t')/\W.cell? ⟨bb,off+k*4+3,none⟩=some (.int .i64 u')from fun W hW=>⟨(hW.cell (by simp only;omega)).trans c1,(hW.cell (by simp only;omega)).trans c2,(hW.cell (by simp only;omega)).trans c3,(hW.cell (by simp only;omega)).trans c4⟩);subst hA';clear hA hS hb hlk;rcases hr:aT a' d' t' u' m with _ | _
    ·rw[hr]at HR
     have HRR:=hid hr;clear hr;go_wp2_with (fail);refine(HR.out _).mono ?_;rintro e w2 ⟨rfl,hb2⟩;go_wp2_with (fail);go_ret;exact⟨aj (by simp[aK,dA HLK.out HRR.out]),HW.out.trans ((HB.out.trans (hb2.mono hz)).mono HW.out.size)⟩
    ·rw[hr]at HR
     have HRR:=hid hr;clear hr;rcases k with _ | k
     ·simp only[Nat.zero_mul,Nat.add_zero]at c1 c2 c3 c4
      rcases ht:bh (a',d',t',u')with _ | _
      ·rw[ht]at HT
       have HTT:=hid ht;clear ht;go_wp2_with (fail);refine(HR.out _).mono ?_;rintro e w2 ⟨rfl,hb2⟩;obtain⟨s1,s2,s3,s4⟩:=HC2.out _ hb2;have hbx:=HB.out.trans (hb2.mono hz);obtain⟨z0,z1,z2,z3,z4,z5⟩:=X6.out w2 hbx;clear q0 q1 q2 q3 q4 q5 c1 c2 c3 c4;have HBX:=hid hbx;clear hbx hb2;simp only[Nat.zero_mul,Nat.add_zero]at s1 s2 s3 s4;go_wp2_with (fail);refine(HT.out _).mono ?_;rintro e w3 ⟨rfl,hb3⟩;go_wp2_with (fail);go_ret;exact⟨aj (by simp[aK,q9 HLK.out HTT.out]),HW.out.trans ((HBX.out.trans (hb3.mono HBX.out.size)).mono HW.out.size)⟩
      ·rw[ht]at HT
       have HTT:=hid ht;clear ht;go_wp2_with (fail);refine(HR.out _).mono ?_;rintro e w2 ⟨rfl,hb2⟩;obtain⟨s1,s2,s3,s4⟩:=HC2.out _ hb2;have hbx:=HB.out.trans (hb2.mono hz);obtain⟨z0,z1,z2,z3,z4,z5⟩:=X6.out w2 hbx;clear q0 q1 q2 q3 q4 q5 c1 c2 c3 c4;have HBX:=hid hbx;clear hbx hb2;simp only[Nat.zero_mul,Nat.add_zero]at s1 s2 s3 s4;go_wp2_with (fail);refine(HT.out _).mono ?_;rintro e w3 ⟨rfl,hb3⟩;go_wp2_with (fail)
       go_roundw
       case rel=>exact⟨0+1,by omega,by go_num,gq HA.out HLK.out HRR.out,fun _=>⟨Nat.le_refl _,fun q hq=>by
        obtain⟨hl,e⟩:=HLK.out;rw[List.take_succ_eq_append_getElem hl,List.mem_append]at hq;rcases hq with hq | hq
        ·simp at hq
        ·rw[List.mem_singleton,e]at hq
         subst hq;exact HTT.out⟩,HBX.out.trans (hb3.mono HBX.out.size)⟩
       case measure=>simp[intOf];omega
     ·have hkd:decide ((0:Int)<((k+1:Nat):Int))=true:=by simp
      go_wp2_with (fail);refine(HR.out _).mono ?_;rintro e w2 ⟨rfl,hb2⟩;go_wp2_with (fail);go_ret;exact⟨aj (by simp[aK,jG (l:=l) (by omega)]),HW.out.trans ((HB.out.trans (hb2.mono hz)).mono HW.out.size)⟩
   ·have hkl:k=l.length:=by omega
    subst hkl;have HP:=hid (dQ hA);have HCB:=hid (vA (hS rfl).1 (fun q hq=>(hS rfl).2 q (by rw[List.take_length];exact hq)));clear hA hS hb;go_wp2_with (fail);refine(HL.out _).mono ?_;rintro e w3 ⟨rfl,hb3⟩;go_wp2_with (fail);go_ret;exact⟨aj (by simp[aK,K3.out,HP.out,HCB.out]),HW.out.trans ((HB.out.trans (hb3.mono hz)).mono HW.out.size)⟩
end Go.Proofs.YtbdmcibcenhpnaaGreatDoor.Te
namespace Go.Proofs.YtbdmcibcenhpnaaGreatDoor.Fi
set_option maxHeartbeats 64000000
open Go Go.RowKit Sp Pa Te
open Go.Lib (hid)
def Kc (l:List PT) (x:Int) (w:World) (n i:Value) (wr:World):Prop:=∃k:Nat,k<=l.length/\i = .int .i64 k/\n = .int .i64 (dJ (l.take k) x)/\Below w.heap.size w wr
theorem pI (A:Option Addr) (m c:Nat) (l:List PT) (x:Int) (w:World) (h:RP w w.heap.size A m l) (hm:m<=1000) (hb:BitsAll l) (h0:0<=x) (h1:x<=2097151) :
  Calls Tryz.prog 126 #[.slice A m c,.int .i64 x] w (Jc (dJ l x) w):=by
 have hlen:=h.1;subst hlen;have H:=hid h;have HBB:=hid hb;clear h hb;go_enter Tryz.func126,Tryz.ntmps126;go_wp2_with (fail)
 go_loopw [5,12] (fun n i wr=>Kc l x w n i wr) (fun _ i _=>l.length-(intOf i).toNat)
 case atStart=>exact⟨0,Nat.zero_le _,rfl,rfl,Below.refl _ _⟩
 case round=>
  obtain⟨k,hk,rfl,rfl,hb⟩:=hrel;have hz:=hb.size;have HB:=hid hb;have htb:=bk (ps:=l.take k) (fun q hq=>HBB.out q (List.mem_of_mem_take hq)) x;have hlt4:(l.take k).length<=1000:=by rw[List.length_take];omega
  obtain⟨acc,hacc⟩:∃acc,dJ (l.take k) x=acc:=⟨_,rfl⟩;have OD:=hid hacc;rw[hacc]at htb ⊢;clear hacc;by_cases hlt:k<l.length
  ·obtain⟨b,off,a,d,t,u,hA,hbB,hlk,c0,c1,c2,c3⟩:=(H.out.ah hb).at_ hlt
   subst hA;have hbt:Bits d t u:=by
    obtain⟨hl,e⟩:=hlk;have:=HBB.out l[k] (List.getElem_mem hlt);rw[e]at this;exact this
   have HX:=hid (fun W=>yR a d t u x W (by omega));have hp:Gi d t u x=(dc d t u x,true):=if_pos ⟨hbt,h0,h1⟩;rw[hp]at HX;have hvb:=bw hbt x;have HN:=hid (show dJ (l.take (k+1)) x=acc+dc d t u x from by
    obtain⟨hl,e⟩:=hlk;rw[List.take_succ_eq_append_getElem hlt,kP,jZ,e,OD.out])
   obtain⟨v,hv⟩:∃v,dc d t u x=v:=⟨_,rfl⟩;rw[hv]at HX HN hvb;obtain⟨w5,hw5⟩:∃w5,wr.alloc (.cells #[.int .i64 a,.int .i64 d,.int .i64 t,.int .i64 u] 94)=w5:=⟨_,rfl⟩;have h45:Below wr.heap.size wr w5:=by rw[<- hw5];exact(Below.refl _ _).alloc (Nat.le_refl _) _
   obtain⟨z0,z1,z2,z3⟩:w5.cell? ⟨wr.heap.size,0,none⟩=some (.int .i64 a)/\w5.cell? ⟨wr.heap.size,1,none⟩=some (.int .i64 d)/\w5.cell? ⟨wr.heap.size,2,none⟩=some (.int .i64 t)/\w5.cell? ⟨wr.heap.size,3,none⟩=some (.int .i64 u):=by rw[<- hw5];exact boxed4 (Below.refl _ _)
   have HB5:=hid (HB.out.trans (h45.mono HB.out.size));have hz5:w.heap.size<=w5.heap.size:=HB5.out.size;have s1:IntKind.i64.wrap (acc+v)=acc+v:=IntWalk.i64_in _ (by omega);clear hv hp hlk hb h45 hbt;go_wp2_with (fail);refine(HX.out _).mono ?_;rintro e w6 ⟨rfl,hb6⟩;have HB6:=hid (HB5.out.trans (hb6.mono hz5));clear hb6;go_wp2_with (fail)
   go_roundw
   case rel=>exact⟨k+1,by omega,by go_num,by rw[HN.out],HB6.out⟩
   case measure=>simp[intOf];omega
  ·have hkl:k=l.length:=by omega
   have HF:=hid (show acc=dJ l x from by rw[<- OD.out,hkl,List.take_length]);clear hb;go_wp2_with (fail);go_ret;exact⟨Dw HF.out,HB.out⟩
end Go.Proofs.YtbdmcibcenhpnaaGreatDoor.Fi
namespace Go.Proofs.YtbdmcibcenhpnaaGreatDoor.Pa
set_option maxHeartbeats 64000000
open Go Go.RowKit Sp
open Go.Lib (hid)
def mF (d t lo hi:Int):List Span:=
 if pw t-1<=hi / pw d-lo / pw d then[(0,pw t-1)]
 else if lo / pw d % pw t<=hi / pw d % pw t then[(lo / pw d % pw t,hi / pw d % pw t)]else[(lo / pw d % pw t,pw t-1),(0,hi / pw d % pw t)]
theorem y8 (d t lo hi:Int):(mF d t lo hi).length<=2:=by unfold mF;split;simp;split <;> simp
theorem yZ {d t lo hi:Int} (h:lo<=hi) (ht2:t<=21) (y:Int):mem (mF d t lo hi) y↔∃x,lo<=x/\x<=hi/\x / pw d % pw t=y:=by
 have hD:=aU d;have hT:=aU t;have hT2:=mH ht2 pw21;have hle:lo / pw d<=hi / pw d:=Int.ediv_le_ediv (by omega) h;have key:(∃x,lo<=x/\x<=hi/\x / pw d % pw t=y)↔∃z,lo / pw d<=z/\z<=hi / pw d/\z % pw t=y:=by
  constructor
  ·rintro⟨x,a,b,c⟩
   have:=(sK hD h (x / pw d)).1 ⟨x,a,b,rfl⟩;exact⟨x / pw d,this.1,this.2,c⟩
  ·rintro⟨z,a,b,c⟩
   obtain⟨x,p,q,r⟩:=(sK hD h z).2 ⟨a,b⟩;exact⟨x,p,q,by rw[r];exact c⟩
 rw[key];have m1:=mod_lt (lo / pw d) t;have m2:=mod_lt (hi / pw d) t;unfold mF;by_cases hw:pw t-1<=hi / pw d-lo / pw d
 ·rw[if_pos hw,jB hT hw,aN]
  unfold Rng;simp only;omega
 ·rw[if_neg hw,GX hT hle (by omega)]
  by_cases hc:lo / pw d % pw t<=hi / pw d % pw t
  ·rw[if_pos hc,if_pos hc,aN]
   unfold Rng;simp only;omega
  ·rw[if_neg hc,if_neg hc]
   show mem ([(lo / pw d % pw t,pw t-1)]++[(0,hi / pw d % pw t)]) y↔_;rw[mem_append,aN,aN];unfold Rng;simp only;omega
attribute [local go_sem] jw
theorem tF {w w':World} (h:Below w.heap.size w w'):w.grownBy w' none:=⟨h.os,h.tape,h.output,h.size,fun k hk _=>h.block k hk⟩
theorem zU {w w':World} {base:Nat} {v:Value} {xs:List Span} (h:av w base v xs) (hb:Below w.heap.size w w'):av w' base v xs:=World.ownsRow.kept h (tF hb) (by cases v.ownBlock <;> simp)
theorem Ce (w:World) (x y z v:Value) (t:TypeId):∀j u,[x,y,z,v][j]? = some u->(w.alloc (.cells #[x,y,z,v] t)).cell? ((⟨w.heap.size,0,none⟩:Addr).add j)=some u:=by
 intro j u hj
 match j,hj with
 | 0,hj=>simp at hj;subst hj;simp[Addr.add]
 | 1,hj=>simp at hj;subst hj;simp[Addr.add]
 | 2,hj=>simp at hj;subst hj;simp[Addr.add]
 | 3,hj=>simp at hj;subst hj;simp[Addr.add]
 | j+4,hj=>simp at hj
theorem C6 (base:Nat) (v:Value) (xs:List Span) (a d t u lo hi:Int) (w:World) (hown:av w base v xs) (hbase:base<=w.heap.size) (hlen:xs.length<=1099511627776) (hb:Bits d t u) (h0:0<=lo) (h1:lo<=hi) (h2:hi<=2097151) :
  Calls Tryz.prog 117 #[v,prt a d t u,.agg #[.int .i64 lo,.int .i64 hi]] w (vI w base (xs++mF d t lo hi)):=by
 obtain⟨i0,hi0,hz0,hz1,hz2⟩:=info_parts bQ;obtain⟨b1,b2,b3,b4,b5,b6,b7⟩:=hb;have l1:=kB (d:=d) h0;have l2:=kB (d:=d) (x:=hi) (by omega);have hT:=aU t;have hT2:=mH b4 pw21;have m1:=mod_lt (lo / pw d) t;have m2:=mod_lt (hi / pw d) t;have hle:lo / pw d<=hi / pw d:=Int.ediv_le_ediv (by have:=aU d;omega) h1;have BL1:=oT (lo / pw d) t l1.1 (by omega) (by omega);have BL2:=oT (hi / pw d) t l2.1 (by omega) (by omega);have HT:=hid (show mF d t lo hi=if pw t-1<=hi / pw d-lo / pw d then[(0,pw t-1)]else if lo / pw d % pw t<=hi / pw d % pw t then[(lo / pw d % pw t,hi / pw d % pw t)]else[(lo / pw d % pw t,pw t-1),(0,hi / pw d % pw t)]from rfl);have HM:=hid (uF a d t u b3 b4);have HS1:=hid (jw d);have HO:=hid hown;have c1:d<=64:=by omega
 clear b7 hown
 generalize hL:lo / pw d=L at *
 generalize hH:hi / pw d=H at *
 generalize hP:pw t=T at *
 generalize hL2:L % T=L2 at *
 generalize hH2:H % T=H2 at *
 have HL:=hid hL;have HH:=hid hH;have B1:=hid BL1;have B2:=hid BL2;clear hL hH hP hL2 hH2 BL1 BL2;go_enter Tryz.func117,Tryz.ntmps117;go_wp2_with (fail)
 go_region_held3 (fun w'=>w'.cell? ⟨w.heap.size,0,none⟩=some (.int .i64 a)/\w'.cell? ⟨w.heap.size,1,none⟩=some (.int .i64 d)/\w'.cell? ⟨w.heap.size,2,none⟩=some (.int .i64 t)/\w'.cell? ⟨w.heap.size,3,none⟩=some (.int .i64 u)/\w'.cell? ⟨w.heap.size+1,0,none⟩=some (.int .i64 lo)/\w'.cell? ⟨w.heap.size+1,1,none⟩=some (.int .i64 hi))
  (first | go_keep | (go_split_ands;refine⟨?_,?_,?_,?_,?_,?_⟩;all_goals (rw[hb2.cell (by simp <;> omega)];simp)))
  (first | (go_at_call 131;refine(HM.out _).mono ?_;rintro e w2 ⟨rfl,hb2⟩))
 simp only[HL.out,HH.out];have hbB:Below w.heap.size w w2:=(((Below.refl _ w).alloc (Nat.le_refl _) _).alloc (by simp) _).drew.trans (hb2.mono (by simp;omega));have HO2:=hid (zU HO.out hbB);have I4:base<=w2.heap.size:=by have:=hbB.size;omega
 have HBB:=hid (hbB.mono hbase);clear hb2 hbB;by_cases q1:T-1<=H-L
 ·have HX:=hid (HT.out.trans (if_pos q1))
  go_wp2_with (at_builtin;go_must (refine wpList_append_own_at _ rfl _ _ 48 rfl base 47 i0 _ 2 16 Tryz.underlying48 hi0 hz0 hz1 hz2 rfl (by decide) v xs.length (flat xs) rfl (HO2.out.alloc _) ⟨w2.heap.size,0,none⟩ 1 1 [.int .i64 0,.int .i64 (T-1)] rfl rfl (bt _ _ _ _) ?c2 ?c3 ?c4 ?c5 ?_))
  case c2=>first | exact⟨rfl,rfl⟩ | simp[Value.oneCell']
  case c3=>simp only[maxLen];omega
  case c4=>omega
  case c5=>first | omega | (simp;omega)
  intro v1 w3 hown1 hg1 _ _;have HB3:=hid ((HBB.out.alloc I4 _).grown hg1 (by simp;omega) (cA HO2.out));go_wp2_with (fail);go_ret;refine⟨v1,rfl,?_,HB3.out⟩;rw[HX.out];unfold av;rw[aA,List.length_append];exact hown1
 ·have hx:=HT.out.trans (if_neg q1)
  by_cases q2:L2<=H2
  ·have HX:=hid (hx.trans (if_pos q2))
   clear hx;have e1:=B1.out;have e2:=B2.out;go_wp2_with (at_builtin;go_must (refine wpList_append_own_at _ rfl _ _ 48 rfl base 47 i0 _ 2 16 Tryz.underlying48 hi0 hz0 hz1 hz2 rfl (by decide) v xs.length (flat xs) rfl (HO2.out.alloc _) ⟨w2.heap.size,0,none⟩ 1 1 [.int .i64 L2,.int .i64 H2] rfl rfl (bt _ _ _ _) ?c2 ?c3 ?c4 ?c5 ?_))
   case c2=>first | exact⟨rfl,rfl⟩ | simp[Value.oneCell']
   case c3=>simp only[maxLen];omega
   case c4=>omega
   case c5=>first | omega | (simp;omega)
   intro v1 w3 hown1 hg1 _ _;have HB3:=hid ((HBB.out.alloc I4 _).grown hg1 (by simp;omega) (cA HO2.out));go_wp2_with (fail);go_ret;refine⟨v1,rfl,?_,HB3.out⟩;rw[HX.out];unfold av;rw[aA,List.length_append];exact hown1
  ·have HX:=hid (hx.trans (if_neg q2))
   clear hx;have e1:=B1.out;have e2:=B2.out;go_wp2_with (at_builtin;go_must (refine wpList_append_own_at _ rfl _ _ 48 rfl base 47 i0 _ 2 16 Tryz.underlying48 hi0 hz0 hz1 hz2 rfl (by decide) v xs.length (flat xs) rfl (HO2.out.alloc _) ⟨w2.heap.size,0,none⟩ 2 2 [.int .i64 L2,.int .i64 (T-1),.int .i64 0,.int .i64 H2] rfl rfl (Ce _ _ _ _ _ _) ?c2 ?c3 ?c4 ?c5 ?_))
   case c2=>first | exact⟨rfl,rfl⟩ | simp[Value.oneCell']
   case c3=>simp only[maxLen];omega
   case c4=>omega
   case c5=>first | omega | (simp;omega)
   intro v1 w3 hown1 hg1 _ _;have HB3:=hid ((HBB.out.alloc I4 _).grown hg1 (by simp;omega) (cA HO2.out));go_wp2_with (fail);go_ret;refine⟨v1,rfl,?_,HB3.out⟩;rw[HX.out];unfold av;rw[aA,List.length_append];exact hown1
end Go.Proofs.YtbdmcibcenhpnaaGreatDoor.Pa
