import Derived.Test.YtbdmcibcenhpnaaGreatDoorF15
import Derived.Test.YtbdmcibcenhpnaaGreatDoorF20
set_option maxRecDepth 100000
namespace Go.Proofs.YtbdmcibcenhpnaaGreatDoor.Sh
set_option maxHeartbeats 64000000
open Go Go.RowKit Go.Shelf Sp Pa Te
open Go.Lib (hid)
attribute [local go_sem] Oper.semAt_some
def RI (w:World) (B:Nat) (A:Option Addr) (n:Nat) (l:List Int):Prop:=
 l.length=n/\(0<n->∃b off,A=some ⟨b,off,none⟩/\b<B/\∀(j:Nat) (h:j<l.length),w.cell? ⟨b,off+j,none⟩=some (.int .i64 l[j]))
theorem RI.dS (w:World) (B:Nat) (A:Option Addr):RI w B A 0 []:=⟨rfl,fun h=>absurd h (by omega)⟩
theorem RI.ah {w w':World} {A:Option Addr} {n:Nat} {l:List Int} (h:RI w w.heap.size A n l) (hb:Below w.heap.size w w'):RI w' w'.heap.size A n l:=
 ⟨h.1,fun hn=>by
  obtain⟨b,off,e,hlt,hc⟩:=h.2 hn;exact⟨b,off,e,by have:=hb.size;omega,fun j hj=>(hb.cell hlt).trans (hc j hj)⟩⟩
theorem uo {Kp:World->World->Prop} {Safe:World->Nat->Prop} {Good:World->Prop} (K:gA Kp Safe Good) {W W':World} {B n:Nat} {A:Option Addr} {l:List Int} (h:RI W B A n l) (hk:Kp W W') (hx:0<n->∀b off,A=some ⟨b,off,none⟩->Safe W b):RI W' B A n l:=
 ⟨h.1,fun hn=>by
  obtain⟨b,off,e,hb,hc⟩:=h.2 hn;exact⟨b,off,e,hb,fun j hj=>K.cell hk (hx hn b off e) (hc j hj)⟩⟩
theorem Dt {Kp:World->World->Prop} {Safe:World->Nat->Prop} {Good:World->Prop} (K:gA Kp Safe Good) {W W':World} {B n:Nat} {A:Option Addr} {l:List PT} (h:RP W B A n l) (hk:Kp W W') (hx:0<n->∀b off,A=some ⟨b,off,none⟩->Safe W b):RP W' B A n l:=
 ⟨h.1,fun hn=>by
  obtain⟨b,off,e,hb,hc⟩:=h.2 hn;exact⟨b,off,e,hb,fun j hj=>⟨K.cell hk (hx hn b off e) (hc j hj).1,K.cell hk (hx hn b off e) (hc j hj).2.1,K.cell hk (hx hn b off e) (hc j hj).2.2.1,K.cell hk (hx hn b off e) (hc j hj).2.2.2⟩⟩⟩
def evB {α:Type} (l:List α):List (Nat×α):=(l.zipIdx.map fun p=>(p.2,p.1)).reverse
theorem iD {α:Type} (l:List α):(evB l).length=l.length:=by simp[evB]
theorem Hg {α:Type} {l:List α} {j:Nat} (hj:j<(evB l).length) (h:l.length-1-j<l.length):(evB l)[j]=(l.length-1-j,l[l.length-1-j]):=by
 simp[evB]
theorem vr {α:Type} {l:List α} {j:Nat} (hj:j<l.length):(evB l).take (j+1)=(evB l).take j++[(l.length-1-j,l[l.length-1-j]'(by omega))]:=by
 have h:j<(evB l).length:=by rw[iD];exact hj
 rw[List.take_succ_eq_append_getElem h,Hg h (by omega)]
theorem K4 (n:Nat) (hn:1<=n) (lp Bs:Nat) (A:Option Addr) (m c:Nat) (l:List Int) (hm:m<=1099511627776) {Kp:World->World->Prop} {Safe:World->Nat->Prop} {Good:World->Prop} (K:gA Kp Safe Good) (J Jx:List (Nat×Int)->World->Prop) (W:World)
  (hJ:AbidesFrom W.heap.size J)
  (hY:∀pre x W1,J pre W1->pre.length<(evB l).length->YieldAt F0 (n-1) Tryz.prog lp #[.int .i64 (x.1:Int),.int .i64 x.2] W1 fun e W'=>
   (e = .returned (.bool true)/\J (pre++[x]) W'/\Kp W1 W')\/(e = .returned (.bool false)/\Jx (pre++[x]) W'))
  (hSA:0<m->∀b off,A=some ⟨b,off,none⟩->Safe W b) (hSB:Safe W Bs)
  (hBs:W.cell? ⟨Bs,0,none⟩=some (.slice A m c)) (hA:RI W W.heap.size A m l) (h0:J [] W) :
  CallsIn F0 n Tryz.prog 127 #[.func (.yield lp) #[] #[],.pointer (some ⟨Bs,0,none⟩)] W fun e W'=>(∃v,e = .returned v) /\
   ((∃ys,ys=evB l/\J ys W')\/(∃pre,pre <+: evB l/\Jx pre W')):=by
 have hlen:=hA.1;refine callsIn_of_wp Tryz.func127 rfl trivial ?_ rfl;simp only[Tryz.ntmps127,List.size_toArray,List.length_cons,List.length_nil,Nat.reduceAdd,Nat.reduceSub,Array.replicate_succ,Array.replicate_zero,List.push_toArray,List.append_toArray,List.nil_append,List.cons_append];have HK:=hid K;have HSA:=hid hSA;have HY:=hid hY;have HJ:=hid hJ;have HA:=hid hA;have HLEN:=hid hlen;clear K hSA hY hJ hA hlen;have s0:IntKind.i64.wrap ((m:Int)-1)=(m:Int)-1:=IntWalk.i64_in _ (by omega)
 gi_wp2
 gi_loopw [3] (fun i wr=>∃(k:Nat),k<=m/\i = .int .i64 ((m:Int)-1-k)/\J ((evB l).take k) wr/\Kp W wr) (fun i _=>(intOf i+1).toNat)
 case atStart=>exact⟨0,Nat.zero_le _,by congr 1 <;> omega,h0,HK.out.refl _⟩
 case round=>
  obtain⟨k,hk,rfl,hJs,hkx⟩:=hrel;have hcb:wr.cell? ⟨Bs,0,none⟩=some (.slice A m c):=HK.out.cell hkx hSB hBs;have HKX:=hid hkx;have HJS:=hid hJs;have Ns:=HK.out.size hkx;clear hkx hJs;by_cases hlt:k<m
  ·have hRS:=uo HK.out HA.out HKX.out HSA.out
   obtain⟨i,hi⟩:∃i,m-1-k=i:=⟨_,rfl⟩;have hie:(m:Int)-1-(k:Int)=(i:Int):=by omega
   have hil:i<l.length:=by have:=HLEN.out;omega
   obtain⟨b,off,hA1,hbB,hcc⟩:=hRS.2 (by omega);subst hA1;have hce:=hcc i hil;clear hcc;have HTK:=hid (show(evB l).take (k+1)=(evB l).take k++[(i,l[i])]from by
    have h1:=vr (l:=l) (j:=k) (by have:=HLEN.out;omega);have h2:l.length-1-k=i:=by have:=HLEN.out;omega
    simp only[h2]at h1;exact h1)
   have hlen2:((evB l).take k).length<(evB l).length:=by rw[List.length_take,iD];have:=HLEN.out;omega
   have i1':(0:Int)<=(i:Int):=Int.natCast_nonneg _;have i2':(i:Int)<(m:Int):=by omega
   have s1:IntKind.i64.wrap ((i:Int)-1)=(i:Int)-1:=IntWalk.i64_in _ (by omega);obtain⟨fn,tmps,assign,body,hy,hR⟩:=HY.out _ (i,l[i]) wr HJS.out hlen2;rw[hie];obtain⟨li,hli⟩:∃li,l[i]=li:=⟨_,rfl⟩;rw[hli]at HTK hR hy hce;clear hRS hlen2 hi;have HIE:=hid hie;clear hie hli
   gi_wp2
   refine hR.mono ?_;rintro e W3 (⟨rfl,hJ4,hk4⟩ | ⟨rfl,hJx4⟩)
   ·gi_wp2
    go_roundw
    case rel=>
     have hz:=HIE.out;refine⟨k+1,by omega,?_,by rw[HTK.out];exact hJ4,HK.out.trans HKX.out hk4⟩;rw[show(m:Int)-1-((k+1:Nat):Int)=(i:Int)-1 by omega]
    case measure=>first | (simp[intOf];done) | (simp[intOf];omega)
   ·gi_wp2
    refine bodyPost_ret (results_none rfl _ _ _) rfl ?_;exact⟨⟨_,rfl⟩,.inr ⟨_,by rw[<- HTK.out];exact List.take_prefix _ _,hJx4⟩⟩
  ·have hkm:k=m:=by omega
   have hie:(m:Int)-1-(k:Int) = -1:=by omega
   have HF:=hid (show J (evB l) wr from by
    have:=HJS.out
    rwa [List.take_of_length_le (by rw[iD];have:=HLEN.out;omega)]at this)
   rw[hie];clear hie hkm
   gi_wp2
   go_end0;exact⟨⟨_,rfl⟩,.inl ⟨_,rfl,HF.out⟩⟩
def Fg (A:Option Addr) (m c:Nat) (w:World) (e:Ending) (w':World):Prop:=e = .returned (.func (.func 127) #[] #[.pointer (some ⟨w.heap.size,0,none⟩)])/\Boxed w' w.heap.size 56 (.slice A m c)/\Below w.heap.size w w'/\w'.heap.size=w.heap.size+1
theorem Cj (A:Option Addr) (m c:Nat) (w:World):Calls Tryz.prog 113 #[.slice A m c] w (Fg A m c w):=by
 go_enter Tryz.func113,Tryz.ntmps113;go_wp2_with (fail);go_ret;exact⟨rfl,Boxed.new _ _ _,(Below.refl _ _).alloc (Nat.le_refl _) _,by simp⟩
theorem EV (n:Nat) (hn:1<=n) (lp Bs:Nat) (A:Option Addr) (m c:Nat) (l:List PT) (hm:m<=1099511627776) {Kp:World->World->Prop} {Safe:World->Nat->Prop} {Good:World->Prop} (K:gA Kp Safe Good) (J Jx:List (Nat×PT)->World->Prop) (W:World)
  (hJ:AbidesFrom W.heap.size J)
  (hY:∀pre x W1,J pre W1->pre.length<(evB l).length->YieldAt F0 (n-1) Tryz.prog lp #[.int .i64 (x.1:Int),prt x.2.1 x.2.2.1 x.2.2.2.1 x.2.2.2.2] W1 fun e W'=>
   (e = .returned (.bool true)/\J (pre++[x]) W'/\Kp W1 W')\/(e = .returned (.bool false)/\Jx (pre++[x]) W'))
  (hSA:0<m->∀b off,A=some ⟨b,off,none⟩->Safe W b) (hSB:Safe W Bs)
  (hBs:W.cell? ⟨Bs,0,none⟩=some (.slice A m c)) (hA:RP W W.heap.size A m l) (h0:J [] W) :
  CallsIn F0 n Tryz.prog 139 #[.func (.yield lp) #[] #[],.pointer (some ⟨Bs,0,none⟩)] W fun e W'=>(∃v,e = .returned v) /\
   ((∃ys,ys=evB l/\J ys W')\/(∃pre,pre <+: evB l/\Jx pre W')):=by
 have hlen:=hA.1;refine callsIn_of_wp Tryz.func139 rfl trivial ?_ rfl;simp only[Tryz.ntmps139,List.size_toArray,List.length_cons,List.length_nil,Nat.reduceAdd,Nat.reduceSub,Array.replicate_succ,Array.replicate_zero,List.push_toArray,List.append_toArray,List.nil_append,List.cons_append];have HK:=hid K;have HSA:=hid hSA;have HY:=hid hY;have HJ:=hid hJ;have HA:=hid hA;have HLEN:=hid hlen;clear K hSA hY hJ hA hlen;have s0:IntKind.i64.wrap ((m:Int)-1)=(m:Int)-1:=IntWalk.i64_in _ (by omega)
 gi_wp2
 gi_loopw [3] (fun i wr=>∃(k:Nat),k<=m/\i = .int .i64 ((m:Int)-1-k)/\J ((evB l).take k) wr/\Kp W wr) (fun i _=>(intOf i+1).toNat)
 case atStart=>exact⟨0,Nat.zero_le _,by congr 1 <;> omega,h0,HK.out.refl _⟩
 case round=>
  obtain⟨k,hk,rfl,hJs,hkx⟩:=hrel;have hcb:wr.cell? ⟨Bs,0,none⟩=some (.slice A m c):=HK.out.cell hkx hSB hBs;have HKX:=hid hkx;have HJS:=hid hJs;have Ns:=HK.out.size hkx;clear hkx hJs;by_cases hlt:k<m
  ·have hRS:=Dt HK.out HA.out HKX.out HSA.out
   obtain⟨i,hi⟩:∃i,m-1-k=i:=⟨_,rfl⟩;have hie:(m:Int)-1-(k:Int)=(i:Int):=by omega
   have hil:i<l.length:=by have:=HLEN.out;omega
   obtain⟨b,off,hA1,hbB,hcc⟩:=hRS.2 (by omega);subst hA1;obtain⟨hce,hce1,hce2,hce3⟩:=hcc i hil;clear hcc;have HTK:=hid (show(evB l).take (k+1)=(evB l).take k++[(i,l[i])]from by
    have h1:=vr (l:=l) (j:=k) (by have:=HLEN.out;omega);have h2:l.length-1-k=i:=by have:=HLEN.out;omega
    simp only[h2]at h1;exact h1)
   have hlen2:((evB l).take k).length<(evB l).length:=by rw[List.length_take,iD];have:=HLEN.out;omega
   have i1':(0:Int)<=(i:Int):=Int.natCast_nonneg _;have i2':(i:Int)<(m:Int):=by omega
   have s1:IntKind.i64.wrap ((i:Int)-1)=(i:Int)-1:=IntWalk.i64_in _ (by omega);obtain⟨fn,tmps,assign,body,hy,hR⟩:=HY.out _ (i,l[i]) wr HJS.out hlen2;rw[hie];obtain⟨li,hli⟩:∃li,l[i]=li:=⟨_,rfl⟩;rw[hli]at HTK hR hy hce hce1 hce2 hce3;clear hRS hlen2 hi;have HIE:=hid hie;clear hie hli
   gi_wp2
   refine hR.mono ?_;rintro e W3 (⟨rfl,hJ4,hk4⟩ | ⟨rfl,hJx4⟩)
   ·gi_wp2
    go_roundw
    case rel=>
     have hz:=HIE.out;refine⟨k+1,by omega,?_,by rw[HTK.out];exact hJ4,HK.out.trans HKX.out hk4⟩;rw[show(m:Int)-1-((k+1:Nat):Int)=(i:Int)-1 by omega]
    case measure=>first | (simp[intOf];done) | (simp[intOf];omega)
   ·gi_wp2
    refine bodyPost_ret (results_none rfl _ _ _) rfl ?_;exact⟨⟨_,rfl⟩,.inr ⟨_,by rw[<- HTK.out];exact List.take_prefix _ _,hJx4⟩⟩
  ·have hkm:k=m:=by omega
   have hie:(m:Int)-1-(k:Int) = -1:=by omega
   have HF:=hid (show J (evB l) wr from by
    have:=HJS.out
    rwa [List.take_of_length_le (by rw[iD];have:=HLEN.out;omega)]at this)
   rw[hie];clear hie hkm
   gi_wp2
   go_end0;exact⟨⟨_,rfl⟩,.inl ⟨_,rfl,HF.out⟩⟩
theorem rC (n:Nat) (hn:1<=n) (Bs:Nat) (A:Option Addr) (m c:Nat) (l:List PT) (hm:m<=1099511627776) {Kp:World->World->Prop} {Safe:World->Nat->Prop} {Good:World->Prop} (K:gA Kp Safe Good) (w:World)
  (Bd:∀W k,Below w.heap.size w W->(k=Bs\/(0<m/\∃off,A=some ⟨k,off,none⟩))->Safe W k)
  (hBs:w.cell? ⟨Bs,0,none⟩=some (.slice A m c)) (hA:RP w w.heap.size A m l) :
  SeqStopsK F0 n Tryz.prog 139 #[.pointer (some ⟨Bs,0,none⟩)] (fun x:Nat×PT=>#[Value.int .i64 (x.1:Int),prt x.2.1 x.2.2.1 x.2.2.2.1 x.2.2.2.2]) Kp (fun ys=>ys=evB l) (fun pre=>pre <+: evB l) (evB l).length w:=fun lp J Jx W hW hJ _ hY h0=>
 have hlt:=World.block_lt_of_cell? w _ hBs
 EV n hn lp Bs A m c l hm K J Jx W hJ hY (fun hm0 b off e=>Bd W b hW (.inr ⟨hm0,off,e⟩)) (Bd W _ hW (.inl rfl)) ((hW.cell hlt).trans hBs) (hA.ah hW) h0
def Fe (A:Option Addr) (m c:Nat) (w:World) (e:Ending) (w':World):Prop:=e = .returned (.func (.func 139) #[] #[.pointer (some ⟨w.heap.size,0,none⟩)])/\Boxed w' w.heap.size 49 (.slice A m c)/\Below w.heap.size w w'/\w'.heap.size=w.heap.size+1
theorem Ci (A:Option Addr) (m c:Nat) (w:World):Calls Tryz.prog 128 #[.slice A m c] w (Fe A m c w):=by
 go_enter Tryz.func128,Tryz.ntmps128;go_wp2_with (fail);go_ret;exact⟨rfl,Boxed.new _ _ _,(Below.refl _ _).alloc (Nat.le_refl _) _,by simp⟩
end Go.Proofs.YtbdmcibcenhpnaaGreatDoor.Sh
namespace Go.Proofs.YtbdmcibcenhpnaaGreatDoor.Sp
open Go Go.RowKit Go.Shelf
attribute [local go_sem] Oper.semAt_some
theorem aO {A A':World} {B K:Nat} {t:TypeId} {v:Value} (h:Boxed A B t v) (hb:Below K A A') (hk:B<K):Boxed A' B t v:=(hb.block B hk).trans h
end Go.Proofs.YtbdmcibcenhpnaaGreatDoor.Sp
namespace Go.Proofs.YtbdmcibcenhpnaaGreatDoor.Sh
set_option maxHeartbeats 64000000
open Go Go.RowKit Go.Shelf Sp Pa Te
open Go.Lib (hid)
attribute [local go_sem] Oper.semAt_some
abbrev El (l:List Int):={x:Nat×Int // x.2∈l}
def el (l:List Int) (i:Nat) (h:i<l.length):El l:=⟨(i,l[i]),List.getElem_mem h⟩
def evS (l:List Int):List (El l):=(List.ofFn fun i:Fin l.length=>el l i.1 i.2).reverse
theorem l8 (l:List Int):(evS l).length=l.length:=by simp[evS]
theorem BF {l:List Int} {j:Nat} (hj:j<(evS l).length) (h:l.length-1-j<l.length):(evS l)[j]=el l (l.length-1-j) h:=by
 simp[evS]
theorem EL {l:List Int} {j:Nat} (hj:j<l.length):(evS l).take (j+1)=(evS l).take j++[el l (l.length-1-j) (by omega)]:=by
 have h:j<(evS l).length:=by rw[l8];exact hj
 rw[List.take_succ_eq_append_getElem h,BF h (by omega)]
theorem EK (l:List Int):(evS l).map (fun x=>x.1.2)=l.reverse:=by
 refine List.ext_getElem (by simp[evS]) fun j h1 h2=>?_
 have h3:j<(evS l).length:=by simpa using h1
 have h4:=l8 l;rw[List.getElem_map,BF h3 (by omega),List.getElem_reverse];rfl
theorem EU (n:Nat) (hn:1<=n) (lp Bs:Nat) (A:Option Addr) (m c:Nat) (l:List Int) (hm:m<=1099511627776) {Kp:World->World->Prop} {Safe:World->Nat->Prop} {Good:World->Prop} (K:gA Kp Safe Good) (J Jx:List (El l)->World->Prop) (W:World)
  (hJ:AbidesFrom W.heap.size J)
  (hY:∀pre x W1,J pre W1->pre.length<(evS l).length->YieldAt F0 (n-1) Tryz.prog lp #[.int .i64 (x.1.1:Int),.int .i64 x.1.2] W1 fun e W'=>
   (e = .returned (.bool true)/\J (pre++[x]) W'/\Kp W1 W')\/(e = .returned (.bool false)/\Jx (pre++[x]) W'))
  (hSA:0<m->∀b off,A=some ⟨b,off,none⟩->Safe W b) (hSB:Safe W Bs)
  (hBs:W.cell? ⟨Bs,0,none⟩=some (.slice A m c)) (hA:RI W W.heap.size A m l) (h0:J [] W) :
  CallsIn F0 n Tryz.prog 127 #[.func (.yield lp) #[] #[],.pointer (some ⟨Bs,0,none⟩)] W fun e W'=>(∃v,e = .returned v) /\
   ((∃ys,ys=evS l/\J ys W')\/(∃pre,pre <+: evS l/\Jx pre W')):=by
 have hlen:=hA.1;refine callsIn_of_wp Tryz.func127 rfl trivial ?_ rfl;simp only[Tryz.ntmps127,List.size_toArray,List.length_cons,List.length_nil,Nat.reduceAdd,Nat.reduceSub,Array.replicate_succ,Array.replicate_zero,List.push_toArray,List.append_toArray,List.nil_append,List.cons_append];have HK:=hid K;have HSA:=hid hSA;have HY:=hid hY;have HJ:=hid hJ;have HA:=hid hA;have HLEN:=hid hlen;clear K hSA hY hJ hA hlen;have s0:IntKind.i64.wrap ((m:Int)-1)=(m:Int)-1:=IntWalk.i64_in _ (by omega)
 gi_wp2
 gi_loopw [3] (fun i wr=>∃(k:Nat),k<=m/\i = .int .i64 ((m:Int)-1-k)/\J ((evS l).take k) wr/\Kp W wr) (fun i _=>(intOf i+1).toNat)
 case atStart=>exact⟨0,Nat.zero_le _,by congr 1 <;> omega,h0,HK.out.refl _⟩
 case round=>
  obtain⟨k,hk,rfl,hJs,hkx⟩:=hrel;have hcb:wr.cell? ⟨Bs,0,none⟩=some (.slice A m c):=HK.out.cell hkx hSB hBs;have HKX:=hid hkx;have HJS:=hid hJs;have Ns:=HK.out.size hkx;clear hkx hJs;by_cases hlt:k<m
  ·have hRS:=uo HK.out HA.out HKX.out HSA.out
   obtain⟨i,hi⟩:∃i,m-1-k=i:=⟨_,rfl⟩;have hie:(m:Int)-1-(k:Int)=(i:Int):=by omega
   have hil:i<l.length:=by have:=HLEN.out;omega
   obtain⟨b,off,hA1,hbB,hcc⟩:=hRS.2 (by omega);subst hA1;have hce:=hcc i hil;clear hcc;have HTK:=hid (show(evS l).take (k+1)=(evS l).take k++[el l i hil]from by
    have h1:=EL (l:=l) (j:=k) (by have:=HLEN.out;omega);have h2:l.length-1-k=i:=by have:=HLEN.out;omega
    simp only[h2]at h1;exact h1)
   have hlen2:((evS l).take k).length<(evS l).length:=by rw[List.length_take,l8];have:=HLEN.out;omega
   have i1':(0:Int)<=(i:Int):=Int.natCast_nonneg _;have i2':(i:Int)<(m:Int):=by omega
   have s1:IntKind.i64.wrap ((i:Int)-1)=(i:Int)-1:=IntWalk.i64_in _ (by omega);obtain⟨fn,tmps,assign,body,hy,hR⟩:=HY.out _ (el l i hil) wr HJS.out hlen2;rw[hie];obtain⟨xe,hxe⟩:∃xe,el l i hil=xe:=⟨_,rfl⟩;have hxv:xe.1=(i,l[i]):=by rw[<- hxe];rfl
   obtain⟨li,hli⟩:∃li,l[i]=li:=⟨_,rfl⟩;rw[hxe]at HTK hR hy;rw[hli]at hce hxv;rw[hxv]at hy;clear hRS hlen2 hi;have HIE:=hid hie;clear hie hli hxe hxv
   gi_wp2
   refine hR.mono ?_;rintro e W3 (⟨rfl,hJ4,hk4⟩ | ⟨rfl,hJx4⟩)
   ·gi_wp2
    go_roundw
    case rel=>
     have hz:=HIE.out;refine⟨k+1,by omega,?_,by rw[HTK.out];exact hJ4,HK.out.trans HKX.out hk4⟩;rw[show(m:Int)-1-((k+1:Nat):Int)=(i:Int)-1 by omega]
    case measure=>first | (simp[intOf];done) | (simp[intOf];omega)
   ·gi_wp2
    refine bodyPost_ret (results_none rfl _ _ _) rfl ?_;exact⟨⟨_,rfl⟩,.inr ⟨_,by rw[<- HTK.out];exact List.take_prefix _ _,hJx4⟩⟩
  ·have hkm:k=m:=by omega
   have hie:(m:Int)-1-(k:Int) = -1:=by omega
   have HF:=hid (show J (evS l) wr from by
    have:=HJS.out
    rwa [List.take_of_length_le (by rw[l8];have:=HLEN.out;omega)]at this)
   rw[hie];clear hie hkm
   gi_wp2
   go_end0;exact⟨⟨_,rfl⟩,.inl ⟨_,rfl,HF.out⟩⟩
theorem rB (n:Nat) (hn:1<=n) (Bs:Nat) (A:Option Addr) (m c:Nat) (l:List Int) (hm:m<=1099511627776) {Kp:World->World->Prop} {Safe:World->Nat->Prop} {Good:World->Prop} (K:gA Kp Safe Good) (w:World)
  (Bd:∀W k,Below w.heap.size w W->(k=Bs\/(0<m/\∃off,A=some ⟨k,off,none⟩))->Safe W k)
  (hBs:w.cell? ⟨Bs,0,none⟩=some (.slice A m c)) (hA:RI w w.heap.size A m l) :
  SeqStopsK F0 n Tryz.prog 127 #[.pointer (some ⟨Bs,0,none⟩)] (fun x:El l=>#[Value.int .i64 (x.1.1:Int),.int .i64 x.1.2]) Kp (fun ys=>ys=evS l) (fun pre=>pre <+: evS l) (evS l).length w:=fun lp J Jx W hW hJ _ hY h0=>
 have hlt:=World.block_lt_of_cell? w _ hBs
 EU n hn lp Bs A m c l hm K J Jx W hJ hY (fun hm0 b off e=>Bd W b hW (.inr ⟨hm0,off,e⟩)) (Bd W _ hW (.inl rfl)) ((hW.cell hlt).trans hBs) (hA.ah hW) h0
end Go.Proofs.YtbdmcibcenhpnaaGreatDoor.Sh
