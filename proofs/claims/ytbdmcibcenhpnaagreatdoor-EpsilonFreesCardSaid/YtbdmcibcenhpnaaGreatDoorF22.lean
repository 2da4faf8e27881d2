import Derived.Test.YtbdmcibcenhpnaaGreatDoorF21
import Derived.Maps.OwnIn
set_option maxRecDepth 100000
namespace Go.Proofs.YtbdmcibcenhpnaaGreatDoor.Sh
set_option maxHeartbeats 64000000
open Go Go.RowKit Go.Shelf Sp Pa Te
open Go.Lib (hid)
attribute [local go_sem] Oper.semAt_some
def Pg (v:Value) (w:World) (e:Ending) (w':World):Prop:=e = .returned v/\w=w'
def MC (l:List Int) (v:Int) (w:World) (i:Value) (wr:World):Prop:=∃k:Nat,k<=l.length/\i = .int .i64 k/\(∀(j:Nat) (h:j<l.length),j<k->l[j]≠v)/\w=wr
theorem A9 (A:Option Addr) (c:Nat) (l:List Int) (n:Nat) (v:Int) (w:World) (h:RI w w.heap.size A n l) (hn:n<=1000000) :
  Calls Tryz.prog 140 #[.slice A n c,.int .i64 v] w fun e w'=>(∃r:Int,e = .returned (.int .i64 r)/\(0<=r↔v∈l))/\w=w':=by
 have hlen:=h.1;have HLEN:=hid hlen;have H:=hid h;clear h hlen;go_enter Tryz.func140,Tryz.ntmps140;go_wp2_with (fail)
 go_loopw [8] (fun i wr=>MC l v w i wr) (fun i _=>n-(intOf i).toNat)
 case atStart=>exact⟨0,Nat.zero_le _,rfl,fun j _ q=>absurd q (by omega),rfl⟩
 case round=>
  obtain⟨k,hk,rfl,hno,rfl⟩:=hrel;have HNO:=hid hno;have hk':k<=n:=by have:=HLEN.out;omega
  clear hno hk;by_cases hlt:k<n
  ·obtain⟨b,off,hA,hbB,hcc⟩:=H.out.2 (by omega)
   have hkl:k<l.length:=by have:=HLEN.out;omega
   have hce:=hcc k hkl;obtain⟨x,hx⟩:∃x,l[k]=x:=⟨_,rfl⟩;rw[hx]at hce;have HX:=hid hx;subst hA;clear hcc hx;have i1':(0:Int)<=(k:Int):=Int.natCast_nonneg _;have i2':(k:Int)<(n:Int):=by omega
   by_cases hq:v=x
   ·have HF:=hid (show(0:Int)<=(k:Int)↔v∈l from⟨fun _=>by rw[hq,<- HX.out];exact List.getElem_mem _,fun _=>Int.natCast_nonneg _⟩)
    have hd:decide (v=x)=true:=decide_eq_true hq;have hd2:(v == x)=true:=by simpa using hq
    clear hq;go_wp2_with (fail);go_ret;exact⟨⟨_,rfl,HF.out⟩,rfl⟩
   ·have HN:=hid (show∀(j:Nat) (h:j<l.length),j<k+1->l[j]≠v from fun j hj hjk=>by
     by_cases e:j=k
     ·subst e
      rw[HX.out];exact fun q=>hq q.symm
     ·exact HNO.out j hj (by omega))
    have hd:decide (v=x)=false:=decide_eq_false hq;have hd2:(v == x)=false:=by simpa using hq
    clear hq;go_wp2_with (fail)
    go_roundw
    case rel=>exact⟨k+1,by have:=HLEN.out;omega,by go_num,HN.out,rfl⟩
    case measure=>simp[intOf];omega
  ·have HF:=hid (show(0:Int)<=-1↔v∈l from⟨fun q=>by omega,fun q=>by
    obtain⟨j,hj,e⟩:=List.getElem_of_mem q;exact absurd e (HNO.out j hj (by have:=HLEN.out;omega))⟩)
   go_wp2_with (fail);go_ret;exact⟨⟨_,rfl,HF.out⟩,rfl⟩
theorem rm (A:Option Addr) (c:Nat) (l:List Int) (n:Nat) (v:Int) (w:World) (h:RI w w.heap.size A n l) (hn:n<=1000000) :
  Calls Tryz.prog 129 #[.slice A n c,.int .i64 v] w (Pg (.bool (decide (v∈l))) w):=by
 have HI:=hid (A9 A c l n v w h hn);clear h;go_enter Tryz.func129,Tryz.ntmps129;go_wp2_with (fail);refine HI.out.mono ?_;rintro e w' ⟨⟨r,rfl,hr⟩,rfl⟩;have HB:=hid (show decide ((0:Int)<=r)=decide (v∈l)from by
  by_cases q:0<=r
  ·rw[decide_eq_true q,decide_eq_true (hr.1 q)]
  ·rw[decide_eq_false q,decide_eq_false (fun m=>q (hr.2 m))])
 clear hr;go_wp2_with (fail);go_ret;exact⟨by rw[<- HB.out];rfl,rfl⟩
def bR (out:List Int) (a:Int):List Int:=if a∈out then out else out++[a]
def nI (ps:List PT):List Int:=((evB ps).map fun x=>x.2.1).foldl bR []
def yF (pre:List (Nat×PT)):List Int:=(pre.map fun x=>x.2.1).foldl bR []
theorem qw (pre:List (Nat×PT)) (x:Nat×PT):yF (pre++[x])=bR (yF pre) x.2.1:=by simp[yF]
theorem sw (out:List Int) (a:Int):(bR out a).length<=out.length+1:=by
 unfold bR
 split <;> simp
theorem l7:∀(l:List Int) (out:List Int),(l.foldl bR out).length<=out.length+l.length
 | [],out=>by simp
 | a::l,out=>by
  have h1:=l7 l (bR out a);have h2:=sw out a;simp only[List.foldl_cons,List.length_cons];omega
theorem DI (pre:List (Nat×PT)):(yF pre).length<=pre.length:=by
 have:=l7 (pre.map fun x=>x.2.1) [];simpa[yF]using this
def xH (l:List Int):List Value:=l.map (Value.int .i64)
def Ir (l:List Int) (w:World) (e:Ending) (w':World):Prop:=∃A c,e = .returned (.slice A l.length c)/\RI w' w'.heap.size A l.length l/\l.length<=c/\Below w.heap.size w w'/\∀b off,A=some ⟨b,off,none⟩->w.heap.size<=b
theorem p9 {w:World} {base:Nat} {v:Value} {l:List Int} (h:w.ownsRow base 3 1 v l.length (xH l)):∃A c,v = .slice A l.length c/\RI w w.heap.size A l.length l/\l.length<=c/\∀b off,A=some ⟨b,off,none⟩->base<=b:=by
 rcases h.2 with⟨rfl,hn⟩ | ⟨g,cap,cur,rfl,hg,hr⟩
 ·obtain rfl:=List.eq_nil_of_length_eq_zero hn
  exact⟨none,0,rfl,RI.dS _ _ _,Nat.le_refl _,fun _ _ e=>by cases e⟩
 ·refine⟨some ⟨g,0,none⟩,cap,rfl,⟨rfl,fun _=>⟨g,0,rfl,(h.lt g rfl).2,fun j hj=>?_⟩⟩,hr.2.1,fun b off e=>?_⟩
  rotate_left
  ·injection e with e
   injection e with e;omega
  rw[Nat.zero_add,World.ownsRow.cellAt h j (by omega)];simp[xH,hj]
theorem zX (A:Option Addr) (m c:Nat) (l:List PT) (w:World) (h:RP w w.heap.size A m l) (hm:m<=1000000) :
  Calls Tryz.prog 114 #[.slice A m c] w (Ir (nI l) w):=by
 have hlen:=h.1;have HLEN:=hid hlen;obtain⟨i0,hi,hz0,hz1,hz2⟩:=info_parts gh;have bO:=Boxed.new w 56 (.slice none 0 0);have hb1:=(Below.refl w.heap.size w).alloc (Nat.le_refl _) (.cells #[.slice none 0 0] 56);have hsz1:(w.alloc (.cells #[.slice none 0 0] 56)).heap.size=w.heap.size+1:=by simp
 have HH:=hid h;clear h hlen;refine(callsIn_wide (n:=4)).1 ?_;refine callsIn_of_wp_marks Tryz.func114 rfl trivial ?_ rfl;simp only[Tryz.ntmps114,List.size_toArray,List.length_cons,List.length_nil,Nat.reduceAdd,Nat.reduceSub,Array.replicate_succ,Array.replicate_zero,List.push_toArray,List.append_toArray,List.nil_append,List.cons_append]
 gi_wp2_with (fail)
 refine⟨trivial,?_⟩
 generalize (w.alloc (.cells #[.slice none 0 0] 56))=w1 at *
 refine(callsIn_wide.2 (Ci A m c w1)).mono ?_;rintro e w2 ⟨rfl,hbx,hb2,hsz2⟩;have hbW:Below w.heap.size w w2:=hb1.trans (hb2.mono (by omega));have bO2:=aO bO hb2 (by omega);have hcs:=hbx.cell;rw[hsz1]at hcs;have hst:=rC 3 (by omega) (w.heap.size+1) A m c l (by omega) (gb w.heap.size) w2
  (fun W k hW e=>⟨by
   rcases e with rfl | ⟨hm0,off,e⟩
   ·omega
   ·subst e
    obtain⟨b',off',e',hb',_⟩:=HH.out.2 hm0;injection e' with e';injection e' with e';omega,fun hg=>by rw[dx (aO bO2 hW (by omega))]at hg;cases hg⟩) hcs (HH.out.ah hbW)
 rw[hsz1]
 gi_wp2_with (fail)
 have HB1:=hid hb1;have HBW:=hid hbW;clear hcs hb2 hb1 bO hbx;have Qq:w.heap.size<w2.heap.size:=by omega
 refine wpIn_rangeFunc_ownH (F:=Fence.wide) rfl (by omega) (gf:=139) (lb:=#[.pointer (some ⟨w.heap.size+1,0,none⟩)]) rfl trivial (enters_of Tryz.func139 (by kernel_rfl) rfl)
  hst (fun h k=>(gb _).trans h k) (fun W l o o' hl ho hc _=>lQ (by omega) ho hc) (Below.refl _ _) (fun _=>rfl)
  (fun pre W=>(∃v,Boxed W w.heap.size 56 v/\W.ownsRow w.heap.size 3 1 v (yF pre).length (xH (yF pre))/\True)/\Below w.heap.size w W)
  (fun _ _ _=>False)
  (OwnFrom.and (Own.from (holdsRow_own w.heap.size w.heap.size 56 3 1 (fun pre:List (Nat×PT)=>(yF pre).length) (fun pre=>xH (yF pre)) (fun _ _=>True)) _) (ownFrom_below (Nat.le_refl _) (by omega)))
  (fun _ _ _ _ _ hs _ _=>hs)
  ⟨⟨_,bO2,World.ownsRow_nil _ _ _ _,trivial⟩,hbW⟩
  (fun x a' W=>∃B5,a' = { tmps:=#[.slice A m c,undef,.slice none 0 0,.pointer (some ⟨w.heap.size,0,none⟩),undef,.pointer (some ⟨B5,0,none⟩),.slice A m c,.func (.func 139) #[] #[.pointer (some ⟨w.heap.size+1,0,none⟩)],.int .i64 (x.1:Int),prt x.2.1 x.2.2.1 x.2.2.2.1 x.2.2.2.2,undef,undef,undef,undef,undef,undef,undef,undef,undef,undef,undef],defers:=[] }/\W.heap[B5]? = some (.cells #[.int .i64 x.2.1,.int .i64 x.2.2.1,.int .i64 x.2.2.2.1,.int .i64 x.2.2.2.2] 94 (0,0)))
  (fun x a' _ X Y row hs hg hrow=>by
   obtain⟨B5,e,hB5⟩:=hs;refine⟨B5,e,(hg.block B5 (Array.getElem?_eq_some_iff.1 hB5).1 (fun q=>?_)).trans hB5⟩;obtain⟨_,o,ho,hc⟩:=hrow B5 q.symm;rw[hB5]at ho
   cases ho
   cases hc) ?assign ?body ?done ?stop
 case assign=>
  rintro lp pre x W K ⟨⟨v,hv,hrow,-⟩,hB⟩ hK;have HK:=hid hK;have HFI:=hid (fun W' (hW':W'=W.alloc (.cells #[.int .i64 x.2.1,.int .i64 x.2.2.1,.int .i64 x.2.2.2.1,.int .i64 x.2.2.2.2] 94)) (a':Act) (ha':a' = { tmps:=#[.slice A m c,undef,.slice none 0 0,.pointer (some ⟨w.heap.size,0,none⟩),undef,.pointer (some ⟨W.heap.size,0,none⟩),.slice A m c,.func (.func 139) #[] #[.pointer (some ⟨w.heap.size+1,0,none⟩)],.int .i64 (x.1:Int),prt x.2.1 x.2.2.1 x.2.2.2.1 x.2.2.2.2,undef,undef,undef,undef,undef,undef,undef,undef,undef,undef,undef],defers:=[] })=>show K a' W' from by
   subst hW' ha';refine HK.out _ _ ((KeepsOthers.alloc W _).from _) ((gb _).alloc W _ ⟨hv.lt,fun g hg=>?_⟩) ⟨⟨v,hv.alloc _,World.ownsRow.alloc hrow _,trivial⟩,hB.alloc hB.size _⟩ ⟨W.heap.size,rfl,heap_alloc_new W _⟩;rw[dx hv]at hg;exact(World.ownsRow.lt hrow g hg).2)
  clear hK hv hrow hB hst HK
  gi_wp2
  exact HFI.out _ rfl _ rfl
 case body=>
  rintro lp pre x a' W hlp _ ⟨⟨v,hv,hrow,-⟩,hB⟩ ⟨B5,rfl,hB5⟩ hlt;have hc:=hv.cell;have hf:=hv.frozen;have hBl:=hv.lt;have hWs:=hB.size;obtain⟨Ao,co,hvo,hri,hlo,-⟩:=p9 hrow;have hpl:=DI pre;rw[iD]at hlt;have hlt2:pre.length<1000000:=by have:=HLEN.out;omega
  obtain⟨L,hL⟩:∃L,yF pre=L:=⟨_,rfl⟩;have HL:=hid hL;obtain⟨no,hno⟩:∃no,L.length=no:=⟨_,rfl⟩;have HNO:=hid hno;rw[hL]at hrow hvo hri hpl;have hc5:W.cell? ⟨B5,0,none⟩=some (.int .i64 x.2.1):=by simp[World.cell?,hB5]
  have HCO:=hid (rm Ao co L L.length x.2.1 W hri (by omega));subst hvo;rw[hno]at hrow hc hv HCO hpl;have HV:=hid hv;have rO:=hid hrow;have HBB:=hid hB;clear hst hrow hv hB hlt hbW bO2 hri hL hB5 hno;by_cases hin:x.2.1∈L
  ·rw[decide_eq_true hin]at HCO
   have HFI:=hid (show yF (pre++[x])=L from by rw[qw,HL.out];unfold bR;rw[if_pos hin]);clear hin
   gi_wp2_with (fail)
   refine⟨trivial,?_⟩;refine(CallsIn.inRound lp (callsIn_wide.2 HCO.out)).mono ?_;rintro e w5 ⟨rfl,rfl⟩
   gi_wp2_with (fail)
   refine⟨KeepsFrom.refl _ _,(gb _).refl _,⟨⟨_,HV.out,?_⟩,HBB.out⟩⟩;rw[HFI.out,HNO.out];exact⟨rO.out,trivial⟩
  ·rw[decide_eq_false hin]at HCO
   have HFI:=hid (show yF (pre++[x])=L++[x.2.1]from by rw[qw,HL.out];unfold bR;rw[if_neg hin]);clear hin
   gi_wp2_with (fail)
   refine⟨trivial,?_⟩;refine(CallsIn.inRound lp (callsIn_wide.2 HCO.out)).mono ?_;rintro e w5 ⟨rfl,rfl⟩
   gi_wp2_with (gi_at_builtin;go_must (refine wpListIn_append_own_at _ rfl _ _ 56 rfl w.heap.size 3 i0 _ 1 8 Tryz.underlying56 hi hz0 hz1 hz2 rfl (by decide) (.slice Ao no co) no (xH L) rfl (rO.out.alloc _) ⟨W.heap.size,0,none⟩ 1 1 [.int .i64 x.2.1] rfl rfl ?c1 ?c2 ?c3 ?c4 ?c5 ?_))
   case c1=>exact World.news_of_block (cs:=#[.int .i64 x.2.1]) (t:=3) (fr:=(0,0)) (heap_alloc_new W _)
   case c2=>simp[Value.oneCell']
   case c3=>simp only[maxLen];omega
   case c4=>omega
   case c5=>simp;omega
   intro v9 w9 hown9 hg9 _ hat9;obtain⟨g9,c9,rfl⟩:=ownsRow_succ hown9;obtain⟨hv1,hv2,hr2,hk2,hb2⟩:=HV.out.appended (by decide) rO.out (by omega) (by omega) hown9 hg9;have hlt9:g9<w9.heap.size:=(hown9.lt g9 rfl).2;have hkp:=eu (g:=g9) (n:=no+1) (cap:=c9) HV.out hv1 (by have:=hg9.size;simp at this;omega) (fun k hk hne=>by rw[hg9.block k (by simp;omega) hne];exact Below.heap_alloc W _ k hk) (hat9.imp (fun e=>e.symm) (fun e=>by have e2:g9=W.heap.size+1:=Option.some.inj e;omega)) hlt9;have hc1:=hv1.cell;have hf1:=hv1.frozen;have HKP:=hid hkp;have HB9:=hid (HBB.out.trans hb2);have HV2:=hid hv2;have HR2:=hid hr2;have HK2:=hid (KeepsOthers.from hk2 w2.heap.size);clear hg9 hown9 hat9 hb2 hv1 hkp hv2 hr2 hk2 hc hf
   gi_wp2_with (fail)
   refine⟨HK2.out,HKP.out,⟨⟨_,HV2.out,?_⟩,HB9.out⟩⟩;rw[HFI.out,List.length_append,List.length_singleton,HNO.out];refine⟨?_,trivial⟩;have:=HR2.out;simpa[xH]using this
 case done=>
  rintro D ys W hD rfl ⟨⟨v,hv,hrow,-⟩,hB⟩ hK;have hc:=hv.cell;have HO:=hid (ownsRow_putObj hrow (.deferred none) hK rfl);have HBF:=hid (hB.trans (belowK_b (w:=w) (Nat.le_refl _) W D _ (.deferred none) (by omega) hK rfl rfl));clear hst hrow hv hB hbW bO2
  gi_wp2_with (fail)
  refine⟨by simp,.inl ⟨_,_,rfl,run_takeDeferred hK,?_⟩⟩;obtain⟨Ao,co,hvo,hri,hlo,hbo⟩:=p9 HO.out;subst hvo;exact⟨_,results_tmp rfl _ _ _,Ao,co,rfl,hri,hlo,HBF.out,hbo⟩
 case stop=>
  rintro D cd pre W hD hpre h hK;exact h.elim
end Go.Proofs.YtbdmcibcenhpnaaGreatDoor.Sh
namespace Go.Proofs.YtbdmcibcenhpnaaGreatDoor.Fi
open Go.RowKit Sp Pa Te Sh
def plP (l:List PT) (i:Int):List PT:=l.filter fun q=>q.1 == i
theorem jy (i:Int):plP [] i=[]:=rfl
theorem oF (q:PT) (l:List PT) (i:Int):plP (q::l) i=if q.1=i then q::plP l i else plP l i:=by
 unfold plP;rw[List.filter_cons];by_cases e:q.1=i <;> simp[e]
theorem nD (a b:List PT) (i:Int):plP (a++b) i=plP a i++plP b i:=List.filter_append ..
theorem fE {l:List PT} (h:BitsAll l) (i:Int):BitsAll (plP l i):=fun q hq=>h q (List.mem_filter.1 hq).1
theorem iB (l:List PT) (i:Int):(plP l i).length<=l.length:=List.length_filter_le ..
theorem Fj:∀(ord:List Int),ord.Nodup->∀(a v:Int) (f:Int->Int),a∈ord->(ord.map fun i=>(if a=i then v else 0)+f i).sum=v+(ord.map f).sum
 | [],_,a,v,f,h=>by cases h
 | b::ord,hn,a,v,f,h=>by
  obtain⟨h1,h2⟩:=List.nodup_cons.1 hn;rw[List.map_cons,List.sum_cons,List.map_cons,List.sum_cons];by_cases e:a=b
  ·subst e
   have:(ord.map fun i=>(if a=i then v else 0)+f i)=ord.map f:=List.map_congr_left fun i hi=>by
    rw[if_neg (fun q:a=i=>h1 (by rw[q];exact hi))];omega
   rw[this,if_pos rfl];omega
  ·have:=Fj ord h2 a v f (by rcases List.mem_cons.1 h with q | q;exact absurd q e;exact q)
   rw[this,if_neg e];omega
theorem mU (ord:List Int) (hn:ord.Nodup):∀(l:List PT),(∀q∈l,q.1∈ord)->∀g:PT->Int,(l.map g).sum=(ord.map fun i=>((plP l i).map g).sum).sum
 | [],_,g=>by
  have:∀ord:List Int,(ord.map fun _=>(0:Int)).sum=0:=fun ord=>by induction ord with | nil=>rfl | cons a o ih=>rw[List.map_cons,List.sum_cons,ih];rfl
  simp only[jy,List.map_nil,List.sum_nil];exact(this ord).symm
 | q::l,h,g=>by
  have h1:=mU ord hn l (fun r hr=>h r (List.mem_cons_of_mem _ hr)) g;rw[List.map_cons,List.sum_cons,h1,<- Fj ord hn q.1 (g q) _ (h q (List.mem_cons_self ..))]
  congr 1
  refine List.map_congr_left fun i _=>?_
  rw[oF]
  split
  ·rw[List.map_cons,List.sum_cons]
  ·omega
def CP (own:Int->List Span) (ord:List Int) (y:Int):Prop:=∃f:Int->Int,(∀i∈ord,mem (own i) (f i))/\(ord.map f).sum=y
theorem Db (own:Int->List Span) (y:Int):CP own [] y↔y=0:=by
 unfold CP
 constructor
 ·rintro⟨f,_,rfl⟩;rfl
 ·rintro rfl;exact⟨fun _=>0,(fun i h=>by cases h),rfl⟩
theorem zi {own:Int->List Span} {ord:List Int} {a:Int} (ha:a∉ord) (y:Int):CP own (ord++[a]) y↔∃x z,CP own ord x/\mem (own a) z/\x+z=y:=by
 unfold CP
 constructor
 ·rintro⟨f,h1,rfl⟩
  refine⟨_,f a,⟨f,fun i hi=>h1 i (List.mem_append_left _ hi),rfl⟩,h1 a (List.mem_append_right _ (List.mem_singleton.2 rfl)),by simp⟩
 ·rintro⟨x,z,⟨f,h1,rfl⟩,h2,rfl⟩
  refine⟨fun i=>if i=a then z else f i,fun i hi=>?_,?_⟩
  ·show mem (own i) (if i=a then z else f i)
   rcases List.mem_append.1 hi with hi | hi
   ·rw[if_neg (fun q:i=a=>ha (by rw[<- q];exact hi))];exact h1 i hi
   ·rw[List.mem_singleton.1 hi,if_pos rfl];exact h2
  ·rw[List.map_append,List.sum_append]
   have:(ord.map fun i=>if i=a then z else f i)=ord.map f:=List.map_congr_left fun i hi=>if_neg (fun q:i=a=>ha (by rw[<- q];exact hi))
   rw[this];simp
theorem su (out:List Int) (a x:Int):x∈bR out a↔x∈out\/x=a:=by
 unfold bR
 split
 ·rename_i h
  exact⟨.inl,fun q=>q.elim id fun e=>e ▸ h⟩
 ·rw[List.mem_append,List.mem_singleton]
theorem oI {out:List Int} (h:out.Nodup) (a:Int):(bR out a).Nodup:=by
 unfold bR
 split
 ·exact h
 ·rename_i hn
  rw[List.nodup_append];exact⟨h,by simp,fun x hx y hy e=>by rw[List.mem_singleton]at hy;subst hy;exact hn (e ▸ hx)⟩
theorem l6:∀(l out:List Int),out.Nodup->(l.foldl bR out).Nodup/\∀x,x∈l.foldl bR out↔x∈out\/x∈l
 | [],out,h=>⟨h,fun x=>by simp⟩
 | a::l,out,h=>by
  obtain⟨h1,h2⟩:=l6 l (bR out a) (oI h a);refine⟨h1,fun x=>?_⟩;rw[List.foldl_cons,h2,su,List.mem_cons,or_assoc]
theorem nH (l:List PT):(nI l).Nodup:=(l6 _ [] List.nodup_nil).1
theorem BG {α:Type} (l:List α) (x:α):x∈(evB l).map (·.2)↔x∈l:=by
 unfold evB;rw[List.map_reverse,List.mem_reverse,List.map_map];have:(Prod.snd ∘ fun p:α×Nat=>(p.2,p.1))=Prod.fst:=rfl;rw[this,List.zipIdx_map_fst]
theorem oJ (l:List PT) (x:Int):x∈nI l↔∃q∈l,q.1=x:=by
 unfold nI;rw[(l6 _ [] List.nodup_nil).2]
 constructor
 ·rintro(h | h)
  ·cases h
  ·obtain⟨p,hp,rfl⟩:=List.mem_map.1 h
   exact⟨p.2,(BG l p.2).1 (List.mem_map.2 ⟨p,hp,rfl⟩),rfl⟩
 ·rintro⟨q,hq,rfl⟩
  obtain⟨p,hp,e⟩:=List.mem_map.1 ((BG l q).2 hq);exact .inr (List.mem_map.2 ⟨p,hp,by rw[e]⟩)
theorem DJ (l:List PT):(nI l).length<=l.length:=by
 have:=l7 ((evB l).map fun x=>x.2.1) [];unfold nI;simpa[iD]using this
def om (gs:List (List Span)) (xs:List Int):Prop:=xs.length=gs.length/\∀(i:Nat) (h:i<gs.length) (h':i<xs.length),mem gs[i] xs[i]
def jm (xs:List Int) (s:Int) (l:List PT):Int:=s+(l.map fun q=>dc q.2.1 q.2.2.1 q.2.2.2 (atI xs q.1)).sum
theorem AV (xs:List Int) (s:Int) (l:List PT) (q:PT):jm xs s (l++[q])=jm xs s l+dc q.2.1 q.2.2.1 q.2.2.2 (atI xs q.1):=by
 unfold jm;rw[List.map_append,List.sum_append];simp;omega
theorem mQ:∀{l:List PT},BitsAll l->∀(xs:List Int),0<=(l.map fun q=>dc q.2.1 q.2.2.1 q.2.2.2 (atI xs q.1)).sum/\(l.map fun q=>dc q.2.1 q.2.2.1 q.2.2.2 (atI xs q.1)).sum<=66060288*l.length
 | [],_,xs=>by simp
 | q::l,h,xs=>by
  have h1:=bw (h q (List.mem_cons_self ..)) (atI xs q.1);have h2:=mQ (fun r hr=>h r (List.mem_cons_of_mem _ hr)) xs (l:=l);rw[List.map_cons,List.sum_cons,List.length_cons];omega
theorem yN {x:Int} (h1 : -9000000000000000000<=x) (h2:x<=9000000000000000000):wrap64 x=x:=by
 unfold wrap64;omega
theorem Ei {xs:List Int} {s:Int} {l:List PT} (h:BitsAll l) (hs:Sm s) (hl:l.length<=4):lS xs s l=jm xs s l:=by
 have key:∀k,k<=l.length->lS xs s (l.take k)=jm xs s (l.take k):=by
  intro k
  induction k with
  | zero=>intro _;simp[lS,jm]
  | succ k ih=>
   intro hk;have hkl:k<l.length:=by omega
   rw[xK (a:=l[k].1) (d:=l[k].2.1) (t:=l[k].2.2.1) (u:=l[k].2.2.2) ⟨hkl,rfl⟩,ih (by omega),List.take_succ_eq_append_getElem hkl,AV];have hb:=mQ (l:=l.take k) (fun r hr=>h r (List.mem_of_mem_take hr)) xs;have hv:=bw (h l[k] (List.getElem_mem hkl)) (atI xs l[k].1);have hlen:(l.take k).length<=4:=by rw[List.length_take];omega
   unfold Sm at hs;exact yN (by unfold jm;omega) (by unfold jm;omega)
 have:=key l.length (Nat.le_refl _)
 rwa [List.take_length]at this
theorem jf {xs:List Int} {i:Nat} (h:i<xs.length):atI xs (i:Int)=xs[i]:=Hv rfl ⟨h,rfl⟩
theorem zS (l:List PT) (xs:List Int) (i:Int):((plP l i).map fun q=>dc q.2.1 q.2.2.1 q.2.2.2 (atI xs q.1)).sum=dJ (plP l i) (atI xs i):=by
 unfold dJ
 congr 1
 refine List.map_congr_left fun q hq=>?_
 have:=(List.mem_filter.1 hq).2;rw[beq_iff_eq]at this;rw[this]
theorem gI {ord:List Int} (hn:ord.Nodup) {l:List PT} (hc:∀q∈l,q.1∈ord) (xs:List Int) (s:Int):jm xs s l=s+(ord.map fun i=>dJ (plP l i) (atI xs i)).sum:=by
 unfold jm;rw[mU ord hn l hc]
 congr 2
 exact List.map_congr_left fun i _=>zS l xs i
def Mu (own:Int->List Span) (gs:List (List Span)) (l:List PT):Prop:=∀(i:Nat) (h:i<gs.length),Is (own i) (gX (plP l i) gs[i])
theorem AQ {own:Int->List Span} {gs:List (List Span)} {l:List PT} {ord:List Int} (hn:ord.Nodup) (hc:∀q∈l,q.1∈ord) (hr:∀i∈ord,0<=i/\i<gs.length) (ho:Mu own gs l) (hne:∀g∈gs,∃x,mem g x) (s y:Int) :
  (∃xs,om gs xs/\jm xs s l=y)↔CP own ord (y-s):=by
 constructor
 ·rintro⟨xs,⟨h1,h2⟩,rfl⟩
  refine⟨fun i=>dJ (plP l i) (atI xs i),fun i hi=>?_,by rw[gI hn hc];omega⟩;obtain⟨j,rfl⟩:=Int.eq_ofNat_of_zero_le (hr i hi).1;have hj:=(hr _ hi).2;have hjl:j<gs.length:=by omega
  refine((ho j hjl).2 _).2 ⟨xs[j],h2 j hjl (by omega),?_⟩;show _=dJ (plP l (j:Int)) (atI xs (j:Int));rw[jf (by omega)]
 ·rintro⟨f,h1,h2⟩
  have hx:∀j:Nat,j<gs.length->∃x,(∀h:j<gs.length,mem gs[j] x)/\((j:Int)∈ord->dJ (plP l j) x=f j):=fun j hj=>by
   by_cases e:(j:Int)∈ord
   ·obtain⟨x,a,b⟩:=((ho j hj).2 _).1 (h1 j e)
    exact⟨x,fun _=>a,fun _=>b⟩
   ·obtain⟨x,a⟩:=hne _ (List.getElem_mem hj)
    exact⟨x,fun _=>a,fun q=>absurd q e⟩
  have hx2:∃F:Nat->Int,∀j:Nat,j<gs.length->(∀h:j<gs.length,mem gs[j] (F j))/\((j:Int)∈ord->dJ (plP l j) (F j)=f j):=
   ⟨fun j=>if h:j<gs.length then Classical.choose (hx j h)else 0,fun j hj=>by simp only[dif_pos hj];exact Classical.choose_spec (hx j hj)⟩
  obtain⟨F,hF⟩:=hx2;refine⟨(List.range gs.length).map F,⟨by simp,fun i h h'=>by simp only[List.getElem_map,List.getElem_range];exact(hF i h).1 h⟩,?_⟩;rw[gI hn hc];have:(ord.map fun i=>dJ (plP l i) (atI ((List.range gs.length).map F) i))=ord.map f:=List.map_congr_left fun i hi=>by
   obtain⟨j,rfl⟩:=Int.eq_ofNat_of_zero_le (hr i hi).1;have hj:=(hr _ hi).2;have hjl:j<gs.length:=by omega
   rw[jf (by simp;exact hjl)];simp only[List.getElem_map,List.getElem_range];exact(hF j hjl).2 hi
  rw[this,h2];omega
def least (p:List Span):Int:=(JX p).1
def most (p:List Span):Int:=(DW p).1
def bg (n:Nat):List Int:=(List.range n).map Int.ofNat
theorem fD (n:Nat) (i:Int):i∈bg n↔0<=i/\i<n:=by
 unfold bg;rw[List.mem_map]
 constructor
 ·rintro⟨j,hj,rfl⟩
  rw[List.mem_range]at hj;exact⟨Int.natCast_nonneg _,by show(j:Int)<n;omega⟩
 ·rintro⟨h1,h2⟩
  obtain⟨j,rfl⟩:=Int.eq_ofNat_of_zero_le h1;exact⟨j,List.mem_range.2 (by omega),rfl⟩
theorem fC (n:Nat):(bg n).Nodup:=by
 unfold bg;exact List.Pairwise.map _ (fun a b h q=>h (by injection q)) List.nodup_range
theorem dB {p:List Span} (hp:Plain p) (hne:p≠[]):mem p (least p)/\∀x,mem p x->least p<=x:=by
 obtain⟨q,l,rfl⟩:=List.exists_cons_of_ne_nil hne;obtain⟨h1,h2,h3⟩:=hp.cons;have ok:=h1;unfold Ok at h1;have e:least (q::l)=q.1:=rfl;rw[e];refine⟨⟨by unfold Rng;omega,q,List.mem_cons_self ..,by omega,h1.1⟩,fun x ⟨_,r,hr,a,b⟩=>?_⟩;rcases List.mem_cons.1 hr with rfl | hr
 ·exact a
 ·have:=h3 r hr
  omega
theorem d9 {p:List Span} (hp:Plain p) (hne:p≠[]):mem p (most p)/\∀x,mem p x->x<=most p:=by
 obtain⟨l,q,rfl⟩:∃l q,p=l++[q]:=⟨p.dropLast,p.getLast hne,(List.dropLast_concat_getLast hne).symm⟩;obtain⟨h1,h2,h3⟩:=hp.append;have ok:=h2.2 _ (List.mem_singleton.2 rfl);unfold Ok at ok;have e:most (l++[q])=q.2:=by unfold most DW;simp
 rw[e];refine⟨⟨by unfold Rng;omega,q,List.mem_append_right _ (List.mem_singleton.2 rfl),ok.1,by omega⟩,fun x ⟨_,r,hr,a,b⟩=>?_⟩;rcases List.mem_append.1 hr with hr | hr
 ·have:=h3 r hr q (List.mem_singleton.2 rfl)
  have:=h2.2 _ (List.mem_singleton.2 rfl);have hrp:=h1.2 r hr;unfold Ok at hrp;omega
 ·obtain rfl:=List.mem_singleton.1 hr
  exact b
theorem ze:∀(ord:List Int) (f g:Int->Int),(∀i∈ord,f i<=g i)->(ord.map f).sum<=(ord.map g).sum
 | [],f,g,_=>Int.le_refl _
 | a::ord,f,g,h=>by
  rw[List.map_cons,List.sum_cons,List.map_cons,List.sum_cons];have h1:=h a (List.mem_cons_self ..);have h2:=ze ord f g fun i hi=>h i (List.mem_cons_of_mem _ hi)
  omega
theorem AR {own:Int->List Span} {gs:List (List Span)} {l:List PT} (hc:∀q∈l,0<=q.1/\q.1<gs.length) (ho:Mu own gs l) (hne:∀g∈gs,∃x,mem g x) (s:Int) (P:Int->Prop) (hP:∀a b c,P a->P c->a<=b->b<=c->P b) :
  (∀xs,om gs xs->P (jm xs s l))↔P (s+((bg gs.length).map fun i=>least (own i)).sum)/\P (s+((bg gs.length).map fun i=>most (own i)).sum):=by
 have hn:=fC gs.length;have hcc:∀q∈l,q.1∈bg gs.length:=fun q hq=>(fD _ _).2 (hc q hq)
 have hrr:∀i∈bg gs.length,0<=i/\i<gs.length:=fun i hi=>(fD _ _).1 hi
 have hown:∀i∈bg gs.length,Plain (own i)/\own i≠[]:=fun i hi=>by
  obtain⟨h1,h2⟩:=hrr i hi;obtain⟨j,rfl⟩:=Int.eq_ofNat_of_zero_le h1;have hjl:j<gs.length:=by omega
  refine⟨(ho j hjl).1,fun e=>?_⟩;obtain⟨x,hx⟩:=hne _ (List.getElem_mem hjl);exact(ho j hjl).cQ.1 e _ ⟨x,hx,rfl⟩
 have key:=AQ hn hcc hrr ho hne s
 constructor
 ·intro h
  constructor
  ·obtain⟨xs,h1,h2⟩:=(key (s+((bg gs.length).map fun i=>least (own i)).sum)).2 ⟨fun i=>least (own i),fun i hi=>(dB (hown i hi).1 (hown i hi).2).1,by omega⟩
   rw[<- h2];exact h xs h1
  ·obtain⟨xs,h1,h2⟩:=(key (s+((bg gs.length).map fun i=>most (own i)).sum)).2 ⟨fun i=>most (own i),fun i hi=>(d9 (hown i hi).1 (hown i hi).2).1,by omega⟩
   rw[<- h2];exact h xs h1
 ·rintro⟨h1,h2⟩ xs hx
  obtain⟨f,h3,h4⟩:=(key (jm xs s l)).1 ⟨xs,hx,rfl⟩;refine hP _ _ _ h1 h2 ?_ ?_
  ·have:=ze (bg gs.length) (fun i=>least (own i)) f fun i hi=>(dB (hown i hi).1 (hown i hi).2).2 _ (h3 i hi)
   omega
  ·have:=ze (bg gs.length) f (fun i=>most (own i)) fun i hi=>(d9 (hown i hi).1 (hown i hi).2).2 _ (h3 i hi)
   omega
def mB (b d t u s:Int) (l:List PT) (xs:List Int):Prop:=(mP b d t u s l xs).2=true
def E7 (b d t u s:Int) (l:List PT) (gs:List (List Span)) (y:Int):Prop:=∃xs,om gs xs/\mB b d t u s l xs/\(mP b d t u s l xs).1=y
def jX (b d t u s:Int) (l:List PT) (gs:List (List Span)):Prop:=gs.length<=4/\iE b d t u s l=true/\cC gs.length l=true/\∀xs,om gs xs->mB b d t u s l xs
theorem eO {b d t u s:Int} {l:List PT} (h:iE b d t u s l=true):Sm b/\Sm s/\Bits d t u/\l.length<=4:=by
 unfold iE at h;simp only[Bool.and_eq_true,decide_eq_true_eq]at h;exact⟨h.1,h.2.1,h.2.2.1,h.2.2.2.1⟩
theorem lI {n:Nat} {l:List PT} (h:cC n l=true):BitsAll l/\∀q∈l,0<=q.1/\q.1<n:=by
 have key:∀q∈l,0<=q.1/\q.1<n/\Bits q.2.1 q.2.2.1 q.2.2.2:=fun q hq=>by
  have:=List.all_eq_true.1 h q hq;unfold aT at this;exact of_decide_eq_true this
 exact⟨fun q hq=>(key q hq).2.2,fun q hq=>⟨(key q hq).1,(key q hq).2.1⟩⟩
theorem gG {b d t u s:Int} {l:List PT} {xs:List Int} (h:iE b d t u s l=true) (hp:cC xs.length l=true):mP b d t u s l xs=if(∀x∈xs,Sy x)/\Sy (jm xs s l)then(b+dc d t u (jm xs s l),true)else(0,false):=by
 obtain⟨h1,h2,h3,h4⟩:=eO h;have hin:=Ei (xs:=xs) (lI hp).1 h2 h4;have hvb:=bw h3 (jm xs s l);unfold mP Fh;rw[hin];by_cases hs:∀x∈xs,Sy x
 ·have hsb:Gm xs=true:=za (fun x hx=>hs x (List.mem_of_mem_take hx))
  rw[if_pos ⟨hsb,hp⟩];by_cases hi:Sy (jm xs s l)
  ·rw[if_pos ⟨hi,h3⟩,if_pos ⟨hs,hi⟩]
   unfold Sm at h1;rw[yN (by omega) (by omega)]
  ·rw[if_neg (fun q=>hi q.1),if_neg (fun q=>hi q.2)]
 ·have hsb:Gm xs=false:=by
   cases e:Gm xs with
   | false=>rfl
   | true=>unfold Gm at e;exact absurd (@of_decide_eq_true _ (Classical.propDecidable _) e) hs
  rw[if_neg (fun q=>by rw[hsb]at q;exact absurd q.1 (by decide)),if_neg (fun q=>hs q.1)]
theorem jD {b d t u s:Int} {l:List PT} {xs:List Int} (h:iE b d t u s l=true) (hp:cC xs.length l=true):mB b d t u s l xs↔(∀x∈xs,Sy x)/\Sy (jm xs s l):=by
 unfold mB;rw[gG h hp]
 split
 ·rename_i q;exact⟨fun _=>q,fun _=>rfl⟩
 ·rename_i q;exact⟨fun k=>absurd k (by decide),fun k=>absurd k q⟩
theorem tP {gs:List (List Span)} {g:List Span} (hg:g∈gs) (he:∀x,¬ mem g x) (xs:List Int) : ¬ om gs xs:=by
 rintro⟨h1,h2⟩;obtain⟨i,hi,rfl⟩:=List.getElem_of_mem hg;exact he _ (h2 i hi (by omega))
theorem CW {gs:List (List Span)} (hne:∀g∈gs,∃x,mem g x) {i:Nat} (hi:i<gs.length) {x:Int} (hx:mem gs[i] x):∃xs,om gs xs/\x∈xs:=by
 have hx2:∃F:Nat->Int,∀j,(hj:j<gs.length)->mem gs[j] (F j):=⟨fun j=>if h:j<gs.length then Classical.choose (hne _ (List.getElem_mem h))else 0,fun j hj=>by simp only[dif_pos hj];exact Classical.choose_spec (hne _ (List.getElem_mem hj))⟩;obtain⟨F,hF⟩:=hx2;refine⟨(List.range gs.length).map fun j=>if j=i then x else F j,⟨by simp,fun j hj hj'=>?_⟩,List.mem_map.2 ⟨i,List.mem_range.2 hi,if_pos rfl⟩⟩;simp only[List.getElem_map,List.getElem_range];by_cases e:j=i
 ·subst e;rw[if_pos rfl];exact hx
 ·rw[if_neg e];exact hF j hj
theorem Bc {b d t u s:Int} {l:List PT} {gs:List (List Span)} (h4:gs.length<=4) (hn:iE b d t u s l=true) (hp:cC gs.length l=true) {g:List Span} (hg:g∈gs) (he:∀x,¬ mem g x):jX b d t u s l gs/\∀y,¬ E7 b d t u s l gs y:=
 ⟨⟨h4,hn,hp,fun xs hx=>absurd hx (tP hg he xs)⟩,fun _ ⟨xs,hx,_⟩=>tP hg he xs hx⟩
def rJ (dom:List Span) (i o:Int) (b d t u s:Int) (l:List PT) (gs:List (List Span)):Prop:=gs.length<=4/\aK i o gs.length b d t u s l=true/\∀xs,om gs xs->(∀x∈xs,Sy x)->mB b d t u s l xs/\mem dom (mP b d t u s l xs).1
theorem fV {i o m b d t u s:Int} {l:List PT} (h:aK i o m b d t u s l=true):iE b d t u s l=true/\cC m l=true:=by
 unfold aK at h;simp only[Bool.and_eq_true]at h;exact⟨h.2.2.1,h.2.2.2.1⟩
def Mv (gs own:List (List Span)):Prop:=own.length=gs.length/\∀(i:Nat) (h:i<gs.length) (h':i<own.length),Is own[i] fun x=>mem gs[i] x/\Sy x
theorem sH {gs own:List (List Span)} (h:Mv gs own) (xs:List Int):om own xs↔om gs xs/\∀x∈xs,Sy x:=by
 unfold om
 constructor
 ·rintro⟨h1,h2⟩
  refine⟨⟨by rw[h1,h.1],fun i hi hi'=>(((h.2 i hi (by rw[h.1];exact hi)).2 _).1 (h2 i (by rw[h.1];exact hi) hi')).1⟩,fun x hx=>?_⟩;obtain⟨j,hj,rfl⟩:=List.getElem_of_mem hx;have hjo:j<own.length:=by omega
  exact(((h.2 j (by rw[<- h.1];exact hjo) hjo).2 _).1 (h2 j hjo hj)).2
 ·rintro⟨⟨h1,h2⟩,h3⟩
  exact⟨by rw[h1,h.1],fun i hi hi'=>((h.2 i (by rw[<- h.1];exact hi) hi).2 _).2 ⟨h2 i (by rw[<- h.1];exact hi) hi',h3 _ (List.getElem_mem hi')⟩⟩
theorem EI {dom:List Span} {i o b d t u s:Int} {l:List PT} {gs own:List (List Span)} (h4:gs.length<=4) (hr:aK i o gs.length b d t u s l=true) (hm:Mv gs own):rJ dom i o b d t u s l gs↔jX b d t u s l own/\∀y,E7 b d t u s l own y->mem dom y:=by
 obtain⟨hn,hp⟩:=fV hr;unfold rJ jX E7
 constructor
 ·rintro⟨_,_,h⟩
  refine⟨⟨by rw[hm.1];exact h4,hn,by rw[hm.1];exact hp,fun xs hx=>?_⟩,?_⟩
  ·obtain⟨h1,h2⟩:=(sH hm xs).1 hx
   exact(h xs h1 h2).1
  ·rintro y ⟨xs,hx,_,rfl⟩
   obtain⟨h1,h2⟩:=(sH hm xs).1 hx;exact(h xs h1 h2).2
 ·rintro⟨⟨_,_,_,h1⟩,h2⟩
  refine⟨h4,hr,fun xs hx hs=>?_⟩;have hw:=(sH hm xs).2 ⟨hx,hs⟩;exact⟨h1 xs hw,h2 _ ⟨xs,hw,h1 xs hw,rfl⟩⟩
end Go.Proofs.YtbdmcibcenhpnaaGreatDoor.Fi
