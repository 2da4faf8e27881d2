import Derived.Test.YtbdmcibcenhpnaaGreatDoorF11
import Derived.Laws.AppendOwnNone
set_option maxRecDepth 100000
namespace Go.Proofs.YtbdmcibcenhpnaaGreatDoor.Sp
set_option maxHeartbeats 64000000
open Go Go.RowKit
theorem uK {w:World} {g B:Nat} {lo hi:Int} (hg:g<B) (h:w.heap[g]? = some (.cells #[.int .i64 lo,.int .i64 hi] 47)):RS w B (some ⟨g,0,none⟩) 1 [(lo,hi)]:=by
 refine⟨rfl,fun _=>⟨g,0,rfl,hg,fun j hj=>?_⟩⟩;have:j=0:=by simp at hj;exact hj
 subst this;have hb:Blk w g 47 #[.int .i64 lo,.int .i64 hi]:=h;exact⟨hb.cell 0,hb.cell 1⟩
attribute [local go_sem] jr rQ
theorem En (l:List Span) (x:Int):(Rng x/\inP 0 (bC l x) (bC [] x)=true)↔mem l x:=by
 rw[eT (aI x)];have:inP 0 (bC l x) false=bC l x:=by cases bC l x <;> rfl
 rw[this,fH];exact⟨fun h=>h.2,fun h=>⟨h.1,h⟩⟩
theorem iO (A:Option Addr) (n c:Nat) (l:List Span) (w:World) (h:RS w w.heap.size A n l) (hn:n<=68719476736) :
  Calls Tryz.prog 46 #[.slice A n c] w (aP (mem l) w):=by
 have H:=Lib.hid (Jr A none n 0 c 0 l [] w h (RS.dS _ _ _) hn (by omega));go_enter Tryz.func46,Tryz.ntmps46;go_wp2_with (fail);refine H.out.mono ?_;rintro e w1 ⟨v,out,rfl,his,ho,hb⟩;have HI:=Lib.hid his;clear his;have HO:=Lib.hid ho;clear ho;go_wp2_with (fail);go_ret;exact⟨v,out,rfl,HI.out.congr (En l),HO.out,hb⟩
end Go.Proofs.YtbdmcibcenhpnaaGreatDoor.Sp
namespace Go.Proofs.YtbdmcibcenhpnaaGreatDoor.Sp
set_option maxHeartbeats 64000000
open Go Go.RowKit Go.Shelf
open Go.Lib (hid)
theorem iC {w:World} {base n c:Nat} {A:Option Addr} {o:List Span} (h:av w base (.slice A n c) o):A=none->o=[]/\c=0:=by
 intro hA;subst hA;obtain⟨_,h2⟩:=h;rcases h2 with⟨hv,hn⟩ | ⟨g,cap,cur,hv,_⟩
 ·injection hv with _ _ hc
  exact⟨List.eq_nil_of_length_eq_zero hn,hc⟩
 ·injection hv with hA
  cases hA
def CH (w:World) (xs:List Span) (e:Ending) (w':World):Prop:=∃v,e = .returned v/\av w' w.heap.size v xs/\Below w.heap.size w w'
def Kf (n n':Nat) (s i:Value):Prop:=(i = .int .i64 0/\s = .int .i64 0)\/(i = .int .i64 1/\s = .int .i64 n)\/(i = .int .i64 2/\s = .int .i64 (n+n'))
def KM (l r:List Span) (w:World) (v i:Value) (wr:World):Prop:=
 ((i = .int .i64 0/\av wr w.heap.size v [])\/(i = .int .i64 1/\av wr w.heap.size v l)\/(i = .int .i64 2/\av wr w.heap.size v (l++r)))/\Below w.heap.size w wr
theorem Gz {w:World} {base:Nat} {v:Value} {xs ys:List Span} (h:w.ownsRow base 47 2 v (xs.length+ys.length) (flat xs++flat ys)):av w base v (xs++ys):=by
 unfold av;rw[aA,List.length_append];exact h
theorem yc (g c c1 c2:Nat) (A A':Option Addr) (l r:List Span) (w:World) (hg0:w.cell? ⟨g,0,none⟩=some (.slice A l.length c1)) (hg1:w.cell? ⟨g,1,none⟩=some (.slice A' r.length c2)) (hgs:g<w.heap.size)
  (h:RS w w.heap.size A l.length l) (h':RS w w.heap.size A' r.length r) (hn:l.length<=68719476736) (hn':r.length<=68719476736) (hnil:A=none->l=[]/\c1=0) (sN:A'=none->r=[]/\c2=0) :
  Calls Tryz.prog 137 #[.slice (some ⟨g,0,none⟩) 2 c] w (CH w (l++r)):=by
 obtain⟨i0,hi0,hz0,hz1,hz2⟩:=info_parts bQ;have CD:=hid hnil;have IB:=hid sN;clear hnil sN;go_enter Tryz.func137,Tryz.ntmps137;go_wp2_with (fail)
 go_loop [3,11] (fun s i=>Kf l.length r.length s i) (fun _ i=>2-(intOf i).toNat)
 case atStart=>exact .inl ⟨rfl,rfl⟩
 case round=>
  rcases hrel with⟨rfl,rfl⟩ | ⟨rfl,rfl⟩ | ⟨rfl,rfl⟩
  ·go_wp2_with (fail)
   go_round
   case rel=>exact .inr (.inl ⟨rfl,rfl⟩)
   case measure=>simp[intOf]
  ·go_wp2_with (fail)
   go_round
   case rel=>exact .inr (.inr ⟨rfl,rfl⟩)
   case measure=>simp[intOf]
  ·go_wp2_with (fail)
   refine(kD _ _ (by omega) (by omega)).mono ?_;rintro e w2 ⟨v2,rfl,ho2,hb2⟩;have I4:=hb2.size;have OY:w2.cell? ⟨g,0,none⟩=some (.slice A l.length c1):=(hb2.cell hgs).trans hg0;have OX:w2.cell? ⟨g,1,none⟩=some (.slice A' r.length c2):=(hb2.cell hgs).trans hg1;go_wp2_with (fail);clear OY OX
   go_loopw [6,27] (fun v i wr=>KM l r w v i wr) (fun _ i _=>2-(intOf i).toNat)
   case atStart=>exact⟨.inl ⟨rfl,ho2⟩,hb2⟩
   case round=>
    obtain⟨hcase,hb⟩:=hrel;have hzz:=hb.size;rcases hcase with⟨rfl,ho⟩ | ⟨rfl,ho⟩ | ⟨rfl,ho⟩
    ·have HO:=hid ho;clear ho
     have hcell:wr.cell? ⟨g,0,none⟩=some (.slice A l.length c1):=(hb.cell hgs).trans hg0;have HB:=hid hb;rcases A with _ | ad
     ·have E0:=hid (CD.out rfl).1
      rw[(CD.out rfl).1,(CD.out rfl).2]at hcell;simp only[List.length_nil]at hcell;go_wp2_with (at_builtin;go_must (refine wpList_append_own_none rfl _ _ 48 rfl w.heap.size 47 i0 2 Tryz.underlying48 hi0 _ ([]).length (flat ([])) rfl HO.out rfl ?_))
      go_roundw
      case rel=>exact⟨.inr (.inl ⟨rfl,by rw[E0.out];exact HO.out⟩),HB.out⟩
      case measure=>simp[intOf]
     ·have HR:=hid (h.below hb)
      go_wp2_with (at_builtin;go_must (refine wpList_append_own _ rfl _ _ 48 rfl w.heap.size 47 i0 _ 2 16 Tryz.underlying48 hi0 hz0 hz1 hz2 rfl (by decide) _ ([]).length (flat ([])) rfl HO.out ad l.length c1 (flat l) rfl (aH l) (oV HR.out) (kE l) ?c3 ?c4 ?c5 ?_))
      case c3=>simp only[maxLen,List.length_nil];omega
      case c4=>simp only[List.length_nil];omega
      case c5=>omega
      intro v5 w5 hown5 hg5 _;have HO5:=hid (show av w5 w.heap.size v5 l from hown5);have HG5:=hid (HB.out.grown hg5 hzz (cA HO.out));clear hown5 hg5;go_wp2_with (fail)
      go_roundw
      case rel=>exact⟨.inr (.inl ⟨rfl,HO5.out⟩),HG5.out⟩
      case measure=>simp[intOf]
    ·have HO:=hid ho;clear ho
     have hcell:wr.cell? ⟨g,1,none⟩=some (.slice A' r.length c2):=(hb.cell hgs).trans hg1;have HB:=hid hb;rcases A' with _ | ad
     ·have E0:=hid (IB.out rfl).1
      rw[(IB.out rfl).1,(IB.out rfl).2]at hcell;simp only[List.length_nil]at hcell;go_wp2_with (at_builtin;go_must (refine wpList_append_own_none rfl _ _ 48 rfl w.heap.size 47 i0 2 Tryz.underlying48 hi0 _ (l).length (flat (l)) rfl HO.out rfl ?_))
      go_roundw
      case rel=>exact⟨.inr (.inr ⟨rfl,by rw[E0.out,List.append_nil];exact HO.out⟩),HB.out⟩
      case measure=>simp[intOf]
     ·have HR:=hid (h'.below hb)
      go_wp2_with (at_builtin;go_must (refine wpList_append_own _ rfl _ _ 48 rfl w.heap.size 47 i0 _ 2 16 Tryz.underlying48 hi0 hz0 hz1 hz2 rfl (by decide) _ (l).length (flat (l)) rfl HO.out ad r.length c2 (flat r) rfl (aH r) (oV HR.out) (kE r) ?c3 ?c4 ?c5 ?_))
      case c3=>simp only[maxLen];omega
      case c4=>omega
      case c5=>omega
      intro v5 w5 hown5 hg5 _;have HO5:=hid (Gz hown5);have HG5:=hid (HB.out.grown hg5 hzz (cA HO.out));clear hown5 hg5;go_wp2_with (fail)
      go_roundw
      case rel=>exact⟨.inr (.inr ⟨rfl,HO5.out⟩),HG5.out⟩
      case measure=>simp[intOf]
    ·have HO:=hid ho;clear ho
     go_wp2_with (fail);go_ret;exact⟨_,rfl,HO.out,hb⟩
theorem GQ (l r:List Span) (x:Int):mem (l++r) x↔mem l x\/mem r x:=mem_append
theorem yU (A A':Option Addr) (c1 c2:Nat) (l r:List Span) (w:World) (h:RS w w.heap.size A l.length l) (h':RS w w.heap.size A' r.length r) (hn:l.length<=68719476736) (hn':r.length<=68719476736) (hnil:A=none->l=[]/\c1=0) (sN:A'=none->r=[]/\c2=0) :
  Calls Tryz.prog 125 #[.slice A l.length c1,.slice A' r.length c2] w (aP (fun x=>mem l x\/mem r x) w):=by
 have hal:Below w.heap.size w (w.alloc (.cells #[.slice A l.length c1,.slice A' r.length c2] 48)):=(Below.refl _ _).alloc (Nat.le_refl _) _;have H:=hid (yc w.heap.size 2 c1 c2 A A' l r (w.alloc (.cells #[.slice A l.length c1,.slice A' r.length c2] 48)) (by simp) (by simp) (by simp) (h.ah hal) (h'.ah hal) hn hn' hnil sN);have HB:=hid hal;clear h h' hnil sN hal;go_enter Tryz.func125,Tryz.ntmps125;go_wp2_with (fail);refine H.out.mono ?_;rintro e w2 ⟨v2,rfl,ho2,hb2⟩;obtain⟨A2,c2',hv2,hc2,hr2⟩:=aF ho2;subst hv2;have HB2:=hid (HB.out.trans (hb2.mono HB.out.size));rw[List.length_append]at hr2;have HN:=hid (fF A2 (l.length+r.length) c2' (l++r) w2 hr2 (by omega));rw[List.length_append];clear ho2 hr2 hb2;go_wp2_with (fail);refine HN.out.mono ?_;rintro e w3 ⟨v3,o3,rfl,his3,ho3,hb3⟩;have HI:=hid (his3.congr (GQ l r));clear his3;go_wp2_with (fail);go_ret;exact⟨v3,o3,rfl,HI.out,aL ho3 HB2.out.size,HB2.out.trans (hb3.mono HB2.out.size)⟩
end Go.Proofs.YtbdmcibcenhpnaaGreatDoor.Sp
namespace Go.Proofs.YtbdmcibcenhpnaaGreatDoor.Sh
set_option maxHeartbeats 64000000
open Go Go.RowKit Sp
open Go.Lib (hid)
def cK (a b:List Span):List Span:=a.flatMap fun p=>b.map fun q=>(p.1+q.1,p.2+q.2)
theorem mT {a b:List Span} {k:Nat} (hk:k<a.length):cK (a.take (k+1)) b=cK (a.take k) b++b.map fun q=>(a[k].1+q.1,a[k].2+q.2):=by
 unfold cK;rw[List.take_succ_eq_append_getElem hk,List.flatMap_append];simp
theorem kS (a b:List Span):(cK a b).length=a.length*b.length:=by
 unfold cK
 induction a with
 | nil=>simp
 | cons p a ih=>rw[List.flatMap_cons,List.length_append,ih,List.length_map,List.length_cons,Nat.succ_mul];omega
def H9 (a b:List Span):Prop:=∀p∈a,∀q∈b,p.1<=p.2/\q.1<=q.2/\-1073741824<=p.1/\p.2<=1073741824/\-1073741824<=q.1/\q.2<=1073741824/\-1073741824<=p.1+q.1/\p.2+q.2<=1073741824
def Hz (a b:List Span) (z:Int):Prop:=∃x y,mem a x/\mem b y/\x+y=z
theorem pO {a b:List Span} (h:H9 a b) (z:Int):mem (cK a b) z↔Hz a b z:=by
 unfold mem cK Hz;simp only[List.mem_flatMap,List.mem_map]
 constructor
 ·rintro⟨hr,r,⟨p,hp,q,hq,rfl⟩,h1,h2⟩
  obtain⟨k1,k2,k3,k4,k5,k6,k7,k8⟩:=h p hp q hq;simp only at h1 h2;have hx:∃x:Int,p.1<=x/\x<=p.2/\q.1<=z-x/\z-x<=q.2:=by
   by_cases c:z-q.1<=p.2
   ·exact⟨z-q.1,by omega,c,by omega,by omega⟩
   ·exact⟨p.2,by omega,by omega,by omega,by omega⟩
  obtain⟨x,x1,x2,x3,x4⟩:=hx;exact⟨x,z-x,⟨⟨by omega,by omega⟩,p,hp,x1,x2⟩,⟨⟨by omega,by omega⟩,q,hq,x3,x4⟩,by omega⟩
 ·rintro⟨x,y,⟨_,p,hp,x1,x2⟩,⟨_,q,hq,y1,y2⟩,rfl⟩
  obtain⟨k1,k2,k3,k4,k5,k6,k7,k8⟩:=h p hp q hq;exact⟨⟨by omega,by omega⟩,_,⟨p,hp,q,hq,rfl⟩,by simp only;omega,by simp only;omega⟩
def Kg (a b:List Span) (w:World) (v i:Value) (wr:World):Prop:=∃k:Nat,k<=a.length/\i = .int .i64 k/\av wr w.heap.size v (cK (a.take k) b)/\Below w.heap.size w wr
def FX (pre b:List Span) (lo hi:Int) (w:World) (B:Nat) (v i:Value) (wr:World):Prop:=∃k:Nat,k<=b.length/\i = .int .i64 k/\av wr w.heap.size v (pre++(b.take k).map fun q=>(lo+q.1,hi+q.2))/\Below w.heap.size w wr/\wr.cell? ⟨B,0,none⟩=some (.int .i64 lo)/\wr.cell? ⟨B,1,none⟩=some (.int .i64 hi)/\B<wr.heap.size/\v.ownBlock≠some B
theorem jA {w w':World} {base:Nat} {v:Value} {l:List Span} (h:av w base v l) (hb:Below w.heap.size w w'):av w' base v l:=by
 have hlt:=World.ownsRow.lt h;obtain⟨h1,h2⟩:=h;refine⟨h1,?_⟩;rcases h2 with h2 | ⟨g,cap,cur,hv,hg,hr,hrest⟩
 ·exact .inl h2
 ·subst hv
  exact .inr ⟨g,cap,cur,rfl,hg,(hb.block g (hlt g rfl).2).trans hr,hrest⟩
theorem oz (A A':Option Addr) (n n' c c':Nat) (a b:List Span) (w:World) (h:RS w w.heap.size A n a) (h':RS w w.heap.size A' n' b) (hn:n*n'<=16384) (hn1:n<=16384) (hn2:n'<=16384) (hok:H9 a b) :
  Calls Tryz.prog 115 #[.slice A n c,.slice A' n' c'] w (aP (Hz a b) w):=by
 obtain⟨i0,hi0,hz0,hz1,hz2⟩:=info_parts bQ;have H:=hid h;have H':=hid h';have hla:=h.1;have hlb:=h'.1;have HLA:=hid (And.intro hla hlb);have HOK:=hid hok;have hm:(n:Int)*(n':Int)<=16384:=by rw[<- Int.natCast_mul];omega
 have hm0:(0:Int)<=(n:Int)*(n':Int):=by rw[<- Int.natCast_mul];omega
 have s0:IntKind.i64.wrap ((n:Int)*(n':Int))=(n:Int)*(n':Int):=IntWalk.i64_in _ (by omega);obtain⟨m,hmm⟩:∃m,(n:Int)*(n':Int)=m:=⟨_,rfl⟩;rw[hmm]at s0 hm hm0;have hd:decide ((16384:Int)<m)=false:=decide_eq_false (by omega);clear h h' hok;go_enter Tryz.func115,Tryz.ntmps115;go_wp2_with (fail)
 go_loopw [5,21] (fun v i wr=>Kg a b w v i wr) (fun _ i _=>n-(intOf i).toNat)
 case atStart=>exact⟨0,Nat.zero_le _,rfl,World.ownsRow_nil _ _ _ _,Below.refl _ _⟩
 case round=>
  obtain⟨k,hk,rfl,ho,hb⟩:=hrel;obtain⟨A6,c6,hv6⟩:=aF ho;have xO:=kS (a.take k) b;by_cases hlt:k<n
  ·obtain⟨bA,off,lo,hi,hA,hbB,⟨hkl,hlk⟩,f1,f2⟩:=(H.out.ah hb).at_ hlt
   subst hA;have HB:=hid hb;have i1':(0:Int)<=(k:Int):=Int.natCast_nonneg _;have i2':(k:Int)<(n:Int):=by omega
   have s3:IntKind.i64.wrap ((k:Int)+1)=(k:Int)+1:=IntWalk.i64_in _ (by omega);have HLK:=hid hlk;have HNX:=hid (mT (a:=a) (b:=b) hkl);obtain⟨w4,hw4⟩:∃w4,wr.alloc (.cells #[.int .i64 lo,.int .i64 hi] 47)=w4:=⟨_,rfl⟩;have b4:Below wr.heap.size wr w4:=by rw[<- hw4];exact(Below.refl _ _).alloc (Nat.le_refl _) _
   have hs4:w4.heap.size=wr.heap.size+1:=by rw[<- hw4];simp
   obtain⟨B,hB⟩:∃B,wr.heap.size=B:=⟨_,rfl⟩;have hg1:w4.cell? ⟨B,0,none⟩=some (.int .i64 lo):=by rw[<- hw4,<- hB];simp
   have hg2:w4.cell? ⟨B,1,none⟩=some (.int .i64 hi):=by rw[<- hw4,<- hB];simp
   obtain⟨pre,hpre⟩:∃pre,cK (a.take k) b=pre:=⟨_,rfl⟩;have MO:=hid hpre;rw[hpre]at ho xO;have hpl:pre.length<=16384:=by
    rw[xO,List.length_take];have h1:min k a.length<=n:=by omega
    have h2:=Nat.mul_le_mul_right b.length h1;have h3:=HLA.out.2;rw[h3]at h2 ⊢;omega
   have HST:=hid (show FX pre b lo hi w B u5 (.int .i64 0) w4 from⟨0,Nat.zero_le _,rfl,by rw[List.take_zero,List.map_nil,List.append_nil];exact jA ho b4,HB.out.trans (b4.mono HB.out.size),hg1,hg2,by omega,fun e=>by have:=(World.ownsRow.lt ho _ e).2;omega⟩);have PA:=hid (show∀q∈b,lo<=hi/\q.1<=q.2/\-1073741824<=lo/\hi<=1073741824/\-1073741824<=q.1/\q.2<=1073741824/\-1073741824<=lo+q.1/\hi+q.2<=1073741824 from fun q hq=>by
    have:=HOK.out _ (List.getElem_mem hkl) q hq;rw[hlk]at this;exact this)
   have OL:=hv6;clear ho hb hlk hpre hg1 hg2 b4 hv6 OL xO;rw[hB]at hs4;go_wp2_with (fail)
   go_loopw [5,27] (fun v i wr=>FX pre b lo hi w B v i wr) (fun _ i _=>n'-(intOf i).toNat)
   case atStart=>exact HST.out
   case round=>
    obtain⟨j,hj,rfl,ho,hb,g1,g2,hBl,hne⟩:=hrel;have HB2:=hid hb;obtain⟨Av,cv,hv,_,_⟩:=aF ho;obtain⟨X,hX⟩:∃X,pre++(b.take j).map (fun q=>(lo+q.1,hi+q.2))=X:=⟨_,rfl⟩;have HX:=hid hX;have hXl:X.length<=32768:=by
     rw[<- hX,List.length_append,List.length_map,List.length_take];have:=HLA.out.2;omega
    rw[hX]at ho hv;obtain⟨nx,hnx⟩:∃nx,X.length=nx:=⟨_,rfl⟩;have PD:=hid hnx;rw[hnx]at hv hXl;subst hv;by_cases hlt2:j<n'
    ·obtain⟨bB,off2,lo2,hi2,hA2,sP,⟨hjl,hlj⟩,e1,e2⟩:=(H'.out.ah hb).at_ hlt2
     subst hA2;obtain⟨q1,q2,q3,q4,q5,q6,q7,q8⟩:=PA.out _ (List.getElem_mem hjl);rw[hlj]at q2 q5 q6 q7 q8;simp only at q2 q5 q6 q7 q8;have t1:IntKind.i64.wrap (lo+lo2)=lo+lo2:=IntWalk.i64_in _ (by omega);have t2:IntKind.i64.wrap (hi+hi2)=hi+hi2:=IntWalk.i64_in _ (by omega);have j1:(0:Int)<=(j:Int):=Int.natCast_nonneg _;have j2:(j:Int)<(n':Int):=by omega
     have t3:IntKind.i64.wrap ((j:Int)+1)=(j:Int)+1:=IntWalk.i64_in _ (by omega);obtain⟨w5,hw5⟩:∃w5,wr.alloc (.cells #[.int .i64 lo2,.int .i64 hi2] 47)=w5:=⟨_,rfl⟩;have b5:Below wr.heap.size wr w5:=by rw[<- hw5];exact(Below.refl _ _).alloc (Nat.le_refl _) _
     have hs5:w5.heap.size=wr.heap.size+1:=by rw[<- hw5];simp
     have c1:w5.cell? ⟨wr.heap.size,0,none⟩=some (.int .i64 lo2):=by rw[<- hw5];simp
     have c2:w5.cell? ⟨wr.heap.size,1,none⟩=some (.int .i64 hi2):=by rw[<- hw5];simp
     have c3:w5.cell? ⟨B,0,none⟩=some (.int .i64 lo):=(b5.cell hBl).trans g1;have c4:w5.cell? ⟨B,1,none⟩=some (.int .i64 hi):=(b5.cell hBl).trans g2;obtain⟨w6,hw6⟩:∃w6,w5.alloc (.cells #[.int .i64 (lo+lo2),.int .i64 (hi+hi2)] 47)=w6:=⟨_,rfl⟩;have b6:Below w5.heap.size w5 w6:=by rw[<- hw6];exact(Below.refl _ _).alloc (Nat.le_refl _) _
     have hs6:w6.heap.size=w5.heap.size+1:=by rw[<- hw6];simp
     have b56:Below wr.heap.size wr w6:=b5.trans (b6.mono b5.size);have ho6:=jA ho b56;have hge:∀q,(Value.slice Av nx cv).ownBlock=some q->w.heap.size<=q/\q<wr.heap.size:=fun q e=>World.ownsRow.lt ho q e
     have NH:w6.ownsRow w.heap.size 47 2 (.slice Av nx cv) nx (flat X):=by
      have:=ho6;unfold av at this;rw[hnx]at this;exact this
     have hnews:∀jj u,[Value.int .i64 (lo+lo2),.int .i64 (hi+hi2)][jj]? = some u->w6.cell? ((⟨wr.heap.size+1,0,none⟩:Addr).add jj)=some u:=by
      rw[<- hw6,<- hs5];exact World.news_of_block (cs:=#[.int .i64 (lo+lo2),.int .i64 (hi+hi2)]) (t:=47) (fr:=(0,0)) (heap_alloc_new w5 _)
     have hbs:=HB2.out.size;have HB6:=hid (HB2.out.trans (b56.mono HB2.out.size));have HC:=hid (And.intro ((b56.cell (p:=⟨B,0,none⟩) hBl).trans g1) ((b56.cell (p:=⟨B,1,none⟩) hBl).trans g2));have HNJ:=hid (show X++[(lo+lo2,hi+hi2)]=pre++(b.take (j+1)).map (fun q=>(lo+q.1,hi+q.2))from by
      rw[<- HX.out,List.take_succ_eq_append_getElem hjl,List.map_append,List.append_assoc,hlj];rfl)
     clear ho ho6 b5 b6 b56 hb hX hnx hlj g1 g2 hjl;go_wp2_with (at_builtin;go_must (refine wpList_append_own_at _ rfl _ _ 48 rfl w.heap.size 47 i0 _ 2 16 Tryz.underlying48 hi0 hz0 hz1 hz2 rfl (by decide) (.slice Av nx cv) nx (flat X) rfl NH ⟨wr.heap.size+1,0,none⟩ 1 1 [.int .i64 (lo+lo2),.int .i64 (hi+hi2)] rfl rfl hnews ?c2 ?c3 ?c4 ?c5 ?_))
     case c2=>intro u hu;simp at hu;rcases hu with rfl | rfl <;> rfl
     case c3=>simp only[maxLen];omega
     case c4=>omega
     case c5=>omega
     intro v7 w7 hown7 hg7 _ hat7;have HN7:=hid (show av w7 w.heap.size v7 (X++[(lo+lo2,hi+hi2)])from by
      unfold av;rw[aA,List.length_append,List.length_singleton,PD.out];exact hown7)
     have HB7:=hid (HB6.out.grown hg7 HB6.out.size (fun q e=>(hge q e).1));have HC7:=hid (And.intro (hg7.cell HC.out.1 (fun e=>hne e.symm)) (hg7.cell HC.out.2 (fun e=>hne e.symm)));have PG:=hid (show v7.ownBlock≠some B from fun e=>by
      rcases hat7 with q | q
      ·rw[q]at e;exact hne e
      ·rw[q]at e;injection e with e;omega)
     have hs7:=hg7.size;clear hown7 hg7 hat7 NH hnews;go_wp2_with (fail)
     go_roundw
     case rel=>exact⟨j+1,by have:=HLA.out.2;omega,by go_num,by rw[<- HNJ.out];exact HN7.out,HB7.out,HC7.out.1,HC7.out.2,by omega,PG.out⟩
     case measure=>simp[intOf];omega
    ·have hjn:j=n':=by omega
     have HFI:=hid (show av wr w.heap.size (.slice Av nx cv) (cK (a.take (k+1)) b)from by
      rw[HNX.out,MO.out,HLK.out];have h1:=ho;rw[<- HX.out,List.take_of_length_le (by have:=HLA.out.2;omega)]at h1;exact h1)
     clear ho hb hX hnx g1 g2;go_wp2_with (fail)
     go_roundw
     case rel=>exact⟨k+1,by have:=HLA.out.1;omega,by go_num,HFI.out,HB2.out⟩
     case measure=>simp[intOf];omega
  ·have hkn:k=n:=by omega
   obtain⟨hc6,hr6⟩:=hv6.2;have hv7:=hv6.1;subst hv7;have htk:a.take k=a:=List.take_of_length_le (by have:=HLA.out.1;omega);rw[htk]at hr6 xO ho;have HNO:=hid (fF A6 (cK a b).length c6 (cK a b) wr hr6 (by rw[xO,HLA.out.1,HLA.out.2];omega));have HB:=hid hb;have HMM:=hid (pO HOK.out);rw[htk];clear ho hb hr6 xO hc6 htk;go_wp2_with (fail);refine HNO.out.mono ?_;rintro e w3 ⟨v3,out,rfl,his,ho3,hb3⟩;have HFI:=hid (show aP (Hz a b) w (.returned v3) w3 from⟨v3,out,rfl,his.congr HMM.out,aL ho3 HB.out.size,HB.out.trans (hb3.mono HB.out.size)⟩);clear his ho3 hb3;go_wp2_with (fail);go_ret;exact HFI.out
end Go.Proofs.YtbdmcibcenhpnaaGreatDoor.Sh
namespace Go.Proofs.YtbdmcibcenhpnaaGreatDoor.Fi
open Sp Sh
def mg (L:List Span) (x:Int):Int:=(L.map fun p=>if p.1<=x/\x<=p.2 then(1:Int)else 0).sum
def iG (L:List Span) (x:Int):Int:=(L.map fun p=>(if p.1=x then(1:Int)else 0)-(if p.2+1=x then 1 else 0)).sum
theorem kK (p:Span) (L:List Span) (x:Int):mg (p::L) x=(if p.1<=x/\x<=p.2 then(1:Int)else 0)+mg L x:=by simp[mg]
theorem vF (p:Span) (L:List Span) (x:Int):iG (p::L) x=((if p.1=x then(1:Int)else 0)-(if p.2+1=x then 1 else 0))+iG L x:=by simp[iG]
theorem ET (L:List Span) (p:Span) (x:Int):iG (L++[p]) x=iG L x+((if p.1=x then(1:Int)else 0)-(if p.2+1=x then 1 else 0)):=by simp[iG]
theorem iZ:∀{L:List Span},(∀p∈L,p.1<=p.2)->∀x,mg L x=mg L (x-1)+iG L x
 | [],_,x=>rfl
 | p::L,h,x=>by
  have h1:=h p (List.mem_cons_self ..);have h2:=iZ (fun q hq=>h q (List.mem_cons_of_mem _ hq)) x (L:=L);rw[kK,kK,vF,h2]
  (repeat' split) <;> omega
theorem dN:∀(L:List Span) (x:Int),0<=mg L x/\mg L x<=L.length
 | [],x=>by simp[mg]
 | p::L,x=>by
  have:=dN L x;rw[kK,List.length_cons]
  split <;> omega
theorem jc:∀(L:List Span) (x:Int),-(L.length:Int)<=iG L x/\iG L x<=L.length
 | [],x=>by simp[iG]
 | p::L,x=>by
  have:=jc L x;rw[vF,List.length_cons]
  (repeat' split) <;> omega
theorem oQ:∀(L:List Span) (x:Int),0<mg L x↔∃p∈L,p.1<=x/\x<=p.2
 | [],x=>by simp[mg]
 | p::L,x=>by
  have h1:=dN L x;have h2:=oQ L x;rw[kK]
  constructor
  ·intro h
   by_cases e:p.1<=x/\x<=p.2
   ·exact⟨p,List.mem_cons_self ..,e⟩
   ·rw[if_neg e]at h
    obtain⟨q,hq,e⟩:=h2.1 (by omega);exact⟨q,List.mem_cons_of_mem _ hq,e⟩
  ·rintro⟨q,hq,e⟩
   rcases List.mem_cons.1 hq with rfl | hq
   ·rw[if_pos e];omega
   ·have:=h2.2 ⟨q,hq,e⟩
    split <;> omega
theorem tj {L:List Span} (h:∀p∈L,0<=p.1) {x:Int} (hx:x<0):mg L x=0:=by
 have h1:=dN L x;rcases Int.lt_or_le 0 (mg L x)with q | q
 ·obtain⟨p,hp,a,b⟩:=(oQ L x).1 q
  have:=h p hp;omega
 ·omega
structure cH (L:List Span) (k:Int) (out:List Span):Prop where
 plain:Plain out
 tells:∀y,mem out y↔y<k/\0<mg L y
 on:0<mg L (k-1)->∃o a,out=o++[(a,k-1)]
 off:mg L (k-1)=0->∀p∈out,p.2+1<k
def tN (L:List Span):Prop:=∀p∈L,0<=p.1/\p.1<=p.2/\p.2<=1073000000
theorem cH.start {L:List Span} (h:tN L):cH L 0 []:=
 ⟨Plain.nil,fun y=>⟨fun q=>absurd q (aI y),fun⟨h1,h2⟩=>by rw[tj (fun p hp=>(h p hp).1) h1]at h2;omega⟩,fun q=>by rw[tj (fun p hp=>(h p hp).1) (by omega)]at q;omega,fun _ p hp=>by cases hp⟩
theorem BR {L:List Span} (h:tN L) {y:Int} (hy:0<mg L y):0<=y/\y<=1073000000:=by
 obtain⟨p,hp,a,b⟩:=(oQ L y).1 hy;have:=h p hp;omega
theorem cH.fresh {L out:List Span} {k:Int} (hL:tN L) (h:cH L k out) (h0:mg L (k-1)=0) (hc:0<iG L k):cH L (k+1) (out++[(k,k)]):=by
 have hs:=iZ (fun p hp=>(hL p hp).2.1) k;have hk:=BR hL (y:=k) (by omega);refine⟨h.plain.snoc (by unfold Ok;simp only;omega) (fun q hq=>by have:=h.off h0 q hq;simp only;omega),fun y=>?_,fun _=>⟨out,k,by rw[show k+1-1=k by omega]⟩,fun q=>by rw[show k+1-1=k by omega]at q;omega⟩;rw[mem_append,h.tells,aN];unfold Rng;simp only
 constructor
 ·rintro(⟨a,b⟩ | ⟨_,a,b⟩)
  ·exact⟨by omega,b⟩
  ·obtain rfl:y=k:=by omega
   exact⟨by omega,by omega⟩
 ·rintro⟨a,b⟩
  by_cases e:y=k
  ·exact .inr ⟨by omega,by omega,by omega⟩
  ·exact .inl ⟨by omega,b⟩
theorem cH.longer {L o:List Span} {a k:Int} (hL:tN L) (h:cH L k (o++[(a,k-1)])) (hc:0<mg L (k-1)+iG L k):cH L (k+1) (o++[(a,k)]):=by
 have hs:=iZ (fun p hp=>(hL p hp).2.1) k;have hk:=BR hL (y:=k) (by omega);obtain⟨p1,p2,p3⟩:=h.plain.append;have p4:=p2.2 _ (List.mem_singleton.2 rfl);unfold Ok at p4;simp only at p4;refine⟨p1.snoc (by unfold Ok;simp only;omega) (fun q hq=>by have:=p3 q hq (a,k-1) (List.mem_singleton.2 rfl);exact this),fun y=>?_,fun _=>⟨o,a,by rw[show k+1-1=k by omega]⟩,fun q=>by rw[show k+1-1=k by omega]at q;omega⟩;have h1:=h.tells y;rw[mem_append,aN]at h1 ⊢;unfold Rng at h1 ⊢;simp only at h1 ⊢;by_cases e:y=k
 ·subst e
  constructor
  ·intro _
   exact⟨by omega,by omega⟩
  ·intro _
   exact .inr ⟨by omega,by omega,by omega⟩
 ·constructor
  ·rintro(q | ⟨_,b1,b2⟩)
   ·have:=h1.1 (.inl q)
    exact⟨by omega,this.2⟩
   ·have:=h1.1 (.inr ⟨by omega,by omega,by omega⟩)
    exact⟨by omega,this.2⟩
  ·rintro⟨b1,b2⟩
   rcases h1.2 ⟨by omega,b2⟩with q | ⟨_,q1,q2⟩
   ·exact .inl q
   ·exact .inr ⟨by omega,q1,by omega⟩
theorem cH.none_ {L out:List Span} {k:Int} (hL:tN L) (h:cH L k out) (hc:mg L (k-1)+iG L k=0):cH L (k+1) out:=by
 have hs:=iZ (fun p hp=>(hL p hp).2.1) k;refine⟨h.plain,fun y=>?_,fun q=>by rw[show k+1-1=k by omega]at q;omega,fun _ p hp=>?_⟩
 ·rw[h.tells]
  constructor
  ·rintro⟨a,b⟩
   exact⟨by omega,b⟩
  ·rintro⟨a,b⟩
   refine⟨?_,b⟩;rcases Int.lt_or_le y k with q | q
   ·exact q
   ·obtain rfl:y=k:=by omega
    omega
 ·rcases Int.lt_or_le 0 (mg L (k-1))with q | q
  ·obtain⟨o,a,rfl⟩:=h.on q
   have h2:=h.plain;rcases List.mem_append.1 hp with hp | hp
   ·have:=h2.append.2.2 _ hp _ (List.mem_singleton.2 rfl)
    have h3:=(h2.append.2.1).2 _ (List.mem_singleton.2 rfl);unfold Ok at h3;simp only at this h3;omega
   ·obtain rfl:=List.mem_singleton.1 hp
    show k-1+1<k+1;omega
  ·have:=h.off (by have:=(dN L (k-1)).1;omega) p hp
   omega
theorem cH.done {L out:List Span} {k:Int} (hL:tN L) (h:cH L k out) (hk:∀p∈L,p.2<k):Is out (mem L):=by
 refine⟨h.plain,fun y=>?_⟩;rw[h.tells,oQ];unfold mem Rng
 constructor
 ·rintro⟨_,p,hp,a,b⟩
  have:=hL p hp;exact⟨by omega,p,hp,a,b⟩
 ·rintro⟨_,p,hp,a,b⟩
  have:=hk p hp;exact⟨by omega,p,hp,a,b⟩
end Go.Proofs.YtbdmcibcenhpnaaGreatDoor.Fi
