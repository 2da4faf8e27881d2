import Derived.Test.YtbdmcibcenhpnaaGreatDoorF4
import Derived.Test.YtbdmcibcenhpnaaGreatDoorF7
import Derived.Test.YtbdmcibcenhpnaaGreatDoorF25
import Derived.Lib.ItoaNum
namespace Go.Proofs.YtbdmcibcenhpnaaGreatDoor.Fi
set_option maxHeartbeats 64000000
set_option maxRecDepth 100000
open Go Go.RowKit Go.Shelf Sp Pa Te
open Go.Lib (hid)
def jh (w:World):Prop:=TabAt 1 Lib.deBruijn64tab w/\2<=w.heap.size
theorem jh.below {w w':World} {B:Nat} (h:jh w) (hb:Below B w w') (hB:2<=B) (hs:w.heap.size<=w'.heap.size):jh w':=
 ⟨fun j hj=>(hb.cell (p:=⟨1,j,none⟩) (by show 1<B;omega)).trans (h.1 j hj),by have:=h.2;omega⟩
theorem jh.next {w w':World} (h:jh w) (hb:Below w.heap.size w w'):jh w':=h.below hb h.2 hb.size
theorem Ji (x:Nat) (hx:x<18446744073709551616) (w:World) (hT:jh w):Calls Tryz.prog 136 #[.int .u64 x] w fun e w'=>e = .returned (.int .i64 (Lib.ctz 64 x))/\w=w':=by
 have h:=Any7.bits_TrailingZeros tzB x hx w (fun _=>hT.1)
 change Calls Tryz.prog 136 _ _ _ at h
 exact h.mono fun _ _ ⟨he,hw⟩=>⟨he,hw.symm⟩
theorem GR (x:Int) (w:World) (h0:0<=x) (h1:x<=18446744073709551615):Calls Tryz.prog 134 #[.int .u64 x] w fun e w'=>e = .returned (.int .i64 (Lib.bitLen x.toNat))/\w=w':=by
 have h:=Any.bits_Len (SlLaysF0.n15.bits (P:=Tryz.prog) (ρ:=mW) { zy with }) x w h0 h1
 change Calls Tryz.prog 134 _ _ _ at h
 exact h.mono fun _ _ ⟨he,hw⟩=>⟨he,hw.symm⟩
theorem Fu (n:Nat):pw (n:Int)=((2 ^ n:Nat):Int):=by
 unfold pw;rw[Int.toNat_natCast,Int.natCast_pow];rfl
def jK (x most:Int) (w:World) (e:Ending) (w':World):Prop:=∃n:Nat,e = .returned (.int .i64 n)/\(∃m:Int,x=pw n*m)/\x+pw n<=most+1/\n<=40/\w=w'
theorem Bq (x d:Nat) (n:Nat) (hx:x<2 ^ 32) (hd:d<2 ^ 32) (h:n=min (Lib.ctz 64 x) (Lib.bitLen (d+1)-1)):(∃m:Int,(x:Int)=pw n*m)/\pw n<=(d:Int)+1/\n<=40/\1<=Lib.bitLen (d+1):=by
 obtain⟨h1,h2,h3⟩:=Lib.bitLenAux_bounds 64 (d+1) (by omega) (by omega);have h4:Lib.bitLen (d+1)<=33:=Lib.bitLen_le (d+1) 33 (by omega) (by omega);unfold Lib.bitLen at *;refine⟨?_,?_,by omega,h1⟩
 ·rw[Fu]
  by_cases e:x=0
  ·subst e
   exact⟨0,by simp⟩
  ·obtain⟨m,hm,_⟩:=Lib.ctzFrom_spec 64 x (by omega) (by omega)
   have hc:Lib.ctz 64 x=Lib.ctzFrom 64 x:=if_neg e;have hn:n<=Lib.ctzFrom 64 x:=by rw[h,hc];exact Nat.min_le_left _ _
   refine⟨((2 ^ (Lib.ctzFrom 64 x-n)*(2*m+1):Nat):Int),?_⟩;rw[<- Int.natCast_mul,<- Nat.mul_assoc,<- Nat.pow_add,show n+(Lib.ctzFrom 64 x-n)=Lib.ctzFrom 64 x by omega];exact congrArg Int.ofNat hm
 ·rw[Fu]
  have hn:n<=Lib.bitLenAux 64 (d+1)-1:=by rw[h];exact Nat.min_le_right _ _
  have:=Nat.pow_le_pow_right (show 0<2 by decide) hn;omega
theorem ED (x most:Int) (w:World) (h0:0<=x) (h1:x<=most) (h2:most<=1114111) (hT:jh w) :
  Calls Tryz.prog 124 #[.int .i64 x,.int .i64 most] w (jK x most w):=by
 obtain⟨xn,rfl⟩:=Int.eq_ofNat_of_zero_le h0;obtain⟨d,hd⟩:=Int.eq_ofNat_of_zero_le (show 0<=most-(xn:Int)by omega);have HZ:=hid (Ji xn (by omega) w hT);have HL:=hid (GR ((d:Int)+1) w (by omega) (by omega));have hm:=Bq xn d _ (by omega) (by omega) rfl;rw[show((d:Int)+1).toNat=d+1 by omega]at HL;obtain⟨c,hc⟩:∃c,Lib.ctz 64 xn=c:=⟨_,rfl⟩;obtain⟨l,hl⟩:∃l,Lib.bitLen (d+1)=l:=⟨_,rfl⟩;rw[hc]at HZ hm;rw[hl]at HL hm;obtain⟨l0,hl0⟩:∃l0,l-1=l0:=⟨_,rfl⟩;rw[hl0]at hm;have HM:=hid hm;have hl1:=hm.2.2.2;have hll:l<=33:=by rw[<- hl];exact Lib.bitLen_le (d+1) 33 (by omega) (by omega)
 have s1:IntKind.i64.wrap (most-(xn:Int))=(d:Int):=by rw[IntWalk.i64_in _ (by omega)];exact hd
 have s2:IntKind.i64.wrap ((d:Int)+1)=(d:Int)+1:=IntWalk.i64_in _ (by omega);have s3:IntKind.i64.wrap ((l:Int)-1)=(l0:Int):=by rw[IntWalk.i64_in _ (by omega)];omega
 have HD:=hid hd;have hdb:d<=1114111:=by omega
 clear hm hd hc hl hl0 hT;by_cases hq:(c:Int)<=(l0:Int)
 ·have HE:=hid (show min c l0=c by omega)
  go_enter Tryz.func124,Tryz.ntmps124;go_wp2_with (fail);refine HZ.out.mono ?_;rintro e w1 ⟨rfl,rfl⟩;go_wp2_with (fail);refine HL.out.mono ?_;rintro e w1 ⟨rfl,rfl⟩;go_wp2_with (fail);go_ret;exact⟨c,Dw (show min (c:Int) (l0:Int)=_ by omega),by have:=HM.out.1;rwa [HE.out]at this,by have:=HM.out.2.1;rw[HE.out]at this;have:=HD.out;omega,by have:=HM.out.2.2.1;rw[HE.out]at this;exact this,rfl⟩
 ·have HE:=hid (show min c l0=l0 by omega)
  go_enter Tryz.func124,Tryz.ntmps124;go_wp2_with (fail);refine HZ.out.mono ?_;rintro e w1 ⟨rfl,rfl⟩;go_wp2_with (fail);refine HL.out.mono ?_;rintro e w1 ⟨rfl,rfl⟩;go_wp2_with (fail);go_ret;exact⟨l0,Dw (show min (c:Int) (l0:Int)=_ by omega),by have:=HM.out.1;rwa [HE.out]at this,by have:=HM.out.2.1;rw[HE.out]at this;have:=HD.out;omega,by have:=HM.out.2.2.1;rw[HE.out]at this;exact this,rfl⟩
end Go.Proofs.YtbdmcibcenhpnaaGreatDoor.Fi
