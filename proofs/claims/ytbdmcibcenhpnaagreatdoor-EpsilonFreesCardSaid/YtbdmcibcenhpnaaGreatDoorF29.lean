import Derived.Test.YtbdmcibcenhpnaaGreatDoorF4
import Derived.Test.YtbdmcibcenhpnaaGreatDoorF12
import Derived.Test.YtbdmcibcenhpnaaGreatDoorF28
namespace Go.Proofs.YtbdmcibcenhpnaaGreatDoor.Pa
set_option maxHeartbeats 64000000
set_option maxRecDepth 100000
open Go Go.RowKit Sp
open Go.Lib (hid)
theorem wm {S T:Int->Prop} {w:World} {e:Ending} {w':World} (h:aP S w e w') (hST:∀x,S x↔T x):aP T w e w':=by
 obtain⟨v,out,he,his,ho,hb⟩:=h;exact⟨v,out,he,his.congr hST,ho,hb⟩
theorem wh {S:Int->Prop} {w w':World} (hS:∀x,¬ S x) (hb:Below w.heap.size w w'):aP S w (.returned (.slice none 0 0)) w':=
 ⟨_,[],rfl,⟨Plain.nil,fun x=>⟨fun h=>absurd h (aI x),fun h=>absurd h (hS x)⟩⟩,World.ownsRow_nil _ _ _ _,hb⟩
theorem rR {S:Int->Prop} {w w1 w':World} {e:Ending} (h:aP S w1 e w') (hb:Below w.heap.size w w1):aP S w e w':=by
 obtain⟨v,out,he,his,ho,hb'⟩:=h;exact⟨v,out,he,his,aL ho hb.size,hb.trans (hb'.mono hb.size)⟩
theorem vU (a d t u:Int) (A:Option Addr) (n c:Nat) (s:List Span) (w:World) (h:RS w w.heap.size A n s) (hn:n<=1099511627776) (hc:n<=c) :
  Calls Tryz.prog 116 #[prt a d t u,.slice A n c] w (aP (CR d t u s) w):=by
 have HB:=hid (oU a d t u);have H:=hid h;clear h;by_cases h0:Bits d t u
 ·have HS:=hid (show∀x,(mem s x/\mem [((0:Int),(2097151:Int))] x)↔CR d t u s x from fun x=>by
   rw[aN];unfold CR
   constructor
   ·rintro⟨p,q,r⟩;exact⟨h0,p,r⟩
   ·rintro⟨_,p,r⟩;exact⟨p,p.1,r⟩)
  rw[decide_eq_true h0]at HB;clear h0;go_enter Tryz.func116,Tryz.ntmps116;go_wp2_with (fail);refine(HB.out _).mono ?_;rintro e w1 ⟨rfl,hb1⟩;have hbB:Below w.heap.size w w1:=((Below.refl _ w).alloc (Nat.le_refl _) _).trans (hb1.mono (by simp));have HBB:=hid hbB;clear hb1 hbB;go_wp2_with (fail);refine(uI A (some ⟨w1.heap.size,0,none⟩) n 1 c 1 s [(0,2097151)] _ ((H.out.ah HBB.out).ah ((Below.refl _ _).alloc (Nat.le_refl _) _)) (uK (by simp) (heap_alloc_new w1 _)) hn (by omega) hc (by omega)).mono ?_;rintro e w2 hq;have HQ:=hid (rR (wm hq HS.out) (HBB.out.trans ((Below.refl _ _).alloc HBB.out.size _)));clear hq;obtain⟨v,out,rfl,hq⟩:=HQ.out;have HQ2:=hid hq;clear hq;go_wp2_with (fail);go_ret;exact⟨v,out,rfl,HQ2.out⟩
 ·have HN:=hid (show∀x,¬ CR d t u s x from fun x hx=>h0 hx.1)
  rw[decide_eq_false h0]at HB;clear h0;go_enter Tryz.func116,Tryz.ntmps116;go_wp2_with (fail);refine(HB.out _).mono ?_;rintro e w1 ⟨rfl,hb1⟩;go_wp2_with (fail);go_ret;exact wh HN.out (((Below.refl _ w).alloc (Nat.le_refl _) _).trans (hb1.mono (by simp)))
attribute [local go_sem] jw
end Go.Proofs.YtbdmcibcenhpnaaGreatDoor.Pa
