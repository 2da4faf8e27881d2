import Derived.Test.YtpcgaebbbioifaaGreatDoorT4
import Derived.Test.YtpcgaebbbioifaaGreatDoorT12
import Derived.Test.YtpcgaebbbioifaaGreatDoorT28
namespace Go.Proofs.YtpcgaebbbioifaaGreatDoor.Pa
set_option maxHeartbeats 64000000
set_option maxRecDepth 100000
open Go Go.RowKit Sp
open Go.Lib (hid)
theorem setOut_imp {S T : Int→Prop} {w : World} {e : Ending} {w' : World} (h : SetOut S w e w') (hST : ∀ x,S x↔T x) : SetOut T w e w':=by
 obtain ⟨v,out,he,his,ho,hb⟩:=h
 exact ⟨v,out,he,his.congr hST,ho,hb⟩
theorem setOut_nil {S : Int→Prop} {w w' : World} (hS : ∀ x,¬ S x) (hb : Below w.heap.size w w') : SetOut S w (.returned (.slice none 0 0)) w':=
 ⟨_,[],rfl,⟨Plain.nil,fun x=>⟨fun h=>absurd h (mem_nil x),fun h=>absurd h (hS x)⟩⟩,World.ownsRow_nil _ _ _ _,hb⟩
theorem setOut_from {S : Int→Prop} {w w1 w' : World} {e : Ending} (h : SetOut S w1 e w') (hb : Below w.heap.size w w1) : SetOut S w e w':=by
 obtain ⟨v,out,he,his,ho,hb'⟩:=h
 exact ⟨v,out,he,his,own_mono ho hb.size,hb.trans (hb'.mono hb.size)⟩
theorem valued_any (a d t u : Int) (A : Option Addr) (n c : Nat) (s : List Span) (w : World) (h : RS w w.heap.size A n s) (hn : n≤1099511627776) (hc : n≤c) :
  Calls Tryz.prog 116 #[prt a d t u,.slice A n c] w (SetOut (DomS d t u s) w):=by
 have HB:=hid (bits_any a d t u)
 have H:=hid h
 clear h
 by_cases h0 : Bits d t u
 ·have HS:=hid (show ∀ x,(mem s x∧mem [((0 : Int),(2097151 : Int))] x)↔DomS d t u s x from fun x=>by
   rw [mem_one]
   unfold DomS
   constructor
   ·rintro ⟨p,q,r⟩;exact ⟨h0,p,r⟩
   ·rintro ⟨_,p,r⟩;exact ⟨p,p.1,r⟩)
  rw [decide_eq_true h0] at HB
  clear h0
  go_enter Tryz.func116,Tryz.ntmps116
  go_wp2_with (fail)
  refine (HB.out _).mono ?_
  rintro e w1 ⟨rfl,hb1⟩
  have hbB : Below w.heap.size w w1:=((Below.refl _ w).alloc (Nat.le_refl _) _).trans (hb1.mono (by simp))
  have HBB:=hid hbB
  clear hb1 hbB
  go_wp2_with (fail)
  refine (meet_any A (some ⟨w1.heap.size,0,none⟩) n 1 c 1 s [(0,2097151)] _ ((H.out.belowM HBB.out).belowM ((Below.refl _ _).alloc (Nat.le_refl _) _)) (lit_RS (by simp) (heap_alloc_new w1 _)) hn (by omega) hc (by omega)).mono ?_
  rintro e w2 hq
  have HQ:=hid (setOut_from (setOut_imp hq HS.out) (HBB.out.trans ((Below.refl _ _).alloc HBB.out.size _)))
  clear hq
  obtain ⟨v,out,rfl,hq⟩:=HQ.out
  have HQ2:=hid hq
  clear hq
  go_wp2_with (fail)
  go_ret
  exact ⟨v,out,rfl,HQ2.out⟩
 ·have HN:=hid (show ∀ x,¬ DomS d t u s x from fun x hx=>h0 hx.1)
  rw [decide_eq_false h0] at HB
  clear h0
  go_enter Tryz.func116,Tryz.ntmps116
  go_wp2_with (fail)
  refine (HB.out _).mono ?_
  rintro e w1 ⟨rfl,hb1⟩
  go_wp2_with (fail)
  go_ret
  exact setOut_nil HN.out (((Below.refl _ w).alloc (Nat.le_refl _) _).trans (hb1.mono (by simp)))
attribute [local go_sem] pw_fold
end Go.Proofs.YtpcgaebbbioifaaGreatDoor.Pa
