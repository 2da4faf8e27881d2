import Derived.Test.YtbdmcibcenhpnaaGreatDoorF3
import Derived.Test.YtbdmcibcenhpnaaGreatDoorF9
namespace Go.Proofs.YtbdmcibcenhpnaaGreatDoor.Sp
set_option maxRecDepth 100000
open Go Go.RowKit Go.Shelf
def IQ (w:World) (e:Ending) (w':World):Prop:=∃v,e = .returned v/\av w' w.heap.size v []/\Below w.heap.size w w'
theorem yL (n:Nat):(Builtin.zeroCells #[.int .i64 0,.int .i64 0] n).size=n*2:=by
 simp[Builtin.zeroCells]
theorem kD (m:Int) (w:World) (h0:0<=m) (h1:m<=1099511627776):Calls Tryz.prog 90 #[.slice none 0 0,.int .i64 m] w (IQ w):=by
 obtain⟨n,rfl⟩:=Int.eq_ofNat_of_zero_le h0;rcases Nat.eq_zero_or_pos n with rfl | hp
 ·have nM:=Any8.slices_Grow_room FM none 0 0 0 w (Nat.le_refl _) (by omega) (by omega) (Nat.le_refl _)
  change Calls Tryz.prog 90 _ _ _ at nM
  exact nM.mono fun e w' ⟨he,hw⟩=>by
   subst hw;exact⟨_,he,World.ownsRow_nil _ _ _ _,Below.refl _ _⟩
 ·obtain⟨i0,hi0,hz0,hz1,hz2⟩:=info_parts bQ
  have nM:=Any8.slices_Grow_grow FM i0 _ hi0 hz0 (by omega) none 0 0 n [] w (Nat.le_refl _) (by omega) (by rw[hz2];omega) (by omega) (by simp) (fun _=>rfl) (fun _ h=>by cases h)
  change Calls Tryz.prog 90 _ _ _ at nM
  refine nM.mono fun e w' ⟨he,hw⟩=>⟨_,he,?_,?_⟩
  ·have hge:=grownCap_ge w (0+n) 0 47
   have hle:=grownCap_le_maxLen w (0+n) 0 47 (by unfold maxLen;omega);rw[hw];refine⟨rfl,.inr ⟨w.heap.size,_,_,rfl,Nat.le_refl _,heap_alloc_new w.drew _,Nat.zero_le _,hle,?_,by simp[flat]⟩⟩;have e1:(Value.agg #[.int .i64 0,.int .i64 0]).cells=#[.int .i64 0,.int .i64 0]:=rfl;rw[e1];simp only[Array.size_append,yL,List.size_toArray,List.length_nil]
   change 0+(0+n-0)*2+(grownCap w (0+n) 0 47-(0+n))*2=grownCap w (0+n) 0 47*2
   omega
  ·rw[hw]
   exact(Below.refl _ _).drew.alloc (Nat.le_refl _) _
end Go.Proofs.YtbdmcibcenhpnaaGreatDoor.Sp
