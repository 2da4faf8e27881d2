import Derived.Test.YtbdmcibcenhpnaaGreatDoorF3
import Derived.Test.YtbdmcibcenhpnaaGreatDoorF7
namespace Go.Proofs.YtbdmcibcenhpnaaGreatDoor.Sp
set_option maxHeartbeats 64000000
set_option maxRecDepth 100000
open Go Go.RowKit Go.Shelf Go.Lib Go.Sort
def FU (x y:Int×Int):Int:=if x.1<y.1 then -1 else if y.1<x.1 then 1 else 0
theorem KT (x y:Int×Int):ltOf FU x y=decide (x.1<y.1):=by
 unfold ltOf FU;by_cases h1:x.1<y.1
 ·simp[h1]
 ·by_cases h2:y.1<x.1 <;> simp[h1,h2]
theorem Lr:SWO (ltOf FU) where
 irrefl x:=by rw[KT];simp
 trans x y z h1 h2:=by rw[KT]at *;simp at *;omega
 ntrans x y z h1 h2:=by rw[KT]at *;simp at *;omega
theorem rX {a b:Int} (h:a=b):Ending.returned (.int .i64 a) = .returned (.int .i64 b):=by rw[h]
theorem sG (a:Int) (W:World):Calls Tryz.prog 135 #[.int .i64 a] W fun e w'=>e = .returned (.bool false)/\W=w':=by
 go_enter Tryz.func135,Tryz.ntmps135;go_wp2;go_ret;simp
theorem Ho (a b r:Int) (W:World) (h:r=if a<b then -1 else if b<a then 1 else 0):Calls Tryz.prog 121 #[.int .i64 a,.int .i64 b] W fun e w'=>e = .returned (.int .i64 r)/\W=w':=by
 by_cases h1:a<b
 ·have H:=Lib.hid (h.trans (if_pos h1));clear h
  go_enter Tryz.func121,Tryz.ntmps121;go_wp2_with (go_at_call 135;refine(sG _ _).mono ?_;rintro e w' ⟨rfl,rfl⟩);go_ret;exact⟨rX H.out.symm,rfl⟩
 ·by_cases h2:b<a
  ·have H:=Lib.hid (h.trans ((if_neg h1).trans (if_pos h2)));clear h
   go_enter Tryz.func121,Tryz.ntmps121;go_wp2_with (go_at_call 135;refine(sG _ _).mono ?_;rintro e w' ⟨rfl,rfl⟩);go_ret;exact⟨rX H.out.symm,rfl⟩
  ·have H:=Lib.hid (h.trans ((if_neg h1).trans (if_neg h2)));clear h
   go_enter Tryz.func121,Tryz.ntmps121;go_wp2_with (go_at_call 135;refine(sG _ _).mono ?_;rintro e w' ⟨rfl,rfl⟩);go_ret;exact⟨rX H.out.symm,rfl⟩
def KH (r:Int) (W:World) (e:Ending) (w':World):Prop:=e = .returned (.int .i64 r)/\∃q os',w'=grow (W.drewN q) os'
theorem tD (a b a' b':Int) (W:World):Calls Tryz.prog 120 #[.agg #[.int .i64 a,.int .i64 a'],.agg #[.int .i64 b,.int .i64 b']] W (KH (FU (a,a') (b,b')) W):=by
 have nM:=fun W=>Ho a b (FU (a,a') (b,b')) W rfl
 generalize FU (a,a') (b,b')=r at nM ⊢
 go_enter Tryz.func120,Tryz.ntmps120;go_wp2_with (go_at_call 121;refine(nM _).mono ?_;rintro e w' ⟨rfl,rfl⟩);go_ret;exact⟨rfl,0,_,by rw[alloc_eq_grow,alloc_eq_grow,grow_grow];rfl⟩
theorem Hp (blk off size:Nat) (w:World):CmpLays Tryz.prog 120 #[] vw 2 FU blk off size w:=
 fun _ _ _ _ x y=>tD x.1 y.1 x.2 y.2 _
theorem nU (d:List Span):(flatK vw 2 d.toArray).toList=flat d:=by
 apply List.ext_getElem?;intro i;by_cases hi:i<d.length*2
 ·have h1:i / 2<d.length:=by omega
  have h3:=cZ d (i / 2) h1;have h4:(flatK vw 2 d.toArray).toList[i]? = some ((vw d[i / 2])[i % 2]!):=by
   rw[Array.getElem?_toList];simp[flatK,hi,h1]
  rw[h4];rcases Nat.mod_two_eq_zero_or_one i with e | e
  ·rw[e,show(flat d)[i]? = (flat d)[2*(i / 2)]? from by congr 1;omega,h3.1];rfl
  ·rw[e,show(flat d)[i]? = (flat d)[2*(i / 2)+1]? from by congr 1;omega,h3.2];rfl
 ·rw[List.getElem?_eq_none (by simp[flatK];omega),List.getElem?_eq_none (by rw[aH];omega)]
theorem h_lt {w:World} {base g cap:Nat} {d:List Span} (h:av w base (.slice (some ⟨g,0,none⟩) d.length cap) d):base<=g/\g<w.heap.size:=h.lt g rfl
theorem Bg {w:World} {base g cap:Nat} {d:List Span} (h:av w base (.slice (some ⟨g,0,none⟩) d.length cap) d):HoldsK vw 2 w g 0 d.toArray:=by
 intro j hj;have hj':j<d.length*2:=by simpa using hj
 refine⟨?_,World.ownsRow.frozenAt h _⟩;rw[World.ownsRow.cellAt h _ (by omega),Nat.zero_add,<- nU,Array.getElem?_toList,Array.getElem?_eq_getElem hj,getElem!_pos _ j hj];rfl
theorem wY {w:World} {base g cap m:Nat} {os:Array Obj} {d d':List Span} (h:av w base (.slice (some ⟨g,0,none⟩) d.length cap) d) (hl:d'.length=d.length) :
  av (sortWorldK vw 2 w g 0 m d'.toArray os) base (.slice (some ⟨g,0,none⟩) d'.length cap) d'/\w.grownBy (sortWorldK vw 2 w g 0 m d'.toArray os) (some g):=by
 rcases h.2 with⟨h0,_⟩ | ⟨g',cap',cur,hv,hb,hg,hn,hc,hs,ht⟩
 ·cases h0
 ·injection hv with hv _ hcap
  injection hv with hv;injection hv with hv;subst hv hcap;have hgl:g<w.heap.size:=(Array.getElem?_eq_some_iff.1 hg).1;have hh:(sortWorldK vw 2 w g 0 m d'.toArray os).heap[g]? = some (.cells (putCells id 0 (flatK vw 2 d'.toArray) cur) 47 (0,0)):=by
   unfold sortWorldK putRowK;rw[heap_grow_old _ _ (by simpa using hgl)];simp[putRow,mapBlock,Sort.ahead,Array.getElem?_modify,hg,onCells]
  refine⟨⟨aH d',.inr ⟨g,cap,_,rfl,hb,hh,by omega,hc,by simp[putCells,hs],?_⟩⟩,⟨rfl,rfl,rfl,by simp[sortWorldK,putRowK],fun k hk hne=>?_⟩⟩
  ·rw[<- nU]
   apply List.ext_getElem?;intro j;by_cases hj:j<d'.length*2
   ·rw[List.getElem?_take_of_lt hj,Array.getElem?_toList,Array.getElem?_toList]
    have h1:j<(flatK vw 2 d'.toArray).size:=by simpa using hj
    rw[Array.getElem?_eq_getElem h1];simp only[putCells,Array.getElem?_mapIdx];rw[Array.getElem?_eq_getElem (show j<cur.size by omega)];simp only[Option.map_some,Nat.zero_le,true_and,Nat.zero_add,Nat.sub_zero,id];rw[if_pos h1,getElem!_pos _ j h1]
   ·rw[List.getElem?_take_eq_none (by omega),List.getElem?_eq_none (by simp;omega)]
  ·unfold sortWorldK putRowK
   rw[heap_grow_old _ _ (by simpa using hk)];have:g≠k:=fun e=>hne (by rw[e])
   simp[putRow,mapBlock,Sort.ahead,Array.getElem?_modify,this]
def Ia (w:World) (base g cap:Nat) (d:List Span) (e:Ending) (w':World):Prop:=
 e = .returned (.tuple #[])/\∃d',d'.Perm d/\dn d'/\av w' base (.slice (some ⟨g,0,none⟩) d'.length cap) d'/\Below base w w'
theorem Dj (base g cap:Nat) (d:List Span) (w:World) (hown:av w base (.slice (some ⟨g,0,none⟩) d.length cap) d) (hbase:base<=w.heap.size) (hlen:d.length<=1099511627776) :
  Calls Tryz.prog 119 #[.slice (some ⟨g,0,none⟩) d.length cap,.func (.func 120) #[] #[]] w (Ia w base g cap d):=by
 have eg:∀args w,(callFunc 120 args).run Tryz.prog w = .ok (.enter 120 args) w:=enters_of Tryz.func120 (by kernel_rfl) rfl;have hgl:=h_lt hown;have nM:=AnyQ.slices_SortFunc zy 2 Tryz.isAgg47 Tryz.sizeOf47 vw (fun _=>rfl) (fun x v hv=>by simp[vw]at hv;rcases hv with rfl | rfl <;> rfl) FU Lr 120 #[] g 0 cap d.toArray w eg (Hp g 0 d.toArray.size w) (Bg hown) hgl.2 (by simp;omega)
 change Calls Tryz.prog 119 _ _ _ at nM
 refine nM.mono ?_;rintro e w' ⟨he,d',m,os,hp,hs,hw⟩;obtain⟨d'⟩:=d';have hpl:d'.Perm d:=by
  have h2:=hp.2.2;have h3:d'.length=d.length:=by simpa using hp.1
  simp only[List.size_toArray,List.extract_toArray,List.extract_eq_take_drop,Nat.sub_zero,List.drop_zero]at h2
  rwa [List.take_of_length_le (by omega),List.take_of_length_le (Nat.le_refl _)]at h2
 have hso:=wY (m:=m) (os:=os) hown hpl.length_eq;refine⟨he,d',hpl,?_,by rw[hw];exact hso.1,by rw[hw];exact(Below.refl base w).grown hso.2 hbase (fun k hk=>by cases hk;exact hgl.1)⟩;refine List.pairwise_iff_getElem.2 fun i j hi hj hij=>?_
 have h1:=hs i j (Nat.zero_le _) hij (by have:=hpl.length_eq;simp;omega);rw[KT]at h1;simp[hi,hj]at h1;exact h1
end Go.Proofs.YtbdmcibcenhpnaaGreatDoor.Sp
