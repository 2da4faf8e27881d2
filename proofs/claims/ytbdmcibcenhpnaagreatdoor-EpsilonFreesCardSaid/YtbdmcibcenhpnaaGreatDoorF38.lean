import Derived.Test.YtbdmcibcenhpnaaGreatDoorF19
import Derived.Test.YtbdmcibcenhpnaaGreatDoorF37
namespace Go.Proofs.YtbdmcibcenhpnaaGreatDoor.Ep
set_option maxRecDepth 100000
open Go Go.RowKit Sp Pa Te Mi De Tr Lt
def ez (rows:Nat->List bZ) (q:Nat):List Nat:=((rows q).filter fun r=>r.gn == 0).map fun r=>r.to_.toNat
def fM (l:List bZ) (k:Nat):List Nat:=((l.take k).filter fun r=>r.gn == 0).map fun r=>r.to_.toNat
theorem pR {l:List bZ} {k:Nat} {r:bZ} (hk:k<l.length) (hr:l[k]=r) (h0:r.gn=0):fM l (k+1)=fM l k++[r.to_.toNat]:=by
 unfold fM;rw[List.take_succ_eq_append_getElem hk,hr,List.filter_append,List.map_append];simp[h0]
theorem tX {l:List bZ} {k:Nat} {r:bZ} (hk:k<l.length) (hr:l[k]=r) (h0:r.gn≠0):fM l (k+1)=fM l k:=by
 unfold fM;rw[List.take_succ_eq_append_getElem hk,hr,List.filter_append,List.map_append];simp[h0]
theorem tW {rows:Nat->List bZ} {q k:Nat} {r:bZ} (hk:k<(rows q).length) (hr:(rows q)[k]=r) (h0:r.gn=0):r.to_.toNat∈ez rows q:=by
 unfold ez;exact List.mem_map.2 ⟨r,List.mem_filter.2 ⟨by rw[<- hr];exact List.getElem_mem hk,by simp[h0]⟩,rfl⟩
theorem uR:(Tryz.prog.info? 3).map (fun i=>(i.zero,i.size,i.bytes))=some (some (.int .i64 0),1,8):=by kernel_rfl
def Lp (B:Nat):Value:=.func (.func 31) #[] #[.pointer (some ⟨B+3,0,none⟩),.pointer (some ⟨B,0,none⟩),.pointer (some ⟨B+4,0,none⟩),.pointer (some ⟨B+1,0,none⟩)]
def yd (N:Nat) (C:Nat->Bool):List Value:=(List.range N).map fun x=>Value.bool (C x)
structure LS (B gR N:Nat) (O:List Nat) (C:Nat->Bool) (ov:Value) (w0 w:World):Prop where
 rb:w.heap[B]? = some (.cells #[.slice (some ⟨gR,0,none⟩) N N] 53 (0,0))
 ob:w.heap[B+1]? = some (.cells #[ov] 56 (0,0))
 J3:w.heap[B+2]? = some (.cells (yd N C).toArray 4 (0,0))
 cb:w.heap[B+3]? = some (.cells #[.slice (some ⟨B+2,0,none⟩) N N] 75 (0,0))
 vb:w.heap[B+4]? = some (.cells #[Lp B] 76 (0,0))
 own:w.ownsRow (B+5) 3 1 ov O.length (O.map fun x:Nat=>Value.int .i64 (x:Int))
 size:B+5<=w.heap.size
 low:Below B w0 w
 small:∀x∈O,x<N
section
variable {B gR N:Nat} {O:List Nat} {C:Nat->Bool} {ov:Value} {w0 w w':World}
theorem LS.keep (h:LS B gR N O C ov w0 w) (hb:Below w.heap.size w w'):LS B gR N O C ov w0 w':=by
 have hz:=h.size;exact⟨(hb.block B (by omega)).trans h.rb,(hb.block (B+1) (by omega)).trans h.ob,(hb.block (B+2) (by omega)).trans h.J3,(hb.block (B+3) (by omega)).trans h.cb,(hb.block (B+4) (by omega)).trans h.vb,au h.own fun g e=>hb.block g (World.ownsRow.lt h.own g e).2,by have:=hb.size;omega,h.low.trans (hb.mono (by omega)),h.small⟩
theorem cE {w:World} {x:Nat} {v:Value} {t:TypeId} (h:w.heap[x]? = some (.cells #[v] t (0,0))):w.cell? ⟨x,0,none⟩=some v:=by
 rw[cell_of_row w x 0 _ _ _ h];rfl
theorem LS.come (h:LS B gR N O C ov w0 w) {q:Nat} (hq:q<N):w.cell? ⟨B+2,q,none⟩=some (.bool (C q)):=by
 rw[cell_of_row w (B+2) q _ _ _ h.J3];simp[yd,hq]
theorem eV {w:World} {x j:Nat} {cs:Array Value} {t:TypeId} (h:w.heap[x]? = some (.cells cs t (0,0))):w.frozen? ⟨x,j,none⟩=false:=by simp[World.frozen?,h]
theorem LS.mark (h:LS B gR N O C ov w0 w) (q:Nat):LS B gR N O (Jo C q) ov w0 (w.setCell ⟨B+2,q,none⟩ (.bool true)):=by
 have hz:=h.size;have ho:∀x,x≠B+2->(w.setCell ⟨B+2,q,none⟩ (.bool true)).heap[x]? = w.heap[x]?:=fun x hx=>heap_setCell_other w ⟨B+2,q,none⟩ x _ hx
 refine⟨(ho B (by omega)).trans h.rb,(ho _ (by omega)).trans h.ob,?_,(ho _ (by omega)).trans h.cb,(ho _ (by omega)).trans h.vb,au h.own fun g e=>ho g (by have:=(World.ownsRow.lt h.own g e).1;omega),by simpa using h.size,?_,h.small⟩
 ·rw[heap_setCell_same w (B+2) q _ _ _ h.J3]
  congr 2
  unfold yd;rw[List.setIfInBounds_toArray]
  congr 1
  refine List.ext_getElem (by simp) fun j h1 h2=>?_
  rw[List.getElem_set];simp only[List.getElem_map,List.getElem_range,Jo];by_cases e:q=j
  ·simp[e]
  ·have : ¬ j=q:=fun z=>e z.symm
   simp[e,this]
 ·exact h.low.setCell (p:=⟨B+2,q,none⟩) (by simp only;omega) _
theorem LS.lay (h:LS B gR N O C ov w0 w) {q:Nat} (hq:q<N) {w1:World} {v:Value} (ho:w1.ownsRow (B+5) 3 1 v (O.length+1) ((O.map fun x:Nat=>Value.int .i64 (x:Int))++[.int .i64 (q:Int)])) (hg:w.grownBy w1 ov.ownBlock) :
  LS B gR N (O++[q]) C v w0 (w1.setCell ⟨B+1,0,none⟩ v):=by
 have hz:=h.size;have hlt:∀g,ov.ownBlock=some g->B+5<=g:=fun g e=>(World.ownsRow.lt h.own g e).1
 have hk:∀x,x<B+5->w1.heap[x]? = w.heap[x]?:=fun x hx=>hg.block x (by omega) (fun e=>by have:=hlt x e.symm;omega)
 have hs:∀x,x≠B+1->(w1.setCell ⟨B+1,0,none⟩ v).heap[x]? = w1.heap[x]?:=fun x hx=>heap_setCell_other w1 ⟨B+1,0,none⟩ x _ hx
 have hob:w1.heap[B+1]? = some (.cells #[ov] 56 (0,0)):=(hk (B+1) (by omega)).trans h.ob;refine⟨(hs B (by omega)).trans ((hk B (by omega)).trans h.rb),?_,(hs _ (by omega)).trans ((hk _ (by omega)).trans h.J3),(hs _ (by omega)).trans ((hk _ (by omega)).trans h.cb),(hs _ (by omega)).trans ((hk _ (by omega)).trans h.vb),?_,?_,?_,fun x hx=>by
  rcases List.mem_append.1 hx with p | p
  ·exact h.small x p
  ·rw[List.mem_singleton.1 p];exact hq⟩
 ·rw[heap_setCell_same w1 (B+1) 0 _ _ _ hob]
  rfl
 ·have:=au ho fun g e=>hs g (by have:=(World.ownsRow.lt ho g e).1;omega)
  rw[List.length_append,List.map_append];exact this
 ·have:=hg.size
  simp;omega
 ·refine(h.low.trans ⟨hg.os,hg.tape,hg.output,hg.size,fun b hb=>hk b (by omega)⟩).setCell (p:=⟨B+1,0,none⟩) (by simp only;omega) _
end
theorem cZ {α:Type} {enc:α->List Value} {k:Nat} (henc:∀x,(enc x).length=k):∀(l:List α) (j r:Nat) (hj:j<l.length),r<k->(l.flatMap enc)[j*k+r]? = (enc l[j])[r]?:=by
 intro l
 induction l with
 | nil=>intro j r hj;simp at hj
 | cons a l ih=>
  intro j r hj hr;rw[List.flatMap_cons]
  cases j with
  | zero=>
   rw[List.getElem?_append_left (by rw[henc];omega)];simp
  | succ j=>
   rw[List.getElem?_append_right (by rw[henc,Nat.succ_mul];omega),henc];have:=ih j r (by simpa using hj) hr;rw[show(j+1)*k+r-k=j*k+r by rw[Nat.succ_mul];omega];simpa using this
theorem kI (x:bZ):(mD x).length=5:=rfl
theorem kH (a:Nat) (t:Int) (GA:Option Addr) (gn gc:Nat) (ea:Int) (TA:Option Addr) (tn tc:Nat) (w:World):Calls Tryz.prog 19 #[.agg #[.int .i64 (a:Int),.int .i64 t,.slice GA gn gc,.int .i64 ea,.slice TA tn tc]] w (Sp.dY (gn == 0) w):=by
 by_cases h:gn=0
 ·subst h
  go_enter Tryz.func19,Tryz.ntmps19;go_wp2_with (fail);go_ret;exact⟨rfl,(Below.refl _ _).alloc (Nat.le_refl _) _⟩
 ·have e1:((gn:Int) == 0)=false:=beq_eq_false_iff_ne.2 (by omega)
  have e2:(gn == 0)=false:=beq_eq_false_iff_ne.2 h;rw[e2];go_enter Tryz.func19,Tryz.ntmps19;go_wp2_with (fail);go_ret;exact⟨rfl,(Below.refl _ _).alloc (Nat.le_refl _) _⟩
def Cm (rows:Nat->List bZ) (B gR N q:Nat) (O:List Nat) (C:Nat->Bool) (w0:World) (e:Ending) (w':World):Prop:=
 ∃(O':List Nat) (C':Nat->Bool) (ov':Value),e = .returned (.tuple #[])/\LS B gR N O' C' ov' w0 w'/\yx (ez rows) O C q O' C'
def Hy (rows:Nat->List bZ) (B gR N q:Nat) (O:List Nat) (C:Nat->Bool) (w0:World) (iv:Value) (wr:World):Prop:=
 ∃(k:Nat) (O':List Nat) (C':Nat->Bool) (ov':Value),k<=(rows q).length/\iv = .int .i64 k/\LS B gR N O' C' ov' w0 wr/\VIn (ez rows) O C q (fM (rows q) k) O' C'
end Go.Proofs.YtbdmcibcenhpnaaGreatDoor.Ep
