import Derived.Test.YtbdmcibcenhpnaaGreatDoorRows
import Derived.Test.YtbdmcibcenhpnaaGreatDoorF12
import Derived.ProofKit
import Derived.OpenShut
import Derived.Deep.SlicePairs
set_option maxRecDepth 100000
namespace Go.Proofs.YtbdmcibcenhpnaaGreatDoor.Sp
open Go Go.RowKit Go.ChangeShapes Go.WideShapes Go.ChangeAt Go.Deep
theorem cells40:Tryz.prog.cellsOf 47=2:=by kernel_rfl
theorem cells3:Tryz.prog.cellsOf 3=1:=by kernel_rfl
theorem jd (a:Addr) (n:Nat):(a.add n).block=a.block:=by unfold Addr.add;split <;> rfl
end Go.Proofs.YtbdmcibcenhpnaaGreatDoor.Sp
namespace Go.Proofs.YtbdmcibcenhpnaaGreatDoor.Mi
open Go Go.RowKit Go.ChangeShapes Go.WideShapes Go.ChangeAt Go.Deep Sp
theorem cells22:Tryz.prog.cellsOf 48=1:=by kernel_rfl
theorem sx {H:Type} {enc:TypeId×Value->H} {W:World} {v:Value} {x:DataW H×List MemPlace} {fuel:Nat} (hf:DataW.trod enc Tryz.prog W 0 (fun _=>true) true fuel 48 [v]=some x) :
  ∃(A:Option Addr) (c:Nat) (l:List Span),v = .slice A l.length c/\RS W W.heap.size A l.length l/\l.length<=c/\l.length<=maxLen/\(A=none->l=[]/\c=0):=by
 rcases open_slice_pairs Tryz.underlying48 Tryz.underlying47 cells40 rfl rfl cells3 cells3 hf with⟨hcs,hx⟩ | ⟨a,len,cap,m,n,V0,V1,D0,D1,P0,P1,hcs,_,hl,hm,hmm,hx,hi⟩
 ·injection hcs with hcs
  exact⟨none,0,[],hcs,RS.dS _ _ _,Nat.le_refl _,Nat.zero_le _,fun _=>⟨rfl,rfl⟩⟩
 ·injection hcs with hcs
  subst hcs;simp only[if_true]at hmm;subst hmm;have hV:∀i,i<m->V0 i = .int .i64 (intOf (V0 i))/\V1 i = .int .i64 (intOf (V1 i)):=by
   intro i him;obtain⟨_,_,t0,t1⟩:=hi i him;obtain⟨q0,e0,_,_⟩:=DataW.trod_int Tryz.underlying3 t0;obtain⟨q1,e1,_,_⟩:=DataW.trod_int Tryz.underlying3 t1;simp only[List.cons.injEq,and_true]at e0 e1;rw[e0,e1];exact⟨rfl,rfl⟩
  have hlen:((List.range len).map fun i=>((intOf (V0 i),intOf (V1 i)):Span)).length=len:=by simp
  refine⟨some a,m,(List.range len).map fun i=>(intOf (V0 i),intOf (V1 i)),by rw[hlen],⟨rfl,fun hn=>?_⟩,by rw[hlen];exact hl,by rw[hlen];omega,fun h=>by cases h⟩;rw[hlen]at hn;obtain⟨b,off,spot⟩:=a;have hc0:=(hi 0 (by omega)).1;have hspot:spot=none:=by simpa[Addr.add]using World.cell?_spot hc0
  subst hspot;have hb:=World.block_lt_of_cell? W _ hc0;rw[jd]at hb;refine⟨b,off,rfl,hb,fun j hj=>?_⟩;rw[hlen]at hj;obtain⟨k0,k1,_,_⟩:=hi j (by omega);rw[add_plain]at k0 k1;have hv2:=hV j (by omega);rw[hv2.1]at k0;rw[hv2.2]at k1;simp only[List.getElem_map,List.getElem_range];exact⟨k0,by rw[show off+j*2+1=off+(j*2+1)from by omega];exact k1⟩
end Go.Proofs.YtbdmcibcenhpnaaGreatDoor.Mi
