import Derived.Test.YtbdmcibcenhpnaaGreatDoorRows
import Derived.Test.YtbdmcibcenhpnaaGreatDoorF4
import Derived.Deep.SlicePairs
import Derived.Lib.SmallJoins
namespace Go.Proofs.YtbdmcibcenhpnaaGreatDoor.Te
set_option maxRecDepth 100000
open Go Go.RowKit Go.Joins Go.ChangeShapes Go.WideShapes Go.ChangeAt Go.Deep Sp Pa
theorem own:ownKnob Tryz.prog.godebug=none:=by kernel_rfl
theorem laidOut:laidOutB Tryz.prog=true:=by kernel_rfl
theorem Cc:Tryz.prog.cellsOf 94=4:=by kernel_rfl
theorem Ca:Tryz.prog.cellsOf 51=6:=by kernel_rfl
theorem GI:∃fs:Array Field,Tryz.prog.underlying 94=some (.struct fs)/\oneCellFields Tryz.prog fs=true/\∀j,j<4->∃f,fs[j]? = some f/\f.type=3:=⟨_,Tryz.underlying94,by kernel_rfl,fun j hj=>by
 rcases (show j=0\/j=1\/j=2\/j=3 from by omega)with rfl | rfl | rfl | rfl <;> exact⟨_,rfl,rfl⟩⟩
theorem GF:∃fs:Array Field,Tryz.prog.underlying 51=some (.struct fs)/\oneCellFields Tryz.prog fs=true/\(∀j,j<5->∃f,fs[j]? = some f/\f.type=3)/\∃f,fs[5]? = some f/\f.type=49:=⟨_,Tryz.underlying51,by kernel_rfl,fun j hj=>by
 rcases (show j=0\/j=1\/j=2\/j=3\/j=4 from by omega)with rfl | rfl | rfl | rfl | rfl <;> exact⟨_,rfl,rfl⟩,⟨_,rfl,rfl⟩⟩
theorem gJ {H:Type} {enc:TypeId×Value->H} {W:World} {t:TypeId} {fs:Array Field} {fuel:Nat} {cs:List Value} {x:DataW H×List MemPlace} (hs:Tryz.prog.underlying t=some (.struct fs)) (hone:oneCellFields Tryz.prog fs=true)
  (hf:DataW.trod enc Tryz.prog W 0 (fun _=>true) true fuel t cs=some x) {j:Nat} {f:Field} (hj:fs[j]? = some f) {v:Value} (hv:cs[j]? = some v) :
  ∃(n:Nat) (y:DataW H×List MemPlace),DataW.trod enc Tryz.prog W 0 (fun _=>true) true n f.type [v]=some y:=by
 obtain⟨xs,n,_,_,_,hl,hg⟩:=DataW.trod_struct hs hf;obtain⟨ho,hk⟩:=hone_of hone j f hj;have h1:=hg j f hj;rw[ho,hk]at h1;obtain⟨hlt,e⟩:=List.getElem?_eq_some_iff.1 hv;have h2:(cs.drop j).take 1=[v]:=by rw[List.drop_eq_getElem_cons hlt,e];rfl
 rw[h2]at h1;have h3:j<xs.length:=by rw[hl];exact(Array.getElem?_eq_some_iff.1 hj).1
 exact⟨n,xs[j],h1.trans (List.getElem?_eq_getElem h3)⟩
theorem bI {H:Type} {enc:TypeId×Value->H} {W:World} {t:TypeId} {fs:Array Field} {fuel:Nat} {cs:List Value} {x:DataW H×List MemPlace} (hs:Tryz.prog.underlying t=some (.struct fs)) (hone:oneCellFields Tryz.prog fs=true)
  (hf:DataW.trod enc Tryz.prog W 0 (fun _=>true) true fuel t cs=some x) {j:Nat} (hj:∃f,fs[j]? = some f/\f.type=3) {v:Value} (hv:cs[j]? = some v):∃q:Int,v = .int .i64 q:=by
 obtain⟨f,h1,h2⟩:=hj;obtain⟨n,y,ht⟩:=gJ hs hone hf h1 hv;rw[h2]at ht;obtain⟨q,k,_,_⟩:=DataW.trod_int Tryz.underlying3 ht;simp only[List.cons.injEq,and_true]at k;exact⟨q,k⟩
theorem xg {H:Type} {enc:TypeId×Value->H} {W:World} {fuel:Nat} {v:Value} {x:DataW H×List MemPlace} (hf:DataW.trod enc Tryz.prog W 0 (fun _=>true) true fuel 49 [v]=some x) :
  ∃(A:Option Addr) (c:Nat) (l:List PT),v = .slice A l.length c/\RP W W.heap.size A l.length l/\l.length<=c/\l.length<=maxLen:=by
 obtain⟨fs,hs,hone,hfi⟩:=GI;rcases open_slice Tryz.underlying49 hf with⟨hcs,_⟩ | ⟨a,len,cap,m,n,D,Pl,hcs,_,hl,hm,hmm,_,hi⟩
 ·simp only[List.cons.injEq,and_true]at hcs
  subst hcs;exact⟨none,0,[],rfl,RP.dS _ _ _,Nat.le_refl _,Nat.zero_le _⟩
 ·simp only[List.cons.injEq,and_true]at hcs
  subst hcs;simp only[if_true]at hmm;subst hmm;have key:∀i,∃p:PT,i<m->W.cell? ((a.add (i*4)).add 0)=some (.int .i64 p.1)/\W.cell? ((a.add (i*4)).add 1)=some (.int .i64 p.2.1)/\W.cell? ((a.add (i*4)).add 2)=some (.int .i64 p.2.2.1)/\W.cell? ((a.add (i*4)).add 3)=some (.int .i64 p.2.2.2):=by
   intro i;by_cases him:i<m
   ·obtain⟨cs,hc,ht⟩:=hi i him
    rw[Cc]at hc;obtain⟨_,hcl,hat⟩:=World.cells?_some hc;have hg:∀j,j<4->∃q:Int,W.cell? ((a.add (i*4)).add j)=some (.int .i64 q):=fun j hj=>by
     have hv:cs[j]? = some (cs[j]'(by omega)):=List.getElem?_eq_getElem (by omega);obtain⟨q,e⟩:=bI hs hone ht (hfi j hj) hv;exact⟨q,by rw[hat j hj,hv,e]⟩
    obtain⟨q0,k0⟩:=hg 0 (by omega);obtain⟨q1,k1⟩:=hg 1 (by omega);obtain⟨q2,k2⟩:=hg 2 (by omega);obtain⟨q3,k3⟩:=hg 3 (by omega);exact⟨(q0,q1,q2,q3),fun _=>⟨k0,k1,k2,k3⟩⟩
   ·exact⟨(0,0,0,0),fun h=>absurd h him⟩
  obtain⟨F,hF⟩:=Classical.axiomOfChoice key;have hlen:((List.range len).map F).length=len:=by simp
  refine⟨some a,m,(List.range len).map F,by rw[hlen],⟨rfl,fun hn=>?_⟩,by rw[hlen];exact hl,by rw[hlen];omega⟩;rw[hlen]at hn;obtain⟨b,off,spot⟩:=a;have hc0:=(hF 0 (by omega)).1;have hspot:spot=none:=by simpa[Addr.add]using World.cell?_spot hc0
  subst hspot;have hb:=World.block_lt_of_cell? W _ hc0;simp only[add_plain]at hb;refine⟨b,off,rfl,hb,fun j hj=>?_⟩;rw[hlen]at hj;obtain⟨k0,k1,k2,k3⟩:=hF j (by omega);simp only[add_plain]at k0 k1 k2 k3;simp only[List.getElem_map,List.getElem_range];exact⟨k0,k1,k2,k3⟩
theorem kept {H:Type} {enc:TypeId×Value->H} {W W':World} {t:TypeId} {v:Value} {d:DataW H} {p:List MemPlace} (hr:Tryz.prog.readableRec t=true) (ht:t<Tryz.prog.types.size) (h:DataW.Trod enc Tryz.prog W 0 (fun _=>true) true t v d p) (hb:Below W.heap.size W W') (hlt:∀x∈p,x.block<W.heap.size) :
  DataW.Trod enc Tryz.prog W' 0 (fun b=>decide (b<W.heap.size)) true t v d p:=Below.trod laidOut hr ht h hb hlt
end Go.Proofs.YtbdmcibcenhpnaaGreatDoor.Te
