import Derived.Test.YtbdmcibcenhpnaaGreatDoorF5
import Derived.Test.YtbdmcibcenhpnaaGreatDoorF13
namespace Go.Proofs.YtbdmcibcenhpnaaGreatDoor.De
set_option maxRecDepth 100000
open Go Go.RowKit Go.Joins Go.ChangeShapes Go.WideShapes Go.ChangeAt Go.Deep Sp Pa Te Mi
theorem zM:Tryz.prog.readableRec 26=true:=by kernel_rfl
theorem OG:26<Tryz.prog.types.size:=of_decide_eq_true (by kernel_rfl)
theorem Cb:Tryz.prog.cellsOf 43=5:=by kernel_rfl
theorem yu:Tryz.prog.cellsOf 45=3:=by kernel_rfl
theorem Cd:Tryz.prog.cellsOf 26=6:=by kernel_rfl
theorem GH:∃fs:Array Field,Tryz.prog.underlying 43=some (.struct fs)/\oneCellFields Tryz.prog fs=true/\(∃f,fs[0]? = some f/\f.type=3)/\(∃f,fs[1]? = some f/\f.type=3)/\(∃f,fs[2]? = some f/\f.type=40)/\(∃f,fs[3]? = some f/\f.type=3)/\∃f,fs[4]? = some f/\f.type=41:=⟨_,Tryz.underlying43,by kernel_rfl,⟨_,rfl,rfl⟩,⟨_,rfl,rfl⟩,⟨_,rfl,rfl⟩,⟨_,rfl,rfl⟩,⟨_,rfl,rfl⟩⟩
theorem DK:∃fs:Array Field,Tryz.prog.underlying 45=some (.struct fs)/\oneCellFields Tryz.prog fs=true/\(∃f,fs[0]? = some f/\f.type=3)/\(∃f,fs[1]? = some f/\f.type=40)/\∃f,fs[2]? = some f/\f.type=41:=⟨_,Tryz.underlying45,by kernel_rfl,⟨_,rfl,rfl⟩,⟨_,rfl,rfl⟩,⟨_,rfl,rfl⟩⟩
theorem GJ:∃fs:Array Field,Tryz.prog.underlying 26=some (.struct fs)/\oneCellFields Tryz.prog fs=true/\(∃f,fs[0]? = some f/\f.type=22)/\(∃f,fs[1]? = some f/\f.type=22)/\(∃f,fs[2]? = some f/\f.type=3)/\(∃f,fs[3]? = some f/\f.type=3)/\(∃f,fs[4]? = some f/\f.type=23)/\∃f,fs[5]? = some f/\f.type=24:=⟨_,Tryz.underlying26,by kernel_rfl,⟨_,rfl,rfl⟩,⟨_,rfl,rfl⟩,⟨_,rfl,rfl⟩,⟨_,rfl,rfl⟩,⟨_,rfl,rfl⟩,⟨_,rfl,rfl⟩⟩
section
variable {H:Type} {enc:TypeId×Value->H} {W:World} {t:TypeId} {fs:Array Field} {fuel:Nat} {cs:List Value} {x:DataW H×List MemPlace}
theorem nV (hs:Tryz.prog.underlying t=some (.struct fs)) (hone:oneCellFields Tryz.prog fs=true) (hf:DataW.trod enc Tryz.prog W 0 (fun _=>true) true fuel t cs=some x) {j:Nat} (hj:∃f,fs[j]? = some f/\f.type=22) {v:Value} (hv:cs[j]? = some v):∃q:Int,v = .int .i64 q/\-9223372036854775808<=q/\q<=9223372036854775807:=by
 obtain⟨f,h1,h2⟩:=hj;obtain⟨n,y,ht⟩:=gJ hs hone hf h1 hv;rw[h2]at ht;obtain⟨q,k,_,hw⟩:=DataW.trod_int Tryz.underlying22 ht;simp only[List.cons.injEq,and_true]at k;exact⟨q,k,by simpa[Lit.wf,IntKind.min,IntKind.max,IntKind.signed,IntKind.bits]using hw⟩
theorem xX (hs:Tryz.prog.underlying t=some (.struct fs)) (hone:oneCellFields Tryz.prog fs=true) (hf:DataW.trod enc Tryz.prog W 0 (fun _=>true) true fuel t cs=some x) {j:Nat} (hj:∃f,fs[j]? = some f/\f.type=3) {v:Value} (hv:cs[j]? = some v):∃q:Int,v = .int .i64 q/\rN q:=by
 obtain⟨f,h1,h2⟩:=hj;obtain⟨n,y,ht⟩:=gJ hs hone hf h1 hv;rw[h2]at ht;obtain⟨q,k,_,hw⟩:=DataW.trod_int Tryz.underlying3 ht;simp only[List.cons.injEq,and_true]at k;exact⟨q,k,by simpa[rN,Lit.wf,IntKind.min,IntKind.max,IntKind.signed,IntKind.bits]using hw⟩
theorem fJ (hs:Tryz.prog.underlying t=some (.struct fs)) (hone:oneCellFields Tryz.prog fs=true) (hf:DataW.trod enc Tryz.prog W 0 (fun _=>true) true fuel t cs=some x) {j:Nat} {e:TypeId} (hj:∃f,fs[j]? = some f/\f.type=e) {v:Value} (hv:cs[j]? = some v) :
  ∃(n:Nat) (y:DataW H×List MemPlace),DataW.trod enc Tryz.prog W 0 (fun _=>true) true n e [v]=some y:=by
 obtain⟨f,h1,h2⟩:=hj;obtain⟨n,y,ht⟩:=gJ hs hone hf h1 hv;exact⟨n,y,by rw[<- h2];exact ht⟩
end
section
variable {H:Type} {enc:TypeId×Value->H} {W:World} {fuel:Nat} {v:Value} {x:DataW H×List MemPlace}
theorem nJ (hf:DataW.trod enc Tryz.prog W 0 (fun _=>true) true fuel 40 [v]=some x) :
  ∃(A:Option Addr) (c:Nat) (fam:List (List Span)),v = .slice A fam.length c/\RGs W A fam.length fam/\fam.length<=c/\fam.length<=maxLen/\(∀l∈fam,l.length<=maxLen):=by
 rcases open_slice1 Tryz.underlying40 cells22 hf with⟨hcs,_⟩ | ⟨a,len,cap,m,n,V,D,Pl,hcs,_,hl,hm,hmm,_,hi⟩
 ·injection hcs with hcs
  exact⟨none,0,[],hcs,RGs.dS _ _,Nat.le_refl _,Nat.zero_le _,fun l hl=>by cases hl⟩
 ·injection hcs with hcs
  subst hcs;simp only[if_true]at hmm;subst hmm;have hx:∀i,i<len->∃l:List Span,∃(A:Option Addr) (c:Nat),V i = .slice A l.length c/\RS W W.heap.size A l.length l/\l.length<=c/\l.length<=maxLen/\(A=none->l=[]/\c=0):=fun i hil=>by
   obtain⟨A,c,l,h1⟩:=sx (hi i (by omega)).2;exact⟨l,A,c,h1⟩
  obtain⟨f,hf2⟩:=choose_lt hx;have hlen:((List.range len).map f).length=len:=by simp
  refine⟨some a,m,(List.range len).map f,by rw[hlen],⟨rfl,fun hn=>?_⟩,by rw[hlen];exact hl,by rw[hlen];omega,fun l hml=>?_⟩
  ·rw[hlen]at hn
   obtain⟨b,off,spot⟩:=a;have hc0:=(hi 0 (by omega)).1;have hspot:spot=none:=by simpa[Addr.add]using World.cell?_spot hc0
   subst hspot;have hb:=World.block_lt_of_cell? W _ hc0;rw[jd]at hb;refine⟨b,off,rfl,hb,fun j hj=>?_⟩;rw[hlen]at hj;have k0:=(hi j (by omega)).1;rw[add_plain]at k0;obtain⟨A,c,h1,h2,h3,h4,h5⟩:=hf2 j hj;simp only[List.getElem_map,List.getElem_range];exact⟨A,c,by rw[k0,h1],h2,h3,h5⟩
  ·obtain⟨j,hj,rfl⟩:=List.mem_map.1 hml
   obtain⟨A,c,_,_,_,h4,_⟩:=hf2 j (List.mem_range.1 hj);exact h4
theorem fZ {t e:TypeId} {k:Nat} {α:Type} [Inhabited α] (ht:Tryz.prog.underlying t=some (.slice e)) (hk:Tryz.prog.cellsOf e=k) (hk0:0<k) (Q:(Nat->Option Value)->α->Prop)
  (hq:∀(n:Nat) (cs:List Value) (y:DataW H×List MemPlace) (f:Nat->Option Value),cs.length=k->(∀j,j<k->f j=cs[j]?)->DataW.trod enc Tryz.prog W 0 (fun _=>true) true n e cs=some y->∃a:α,Q f a)
  (hf:DataW.trod enc Tryz.prog W 0 (fun _=>true) true fuel t [v]=some x) :
  ∃(A:Option Addr) (c:Nat) (l:List α),v = .slice A l.length c/\l.length<=c/\l.length<=maxLen/\(A=none->c=0)/\(0<l.length->∃b off,A=some ⟨b,off,none⟩/\b<W.heap.size/\∀(j:Nat) (h:j<l.length),Q (fun i=>W.cell? ⟨b,off+j*k+i,none⟩) l[j]):=by
 rcases open_slice ht hf with⟨hcs,_⟩ | ⟨a,len,cap,m,n,D,Pl,hcs,_,hl,hm,hmm,_,hi⟩
 ·injection hcs with hcs
  exact⟨none,0,[],hcs,Nat.le_refl _,Nat.zero_le _,fun _=>rfl,fun h=>absurd h (by simp)⟩
 ·injection hcs with hcs
  subst hcs;simp only[if_true]at hmm;subst hmm;have key:∀i,i<len->∃p:α,Q (fun j=>W.cell? ((a.add (i*k)).add j)) p/\∃v,W.cell? ((a.add (i*k)).add 0)=some v:=fun i hil=>by
   obtain⟨cs,hc,hT⟩:=hi i (by omega);rw[hk]at hc;obtain⟨_,hcl,hat⟩:=World.cells?_some hc;obtain⟨p,hp⟩:=hq _ cs _ (fun j=>W.cell? ((a.add (i*k)).add j)) hcl hat hT;exact⟨p,hp,cs[0]'(by omega),by rw[hat 0 hk0,List.getElem?_eq_getElem (by omega)]⟩
  obtain⟨F,hF⟩:=choose_lt key;have hlen:((List.range len).map F).length=len:=by simp
  refine⟨some a,m,(List.range len).map F,by rw[hlen],by rw[hlen];exact hl,by rw[hlen];omega,(fun h=>by cases h),fun hn=>?_⟩;rw[hlen]at hn;obtain⟨b,off,spot⟩:=a;obtain⟨v0,hc0⟩:=(hF 0 hn).2;have hspot:spot=none:=by simpa[Addr.add]using World.cell?_spot hc0
  subst hspot;have hb:=World.block_lt_of_cell? W _ hc0;simp only[add_plain]at hb;refine⟨b,off,rfl,hb,fun j hj=>?_⟩;rw[hlen]at hj;have hQ:=(hF j hj).1;simp only[add_plain]at hQ;simp only[List.getElem_map,List.getElem_range];exact hQ
theorem lN (hf:DataW.trod enc Tryz.prog W 0 (fun _=>true) true fuel 41 [v]=some x) :
  ∃(A:Option Addr) (c:Nat) (l:List TmL),v = .slice A l.length c/\RTm W A l.length l/\l.length<=c/\l.length<=maxLen/\(A=none->c=0):=by
 obtain⟨fs,hs,hone,hfi,hf5⟩:=GF;obtain⟨A,c,l,h1,h2,h3,h5,h4⟩:=fZ (α:=TmL) Tryz.underlying41 Ca (by omega) (fun f a=>f 0=some (.int .i64 a.b)/\f 1=some (.int .i64 a.d)/\f 2=some (.int .i64 a.t)/\f 3=some (.int .i64 a.u)/\f 4=some (.int .i64 a.s)/\∃A' c',f 5=some (.slice A' a.ps.length c')/\RP W W.heap.size A' a.ps.length a.ps/\a.ps.length<=c'/\a.ps.length<=maxLen)
  (fun n cs y f hcl hat hT=>by
   match cs,hcl with
   | [c0,c1,c2,c3,c4,c5],_=>
    obtain⟨q0,rfl⟩:=bI hs hone hT (hfi 0 (by omega)) rfl;obtain⟨q1,rfl⟩:=bI hs hone hT (hfi 1 (by omega)) rfl;obtain⟨q2,rfl⟩:=bI hs hone hT (hfi 2 (by omega)) rfl;obtain⟨q3,rfl⟩:=bI hs hone hT (hfi 3 (by omega)) rfl;obtain⟨q4,rfl⟩:=bI hs hone hT (hfi 4 (by omega)) rfl;obtain⟨n',y',ht⟩:=fJ hs hone hT hf5 rfl;obtain⟨A',c',l',rfl,hr,hc,hm⟩:=xg ht;exact⟨⟨q0,q1,q2,q3,q4,l'⟩,hat 0 (by omega),hat 1 (by omega),hat 2 (by omega),hat 3 (by omega),hat 4 (by omega),A',c',hat 5 (by omega),hr,hc,hm⟩) hf
 exact⟨A,c,l,h1,⟨rfl,h4⟩,h2,h3,h5⟩
theorem Ab {A:Option Addr} {n c l c':Nat} (h:A=none->c=0) (e:some (Value.slice A n c)=some (.slice none l c')):c'=0:=by
 injection e with e;injection e with e1 _ e3;rw[<- e3];exact h e1
theorem sy (hf:DataW.trod enc Tryz.prog W 0 (fun _=>true) true fuel 23 [v]=some x) :
  ∃(A:Option Addr) (c:Nat) (l:List RuL),v = .slice A l.length c/\RRu W A l.length l/\l.length<=c/\l.length<=maxLen/\rM W A l.length 5 4:=by
 obtain⟨fs,hs,hone,hf0,hf1,hf2,hf3,hf4⟩:=GH;obtain⟨A,c,l,h1,h2,h3,_,h4⟩:=fZ (α:=RuL) Tryz.underlying23 Cb (by omega) (fun f a=>(f 0=some (.int .i64 a.frm)/\f 1=some (.int .i64 a.to_)/\f 3=some (.int .i64 a.eat) /\
   (∃A' c',f 2=some (.slice A' a.gs.length c')/\RGs W A' a.gs.length a.gs/\a.gs.length<=c'/\a.gs.length<=maxLen/\∀g∈a.gs,g.length<=maxLen)/\∃A' c',f 4=some (.slice A' a.out.length c')/\RTm W A' a.out.length a.out/\a.out.length<=c'/\a.out.length<=maxLen/\rN a.eat)/\∀l c,f 4=some (.slice none l c)->c=0)
  (fun n cs y f hcl hat hT=>by
   match cs,hcl with
   | [c0,c1,c2,c3,c4],_=>
    obtain⟨q0,rfl⟩:=bI hs hone hT hf0 rfl;obtain⟨q1,rfl⟩:=bI hs hone hT hf1 rfl;obtain⟨q3,rfl,hq3⟩:=xX hs hone hT hf3 rfl;obtain⟨n2,y2,ht2⟩:=fJ hs hone hT hf2 rfl;obtain⟨n4,y4,ht4⟩:=fJ hs hone hT hf4 rfl;obtain⟨A2,k2,l2,rfl,hr2⟩:=nJ ht2;obtain⟨A4,k4,l4,rfl,hr4,hr5,hr6,hr7⟩:=lN ht4;exact⟨⟨q0,q1,l2,q3,l4⟩,⟨hat 0 (by omega),hat 1 (by omega),hat 3 (by omega),⟨A2,k2,hat 2 (by omega),hr2⟩,A4,k4,hat 4 (by omega),hr4,hr5,hr6,hq3⟩,fun l c hc=>Ab hr7 ((hat 4 (by omega)).symm.trans hc)⟩) hf
 exact⟨A,c,l,h1,⟨rfl,fun hn=>by
  obtain⟨b,off,e,hlt,hq⟩:=h4 hn;exact⟨b,off,e,hlt,fun j hj=>(hq j hj).1⟩⟩,h2,h3,fun b off e j hj l' c' hc=>by
  obtain⟨b',off',e',_,hq⟩:=h4 (by omega);rw[e]at e';injection e' with e';injection e' with e1 e2;subst e1 e2;exact(hq j hj).2 l' c' hc⟩
theorem qx (hf:DataW.trod enc Tryz.prog W 0 (fun _=>true) true fuel 24 [v]=some x) :
  ∃(A:Option Addr) (c:Nat) (l:List FiL),v = .slice A l.length c/\RFi W A l.length l/\l.length<=c/\l.length<=maxLen/\rM W A l.length 3 2:=by
 obtain⟨fs,hs,hone,hf0,hf1,hf2⟩:=DK;obtain⟨A,c,l,h1,h2,h3,_,h4⟩:=fZ (α:=FiL) Tryz.underlying24 yu (by omega) (fun f a=>(f 0=some (.int .i64 a.frm) /\
   (∃A' c',f 1=some (.slice A' a.gs.length c')/\RGs W A' a.gs.length a.gs/\a.gs.length<=c'/\a.gs.length<=maxLen/\∀g∈a.gs,g.length<=maxLen)/\∃A' c',f 2=some (.slice A' a.out.length c')/\RTm W A' a.out.length a.out/\a.out.length<=c'/\a.out.length<=maxLen)/\∀l c,f 2=some (.slice none l c)->c=0)
  (fun n cs y f hcl hat hT=>by
   match cs,hcl with
   | [c0,c1,c2],_=>
    obtain⟨q0,rfl⟩:=bI hs hone hT hf0 rfl;obtain⟨n2,y2,ht2⟩:=fJ hs hone hT hf1 rfl;obtain⟨n4,y4,ht4⟩:=fJ hs hone hT hf2 rfl;obtain⟨A2,k2,l2,rfl,hr2⟩:=nJ ht2;obtain⟨A4,k4,l4,rfl,hr4,hr5,hr6,hr7⟩:=lN ht4;exact⟨⟨q0,l2,l4⟩,⟨hat 0 (by omega),⟨A2,k2,hat 1 (by omega),hr2⟩,A4,k4,hat 2 (by omega),hr4,hr5,hr6⟩,fun l c hc=>Ab hr7 ((hat 2 (by omega)).symm.trans hc)⟩) hf
 exact⟨A,c,l,h1,⟨rfl,fun hn=>by
  obtain⟨b,off,e,hlt,hq⟩:=h4 hn;exact⟨b,off,e,hlt,fun j hj=>(hq j hj).1⟩⟩,h2,h3,fun b off e j hj l' c' hc=>by
  obtain⟨b',off',e',_,hq⟩:=h4 (by omega);rw[e]at e';injection e' with e';injection e' with e1 e2;subst e1 e2;exact(hq j hj).2 l' c' hc⟩
end
theorem xk {H:Type} {enc:TypeId×Value->H} {W:World} {r:Reach} {b0:Nat} {v:Value} {d:DataW H} {p:List MemPlace} (hv:Value.okWide Tryz.prog W r b0 26 v) (h:DataW.Trod enc Tryz.prog W 0 (fun _=>true) true 26 v d p) :
  ∃(i o n s:Int) (A:Option Addr) (c:Nat) (B:Option Addr) (e:Nat) (rs:List RuL) (fs:List FiL),v=dsc i o n s A rs.length c B fs.length e/\RRu W A rs.length rs/\rs.length<=c/\rs.length<=maxLen/\RFi W B fs.length fs/\fs.length<=e/\fs.length<=maxLen/\rM W A rs.length 5 4/\rM W B fs.length 3 2:=by
 obtain⟨fs,hs,hone,hf0,hf1,hf2,hf3,hf4,hf5⟩:=GJ;obtain⟨cs,rfl,hsz⟩:=okWide_struct hs hv;rw[Cd]at hsz;obtain⟨l⟩:=cs;obtain⟨fuel,hf⟩:=h
 match l,hsz with
 | [c0,c1,c2,c3,c4,c5],_=>
  have hf':DataW.trod enc Tryz.prog W 0 (fun _=>true) true fuel 26 [c0,c1,c2,c3,c4,c5]=some (d,p):=hf;obtain⟨q0,rfl,_,_⟩:=nV hs hone hf' hf0 rfl;obtain⟨q1,rfl,_,_⟩:=nV hs hone hf' hf1 rfl;obtain⟨q2,rfl⟩:=bI hs hone hf' hf2 rfl;obtain⟨q3,rfl⟩:=bI hs hone hf' hf3 rfl;obtain⟨n4,y4,ht4⟩:=fJ hs hone hf' hf4 rfl;obtain⟨n5,y5,ht5⟩:=fJ hs hone hf' hf5 rfl;obtain⟨A,c,rs,rfl,h1,h2,h3,h7⟩:=sy ht4;obtain⟨B,e,fi,rfl,h4,h5,h6,h8⟩:=qx ht5;exact⟨q0,q1,q2,q3,A,c,B,e,rs,fi,rfl,h1,h2,h3,h4,h5,h6,h7,h8⟩
end Go.Proofs.YtbdmcibcenhpnaaGreatDoor.De
