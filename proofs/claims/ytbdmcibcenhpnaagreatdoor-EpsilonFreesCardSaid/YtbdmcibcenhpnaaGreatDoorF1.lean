set_option maxRecDepth 100000
namespace Go.Proofs.YtbdmcibcenhpnaaGreatDoor.Sp
abbrev Span:=Int×Int
def Rng (x:Int):Prop:=-1073741824<=x/\x<=1073741824
def mem (l:List Span) (x:Int):Prop:=Rng x/\∃p∈l,p.1<=x/\x<=p.2
def Ok (p:Span):Prop:=p.1<=p.2/\-1073741824<=p.1/\p.2<=1073741824
def Plain (l:List Span):Prop:=l.Pairwise (fun p q=>p.2+1<q.1)/\∀p∈l,Ok p
def Is (l:List Span) (S:Int->Prop):Prop:=Plain l/\∀x,mem l x↔S x
theorem Plain.nil:Plain []:=⟨List.Pairwise.nil,fun _ h=>by cases h⟩
theorem aI (x:Int) : ¬ mem [] x:=fun h=>by obtain⟨_,p,hp,_⟩:=h;cases hp
theorem mem_append {l r:List Span} {x:Int} : mem (l++r) x↔mem l x\/mem r x:=by
 unfold mem
 constructor
 ·rintro⟨h,p,hp,h1⟩
  rcases List.mem_append.1 hp with hp | hp
  ·exact .inl ⟨h,p,hp,h1⟩
  ·exact .inr ⟨h,p,hp,h1⟩
 ·rintro(⟨h,p,hp,h1⟩ | ⟨h,p,hp,h1⟩)
  ·exact⟨h,p,List.mem_append.2 (.inl hp),h1⟩
  ·exact⟨h,p,List.mem_append.2 (.inr hp),h1⟩
theorem aN {p:Span} {x:Int} : mem [p] x↔Rng x/\p.1<=x/\x<=p.2:=by
 unfold mem
 constructor
 ·rintro⟨h,q,hq,h1⟩
  obtain rfl:=List.mem_singleton.1 hq;exact⟨h,h1⟩
 ·rintro⟨h,h1⟩
  exact⟨h,p,List.mem_singleton.2 rfl,h1⟩
theorem mem_cons {p:Span} {l:List Span} {x:Int} : mem (p::l) x↔(Rng x/\p.1<=x/\x<=p.2)\/mem l x:=by
 rw[show p::l=[p]++l from rfl,mem_append,aN]
theorem Plain.snoc {l:List Span} {p:Span} (h:Plain l) (hp:Ok p) (hl:∀q∈l,q.2+1<p.1):Plain (l++[p]):=by
 refine⟨List.pairwise_append.2 ⟨h.1,List.pairwise_singleton _ _,?_⟩,?_⟩
 ·intro a ha b hb
  obtain rfl:=List.mem_singleton.1 hb;exact hl a ha
 ·intro q hq
  rcases List.mem_append.1 hq with hq | hq
  ·exact h.2 q hq
  ·obtain rfl:=List.mem_singleton.1 hq
   exact hp
theorem Plain.append {l r:List Span} (h:Plain (l++r)):Plain l/\Plain r/\∀a∈l,∀b∈r,a.2+1<b.1:=by
 obtain⟨h1,h2⟩:=h;obtain⟨a,b,c⟩:=List.pairwise_append.1 h1;exact⟨⟨a,fun p hp=>h2 p (List.mem_append.2 (.inl hp))⟩,⟨b,fun p hp=>h2 p (List.mem_append.2 (.inr hp))⟩,c⟩
theorem Plain.cons {p:Span} {l:List Span} (h:Plain (p::l)):Ok p/\Plain l/\∀b∈l,p.2+1<b.1:=by
 obtain⟨a,b,c⟩:=Plain.append (l:=[p]) (r:=l) h;exact⟨a.2 p (List.mem_singleton.2 rfl),b,c p (List.mem_singleton.2 rfl)⟩
theorem Is.unique:∀(l r:List Span),Plain l->Plain r->(∀x,mem l x↔mem r x)->l=r:=by
 intro l
 induction l with
 | nil=>
  intro r _ hr hx
  cases r with
  | nil=>rfl
  | cons q r=>
   exfalso;obtain⟨hq,_,_⟩:=hr.cons;unfold Ok at hq;exact aI q.1 ((hx q.1).2 (mem_cons.2 (.inl ⟨⟨by omega,by omega⟩,by omega,by omega⟩)))
 | cons p l ih=>
  intro r hl hr hx
  cases r with
  | nil=>
   exfalso;obtain⟨hq,_,_⟩:=hl.cons;unfold Ok at hq;exact aI p.1 ((hx p.1).1 (mem_cons.2 (.inl ⟨⟨by omega,by omega⟩,by omega,by omega⟩)))
  | cons q r=>
   obtain⟨hp,hl',hpl⟩:=hl.cons;obtain⟨hq,hr',hqr⟩:=hr.cons;unfold Ok at hp hq;have above:∀(s:Span) (m:List Span),(∀b∈m,s.2+1<b.1)->∀x,mem m x->s.2+1<x:=by
    rintro s m hm x ⟨_,b,hb,h1,_⟩;have:=hm b hb;omega
   have e1:p.1=q.1:=by
    have h1:=(hx p.1).1 (mem_cons.2 (.inl ⟨⟨by omega,by omega⟩,by omega,by omega⟩));have h2:=(hx q.1).2 (mem_cons.2 (.inl ⟨⟨by omega,by omega⟩,by omega,by omega⟩));rcases mem_cons.1 h1 with h1 | h1 <;> rcases mem_cons.1 h2 with h2 | h2
    ·omega
    ·have:=above p l hpl _ h2;omega
    ·have:=above q r hqr _ h1;omega
    ·have:=above p l hpl _ h2;have:=above q r hqr _ h1;omega
   have e2:p.2=q.2:=by
    rcases Int.lt_trichotomy p.2 q.2 with h | h | h
    ·exfalso
     have h2:=(hx (p.2+1)).2 (mem_cons.2 (.inl ⟨⟨by omega,by omega⟩,by omega,by omega⟩));rcases mem_cons.1 h2 with h2 | h2
     ·omega
     ·have:=above p l hpl _ h2;omega
    ·exact h
    ·exfalso
     have h2:=(hx (q.2+1)).1 (mem_cons.2 (.inl ⟨⟨by omega,by omega⟩,by omega,by omega⟩));rcases mem_cons.1 h2 with h2 | h2
     ·omega
     ·have:=above q r hqr _ h2;omega
   have e:p=q:=Prod.ext e1 e2;subst e;refine congrArg _ (ih r hl' hr' fun x=>?_);have h:=hx x;rw[mem_cons,mem_cons]at h
   constructor
   ·intro hm
    have:=above p l hpl _ hm;rcases h.1 (.inr hm)with h1 | h1
    ·omega
    ·exact h1
   ·intro hm
    have:=above p r hqr _ hm;rcases h.2 (.inr hm)with h1 | h1
    ·omega
    ·exact h1
theorem Is.eq {l r:List Span} {S T:Int->Prop} (h:Is l S) (k:Is r T) (hST:∀x,S x↔T x):l=r:=
 Is.unique l r h.1 k.1 fun x=>(h.2 x).trans ((hST x).trans (k.2 x).symm)
theorem Is.self {l:List Span} (h:Plain l):Is l (mem l):=⟨h,fun _=>Iff.rfl⟩
theorem Is.congr {l:List Span} {S T:Int->Prop} (h:Is l S) (hST:∀x,S x↔T x):Is l T:=⟨h.1,fun x=>(h.2 x).trans (hST x)⟩
theorem Is.cQ {l:List Span} {S:Int->Prop} (h:Is l S):l=[]↔∀x,¬ S x:=by
 constructor
 ·rintro rfl x hx
  exact aI x ((h.2 x).2 hx)
 ·intro hn
  cases l with
  | nil=>rfl
  | cons p l=>
   obtain⟨hp,_,_⟩:=h.1.cons;unfold Ok at hp;exact absurd ((h.2 p.1).1 (mem_cons.2 (.inl ⟨⟨by omega,by omega⟩,by omega,by omega⟩))) (hn _)
theorem Plain.vY:∀(l:List Span) (lo:Int),Plain l->(∀p∈l,lo<=p.1)->lo<=1073741826->2*(l.length:Int)<=1073741826-lo:=by
 intro l
 induction l with
 | nil=>intro lo _ _ h;simp;omega
 | cons p l ih=>
  intro lo h hlo _;obtain⟨hp,hl,hpl⟩:=h.cons;have h1:=hlo p (List.mem_cons.2 (.inl rfl));unfold Ok at hp;have:=ih (p.2+2) hl (fun q hq=>by have:=hpl q hq;omega) (by omega);simp only[List.length_cons,Int.natCast_add,Int.cast_ofNat_Int];omega
theorem Plain.short {l:List Span} (h:Plain l):l.length<=1073741825:=by
 have:=Plain.vY l (-1073741824) h (fun p hp=>(h.2 p hp).2.1) (by omega);omega
def cnt:List Span->Int
 | []=>0
 | p::l=>(p.2-p.1+1)+cnt l
theorem yg (l r:List Span):cnt (l++r)=cnt l+cnt r:=by
 induction l with
 | nil=>simp[cnt]
 | cons p l ih=>simp only[List.cons_append,cnt,ih];omega
theorem nZ {l:List Span} (h:Plain l):0<=cnt l:=by
 induction l with
 | nil=>simp[cnt]
 | cons p l ih=>
  obtain⟨hp,hl,_⟩:=h.cons;have:=ih hl;unfold Ok at hp;simp only[cnt];omega
theorem tB:∀(l:List Span) (lo:Int),Plain l->(∀p∈l,lo<=p.1)->lo<=1073741826->cnt l<=1073741826-lo:=by
 intro l
 induction l with
 | nil=>intro lo _ _ h;simp only[cnt];omega
 | cons p l ih=>
  intro lo h hlo _;obtain⟨hp,hl,hpl⟩:=h.cons;have h1:=hlo p (List.mem_cons.2 (.inl rfl));unfold Ok at hp;have:=ih (p.2+2) hl (fun q hq=>by have:=hpl q hq;omega) (by omega);simp only[cnt];omega
theorem vD {l:List Span} (h:Plain l):cnt l<=2147483650:=
 tB l (-1073741824) h (fun p hp=>(h.2 p hp).2.1) (by omega)
def gV (l:List Span) (lo hi:Int):List Span:=
 if max lo (-1073741824)>min hi 1073741824 then l else l++[(max lo (-1073741824),min hi 1073741824)]
theorem fB (l:List Span) (lo hi x:Int):mem (gV l lo hi) x↔mem l x\/(Rng x/\lo<=x/\x<=hi):=by
 unfold gV
 split
 ·constructor
  ·exact .inl
  ·rintro(h | ⟨h,h1⟩)
   ·exact h
   ·unfold Rng at h;omega
 ·rw[mem_append,aN]
  unfold Rng
  constructor
  ·rintro(h | h)
   ·exact .inl h
   ·exact .inr (by simp only at h;omega)
  ·rintro(h | h)
   ·exact .inl h
   ·exact .inr (by simp only;omega)
theorem Gv {l:List Span} {lo hi:Int} (h:∀p∈l,Ok p):∀p∈gV l lo hi,Ok p:=by
 unfold gV
 split
 ·exact h
 ·intro p hp
  rcases List.mem_append.1 hp with hp | hp
  ·exact h p hp
  ·obtain rfl:=List.mem_singleton.1 hp
   unfold Ok;simp only;omega
theorem lD (l:List Span) (lo hi:Int):(gV l lo hi).length<=l.length+1:=by
 unfold gV;split <;> simp
theorem eG {l:List Span} {lo hi:Int} (h:Plain l) (hl:lo<=hi->∀q∈l,q.2+1<lo):Plain (gV l lo hi):=by
 unfold gV
 split
 ·exact h
 ·refine h.snoc (by unfold Ok;simp only;omega) fun q hq=>?_
  have h1:=hl (by omega) q hq;simp only;omega
theorem cN {l:List Span} {lo hi:Int} {B:Int} (h:∀q∈l,q.2<B) (hB:lo<=hi->hi<B):∀q∈gV l lo hi,q.2<B:=by
 unfold gV
 split
 ·exact h
 ·intro p hp
  rcases List.mem_append.1 hp with hp | hp
  ·exact h p hp
  ·obtain rfl:=List.mem_singleton.1 hp
   have:=hB (by omega);simp only;omega
def mL (hi:Int):Int->List Span->List Span->List Span
 | lo,out,[]=>gV out lo hi
 | lo,out,x::q=>if hi<x.1 then gV out lo hi else mL hi (x.2+1) (gV out lo (x.1-1)) q
theorem EO (hi:Int):∀(q:List Span) (lo:Int) (out:List Span),Plain q->(∀b∈q,lo<=b.2+1)->∀y,mem (mL hi lo out q) y↔mem out y\/(Rng y/\lo<=y/\y<=hi/\¬ mem q y):=by
 intro q
 induction q with
 | nil=>
  intro lo out _ _ y;rw[mL,fB];have:=aI y
  constructor
  ·rintro(h | ⟨h,h1,h2⟩)
   ·exact .inl h
   ·exact .inr ⟨h,h1,h2,this⟩
  ·rintro(h | ⟨h,h1,h2,_⟩)
   ·exact .inl h
   ·exact .inr ⟨h,h1,h2⟩
 | cons x q ih=>
  intro lo out hq hb y;obtain⟨hx,hq',hxq⟩:=hq.cons;unfold Ok at hx;rw[mL];have above:∀z,mem q z->x.2+1<z:=by
   rintro z ⟨_,b,hb,h1,_⟩;have:=hxq b hb;omega
  split
  ·rw[fB]
   constructor
   ·rintro(h | ⟨h,h1,h2⟩)
    ·exact .inl h
    ·refine .inr ⟨h,h1,h2,fun hm=>?_⟩
     rcases mem_cons.1 hm with h3 | h3
     ·omega
     ·have:=above y h3;omega
   ·rintro(h | ⟨h,h1,h2,_⟩)
    ·exact .inl h
    ·exact .inr ⟨h,h1,h2⟩
  ·have h0:=hb x (List.mem_cons.2 (.inl rfl))
   rw[ih (x.2+1) _ hq' (fun b hb=>by have:=hxq b hb;have:=hq'.2 b hb;unfold Ok at this;omega) y,fB]
   constructor
   ·rintro((h | ⟨h,h1,h2⟩) | ⟨h,h1,h2,h3⟩)
    ·exact .inl h
    ·refine .inr ⟨h,h1,by omega,fun hm=>?_⟩
     rcases mem_cons.1 hm with h3 | h3
     ·omega
     ·have:=above y h3;omega
    ·refine .inr ⟨h,by omega,h2,fun hm=>?_⟩
     rcases mem_cons.1 hm with h4 | h4
     ·omega
     ·exact h3 h4
   ·rintro(h | ⟨h,h1,h2,h3⟩)
    ·exact .inl (.inl h)
    ·by_cases hy:y<=x.1-1
     ·exact .inl (.inr ⟨h,h1,hy⟩)
     ·refine .inr ⟨h,?_,h2,fun hm=>h3 (mem_cons.2 (.inr hm))⟩
      by_cases hy2:y<=x.2
      ·exact absurd (mem_cons.2 (.inl ⟨h,by omega,hy2⟩)) h3
      ·omega
theorem x6 (hi:Int):∀(q:List Span) (lo:Int) (out:List Span),Plain q->(∀b∈q,lo<=b.2+1)->Plain out->(∀r∈out,r.2+1<lo)->Plain (mL hi lo out q):=by
 intro q
 induction q with
 | nil=>
  intro lo out _ _ ho hr;rw[mL];exact eG ho fun _=>hr
 | cons x q ih=>
  intro lo out hq hb ho hr;obtain⟨hx,hq',hxq⟩:=hq.cons;unfold Ok at hx;have h0:=hb x (List.mem_cons.2 (.inl rfl));rw[mL]
  split
  ·exact eG ho fun _=>hr
  ·refine ih (x.2+1) _ hq' (fun b hb=>by have:=hxq b hb;have:=hq'.2 b hb;unfold Ok at this;omega) (eG ho fun _=>hr) ?_
   have:=cN (l:=out) (lo:=lo) (hi:=x.1-1) (B:=x.2) (fun r hr'=>by have:=hr r hr';omega) (fun _=>by omega);exact fun r hr'=>by have:=this r hr';omega
theorem x7 (hi B:Int) (hB:hi<B):∀(q:List Span) (lo:Int) (out:List Span),(∀r∈out,r.2<B)->∀r∈mL hi lo out q,r.2<B:=by
 intro q
 induction q with
 | nil=>
  intro lo out ho;rw[mL];exact cN ho fun _=>hB
 | cons x q ih=>
  intro lo out ho;rw[mL]
  split
  ·exact cN ho fun _=>hB
  ·exact ih _ _ (cN ho fun _=>by omega)
theorem BP {hi lo:Int} {out q:List Span} {j:Nat} (hj:j<q.length):mL hi lo out (q.drop j)=if hi<q[j].1 then gV out lo hi else mL hi (q[j].2+1) (gV out lo (q[j].1-1)) (q.drop (j+1)):=by
 rw[List.drop_eq_getElem_cons hj,mL]
theorem aJ {p:List Span} {k:Nat} (hk:k<p.length) {x:Int} : mem (p.take (k+1)) x↔mem (p.take k) x\/(Rng x/\p[k].1<=x/\x<=p[k].2):=by
 rw[List.take_succ_eq_append_getElem hk,mem_append,aN]
theorem dU {p:List Span} (k:Nat) {x:Int} : mem p x↔mem (p.take k) x\/mem (p.drop k) x:=by
 rw[<- mem_append,List.take_append_drop]
theorem Plain.take {p:List Span} (h:Plain p) (k:Nat):Plain (p.take k):=by
 rw[<- List.take_append_drop k p]at h;exact h.append.1
theorem Plain.drop {p:List Span} (h:Plain p) (k:Nat):Plain (p.drop k):=by
 rw[<- List.take_append_drop k p]at h;exact h.append.2.1
theorem nX {p:List Span} {k:Nat} (hk:k<p.length) {b:Span} (h:b∈p.drop k):b=p[k]\/b∈p.drop (k+1):=by
 rw[List.drop_eq_getElem_cons hk]at h;exact List.mem_cons.1 h
theorem dD {p:List Span} {k:Nat} (hk:k<p.length):p[k]∈p.drop k:=by
 rw[List.drop_eq_getElem_cons hk];exact List.mem_cons.2 (.inl rfl)
theorem iY {p:List Span} {k:Nat} {b:Span} (h:b∈p.drop (k+1)):b∈p.drop k:=by
 rw[<- List.drop_drop]at h;exact List.mem_of_mem_drop h
theorem Plain.at_ {p:List Span} (h:Plain p) {k:Nat} (hk:k<p.length):Ok p[k]/\∀b∈p.drop (k+1),p[k].2+1<b.1:=by
 have:=h.drop k;rw[List.drop_eq_getElem_cons hk]at this;obtain⟨a,_,c⟩:=this.cons;exact⟨a,c⟩
theorem mE {p:List Span} {k:Nat} {x:Int} {B:Int} (h:∀a∈p.take k,a.2<B) (hm:mem (p.take k) x):x<B:=by
 obtain⟨_,a,ha,_,h2⟩:=hm;have:=h a ha;omega
theorem iw {p:List Span} {k:Nat} {x:Int} {B:Int} (h:∀a∈p.drop k,B<a.1) (hm:mem (p.drop k) x):B<x:=by
 obtain⟨_,a,ha,h1,_⟩:=hm;have:=h a ha;omega
structure aZ (p Q:List Span) (k j:Nat) (out:List Span):Prop where
 plain:Plain out
 set:∀x,mem out x↔mem (p.take k) x/\¬ mem Q x
 ahead:∀r∈out,∀b∈p.drop k,r.2+1<b.1
 past:∀c∈Q.take j,∀b∈p.drop k,c.2<b.1
theorem aZ.start (p Q:List Span):aZ p Q 0 0 []:=
 ⟨Plain.nil,fun x=>⟨fun h=>absurd h (aI x),fun h=>absurd h.1 (by simpa using aI x)⟩,fun _ h=>(by cases h),fun _ h=>(by simp at h)⟩
theorem aZ.skip {p Q out:List Span} {k j:Nat} (h:aZ p Q k j out) (hp:Plain p) (hk:k<p.length) (hj:j<Q.length) (hlt:Q[j].2<p[k].1):aZ p Q k (j+1) out:=
 ⟨h.plain,h.set,h.ahead,fun c hc b hb=>by
  rw[List.take_succ_eq_append_getElem hj]at hc;rcases List.mem_append.1 hc with hc | hc
  ·exact h.past c hc b hb
  ·obtain rfl:=List.mem_singleton.1 hc
   rcases nX hk hb with rfl | hb
   ·exact hlt
   ·have h1:=(hp.at_ hk).2 b hb
    have h2:=(hp.at_ hk).1;unfold Ok at h2;omega⟩
theorem aZ.cut {p Q out:List Span} {k j:Nat} (h:aZ p Q k j out) (hp:Plain p) (hQ:Plain Q) (hk:k<p.length) (hge:∀hj:j<Q.length,p[k].1<=Q[j].2) :
  aZ p Q (k+1) j (mL p[k].2 p[k].1 out (Q.drop j)):=by
 obtain⟨hok,hnext⟩:=hp.at_ hk;unfold Ok at hok;have hb:∀b∈Q.drop j,p[k].1<=b.2+1:=by
  intro b hb;by_cases hj:j<Q.length
  ·have h1:=hge hj
   rcases nX hj hb with rfl | hb
   ·omega
   ·have h2:=(hQ.at_ hj).2 b hb
    have h3:=hQ.2 b (List.mem_of_mem_drop hb);unfold Ok at h3;omega
  ·rw[List.drop_eq_nil_of_le (by omega)]at hb;cases hb
 have hout:∀r∈out,r.2+1<p[k].1:=fun r hr=>h.ahead r hr _ (dD hk)
 refine⟨x6 _ _ _ _ (hQ.drop j) hb h.plain hout,fun x=>?_,?_,fun c hc b hb=>h.past c hc b (iY hb)⟩
 ·rw[EO _ _ _ _ (hQ.drop j) hb,h.set,aJ hk]
  have hQs:=dU (p:=Q) j (x:=x);have LL:mem (Q.take j) x->x<p[k].1:=mE fun a ha=>h.past a ha _ (dD hk)
  constructor
  ·rintro(⟨h1,h2⟩ | ⟨h0,h1,h2,h3⟩)
   ·exact⟨.inl h1,h2⟩
   ·refine⟨.inr ⟨h0,h1,h2⟩,fun hm=>?_⟩
    rcases hQs.1 hm with hm | hm
    ·have:=LL hm;omega
    ·exact h3 hm
  ·rintro⟨h1 | ⟨h0,h1,h2⟩,h3⟩
   ·exact .inl ⟨h1,h3⟩
   ·exact .inr ⟨h0,h1,h2,fun hm=>h3 (hQs.2 (.inr hm))⟩
 ·intro r hr b hb
  have h1:=hnext b hb;have:=x7 p[k].2 (p[k].2+1) (by omega) (Q.drop j) p[k].1 out (fun r hr=>by have:=hout r hr;omega) r hr;omega
theorem aZ.done {p Q out:List Span} {k j:Nat} (h:aZ p Q k j out) (hk:p.length<=k):Is out fun x=>mem p x/\¬ mem Q x:=
 ⟨h.plain,fun x=>by rw[h.set,List.take_of_length_le hk]⟩
structure bE (p q:List Span) (i j:Nat) (out:List Span):Prop where
 plain:Plain out
 set:∀x,mem out x↔(mem (p.take i) x/\mem q x)\/(mem p x/\mem (q.take j) x)
 ahead:∀r∈out,∀(hi:i<p.length) (hj:j<q.length),r.2+1<max p[i].1 q[j].1
theorem bE.start (p q:List Span):bE p q 0 0 []:=
 ⟨Plain.nil,fun x=>⟨fun h=>absurd h (aI x),fun h=>by rcases h with h | h <;> simp[aI]at h⟩,fun _ h=>by cases h⟩
theorem bE.Fw {p q out:List Span} {i j:Nat} (h:bE p q i j out) (hi:i<p.length) (hj:j<q.length):Plain (gV out (max p[i].1 q[j].1) (min p[i].2 q[j].2)):=
 eG h.plain fun _ r hr=>h.ahead r hr hi hj
theorem bE.left {p q out:List Span} {i j:Nat} (h:bE p q i j out) (hp:Plain p) (hq:Plain q) (hi:i<p.length) (hj:j<q.length) (hlt:p[i].2<q[j].2) :
  bE p q (i+1) j (gV out (max p[i].1 q[j].1) (min p[i].2 q[j].2)):=by
 obtain⟨hok,hnext⟩:=hp.at_ hi;obtain⟨hok2,hnext2⟩:=hq.at_ hj;unfold Ok at hok hok2;refine⟨h.Fw hi hj,fun x=>?_,?_⟩
 ·rw[fB,h.set,aJ hi]
  have hps:=dU (p:=p) i (x:=x);have hqs:=dU (p:=q) (j+1) (x:=x);rw[aJ hj]at hqs;have hpm:Rng x->p[i].1<=x->x<=p[i].2->mem p x:=fun a b c=>⟨a,_,List.getElem_mem hi,b,c⟩
  have hqm:Rng x->q[j].1<=x->x<=q[j].2->mem q x:=fun a b c=>⟨a,_,List.getElem_mem hj,b,c⟩
  have hab:mem (q.drop (j+1)) x->q[j].2+1<x:=iw hnext2
  constructor
  ·rintro((⟨h1,h2⟩ | ⟨h1,h2⟩) | ⟨h1,h2,h3⟩)
   ·exact .inl ⟨.inl h1,h2⟩
   ·exact .inr ⟨h1,h2⟩
   ·exact .inl ⟨.inr ⟨h1,by omega,by omega⟩,hqm h1 (by omega) (by omega)⟩
  ·rintro(⟨h1 | ⟨h1,h2,h3⟩,h4⟩ | ⟨h1,h2⟩)
   ·exact .inl (.inl ⟨h1,h4⟩)
   ·rcases hqs.1 h4 with(h5 | h5) | h5
    ·exact .inl (.inr ⟨hpm h1 h2 h3,h5⟩)
    ·exact .inr ⟨h1,by omega,by omega⟩
    ·have:=hab h5;omega
   ·exact .inl (.inr ⟨h1,h2⟩)
 ·intro r hr hi' hj'
  have h1:=hnext _ (dD hi');have:=cN (l:=out) (lo:=max p[i].1 q[j].1) (hi:=min p[i].2 q[j].2) (B:=max p[i+1].1 q[j].1-1) (fun r hr=>by have:=h.ahead r hr hi hj;omega) (fun _=>by omega) r hr;omega
theorem bE.right {p q out:List Span} {i j:Nat} (h:bE p q i j out) (hp:Plain p) (hq:Plain q) (hi:i<p.length) (hj:j<q.length) (hlt:q[j].2<=p[i].2) :
  bE p q i (j+1) (gV out (max p[i].1 q[j].1) (min p[i].2 q[j].2)):=by
 obtain⟨hok,hnext⟩:=hp.at_ hi;obtain⟨hok2,hnext2⟩:=hq.at_ hj;unfold Ok at hok hok2;refine⟨h.Fw hi hj,fun x=>?_,?_⟩
 ·rw[fB,h.set,aJ hj]
  have hqs:=dU (p:=q) j (x:=x);have hps:=dU (p:=p) (i+1) (x:=x);rw[aJ hi]at hps;have hpm:Rng x->p[i].1<=x->x<=p[i].2->mem p x:=fun a b c=>⟨a,_,List.getElem_mem hi,b,c⟩
  have hqm:Rng x->q[j].1<=x->x<=q[j].2->mem q x:=fun a b c=>⟨a,_,List.getElem_mem hj,b,c⟩
  have hab:mem (p.drop (i+1)) x->p[i].2+1<x:=iw hnext
  constructor
  ·rintro((⟨h1,h2⟩ | ⟨h1,h2⟩) | ⟨h1,h2,h3⟩)
   ·exact .inl ⟨h1,h2⟩
   ·exact .inr ⟨h1,.inl h2⟩
   ·exact .inr ⟨hpm h1 (by omega) (by omega),.inr ⟨h1,by omega,by omega⟩⟩
  ·rintro(⟨h1,h2⟩ | ⟨h4,h1 | ⟨h1,h2,h3⟩⟩)
   ·exact .inl (.inl ⟨h1,h2⟩)
   ·exact .inl (.inr ⟨h4,h1⟩)
   ·rcases hps.1 h4 with(h5 | h5) | h5
    ·exact .inl (.inl ⟨h5,hqm h1 h2 h3⟩)
    ·exact .inr ⟨h1,by omega,by omega⟩
    ·have:=hab h5;omega
 ·intro r hr hi' hj'
  have h1:=hnext2 _ (dD hj');have:=cN (l:=out) (lo:=max p[i].1 q[j].1) (hi:=min p[i].2 q[j].2) (B:=max p[i].1 q[j+1].1-1) (fun r hr=>by have:=h.ahead r hr hi hj;omega) (fun _=>by omega) r hr;omega
theorem bE.done {p q out:List Span} {i j:Nat} (h:bE p q i j out) (hk:p.length<=i\/q.length<=j):Is out fun x=>mem p x/\mem q x:=
 ⟨h.plain,fun x=>by
  rw[h.set];have h1:mem (p.take i) x->mem p x:=fun hm=>(dU i).2 (.inl hm)
  have h2:mem (q.take j) x->mem q x:=fun hm=>(dU j).2 (.inl hm)
  rcases hk with hk | hk
  ·rw[List.take_of_length_le hk]
   constructor
   ·rintro(h | h)
    ·exact h
    ·exact⟨h.1,h2 h.2⟩
   ·exact .inl
  ·rw[List.take_of_length_le (l:=q) hk]
   constructor
   ·rintro(h | h)
    ·exact⟨h1 h.1,h.2⟩
    ·exact h
   ·exact .inr⟩
structure cF (d:List Span) (k:Nat) (out:List Span):Prop where
 plain:Plain out
 set:∀x,mem out x↔mem (d.take k) x
 ahead:∀r∈out,∀b∈d.drop k,r.1<=b.1
 few:out.length<=k
theorem cF.start (d:List Span):cF d 0 []:=⟨Plain.nil,fun x=>by simp,fun _ h=>by(cases h),Nat.le_refl _⟩
def dn (d:List Span):Prop:=d.Pairwise fun a b=>a.1<=b.1
theorem dn.at_ {d:List Span} (h:dn d) {k:Nat} (hk:k<d.length):∀b∈d.drop (k+1),d[k].1<=b.1:=by
 have h1:dn (d.drop k):=List.Pairwise.sublist (List.drop_sublist k d) h;unfold dn at h1;rw[List.drop_eq_getElem_cons hk]at h1;exact(List.pairwise_cons.1 h1).1
theorem cF.more {d out:List Span} {k:Nat} (h:cF d k out) (hs:dn d) (hd:∀p∈d,Ok p) (hk:k<d.length) (hl:∀r,out.getLast? = some r->r.2+1<d[k].1):cF d (k+1) (out++[d[k]]):=by
 have hok:=hd _ (List.getElem_mem hk);refine⟨h.plain.snoc hok ?_,fun x=>by rw[mem_append,aN,h.set,aJ hk],?_,by have:=h.few;simp;omega⟩
 ·intro q hq
  rcases List.eq_nil_or_concat out with rfl | ⟨o,r,rfl⟩
  ·cases hq
  ·rw[List.concat_eq_append]at *
   have h1:=hl r (by simp);rcases List.mem_append.1 hq with hq | hq
   ·have h2:=h.plain.append.2.2 q hq r (List.mem_singleton.2 rfl)
    have h3:=h.plain.2 r (by simp);unfold Ok at h3;omega
   ·obtain rfl:=List.mem_singleton.1 hq;exact h1
 ·intro r hr b hb
  rcases List.mem_append.1 hr with hr | hr
  ·exact h.ahead r hr b (iY hb)
  ·obtain rfl:=List.mem_singleton.1 hr
   exact hs.at_ hk b hb
theorem cF.merge {d o:List Span} {r:Span} {k:Nat} (h:cF d k (o++[r])) (hd:∀p∈d,Ok p) (hk:k<d.length) (hl:d[k].1<=r.2+1):cF d (k+1) (o++[(r.1,max r.2 d[k].2)]):=by
 have hok:=hd _ (List.getElem_mem hk);obtain⟨ho,_,hor⟩:=h.plain.append;have hr:=h.plain.2 r (by simp);have ha:=h.ahead r (by simp) _ (dD hk);unfold Ok at hok hr;refine⟨ho.snoc (by unfold Ok;simp only;omega) fun q hq=>hor q hq r (by simp),fun x=>?_,?_,by have:=h.few;simp at *;omega⟩
 ·rw[aJ hk,<- h.set,mem_append,mem_append,aN,aN]
  simp only
  constructor
  ·rintro(h1 | ⟨h1,h2,h3⟩)
   ·exact .inl (.inl h1)
   ·by_cases hx:x<=r.2
    ·exact .inl (.inr ⟨h1,h2,hx⟩)
    ·exact .inr ⟨h1,by omega,by omega⟩
  ·rintro((h1 | ⟨h1,h2,h3⟩) | ⟨h1,h2,h3⟩)
   ·exact .inl h1
   ·exact .inr ⟨h1,h2,by omega⟩
   ·exact .inr ⟨h1,by omega,by omega⟩
 ·intro q hq b hb
  rcases List.mem_append.1 hq with hq | hq
  ·exact h.ahead q (by simp[hq]) b (iY hb)
  ·obtain rfl:=List.mem_singleton.1 hq
   exact h.ahead r (by simp) b (iY hb)
theorem cF.done {d out:List Span} {k:Nat} (h:cF d k out) (hk:d.length<=k):Is out (mem d):=⟨h.plain,fun x=>by rw[h.set,List.take_of_length_le hk]⟩
structure gy (l:List Span) (k:Nat) (out:List Span):Prop where
 ok:∀p∈out,Ok p
 set:∀x,mem out x↔mem (l.take k) x
 few:out.length<=k
theorem gy.start (l:List Span):gy l 0 []:=⟨fun _ h=>(by cases h),fun x=>(by simp),Nat.le_refl _⟩
theorem gy.next {l out:List Span} {k:Nat} (h:gy l k out) (hk:k<l.length):gy l (k+1) (gV out l[k].1 l[k].2):=
 ⟨Gv h.ok,fun x=>by rw[fB,h.set,aJ hk],by have:=lD out l[k].1 l[k].2;have:=h.few;omega⟩
theorem uG {l r:List Span} (h:l.Perm r) (x:Int):mem l x↔mem r x:=by
 unfold mem
 constructor
 ·rintro⟨a,p,hp,b⟩;exact⟨a,p,h.mem_iff.1 hp,b⟩
 ·rintro⟨a,p,hp,b⟩;exact⟨a,p,h.mem_iff.2 hp,b⟩
structure dX (p:List Span) (by_:Int) (k:Nat) (out:List Span):Prop where
 plain:Plain out
 set:∀x,mem out x↔Rng x/\mem (p.take k) (x-by_)
 ahead:∀r∈out,∀b∈p.drop k,r.2+1<b.1+by_
theorem dX.start (p:List Span) (by_:Int):dX p by_ 0 []:=⟨Plain.nil,fun x=>by simp[aI],fun _ h=>by(cases h)⟩
theorem dX.next {p out:List Span} {by_:Int} {k:Nat} (h:dX p by_ k out) (hp:Plain p) (hk:k<p.length):dX p by_ (k+1) (gV out (p[k].1+by_) (p[k].2+by_)):=by
 obtain⟨hok,hnext⟩:=hp.at_ hk;unfold Ok at hok;refine⟨eG h.plain fun _ r hr=>h.ahead r hr _ (dD hk),fun x=>?_,?_⟩
 ·rw[fB,h.set,aJ hk]
  unfold Rng
  constructor
  ·rintro(h1 | h1)
   ·exact⟨h1.1,.inl h1.2⟩
   ·exact⟨h1.1,.inr (by omega)⟩
  ·rintro⟨h1,h2 | h2⟩
   ·exact .inl ⟨h1,h2⟩
   ·exact .inr (by omega)
 ·intro r hr b hb
  have h1:=hnext b hb;have:=cN (l:=out) (lo:=p[k].1+by_) (hi:=p[k].2+by_) (B:=p[k].2+by_+1) (fun r hr=>by have:=h.ahead r hr _ (dD hk);omega) (fun _=>by omega) r hr;omega
theorem dX.done {p out:List Span} {by_:Int} {k:Nat} (h:dX p by_ k out) (hk:p.length<=k):Is out fun x=>Rng x/\mem p (x-by_):=⟨h.plain,fun x=>by rw[h.set,List.take_of_length_le hk]⟩
end Go.Proofs.YtbdmcibcenhpnaaGreatDoor.Sp
namespace Go.Proofs.YtbdmcibcenhpnaaGreatDoor.Pa
open Sp
def Bits (d t u:Int):Prop:=0<=d/\d<=20/\1<=t/\t<=21/\0<=u/\u<=20/\(u=0\/t<=6)
instance (d t u:Int):Decidable (Bits d t u):=by unfold Bits;infer_instance
def pw (n:Int):Int:=2 ^ n.toNat
theorem aU (n:Int):1<=pw n:=by
 have:(0:Int)<2 ^ n.toNat:=Int.pow_pos (by decide);unfold pw;omega
theorem oD:pw 0=1:=rfl
theorem zP (n:Int) (h:0<=n):pw (n+1)=2*pw n:=by
 unfold pw;rw[show(n+1).toNat=n.toNat+1 from by omega,Int.pow_succ,Int.mul_comm]
theorem Fv (a b:Int) (ha:0<=a) (hb:0<=b):pw (a+b)=pw a*pw b:=by
 unfold pw;rw[show(a+b).toNat=a.toNat+b.toNat from by omega,Int.pow_add]
theorem fA (a b:Int) (h:a<=b):pw a<=pw b:=by
 unfold pw;rw[show b.toNat=a.toNat+(b.toNat-a.toNat)from by omega,Int.pow_add];have h1:(0:Int)<2 ^ a.toNat:=Int.pow_pos (by decide);have h2:(0:Int)<2 ^ (b.toNat-a.toNat):=Int.pow_pos (by decide);have:=Int.mul_le_mul_of_nonneg_left (show(1:Int)<=2 ^ (b.toNat-a.toNat)by omega) (Int.le_of_lt h1);omega
theorem Jt {n:Int} (h:1<=n):2<=pw n:=by
 have:=fA 1 n h;have e:pw 1=2:=rfl;omega
theorem mH {n:Int} {k:Int} (h:n<=k) {m:Int} (hk:pw k=m):pw n<=m:=by have:=fA n k h;omega
theorem pw20:pw 20=1048576:=by decide
theorem pw21:pw 21=2097152:=by decide
theorem pw6:pw 6=64:=by decide
def dc (d t u x:Int):Int:=x / pw d % pw t*pw u
def vJ (d t u x:Int):Prop:=Bits d t u/\0<=x/\x<=2097151
instance (d t u x:Int):Decidable (vJ d t u x):=by unfold vJ;infer_instance
def Gi (d t u x:Int):Int×Bool:=if vJ d t u x then(dc d t u x,true)else(0,false)
theorem mod_lt (x t:Int):0<=x % pw t/\x % pw t<pw t:=⟨Int.emod_nonneg _ (by have:=aU t;omega),Int.emod_lt_of_pos _ (by have:=aU t;omega)⟩
theorem qC {a b A B:Int} (ha:0<=a) (hA:a<=A) (hb:0<=b) (hB:b<=B):0<=a*b/\a*b<=A*B:=
 ⟨Int.mul_nonneg ha hb,Int.le_trans (Int.mul_le_mul_of_nonneg_right hA hb) (Int.mul_le_mul_of_nonneg_left hB (by omega))⟩
theorem kB {d x:Int} (hx:0<=x):0<=x / pw d/\x / pw d<=x:=by
 have h:=aU d;exact⟨Int.ediv_nonneg hx (by omega),Int.ediv_le_self _ hx⟩
theorem bw {d t u:Int} (h:Bits d t u) (x:Int):0<=dc d t u x/\dc d t u x<=66060288:=by
 obtain⟨h1,h2,h3,h4,h5,h6,h7⟩:=h;have hm:=mod_lt (x / pw d) t;have hu:=aU u;unfold dc;rcases h7 with rfl | h7
 ·rw[oD]
  have:=mH h4 pw21;omega
 ·have a:=mH h7 pw6
  have b:=mH h6 pw20;have:=qC (a:=x / pw d % pw t) (b:=pw u) (A:=63) (B:=1048576) hm.1 (by omega) (by omega) b;omega
theorem sK {D lo hi:Int} (hD:1<=D) (h:lo<=hi) (z:Int):(∃x,lo<=x/\x<=hi/\x / D=z)↔lo / D<=z/\z<=hi / D:=by
 constructor
 ·rintro⟨x,h1,h2,rfl⟩
  exact⟨Int.ediv_le_ediv (by omega) h1,Int.ediv_le_ediv (by omega) h2⟩
 ·rintro⟨h1,h2⟩
  have h3:z*D<=hi:=(Int.le_ediv_iff_mul_le (by omega)).1 h2;by_cases h4:lo<=z*D
  ·exact⟨z*D,h4,h3,Int.mul_ediv_cancel _ (by omega)⟩
  ·refine⟨lo,Int.le_refl _,h,?_⟩
   have:z<=lo / D:=(Int.le_ediv_iff_mul_le (by omega)).2 (by omega);omega
theorem jB {T L H:Int} (hT:1<=T) (hw:T-1<=H-L) (y:Int):(∃z,L<=z/\z<=H/\z % T=y)↔0<=y/\y<=T-1:=by
 constructor
 ·rintro⟨z,_,_,rfl⟩
  have h1:=Int.emod_nonneg z (show T≠0 by omega);have h2:=Int.emod_lt_of_pos z (show 0<T by omega);omega
 ·rintro⟨h1,h2⟩
  have hl1:=Int.emod_nonneg L (show T≠0 by omega);have hl2:=Int.emod_lt_of_pos L (show 0<T by omega);have hl:=Int.emod_add_ediv_mul L T;have key:∀k:Int,(y+k*T) % T=y:=fun k=>by
   rw[Int.add_mul_emod_self_right];exact Int.emod_eq_of_lt h1 (by omega)
  by_cases h:L % T<=y
  ·exact⟨y+L / T*T,by omega,by omega,key _⟩
  ·have e:(L / T+1)*T=L / T*T+T:=by rw[Int.add_mul,Int.one_mul]
   exact⟨y+(L / T+1)*T,by omega,by omega,key _⟩
theorem GX {T L H:Int} (hT:1<=T) (hLH:L<=H) (hw:H-L<T-1) (y:Int):(∃z,L<=z/\z<=H/\z % T=y) ↔
  if L % T<=H % T then L % T<=y/\y<=H % T else(L % T<=y/\y<=T-1)\/(0<=y/\y<=H % T):=by
 have hl1:=Int.emod_nonneg L (show T≠0 by omega);have hl2:=Int.emod_lt_of_pos L (show 0<T by omega);have hl:=Int.emod_add_ediv_mul L T;have hh1:=Int.emod_nonneg H (show T≠0 by omega);have hh2:=Int.emod_lt_of_pos H (show 0<T by omega);have hh:=Int.emod_add_ediv_mul H T;have key:∀k y:Int,0<=y->y<T->(y+k*T) % T=y:=fun k y a b=>by
  rw[Int.add_mul_emod_self_right];exact Int.emod_eq_of_lt a b
 have e1:∀k:Int,(k+1)*T=k*T+T:=fun k=>by rw[Int.add_mul,Int.one_mul]
 have hmono:L / T<=H / T:=Int.ediv_le_ediv (by omega) hLH;have hnext:H / T<=L / T+1:=by
  have:H<(L / T+2)*T:=by
   have:(L / T+2)*T=L / T*T+T+T:=by rw[Int.add_mul];omega
   omega
  have:=(Int.ediv_lt_iff_lt_mul (show 0<T by omega)).2 this;omega
 rcases (show H / T=L / T\/H / T=L / T+1 from by omega)with hq | hq
 ·rw[hq]at hh
  rw[if_pos (by omega)]
  constructor
  ·rintro⟨z,z1,z2,rfl⟩
   have hz:z / T=L / T:=by
    have a:=Int.ediv_le_ediv (show 0<T by omega) z1;have b:=Int.ediv_le_ediv (show 0<T by omega) z2;omega
   have hzz:=Int.emod_add_ediv_mul z T;rw[hz]at hzz;omega
  ·rintro⟨a,b⟩
   exact⟨y+L / T*T,by omega,by omega,key _ _ (by omega) (by omega)⟩
 ·rw[hq,e1]at hh
  rw[if_neg (by omega)]
  constructor
  ·rintro⟨z,z1,z2,rfl⟩
   have a:=Int.ediv_le_ediv (show 0<T by omega) z1;have b:=Int.ediv_le_ediv (show 0<T by omega) z2;have hz1:=Int.emod_nonneg z (show T≠0 by omega);have hz2:=Int.emod_lt_of_pos z (show 0<T by omega);have hzz:=Int.emod_add_ediv_mul z T;rcases (show z / T=L / T\/z / T=L / T+1 from by omega)with hz | hz
   ·rw[hz]at hzz;left;omega
   ·rw[hz,e1]at hzz;right;omega
  ·rintro(⟨a,b⟩ | ⟨a,b⟩)
   ·exact⟨y+L / T*T,by omega,by omega,key _ _ (by omega) (by omega)⟩
   ·exact⟨y+(L / T+1)*T,by rw[e1];omega,by rw[e1];omega,key _ _ a (by omega)⟩
end Go.Proofs.YtbdmcibcenhpnaaGreatDoor.Pa
namespace Go.Proofs.YtbdmcibcenhpnaaGreatDoor.Mi
open Sp Classical
def Nq (aV:Int) (p:List Span):List (Int×Int):=p.flatMap fun r=>[(r.1,aV),(r.2+1,aV)]
def Np:Int->List (List Span)->List (Int×Int)
 | _,[]=>[]
 | i,p::ps=>Nq i p++Np (i+1) ps
theorem pS:∀(out L:List Span),Plain out->(∀x,mem out x->∃p∈L,p.1<=x/\x<=p.2)->(∀p∈L,∀x y z,p.1<=x->x<=y->y<=z->z<=p.2->mem out x->mem out z->mem out y)->out.length<=L.length
 | [],_,_,_,_=>Nat.zero_le _
 | q::out,L,hp,h1,h2=>by
  obtain⟨hq,hp',NQ⟩:=hp.cons;have hq1:mem (q::out) q.1:=⟨by have:=hq.2.1;have:=hq.2.2;have:=hq.1;unfold Rng;omega,q,List.mem_cons_self ..,Int.le_refl _,hq.1⟩;obtain⟨p,hpL,hp1,hp2⟩:=h1 _ hq1;have hno : ¬ mem (q::out) (q.2+1):=by
   rintro⟨_,r,hr,hr1,hr2⟩;rcases List.mem_cons.1 hr with rfl | hr
   ·omega
   ·have:=NQ r hr;omega
  have hge:∀x,mem out x->q.2+1<x:=fun x ⟨_,r,hr,hr1,_⟩=>by have:=NQ r hr;omega
  have OZ:∀x,mem out x->¬ (p.1<=x/\x<=p.2):=fun x hx hc=>by
   have hx':mem (q::out) x:=⟨hx.1,by obtain⟨_,r,hr,hh⟩:=hx;exact⟨r,List.mem_cons_of_mem _ hr,hh⟩⟩;exact hno (h2 p hpL q.1 (q.2+1) x hp1 (by have:=hq.1;omega) (by have:=hge x hx;omega) hc.2 hq1 hx')
  have:=pS out (L.erase p) hp' (fun x hx=>by
   obtain⟨p',LM,hh⟩:=h1 x ⟨hx.1,by obtain⟨_,r,hr,hh⟩:=hx;exact⟨r,List.mem_cons_of_mem _ hr,hh⟩⟩;have hne:p'≠p:=fun e=>OZ x hx (by rw[<- e];exact hh)
   exact⟨p',(List.mem_erase_of_ne hne).2 LM,hh⟩) (fun p' LM x y z a1 a2 a3 a4 hx hz=>by
   have hx':mem (q::out) x:=⟨hx.1,by obtain⟨_,r,hr,hh⟩:=hx;exact⟨r,List.mem_cons_of_mem _ hr,hh⟩⟩;have hz':mem (q::out) z:=⟨hz.1,by obtain⟨_,r,hr,hh⟩:=hz;exact⟨r,List.mem_cons_of_mem _ hr,hh⟩⟩;have hy:=h2 p' (List.mem_of_mem_erase LM) x y z a1 a2 a3 a4 hx' hz';obtain⟨hr,r,hr0,hr1,hr2⟩:=hy;rcases List.mem_cons.1 hr0 with rfl | hr0
   ·have:=hge x hx;omega
   ·exact⟨hr,r,hr0,hr1,hr2⟩)
  rw[List.length_erase_of_mem hpL]at this;have hpos:0<L.length:=List.length_pos_of_mem hpL;simp only[List.length_cons];omega
def Mk (bs:List Nat) (s:Nat):Bool:=(bs.getD (s / 8) 0).testBit (s % 8)
def toggle (bs:List Nat) (s:Nat):List Nat:=bs.set (s / 8) (bs.getD (s / 8) 0 ^^^ (1 <<< (s % 8)))
def Af (m:Nat) (E:List (Int×Int)):List Nat:=E.foldl (fun bs e=>toggle bs e.2.toNat) (List.replicate m 0)
def In (m:Nat) (E:List (Int×Int)):Prop:=∀e∈E,0<=e.2/\e.2.toNat / 8<m
structure Qi (p0:List Span) (ps:List (List Span)) (E:List (Int×Int)):Prop where
 perm:E.Perm (Nq 0 p0++Np 1 ps)
 sorted:dn E
 plain0:Plain p0
 plain:∀p∈ps,Plain p
abbrev Cell:=List Nat×Span
abbrev Entry:=List Nat×List Span
def placeOf (st:List Entry) (key:List Nat):Option Nat:=st.findIdx? fun e=>e.1 == key
def uS (l:List Span):Int:=(l.head?.map (·.1)).getD 0
structure Nb (C:List Cell) (st:List Entry):Prop where
 nodup:st.Pairwise fun a b=>a.1≠b.1
 part:∀e∈st,e.2=(C.filter fun c=>c.1 == e.1).map (·.2)/\e.2≠[]
 all:∀c∈C,∃e∈st,e.1=c.1
 order:st.Pairwise fun a b=>uS a.2<uS b.2
structure K7 (all:List Span) (fam:List (List Span)) (L:List (List Span)):Prop where
 plain:∀l∈L,Plain l/\l≠[]
 cover:∀x,mem all x↔∃l∈L,mem l x
 alike:∀l∈L,∀r∈L,∀x y,mem l x->mem r y->(l=r↔∀s∈fam,mem s x↔mem s y)
 order:L.Pairwise fun a b=>uS a<uS b
def cellAt (m:Nat) (E:List (Int×Int)) (i:Nat):Option Cell:=
 match E[i]?,E[i+1]? with
 | some a,some b=>if Mk (Af m (E.take (i+1))) 0 && a.1 != b.1 then some (Af m (E.take (i+1)),(a.1,b.1-1))else none
 | _,_=>none
variable {p0:List Span} {ps:List (List Span)} {E:List (Int×Int)}
end Go.Proofs.YtbdmcibcenhpnaaGreatDoor.Mi
namespace Go.Proofs.YtbdmcibcenhpnaaGreatDoor.Pa
open Sp
def CR (d t u:Int) (s:List Span) (x:Int):Prop:=Bits d t u/\mem s x/\0<=x/\x<=2097151
theorem mem_map {f:Span->Span} {p:List Span} {x:Int} : mem (p.map f) x↔Rng x/\∃q∈p,(f q).1<=x/\x<=(f q).2:=by
 unfold mem
 constructor
 ·rintro⟨h,q,hq,h2⟩
  obtain⟨r,hr,rfl⟩:=List.mem_map.1 hq;exact⟨h,r,hr,h2⟩
 ·rintro⟨h,q,hq,h2⟩
  exact⟨h,f q,List.mem_map.2 ⟨q,hq,rfl⟩,h2⟩
def Low (p:List Span):Prop:=∀q∈p,0<=q.1/\q.1<=q.2/\q.2<=2097151
theorem FC {p:List Span} (hp:Plain p) (h:∀x,mem p x->0<=x/\x<=2097151):Low p:=by
 intro q hq;obtain⟨a,b,c⟩:=hp.2 q hq;have h1:=h q.1 ⟨by unfold Rng;omega,q,hq,Int.le_refl _,a⟩;have h2:=h q.2 ⟨by unfold Rng;omega,q,hq,a,Int.le_refl _⟩;omega
end Go.Proofs.YtbdmcibcenhpnaaGreatDoor.Pa
namespace Go.Proofs.YtbdmcibcenhpnaaGreatDoor.Sp
theorem gK (n:Nat) (p:Nat->Bool) (hm:∀a b,a<=b->b<n->p a=true->p b=true) :
  (List.range n).countP (fun i=>!p i)<=n/\(∀i,i<(List.range n).countP (fun i=>!p i)->p i=false)/\(∀i,(List.range n).countP (fun i=>!p i)<=i->i<n->p i=true):=by
 induction n with
 | zero=>exact⟨by simp,fun i h=>by simp at h,fun i _ h=>by omega⟩
 | succ n ih=>
  obtain⟨h1,h2,h3⟩:=ih fun a b hab hb=>hm a b hab (by omega)
  rw[List.range_succ,List.countP_append]
  generalize hc:(List.range n).countP (fun i=>!p i)=c at *
  cases hp:p n with
  | true=>
   rw[show List.countP (fun i=>!p i) [n]=0 by simp[hp],Nat.add_zero];refine⟨by omega,h2,fun i h4 h5=>?_⟩;by_cases e:i=n
   ·rw[e,hp]
   ·exact h3 i h4 (by omega)
  | false=>
   have hcn:c=n:=by
    by_cases hlt:c<n
    ·have h4:=h3 c (Nat.le_refl _) hlt
     have h5:=hm c n (by omega) (by omega) h4;rw[hp]at h5
     cases h5
    ·omega
   rw[show List.countP (fun i=>!p i) [n]=1 by simp[hp]];refine⟨by omega,fun i h4=>?_,fun i h4 h5=>by omega⟩;by_cases e:i=n
   ·rw[e,hp]
   ·exact h2 i (by omega)
def yE (p:List Span) (i:Nat):Span:=(p[i]?).getD (0,0)
theorem cM {p:List Span} {i:Nat} (h:i<p.length):yE p i=p[i]:=by simp[yE,h]
def qN (p:List Span) (lo:Int) (i:Nat):Bool:=decide (lo<=(yE p i).2)
def toP (p:List Span) (hi:Int) (i:Nat):Bool:=decide (hi<(yE p i).1)
def fO (p:List Span) (lo:Int):Nat:=(List.range p.length).countP (fun i=>!qN p lo i)
def toN (p:List Span) (hi:Int):Nat:=(List.range p.length).countP (fun i=>!toP p hi i)
theorem kg {p:List Span} (h:Plain p) {i j:Nat} (hij:i<j) (hj:j<p.length):p[i].2+1<p[j].1:=(List.pairwise_iff_getElem.1 h.1) i j (by omega) hj hij
theorem uy {p:List Span} (h:Plain p) {i:Nat} (hi:i<p.length):Ok p[i]:=h.2 _ (List.getElem_mem hi)
theorem jF {p:List Span} (h:Plain p) (lo:Int):∀a b,a<=b->b<p.length->qN p lo a=true->qN p lo b=true:=fun a b hab hb ha=>by
 unfold qN at *;rw[cM (by omega)]at *;simp only[decide_eq_true_eq]at *;by_cases e:a=b
 ·subst e;exact ha
 ·have h1:=kg h (i:=a) (j:=b) (by omega) hb
  have h2:=uy h hb;unfold Ok at h2;omega
theorem oy {p:List Span} (h:Plain p) (hi:Int):∀a b,a<=b->b<p.length->toP p hi a=true->toP p hi b=true:=fun a b hab hb ha=>by
 unfold toP at *;rw[cM (by omega)]at *;simp only[decide_eq_true_eq]at *;by_cases e:a=b
 ·subst e;exact ha
 ·have h1:=kg h (i:=a) (j:=b) (by omega) hb
  have h2:=uy h (i:=a) (by omega);unfold Ok at h2;omega
theorem EC {p:List Span} (h:Plain p) (lo:Int):fO p lo<=p.length:=(gK p.length _ (jF h lo)).1
theorem yV {p:List Span} (h:Plain p) (hi:Int):toN p hi<=p.length:=(gK p.length _ (oy h hi)).1
theorem nR {p:List Span} (h:Plain p) {lo:Int} {i:Nat} (hi:i<p.length):i<fO p lo↔p[i].2<lo:=by
 obtain⟨_,h2,h3⟩:=gK p.length _ (jF h lo)
 change (∀i,i<fO p lo->_)at h2
 change (∀i,fO p lo<=i->_)at h3
 constructor
 ·intro h4
  have:=h2 i h4;unfold qN at this;rw[cM hi]at this;simp only[decide_eq_false_iff_not]at this;omega
 ·intro h4
  by_cases h5:i<fO p lo
  ·exact h5
  ·have:=h3 i (by omega) hi
   unfold qN at this;rw[cM hi]at this;simp only[decide_eq_true_eq]at this;omega
theorem tR {p:List Span} (h:Plain p) {hi:Int} {i:Nat} (hi':i<p.length):i<toN p hi↔p[i].1<=hi:=by
 obtain⟨_,h2,h3⟩:=gK p.length _ (oy h hi)
 change (∀i,i<toN p hi->_)at h2
 change (∀i,toN p hi<=i->_)at h3
 constructor
 ·intro h4
  have:=h2 i h4;unfold toP at this;rw[cM hi']at this;simp only[decide_eq_false_iff_not]at this;omega
 ·intro h4
  by_cases h5:i<toN p hi
  ·exact h5
  ·have:=h3 i (by omega) hi'
   unfold toP at this;rw[cM hi']at this;simp only[decide_eq_true_eq]at this;omega
def eX (p:List Span) (r:Span):List Span:=(p.take (toN p r.2)).drop (fO p r.1)
def gj (p:List Span) (r:Span):List Span:=(eX p r).map fun q=>(max q.1 r.1,min q.2 r.2)
theorem fq {p:List Span} (h:Plain p) (r:Span):(eX p r).length=toN p r.2-fO p r.1:=by
 unfold eX;have:=yV h r.2;simp;omega
theorem kW {p:List Span} (h:Plain p) (r:Span) {j:Nat} (hj:j<(eX p r).length):∃hp:fO p r.1+j<p.length,(eX p r)[j]=p[fO p r.1+j]/\r.1<=p[fO p r.1+j].2/\p[fO p r.1+j].1<=r.2:=by
 have h1:=fq h r;have h2:=yV h r.2;have hp:fO p r.1+j<p.length:=by omega
 refine⟨hp,by simp[eX],?_,(tR h hp).1 (by omega)⟩;have:=(not_congr (nR h (lo:=r.1) hp)).1 (by omega);omega
theorem j8 {p:List Span} (h:Plain p) (r:Span) (q:Span):q∈eX p r↔q∈p/\r.1<=q.2/\q.1<=r.2:=by
 constructor
 ·intro hq
  obtain⟨j,hj,rfl⟩:=List.getElem_of_mem hq;obtain⟨hp,e,h1,h2⟩:=kW h r hj;rw[e];exact⟨List.getElem_mem hp,h1,h2⟩
 ·rintro⟨hq,h1,h2⟩
  obtain⟨i,hi,rfl⟩:=List.getElem_of_mem hq;have h3:=(not_congr (nR h (lo:=r.1) hi)).2 (by omega);have h4:=(tR h (hi:=r.2) hi).2 h2;have hj:i-fO p r.1<(eX p r).length:=by rw[fq h];omega
  obtain⟨hp,e,_⟩:=kW h r hj;have:(eX p r)[i-fO p r.1]=p[i]:=by rw[e];congr 1;omega
  rw[<- this];exact List.getElem_mem hj
theorem ER {p:List Span} (h:Plain p) {r:Span} (hr:Ok r):Is (gj p r) fun x=>mem p x/\mem [r] x:=by
 refine⟨⟨?_,?_⟩,fun x=>?_⟩
 ·unfold gj
  rw[List.pairwise_map];have h1:(eX p r).Pairwise (fun p q=>p.2+1<q.1):=(h.1.sublist (List.take_sublist _ _)).sublist (List.drop_sublist _ _);exact h1.imp fun {a b} hab=>by simp only;omega
 ·intro q hq
  unfold gj at hq;obtain⟨a,ha,rfl⟩:=List.mem_map.1 hq;obtain⟨h1,h2,h3⟩:=(j8 h r a).1 ha;have h4:=h.2 a h1;unfold Ok at *;simp only;omega
 ·unfold mem gj
  constructor
  ·rintro⟨hx,q,hq,h1,h2⟩
   obtain⟨a,ha,rfl⟩:=List.mem_map.1 hq;obtain⟨h3,_,_⟩:=(j8 h r a).1 ha;simp only at h1 h2;exact⟨⟨hx,a,h3,by omega,by omega⟩,hx,r,by simp,by omega,by omega⟩
  ·rintro⟨⟨hx,a,ha,h1,h2⟩,_,r',hr',h3,h4⟩
   obtain rfl:=List.mem_singleton.1 hr';refine⟨hx,_,List.mem_map.2 ⟨a,(j8 h r' a).2 ⟨ha,by omega,by omega⟩,rfl⟩,by simp only;omega,by simp only;omega⟩
theorem BX {p:List Span} (h:Plain p) {r:Span} (hle:toN p r.2<=fO p r.1):Is [] fun x=>mem p x/\mem [r] x:=by
 refine⟨Plain.nil,fun x=>⟨fun hm=>absurd hm (aI x),?_⟩⟩;rintro⟨⟨hx,a,ha,h1,h2⟩,_,r',hr',h3,h4⟩;obtain rfl:=List.mem_singleton.1 hr';have h5:a∈eX p r':=(j8 h r' a).2 ⟨ha,by omega,by omega⟩;have h6:=fq h r';have:=List.length_pos_of_mem h5;omega
theorem ES {p:List Span} {r:Span} {j:Nat} (h:j<(gj p r).length) (hj:j<(eX p r).length):(gj p r)[j]=(max (eX p r)[j].1 r.1,min (eX p r)[j].2 r.2):=by
 simp[gj]
def eW (p:List Span) (r:Span):List Span:=(eX p r).set 0 (max (yE (eX p r) 0).1 r.1,(yE (eX p r) 0).2)
theorem iX (p:List Span) (r:Span):(eW p r).length=(eX p r).length:=by simp[eW]
theorem EP {p:List Span} (h:Plain p) {r:Span} (hpos:0<(eX p r).length) :
  (eW p r).set ((eX p r).length-1) ((yE (eW p r) ((eX p r).length-1)).1,min (yE (eW p r) ((eX p r).length-1)).2 r.2)=gj p r:=by
 have hl:=iX p r;have hP:Plain (eX p r):=(h.take _).drop _;apply List.ext_getElem
 ·simp[hl,gj]
 intro j h1 h2;have hj:j<(eX p r).length:=by simpa[gj]using h2
 obtain⟨hp,e,h5,h6⟩:=kW h r hj;have e0:yE (eX p r) 0=(eX p r)[0]:=cM hpos;have en:yE (eW p r) ((eX p r).length-1)=(eW p r)[(eX p r).length-1]'(by omega):=cM (by omega);have FJ:∀(i:Nat) (hi:i<(eW p r).length),(eW p r)[i]=if i=0 then(max (eX p r)[0].1 r.1,(eX p r)[0].2)else(eX p r)[i]'(by omega):=fun i hi=>by
  simp only[eW,List.getElem_set,e0]
  split
  ·next e=>subst e;simp
  ·next e=>rw[if_neg (by omega)]
 have hmax:0<j->max (eX p r)[j].1 r.1=(eX p r)[j].1:=fun hj0=>by
  have h7:=kg hP hj0 hj;obtain⟨hp0,e0',h50,h60⟩:=kW h r hpos;rw[<- e0']at h50;omega
 have hmin:j<(eX p r).length-1->min (eX p r)[j].2 r.2=(eX p r)[j].2:=fun hjn=>by
  have h7:=kg hP hjn (by omega);obtain⟨hpn,en',h5n,h6n⟩:=kW h r (j:=(eX p r).length-1) (by omega);rw[<- en']at h6n;omega
 rw[List.getElem_set,ES h2 hj]
 split
 ·next e1=>
  subst e1;rw[en,FJ]
  split
  ·next e2=>
   have:(eX p r).length-1=0:=e2;simp only[this]
  ·next e2=>
   rw[hmax (by omega)]
 ·next e1=>
  rw[FJ,hmin (by omega)]
  split
  ·next e2=>subst e2;rfl
  ·next e2=>rw[hmax (by omega)]
end Go.Proofs.YtbdmcibcenhpnaaGreatDoor.Sp
