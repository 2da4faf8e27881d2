import Derived.Test.YtbdmcibcenhpnaaGreatDoorF22
import Derived.Test.YtbdmcibcenhpnaaGreatDoorF31
namespace Go.Proofs.YtbdmcibcenhpnaaGreatDoor.Rg
set_option maxRecDepth 100000
open Go.RowKit Sp Pa Te Sh Fi
def jR (gs:List (List Span)) (s:Int) (l:List PT) (y:Int):Prop:=∃xs,om gs xs/\jm xs s l=y
theorem EH {dom:List Span} {i o b d t u s:Int} {l:List PT} {gs:List (List Span)} (h4:gs.length<=4) (hr:aK i o gs.length b d t u s l=true) (hs:∀g∈gs,∀x,mem g x->Sy x) :
  rJ dom i o b d t u s l gs↔∀y,jR gs s l y->Sy y/\mem dom (b+dc d t u y):=by
 obtain⟨hn,hp⟩:=fV hr;have hsy:∀xs,om gs xs->∀x∈xs,Sy x:=fun xs hx x hxm=>by
  obtain⟨j,hj,rfl⟩:=List.getElem_of_mem hxm;have hj':j<gs.length:=by have:=hx.1;omega
  exact hs _ (List.getElem_mem hj') _ (hx.2 j hj' hj)
 unfold rJ
 constructor
 ·rintro⟨_,_,h⟩ y ⟨xs,hx,rfl⟩
  obtain⟨h1,h2⟩:=h xs hx (hsy xs hx);have h3:=(jD hn (by rw[hx.1];exact hp)).1 h1;rw[gG hn (by rw[hx.1];exact hp),if_pos h3]at h2;exact⟨h3.2,h2⟩
 ·intro h
  refine⟨h4,hr,fun xs hx hxs=>?_⟩;obtain⟨h1,h2⟩:=h _ ⟨xs,hx,rfl⟩;have h3:(∀x∈xs,Sy x)/\Sy (jm xs s l):=⟨hxs,h1⟩;refine⟨(jD hn (by rw[hx.1];exact hp)).2 h3,?_⟩;rw[gG hn (by rw[hx.1];exact hp),if_pos h3];exact h2
def rL (gs:List (List Span)) (l:List PT) (s:Int):Nat->Int->Prop
 | 0,y=>y=s
 | k+1,y=>∃z x,rL gs l s k z/\(∃h:k<gs.length,mem gs[k] x)/\y=z+dJ (plP l k) x
theorem qq (n:Nat):bg (n+1)=bg n++[(n:Int)]:=by
 unfold bg;rw[List.range_succ,List.map_append];rfl
theorem Ht {xs:List Int} {x:Int} {i:Nat} (h:i<xs.length):atI (xs++[x]) (i:Int)=atI xs (i:Int):=by
 rw[jf h,jf (by simp;omega)];exact List.getElem_append_left h
theorem Hu {xs:List Int} {x:Int} {i:Nat} (h:i=xs.length):atI (xs++[x]) (i:Int)=x:=by
 subst h;rw[jf (by simp)];simp
def Dc (xs:List Int) (l:List PT) (k:Nat):Int:=((bg k).map fun i=>dJ (plP l i) (atI xs i)).sum
theorem iK (xs:List Int) (l:List PT) (k:Nat):Dc xs l (k+1)=Dc xs l k+dJ (plP l k) (atI xs k):=by
 unfold Dc;rw[qq,List.map_append,List.sum_append];simp
theorem kV (xs:List Int) (x:Int) (l:List PT):∀k,k<=xs.length->Dc (xs++[x]) l k=Dc xs l k
 | 0,_=>rfl
 | k+1,h=>by rw[iK,iK,kV xs x l k (by omega),Ht (by omega)]
theorem Fy (gs:List (List Span)) (l:List PT) (s:Int):∀k,k<=gs.length->∀y,rL gs l s k y↔∃xs:List Int,xs.length=k/\(∀(i:Nat) (h:i<gs.length) (h':i<xs.length),mem gs[i] xs[i])/\y=s+Dc xs l k
 | 0,_,y=>by
  unfold rL
  constructor
  ·rintro rfl
   exact⟨[],rfl,fun i _ h'=>absurd h' (Nat.not_lt_zero _),by simp[Dc,bg]⟩
  ·rintro⟨xs,_,_,rfl⟩
   simp[Dc,bg]
 | k+1,hk,y=>by
  have ih:=Fy gs l s k (by omega);unfold rL
  constructor
  ·rintro⟨z,x,hz,⟨hk',hx⟩,rfl⟩
   obtain⟨xs,h1,h2,rfl⟩:=(ih z).1 hz;refine⟨xs++[x],by simp;omega,fun i h h'=>?_,?_⟩
   ·by_cases e:i<xs.length
    ·rw[List.getElem_append_left e];exact h2 i h e
    ·obtain rfl:i=k:=by simp at h';omega
     have e2:(xs++[x])[i]'h'=x:=by rw[List.getElem_append_right (by omega)];simp[h1]
     rw[e2];exact hx
   ·rw[iK,kV _ _ _ _ (by omega),Hu h1.symm];omega
  ·rintro⟨xs,h1,h2,rfl⟩
   have hx:k<xs.length:=by omega
   refine⟨s+Dc xs l k,xs[k],?_,⟨by omega,h2 k (by omega) hx⟩,?_⟩
   ·refine(ih _).2 ⟨xs.take k,by rw[List.length_take];omega,fun i h h'=>?_,?_⟩
    ·rw[List.getElem_take]
     exact h2 i h (by rw[List.length_take]at h';omega)
    ·have e:xs=xs.take k++[xs[k]]:=by rw[<- List.take_succ_eq_append_getElem hx,List.take_of_length_le (by omega)]
     congr 1
     conv=>lhs;rw[e]
     exact kV _ _ _ _ (by rw[List.length_take];omega)
   ·rw[iK,jf hx];omega
theorem r8 {gs:List (List Span)} {l:List PT} (hc:∀q∈l,0<=q.1/\q.1<gs.length) (s y:Int):rL gs l s gs.length y↔jR gs s l y:=by
 rw[Fy gs l s _ (Nat.le_refl _)];unfold jR om
 constructor
 ·rintro⟨xs,h1,h2,rfl⟩
  exact⟨xs,⟨h1,h2⟩,gI (fC _) (fun q hq=>(fD _ _).2 (hc q hq)) xs s⟩
 ·rintro⟨xs,⟨h1,h2⟩,rfl⟩
  exact⟨xs,h1,h2,gI (fC _) (fun q hq=>(fD _ _).2 (hc q hq)) xs s⟩
theorem ux {gs:List (List Span)} {l:List PT} (hb:BitsAll l) (hne:∀g∈gs,∃x,mem g x) {s:Int} {k:Nat} {z:Int} (h:rL gs l s k z):∀m,k+m<=gs.length->∃y,z<=y/\rL gs l s (k+m) y
 | 0,_=>⟨z,Int.le_refl _,h⟩
 | m+1,hm=>by
  obtain⟨y,h1,h2⟩:=ux hb hne h m (by omega);have hk:k+m<gs.length:=by omega
  obtain⟨x,hx⟩:=hne _ (List.getElem_mem hk);refine⟨y+dJ (plP l ((k+m:Nat):Int)) x,?_,y,x,h2,⟨hk,hx⟩,rfl⟩;have:=(bk (fE hb ((k+m:Nat):Int)) x).1;omega
theorem Gw {gs:List (List Span)} {l:List PT} (hb:BitsAll l) (hc:∀q∈l,0<=q.1/\q.1<gs.length) (hne:∀g∈gs,∃x,mem g x) {s:Int} {k:Nat} (hk:k<=gs.length) {z:Int} (h:rL gs l s k z) (hz:1114111<z) : ¬ ∀y,jR gs s l y->Sy y:=fun q=>by
 obtain⟨y,h1,h2⟩:=ux hb hne h (gs.length-k) (by omega);rw[show k+(gs.length-k)=gs.length by omega,r8 hc]at h2;have:=(q y h2).2;omega
theorem pre_some {gs:List (List Span)} {l:List PT} (hne:∀g∈gs,∃x,mem g x) {s:Int} : ∀k,k<=gs.length->∃y,rL gs l s k y
 | 0,_=>⟨s,rfl⟩
 | k+1,hk=>by
  obtain⟨y,h⟩:=pre_some (l:=l) hne k (by omega) (s:=s);obtain⟨x,hx⟩:=hne _ (List.getElem_mem (show k<gs.length by omega));exact⟨_,y,x,h,⟨by omega,hx⟩,rfl⟩
theorem zQ {gs:List (List Span)} {l:List PT} (hb:BitsAll l) {s:Int} : ∀k y,rL gs l s k y->s<=y/\y<=s+66060288*(l.length*k)
 | 0,y,h=>by obtain rfl:y=s:=h;omega
 | k+1,y,⟨z,x,h1,_,h2⟩=>by
  have:=zQ hb k z h1;have h3:=bk (fE hb (k:Int)) x;have h4:((plP l (k:Int)).length:Int)<=(l.length:Int):=by have:=iB l (k:Int);omega
  have e:((l.length:Int)*((k+1:Nat):Int))=(l.length:Int)*(k:Int)+(l.length:Int):=by rw[Int.natCast_add];simp[Int.mul_add]
  rw[e];omega
theorem uw {gs:List (List Span)} {l:List PT} {s:Int} {k:Nat} (hk:k<gs.length) (hne:∃x,mem gs[k] x) (he:plP l k=[]) (y:Int):rL gs l s (k+1) y↔rL gs l s k y:=by
 constructor
 ·rintro⟨z,x,h1,_,rfl⟩
  rw[he,j7,Int.add_zero];exact h1
 ·intro h
  obtain⟨x,hx⟩:=hne;exact⟨y,x,h,⟨hk,hx⟩,by rw[he,j7,Int.add_zero]⟩
theorem DA {gs:List (List Span)} {l:List PT} {s:Int} {k:Nat} (hk:k<gs.length) {now own:List Int} (h1:∀y,y∈now↔rL gs l s k y) (h2:∀y,y∈own↔∃x,mem gs[k] x/\dJ (plP l k) x=y) (y:Int):rL gs l s (k+1) y↔∃a∈now,∃b∈own,a+b=y:=by
 constructor
 ·rintro⟨z,x,h3,⟨_,h4⟩,rfl⟩
  exact⟨z,(h1 z).2 h3,_,(h2 _).2 ⟨x,h4,rfl⟩,rfl⟩
 ·rintro⟨a,ha,b,hb,rfl⟩
  obtain⟨x,h4,rfl⟩:=(h2 b).1 hb;exact⟨a,x,(h1 a).1 ha,⟨hk,h4⟩,rfl⟩
theorem ou {x:Int} (h0:0<=x) (h1:x<=2097151):dc 0 21 0 x=x:=by
 unfold dc;rw[pw21,oD,Int.ediv_one,Int.mul_one];exact Int.emod_eq_of_lt h0 (by omega)
theorem GU {gs:List (List Span)} {q:PT} {s:Int} (hq:bh q=true) {k:Nat} (hk:q.1=(k:Int)) (hkl:k<gs.length) (hne:∀g∈gs,∃x,mem g x) (hs:∀g∈gs,∀x,mem g x->Sy x) (y:Int):jR gs s [q] y↔mem gs[k] (y-s):=by
 unfold bh at hq;simp only[Bool.and_eq_true,beq_iff_eq]at hq;obtain⟨q1,q2,q3⟩:=hq;have e:∀xs,om gs xs->jm xs s [q]=s+atI xs k:=fun xs hx=>by
  have hkx:k<xs.length:=by have:=hx.1;omega
  have hm:=hs _ (List.getElem_mem hkl) _ (hx.2 k hkl hkx);unfold jm;rw[List.map_cons,List.map_nil,List.sum_cons,List.sum_nil,Int.add_zero,q1,q2,q3,hk,jf hkx];unfold Sy at hm;rw[ou hm.1 (by omega)]
 unfold jR
 constructor
 ·rintro⟨xs,hx,rfl⟩
  have hkx:k<xs.length:=by have:=hx.1;omega
  rw[e xs hx,jf hkx,show s+xs[k]-s=xs[k]by omega];exact hx.2 k hkl hkx
 ·intro h
  have hx2:∃F:Nat->Int,∀j,(hj:j<gs.length)->mem gs[j] (F j):=⟨fun j=>if h:j<gs.length then Classical.choose (hne _ (List.getElem_mem h))else 0,fun j hj=>by simp only[dif_pos hj];exact Classical.choose_spec (hne _ (List.getElem_mem hj))⟩;obtain⟨F,hF⟩:=hx2;have hw:om gs ((List.range gs.length).map fun j=>if j=k then y-s else F j):=⟨by simp,fun j hj hj'=>by
   simp only[List.getElem_map,List.getElem_range];by_cases e:j=k
   ·subst e;rw[if_pos rfl];exact h
   ·rw[if_neg e];exact hF j hj⟩
  refine⟨_,hw,?_⟩;rw[e _ hw,jf (by simp;exact hkl)];simp only[List.getElem_map,List.getElem_range,if_pos];omega
def gY (b T U q:Int):Prop:=0<=b+q % T*U/\b+q % T*U<=255
theorem Bl {b d t u lo hi:Int} (h:lo<=hi):(∀y,lo<=y->y<=hi->0<=b+dc d t u y/\b+dc d t u y<=255)↔∀q,lo / pw d<=q->q<=hi / pw d->gY b (pw t) (pw u) q:=by
 have hD:=aU d
 constructor
 ·intro hy q h1 h2
  obtain⟨y,a,b',rfl⟩:=(sK hD h q).2 ⟨h1,h2⟩;exact hy y a b'
 ·intro hq y h1 h2
  exact hq (y / pw d) (Int.ediv_le_ediv (by omega) h1) (Int.ediv_le_ediv (by omega) h2)
theorem EB {b T U f q:Int} (hT:1<=T) (h:∀p,f<=p->p<q->gY b T U p) (hq:T<q-f):∀p,gY b T U p:=fun p=>by
 obtain⟨z,h1,h2,h3⟩:=(jB (L:=f) (H:=q-1) hT (by omega) (p % T)).2 ⟨Int.emod_nonneg _ (by omega),by have:=Int.emod_lt_of_pos p (show 0<T by omega);omega⟩;have:=h z h1 (by omega);unfold gY at this ⊢;rw[h3]at this;exact this
theorem EA {b t u f q:Int} (ht:300<pw t) (h:∀p,f<=p->p<q->gY b (pw t) (pw u) p) (hq:700<q-f):False:=by
 have hu:=aU u;have h9:512<=pw t:=by
  rcases Int.le_total t 8 with h8 | h8
  ·have:=fA t 8 h8
   have e:pw 8=256:=by decide
   omega
  ·rcases Int.lt_or_le 8 t with h9 | h9
   ·have:=fA 9 t (by omega)
    have e:pw 9=512:=by decide
    omega
   ·obtain rfl:t=8:=by omega
    have e:pw 8=256:=by decide
    omega
 generalize pw t=T at *
 generalize pw u=U at *
 have key:∀p,f<=p->p+256<q->p % T+256<T->False:=fun p h1 h2 h3=>by
  have g1:=h p h1 (by omega);have g2:=h (p+256) (by omega) h2;have e:(p+256) % T=p % T+256:=by
   rw[Int.add_emod,Int.emod_eq_of_lt (a:=256) (by omega) (by omega)];exact Int.emod_eq_of_lt (by have:=Int.emod_nonneg p (show T≠0 by omega);omega) h3
  unfold gY at g1 g2;rw[e,Int.add_mul]at g2;have:256*1<=256*U:=Int.mul_le_mul_of_nonneg_left hu (by omega);omega
 have hm:=Int.emod_lt_of_pos f (show 0<T by omega);have hm0:=Int.emod_nonneg f (show T≠0 by omega);rcases Int.lt_or_le (f % T+256) T with h1 | h1
 ·exact key f (by omega) (by omega) h1
 ·refine key (f+256) (by omega) (by omega) ?_
  have e:(f+256) % T=f % T+256-T:=by
   have e1:=Int.mul_ediv_add_emod f T;have e2:f+256=(f % T+256-T)+T*(f / T+1):=by rw[Int.mul_add,Int.mul_one];omega
   rw[e2,Int.add_mul_emod_self_left];exact Int.emod_eq_of_lt (by omega) (by omega)
  rw[e];omega
end Go.Proofs.YtbdmcibcenhpnaaGreatDoor.Rg
