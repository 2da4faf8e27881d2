import Derived.Below
namespace Go.Proofs.YtbdmcibcenhpnaaGreatDoor.Lt
inductive Pth (succ:Nat->List Nat):Nat->Nat->Prop where
 | one {x t:Nat} (h:t∈succ x):Pth succ x t
 | more {x y t:Nat} (h:Pth succ x y) (ht:t∈succ y):Pth succ x t
theorem Pth.rank {succ:Nat->List Nat} {rk:Nat->Nat} (hr:∀x,∀t∈succ x,rk t<rk x) {x y:Nat} (h:Pth succ x y):rk y<rk x:=by
 induction h with
 | one h=>exact hr _ _ h
 | more _ ht ih=>have:=hr _ _ ht;omega
theorem Pth.irrefl {succ:Nat->List Nat} {rk:Nat->Nat} (hr:∀x,∀t∈succ x,rk t<rk x) {x:Nat} (h:Pth succ x x):False:=by
 have:=h.rank hr;omega
structure Laid (succ:Nat->List Nat) (O:List Nat):Prop where
 nodup:O.Nodup
 ord:∀l x r,O=l++x::r->∀t∈succ x,t∈l
theorem Laid.nil (succ:Nat->List Nat):Laid succ []:=⟨List.nodup_nil,fun l x r h=>by simp at h⟩
theorem Laid.snoc {succ:Nat->List Nat} {O:List Nat} {q:Nat} (h:Laid succ O) (hq:q∉O) (hs:∀t∈succ q,t∈O):Laid succ (O++[q]):=by
 refine⟨?_,fun l x r e t ht=>?_⟩
 ·rw[List.nodup_append]
  refine⟨h.nodup,by simp,fun a ha b hb=>?_⟩;rw[List.mem_singleton]at hb;subst hb;exact fun e=>hq (e ▸ ha)
 ·rcases List.eq_nil_or_concat r with rfl | ⟨r',z,rfl⟩
  ·have e2:O++[q]=l++[x]:=e
   obtain⟨rfl,e3⟩:=List.append_inj' e2 rfl;injection e3 with e3;subst e3;exact hs t ht
  ·have e2:O++[q]=(l++x::r')++[z]:=by rw[e];simp
   obtain⟨rfl,_⟩:=List.append_inj' e2 rfl;exact h.ord l x r' rfl t ht
structure FW (succ:Nat->List Nat) (O:List Nat) (C:Nat->Bool) (q:Nat):Prop where
 laid:Laid succ O
 sub:∀x∈O,C x=true
 way:∀x,C x=true->x∈O\/Pth succ x q
structure yx (succ:Nat->List Nat) (O:List Nat) (C:Nat->Bool) (q:Nat) (O':List Nat) (C':Nat->Bool):Prop where
 laid:Laid succ O'
 grow:∃D,O'=O++D/\∀x∈D,C x=false
 has:q∈O'
 come:∀x,C' x=true↔C x=true\/x∈O'
structure VIn (succ:Nat->List Nat) (O:List Nat) (C:Nat->Bool) (q:Nat) (S:List Nat) (O':List Nat) (C':Nat->Bool):Prop where
 laid:Laid succ O'
 grow:∃D,O'=O++D/\∀x∈D,C x=false/\x≠q
 has:∀t∈S,t∈O'
 come:∀x,C' x=true↔C x=true\/x=q\/x∈O'
def Jo (C:Nat->Bool) (q:Nat):Nat->Bool:=fun x=>if x=q then true else C x
section
variable {succ:Nat->List Nat} {rk:Nat->Nat} {O O' O2:List Nat} {C C' C2:Nat->Bool} {q t:Nat} {S:List Nat}
theorem FW.was (hr:∀x,∀t∈succ x,rk t<rk x) (h:FW succ O C q) (hq:C q=true):yx succ O C q O C:=
 ⟨h.laid,⟨[],by simp,fun x hx=>by cases hx⟩,(h.way q hq).resolve_right fun p=>p.irrefl hr,fun x=>⟨.inl,fun p=>p.elim id (h.sub x)⟩⟩
theorem VIn.start (h:FW succ O C q):VIn succ O C q [] O (Jo C q):=
 ⟨h.laid,⟨[],by simp,fun x hx=>by cases hx⟩,(fun t ht=>by cases ht),fun x=>by
  unfold Jo;by_cases e:x=q
  ·simp[e]
  ·simp only[e,if_false,false_or]
   exact⟨.inl,fun p=>p.elim id (h.sub x)⟩⟩
theorem VIn.pre (h0:FW succ O C q) (h:VIn succ O C q S O' C') (ht:t∈succ q):FW succ O' C' t:=by
 obtain⟨D,hD,_⟩:=h.grow;refine⟨h.laid,fun x hx=>(h.come x).2 (.inr (.inr hx)),fun x hx=>?_⟩;rcases (h.come x).1 hx with p | p | p
 ·rcases h0.way x p with r | r
  ·exact .inl (by rw[hD];exact List.mem_append_left _ r)
  ·exact .inr (.more r ht)
 ·subst p
  exact .inr (.one ht)
 ·exact .inl p
theorem VIn.next (h:VIn succ O C q S O' C') (k:yx succ O' C' t O2 C2):VIn succ O C q (S++[t]) O2 C2:=by
 obtain⟨D,hD,hD2⟩:=h.grow;obtain⟨F,hF,hF2⟩:=k.grow;have hnot:∀x∈F,C x=false/\x≠q:=fun x hx=>by
  have hc:=hF2 x hx
  constructor
  ·rcases hb:C x with _ | _
   ·rfl
   ·rw[(h.come x).2 (.inl hb)]at hc;cases hc
  ·intro e
   rw[(h.come x).2 (.inr (.inl e))]at hc
   cases hc
 refine⟨k.laid,⟨D++F,by rw[hF,hD,List.append_assoc],fun x hx=>?_⟩,fun x hx=>?_,fun x=>?_⟩
 ·rcases List.mem_append.1 hx with p | p
  ·exact hD2 x p
  ·exact hnot x p
 ·rcases List.mem_append.1 hx with p | p
  ·rw[hF];exact List.mem_append_left _ (h.has x p)
  ·rw[List.mem_singleton.1 p];exact k.has
 ·rw[k.come,h.come]
  constructor
  ·rintro((p | p | p) | p)
   ·exact .inl p
   ·exact .inr (.inl p)
   ·exact .inr (.inr (by rw[hF];exact List.mem_append_left _ p))
   ·exact .inr (.inr p)
  ·rintro(p | p | p)
   ·exact .inl (.inl p)
   ·exact .inl (.inr (.inl p))
   ·exact .inr p
theorem VIn.done (h0:FW succ O C q) (hq:C q=false) (h:VIn succ O C q (succ q) O' C'):yx succ O C q (O'++[q]) C':=by
 obtain⟨D,hD,hD2⟩:=h.grow;have hno:q∉O':=fun hm=>by
  rw[hD]at hm;rcases List.mem_append.1 hm with p | p
  ·rw[h0.sub q p]at hq;cases hq
  ·exact(hD2 q p).2 rfl
 refine⟨h.laid.snoc hno h.has,⟨D++[q],by rw[hD,List.append_assoc],fun x hx=>?_⟩,by simp,fun x=>?_⟩
 ·rcases List.mem_append.1 hx with p | p
  ·exact(hD2 x p).1
  ·rw[List.mem_singleton.1 p];exact hq
 ·rw[h.come]
  constructor
  ·rintro(p | p | p)
   ·exact .inl p
   ·subst p;exact .inr (by simp)
   ·exact .inr (List.mem_append_left _ p)
  ·rintro(p | p)
   ·exact .inl p
   ·rcases List.mem_append.1 p with r | r
    ·exact .inr (.inr r)
    ·exact .inr (.inl (List.mem_singleton.1 r))
structure FV (succ:Nat->List Nat) (n:Nat) (O:List Nat) (C:Nat->Bool):Prop where
 laid:Laid succ O
 come:∀x,C x=true↔x∈O
 has:∀x,x<n->x∈O
theorem FV.start:FV succ 0 [] fun _=>false:=⟨.nil _,fun x=>by simp,fun x h=>absurd h (by omega)⟩
theorem FV.pre {n:Nat} (h:FV succ n O C) (q:Nat):FW succ O C q:=⟨h.laid,fun x hx=>(h.come x).2 hx,fun x hx=>.inl ((h.come x).1 hx)⟩
theorem FV.next {n:Nat} (h:FV succ n O C) (k:yx succ O C n O' C'):FV succ (n+1) O' C':=by
 obtain⟨D,hD,_⟩:=k.grow;refine⟨k.laid,fun x=>?_,fun x hx=>?_⟩
 ·rw[k.come,h.come]
  exact⟨fun p=>p.elim (fun q=>by rw[hD];exact List.mem_append_left _ q) id,.inr⟩
 ·by_cases e:x=n
  ·rw[e];exact k.has
  ·rw[hD];exact List.mem_append_left _ (h.has x (by omega))
end
end Go.Proofs.YtbdmcibcenhpnaaGreatDoor.Lt
namespace Go.Proofs.YtbdmcibcenhpnaaGreatDoor.Lt
def yH (succ:Nat->List Nat):Nat->Nat->Nat
 | 0,_=>0
 | n+1,q=>1+((succ q).map (yH succ n)).sum
theorem pP {f g:Nat->Nat} : ∀{l:List Nat},(∀x∈l,f x=g x)->(l.map f).sum=(l.map g).sum:=by
 intro l
 induction l with
 | nil=>intro _;rfl
 | cons a l ih=>
  intro h;simp only[List.map_cons,List.sum_cons];rw[h a (by simp),ih fun x hx=>h x (by simp[hx])]
theorem tC {succ:Nat->List Nat} {rk:Nat->Nat} (hr:∀x,∀t∈succ x,rk t<rk x):∀(n m q:Nat),rk q<n->rk q<m->yH succ n q=yH succ m q:=by
 intro n
 induction n with
 | zero=>intro m q h;omega
 | succ n ih=>
  intro m q h1 h2
  cases m with
  | zero=>omega
  | succ m=>
   simp only[yH];rw[pP (f:=yH succ n) (g:=yH succ m) fun x hx=>ih m x (by have:=hr q x hx;omega) (by have:=hr q x hx;omega)]
def cnt (succ:Nat->List Nat) (rk:Nat->Nat) (q:Nat):Nat:=yH succ (rk q+1) q
theorem BW {succ:Nat->List Nat} {rk:Nat->Nat} (hr:∀x,∀t∈succ x,rk t<rk x) (q:Nat):cnt succ rk q=1+((succ q).map (cnt succ rk)).sum:=by
 show 1+((succ q).map (yH succ (rk q))).sum=_;rw[pP (f:=yH succ (rk q)) (g:=cnt succ rk) fun t ht=>tC hr _ _ t (hr q t ht) (Nat.lt_succ_self _)]
def iy (c:Nat->Nat) (l:List Nat):Nat:=(l.map c).sum
theorem pQ (c:Nat->Nat) (l:List Nat) (x:Nat):iy c (l++[x])=iy c l+c x:=by unfold iy;simp
theorem zk {c:Nat->Nat} {l:List Nat} {k:Nat} (h:k<l.length):iy c (l.take (k+1))=iy c (l.take k)+c l[k]:=by
 rw[List.take_succ_eq_append_getElem h,pQ]
theorem Gn (c:Nat->Nat) (l:List Nat) (k:Nat):iy c (l.take k)<=iy c l:=by
 have h:=List.take_append_drop k l;have:iy c l=iy c (l.take k)+iy c (l.drop k):=by
  conv=>lhs;rw[<- h]
  unfold iy;rw[List.map_append,List.sum_append]
 omega
theorem zl {c:Nat->Nat} {l m:List Nat} (h:l.Perm m):iy c l=iy c m:=by
 unfold iy;exact(h.map c).sum_nat
theorem nE:∀(N:Nat) (l:List Nat),l.Nodup->(∀x,x∈l↔x<N)->l.Perm (List.range N):=by
 intro N l hn h;exact(List.perm_ext_iff_of_nodup hn List.nodup_range).2 fun x=>by rw[h x,List.mem_range]
end Go.Proofs.YtbdmcibcenhpnaaGreatDoor.Lt
namespace Go.Proofs.YtbdmcibcenhpnaaGreatDoor.Lt
section
variable (n:Nat) (ok:Nat->Nat->Bool) (to:Nat->Nat)
def kids (at_ from_:Nat):List Nat:=(List.range n).filter fun i=>decide (from_<=i) && ok at_ i
def jP (s:Nat):List Nat->Nat
 | []=>s
 | [i]=>to i
 | _::j::l=>jP s (j::l)
def CJ:Nat->Nat->List Nat->Nat->List (List Nat)
 | 0,_,_,_=>[]
 | f+1,a,w,from_=>(kids n ok a from_).flatMap fun i=>(w++[i])::CJ f (to i) (w++[i]) 0
end
section
variable {n:Nat} {ok:Nat->Nat->Bool} {to:Nat->Nat} {rk:Nat->Nat}
theorem dh {a f i:Nat} : i∈kids n ok a f↔i<n/\f<=i/\ok a i=true:=by
 unfold kids;rw[List.mem_filter,List.mem_range,Bool.and_eq_true,decide_eq_true_eq]
theorem l9 (s:Nat) (w:List Nat) (i:Nat):jP to s (w++[i])=to i:=by
 induction w with
 | nil=>rfl
 | cons a l ih=>
  cases l with
  | nil=>rfl
  | cons b l=>exact ih
theorem bU {α β:Type} {f g:α->List β} : ∀{l:List α},(∀x∈l,f x=g x)->l.flatMap f=l.flatMap g:=by
 intro l
 induction l with
 | nil=>intro _;rfl
 | cons a l ih=>
  intro h;rw[List.flatMap_cons,List.flatMap_cons,h a (by simp),ih fun x hx=>h x (by simp[hx])]
theorem kX (hr:∀a i,ok a i=true->i<n->rk (to i)<rk a):∀(f g a:Nat) (w:List Nat) (from_:Nat),rk a<=f->rk a<=g->CJ n ok to f a w from_=CJ n ok to g a w from_:=by
 have none_:∀a w from_ f,rk a=0->CJ n ok to f a w from_=[]:=fun a w from_ f h=>by
  cases f with
  | zero=>rfl
  | succ f=>
   simp only[CJ];rw[List.flatMap_eq_nil_iff];intro i hi;obtain⟨h1,_,h3⟩:=dh.1 hi;have:=hr a i h3 h1;omega
 intro f
 induction f with
 | zero=>
  intro g a w from_ h1 h2;rw[none_ a w from_ 0 (by omega),none_ a w from_ g (by omega)]
 | succ f ih=>
  intro g a w from_ h1 h2
  cases g with
  | zero=>rw[none_ a w from_ (f+1) (by omega),none_ a w from_ 0 (by omega)]
  | succ g=>
   simp only[CJ];refine bU fun i hi=>?_
   obtain⟨q1,_,q3⟩:=dh.1 hi;have:=hr a i q3 q1;rw[ih g (to i) (w++[i]) 0 (by omega) (by omega)]
end
section
variable (n:Nat) (ok:Nat->Nat->Bool) (to rk:Nat->Nat)
def sub (a:Nat) (w:List Nat) (from_:Nat):List (List Nat):=CJ n ok to (rk a) a w from_
def upR (s:Nat):List Nat->List (List Nat)
 | []=>[]
 | i::r=>sub n ok to rk (jP to s r.reverse) r.reverse (i+1)++upR s r
def up (s:Nat) (w:List Nat):List (List Nat):=upR n ok to rk s w.reverse
def rest (s:Nat) (w:List Nat):List (List Nat):=sub n ok to rk (jP to s w) w 0++up n ok to rk s w
def Ml (s:Nat):List (List Nat):=[]::rest n ok to rk s []
end
section
variable {n:Nat} {ok:Nat->Nat->Bool} {to rk:Nat->Nat}
theorem sub_eq (hr:∀a i,ok a i=true->i<n->rk (to i)<rk a) (a:Nat) (w:List Nat) (f:Nat):sub n ok to rk a w f=(kids n ok a f).flatMap fun i=>(w++[i])::sub n ok to rk (to i) (w++[i]) 0:=by
 unfold sub;rw[kX hr (rk a) (rk a+1) a w f (Nat.le_refl _) (Nat.le_succ _)];simp only[CJ];refine bU fun i hi=>?_
 obtain⟨q1,_,q3⟩:=dh.1 hi;have:=hr a i q3 q1;rw[kX hr (rk a) (rk (to i)) (to i) (w++[i]) 0 (by omega) (Nat.le_refl _)]
theorem yT (s:Nat):up n ok to rk s []=[]:=rfl
theorem yS (s:Nat) (u:List Nat) (i:Nat):up n ok to rk s (u++[i])=sub n ok to rk (jP to s u) u (i+1)++up n ok to rk s u:=by
 unfold up;rw[List.reverse_append];simp only[List.reverse_cons,List.reverse_nil,List.nil_append,List.singleton_append,upR,List.reverse_reverse]
theorem qQ {p:Nat->Bool} : ∀(l:List Nat) (_:l.Pairwise (· < ·)) (f:Nat) (i:Nat) (t:List Nat),l.filter (fun x=>decide (f<=x) && p x)=i::t->t=l.filter (fun x=>decide (i+1<=x) && p x):=by
 intro l
 induction l with
 | nil=>intro _ f i t h;simp at h
 | cons a l ih=>
  intro hp f i t h;rw[List.pairwise_cons]at hp;rw[List.filter_cons]at h
  split at h
  ·rename_i hc
   injection h with h1 h2;subst h1;rw[<- h2,List.filter_cons,if_neg (by simp;omega)];refine List.filter_congr fun x hx=>?_
   have h3:=hp.1 x hx;rw[Bool.and_eq_true,decide_eq_true_eq]at hc;rw[decide_eq_true (show f<=x by omega),decide_eq_true (show a+1<=x by omega)]
  ·rw[ih hp.2 f i t h,List.filter_cons,if_neg]
   have hm:i∈l.filter (fun x=>decide (f<=x) && p x):=by rw[h];simp
   have h3:=hp.1 i (List.mem_filter.1 hm).1;simp;omega
theorem qG {a f i:Nat} {t:List Nat} (h:kids n ok a f=i::t):t=kids n ok a (i+1):=qQ _ List.pairwise_lt_range f i t h
theorem tY (hr:∀a i,ok a i=true->i<n->rk (to i)<rk a) {a f:Nat} {w:List Nat} (h:kids n ok a f=[]):sub n ok to rk a w f=[]:=by
 rw[sub_eq hr,h];rfl
theorem Df (hr:∀a i,ok a i=true->i<n->rk (to i)<rk a) {a f i:Nat} {t w:List Nat} (h:kids n ok a f=i::t):sub n ok to rk a w f=(w++[i])::(sub n ok to rk (to i) (w++[i]) 0++sub n ok to rk a w (i+1)):=by
 rw[sub_eq hr a w f,h,List.flatMap_cons,qG h,<- sub_eq hr a w (i+1)];rfl
theorem Fm (hr:∀a i,ok a i=true->i<n->rk (to i)<rk a) {s f i:Nat} {t u:List Nat} (h:kids n ok (jP to s u) f=i::t):sub n ok to rk (jP to s u) u f++up n ok to rk s u=(u++[i])::rest n ok to rk s (u++[i]):=by
 rw[Df hr h,List.cons_append,List.append_assoc];unfold rest;rw[l9,yS]
theorem xG {a f i:Nat} (hi:i<n) (hf:f<=i) (ho:ok a i=true) (hn:∀j,f<=j->j<i->ok a j=false):∃t,kids n ok a f=i::t:=by
 cases h:kids n ok a f with
 | nil=>
  have:i∈kids n ok a f:=dh.2 ⟨hi,hf,ho⟩;rw[h]at this
  cases this
 | cons j t=>
  have hj:j∈kids n ok a f:=by rw[h];simp
  obtain⟨_,h2,h3⟩:=dh.1 hj;have hij:i<=j:=by
   rcases Nat.lt_or_ge j i with q | q
   ·rw[hn j h2 q]at h3;cases h3
   ·exact q
  have hi2:i∈kids n ok a f:=dh.2 ⟨hi,hf,ho⟩;rw[h]at hi2;rcases List.mem_cons.1 hi2 with e | e
  ·exact⟨t,by rw[e]⟩
  ·rw[qG h]at e
   have:=(dh.1 e).2.1;omega
theorem Az {a f:Nat} (hn:∀j,f<=j->j<n->ok a j=false):kids n ok a f=[]:=by
 unfold kids;rw[List.filter_eq_nil_iff];intro j hj hc;rw[Bool.and_eq_true,decide_eq_true_eq]at hc;rw[hn j hc.1 (List.mem_range.1 hj)]at hc;exact absurd hc.2 (by simp)
theorem DS:∀(f a:Nat) (u:List Nat) (b:Nat) (w:List Nat),w∈CJ n ok to f a u b->(∀x∈u,x<n)->(∀x∈w,x<n)/\w.length<=u.length+f:=by
 intro f
 induction f with
 | zero=>intro a u b w h;cases h
 | succ f ih=>
  intro a u b w h hu;simp only[CJ]at h;obtain⟨i,hi,h⟩:=List.mem_flatMap.1 h;have hn:=(dh.1 hi).1;have hu2:∀x∈u++[i],x<n:=fun x hx=>by
   rcases List.mem_append.1 hx with k | k
   ·exact hu x k
   ·rw[List.mem_singleton.1 k];exact hn
  rcases List.mem_cons.1 h with rfl | h
  ·exact⟨hu2,by simp⟩
  ·obtain⟨h1,h2⟩:=ih (to i) (u++[i]) 0 w h hu2
   refine⟨h1,?_⟩;rw[List.length_append,List.length_singleton]at h2;omega
theorem fG {s:Nat} {w:List Nat} (h:w∈Ml n ok to rk s):(∀x∈w,x<n)/\w.length<=rk s:=by
 unfold Ml rest at h;rcases List.mem_cons.1 h with rfl | h
 ·exact⟨fun x hx=>(by cases hx),by simp⟩
 ·rw[yT,List.append_nil]at h
  have:=DS (rk (jP to s [])) (jP to s []) [] 0 w h (fun x hx=>by cases hx);simpa[jP]using this
end
end Go.Proofs.YtbdmcibcenhpnaaGreatDoor.Lt
