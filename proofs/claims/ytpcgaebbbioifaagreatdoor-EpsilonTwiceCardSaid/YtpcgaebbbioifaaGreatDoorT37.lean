import Derived.Below
namespace Go.Proofs.YtpcgaebbbioifaaGreatDoor.Lt
inductive Pth (succ : Nat→List Nat) : Nat→Nat→Prop where
 | one {x t : Nat} (h : t∈succ x) : Pth succ x t
 | more {x y t : Nat} (h : Pth succ x y) (ht : t∈succ y) : Pth succ x t
theorem Pth.rank {succ : Nat→List Nat} {rk : Nat→Nat} (hr : ∀ x,∀ t∈succ x,rk t < rk x) {x y : Nat} (h : Pth succ x y) : rk y < rk x:=by
 induction h with
 | one h=>exact hr _ _ h
 | more _ ht ih=>have:=hr _ _ ht;omega
theorem Pth.irrefl {succ : Nat→List Nat} {rk : Nat→Nat} (hr : ∀ x,∀ t∈succ x,rk t < rk x) {x : Nat} (h : Pth succ x x) : False:=by
 have:=h.rank hr
 omega
structure Laid (succ : Nat→List Nat) (O : List Nat) : Prop where
 nodup : O.Nodup
 ord : ∀ l x r,O = l ++ x :: r→∀ t∈succ x,t∈l
theorem Laid.nil (succ : Nat→List Nat) : Laid succ []:=⟨List.nodup_nil,fun l x r h=>by simp at h⟩
theorem Laid.snoc {succ : Nat→List Nat} {O : List Nat} {q : Nat} (h : Laid succ O) (hq : q ∉ O) (hs : ∀ t∈succ q,t∈O) : Laid succ (O ++ [q]):=by
 refine ⟨?_,fun l x r e t ht=>?_⟩
 ·rw [List.nodup_append]
  refine ⟨h.nodup,by simp,fun a ha b hb=>?_⟩
  rw [List.mem_singleton] at hb
  subst hb
  exact fun e=>hq (e ▸ ha)
 ·rcases List.eq_nil_or_concat r with rfl | ⟨r',z,rfl⟩
  ·have e2 : O ++ [q] = l ++ [x]:=e
   obtain ⟨rfl,e3⟩:=List.append_inj' e2 rfl
   injection e3 with e3
   subst e3
   exact hs t ht
  ·have e2 : O ++ [q] = (l ++ x :: r') ++ [z]:=by rw [e];simp
   obtain ⟨rfl,_⟩:=List.append_inj' e2 rfl
   exact h.ord l x r' rfl t ht
structure VPre (succ : Nat→List Nat) (O : List Nat) (C : Nat→Bool) (q : Nat) : Prop where
 laid : Laid succ O
 sub : ∀ x∈O,C x = true
 way : ∀ x,C x = true→x∈O∨Pth succ x q
structure VPost (succ : Nat→List Nat) (O : List Nat) (C : Nat→Bool) (q : Nat) (O' : List Nat) (C' : Nat→Bool) : Prop where
 laid : Laid succ O'
 grow : ∃ D,O' = O ++ D∧∀ x∈D,C x = false
 has : q∈O'
 come : ∀ x,C' x = true↔C x = true∨x∈O'
structure VIn (succ : Nat→List Nat) (O : List Nat) (C : Nat→Bool) (q : Nat) (S : List Nat) (O' : List Nat) (C' : Nat→Bool) : Prop where
 laid : Laid succ O'
 grow : ∃ D,O' = O ++ D∧∀ x∈D,C x = false∧x≠q
 has : ∀ t∈S,t∈O'
 come : ∀ x,C' x = true↔C x = true∨x = q∨x∈O'
def setC (C : Nat→Bool) (q : Nat) : Nat→Bool:=fun x=>if x = q then true else C x
section
variable {succ : Nat→List Nat} {rk : Nat→Nat} {O O' O2 : List Nat} {C C' C2 : Nat→Bool} {q t : Nat} {S : List Nat}
theorem VPre.was (hr : ∀ x,∀ t∈succ x,rk t < rk x) (h : VPre succ O C q) (hq : C q = true) : VPost succ O C q O C:=
 ⟨h.laid,⟨[],by simp,fun x hx=>by cases hx⟩,(h.way q hq).resolve_right fun p=>p.irrefl hr,fun x=>⟨.inl,fun p=>p.elim id (h.sub x)⟩⟩
theorem VIn.start (h : VPre succ O C q) : VIn succ O C q [] O (setC C q):=
 ⟨h.laid,⟨[],by simp,fun x hx=>by cases hx⟩,(fun t ht=>by cases ht),fun x=>by
  unfold setC
  by_cases e : x = q
  ·simp [e]
  ·simp only [e,if_false,false_or]
   exact ⟨.inl,fun p=>p.elim id (h.sub x)⟩⟩
theorem VIn.pre (h0 : VPre succ O C q) (h : VIn succ O C q S O' C') (ht : t∈succ q) : VPre succ O' C' t:=by
 obtain ⟨D,hD,_⟩:=h.grow
 refine ⟨h.laid,fun x hx=>(h.come x).2 (.inr (.inr hx)),fun x hx=>?_⟩
 rcases (h.come x).1 hx with p | p | p
 ·rcases h0.way x p with r | r
  ·exact .inl (by rw [hD];exact List.mem_append_left _ r)
  ·exact .inr (.more r ht)
 ·subst p
  exact .inr (.one ht)
 ·exact .inl p
theorem VIn.next (h : VIn succ O C q S O' C') (k : VPost succ O' C' t O2 C2) : VIn succ O C q (S ++ [t]) O2 C2:=by
 obtain ⟨D,hD,hD2⟩:=h.grow
 obtain ⟨F,hF,hF2⟩:=k.grow
 have hnot : ∀ x∈F,C x = false∧x≠q:=fun x hx=>by
  have hc:=hF2 x hx
  constructor
  ·rcases hb : C x with _ | _
   ·rfl
   ·rw [(h.come x).2 (.inl hb)] at hc;cases hc
  ·intro e
   rw [(h.come x).2 (.inr (.inl e))] at hc
   cases hc
 refine ⟨k.laid,⟨D ++ F,by rw [hF,hD,List.append_assoc],fun x hx=>?_⟩,fun x hx=>?_,fun x=>?_⟩
 ·rcases List.mem_append.1 hx with p | p
  ·exact hD2 x p
  ·exact hnot x p
 ·rcases List.mem_append.1 hx with p | p
  ·rw [hF];exact List.mem_append_left _ (h.has x p)
  ·rw [List.mem_singleton.1 p];exact k.has
 ·rw [k.come,h.come]
  constructor
  ·rintro ((p | p | p) | p)
   ·exact .inl p
   ·exact .inr (.inl p)
   ·exact .inr (.inr (by rw [hF];exact List.mem_append_left _ p))
   ·exact .inr (.inr p)
  ·rintro (p | p | p)
   ·exact .inl (.inl p)
   ·exact .inl (.inr (.inl p))
   ·exact .inr p
theorem VIn.done (h0 : VPre succ O C q) (hq : C q = false) (h : VIn succ O C q (succ q) O' C') : VPost succ O C q (O' ++ [q]) C':=by
 obtain ⟨D,hD,hD2⟩:=h.grow
 have hno : q ∉ O':=fun hm=>by
  rw [hD] at hm
  rcases List.mem_append.1 hm with p | p
  ·rw [h0.sub q p] at hq;cases hq
  ·exact (hD2 q p).2 rfl
 refine ⟨h.laid.snoc hno h.has,⟨D ++ [q],by rw [hD,List.append_assoc],fun x hx=>?_⟩,by simp,fun x=>?_⟩
 ·rcases List.mem_append.1 hx with p | p
  ·exact (hD2 x p).1
  ·rw [List.mem_singleton.1 p];exact hq
 ·rw [h.come]
  constructor
  ·rintro (p | p | p)
   ·exact .inl p
   ·subst p;exact .inr (by simp)
   ·exact .inr (List.mem_append_left _ p)
  ·rintro (p | p)
   ·exact .inl p
   ·rcases List.mem_append.1 p with r | r
    ·exact .inr (.inr r)
    ·exact .inr (.inl (List.mem_singleton.1 r))
structure VTop (succ : Nat→List Nat) (n : Nat) (O : List Nat) (C : Nat→Bool) : Prop where
 laid : Laid succ O
 come : ∀ x,C x = true↔x∈O
 has : ∀ x,x < n→x∈O
theorem VTop.start : VTop succ 0 [] fun _=>false:=⟨.nil _,fun x=>by simp,fun x h=>absurd h (by omega)⟩
theorem VTop.pre {n : Nat} (h : VTop succ n O C) (q : Nat) : VPre succ O C q:=⟨h.laid,fun x hx=>(h.come x).2 hx,fun x hx=>.inl ((h.come x).1 hx)⟩
theorem VTop.next {n : Nat} (h : VTop succ n O C) (k : VPost succ O C n O' C') : VTop succ (n + 1) O' C':=by
 obtain ⟨D,hD,_⟩:=k.grow
 refine ⟨k.laid,fun x=>?_,fun x hx=>?_⟩
 ·rw [k.come,h.come]
  exact ⟨fun p=>p.elim (fun q=>by rw [hD];exact List.mem_append_left _ q) id,.inr⟩
 ·by_cases e : x = n
  ·rw [e];exact k.has
  ·rw [hD];exact List.mem_append_left _ (h.has x (by omega))
end
end Go.Proofs.YtpcgaebbbioifaaGreatDoor.Lt
namespace Go.Proofs.YtpcgaebbbioifaaGreatDoor.Lt
def cntF (succ : Nat→List Nat) : Nat→Nat→Nat
 | 0,_=>0
 | n + 1,q=>1 + ((succ q).map (cntF succ n)).sum
theorem sum_congr {f g : Nat→Nat} : ∀ {l : List Nat},(∀ x∈l,f x = g x)→(l.map f).sum = (l.map g).sum:=by
 intro l
 induction l with
 | nil=>intro _;rfl
 | cons a l ih=>
  intro h
  simp only [List.map_cons,List.sum_cons]
  rw [h a (by simp),ih fun x hx=>h x (by simp [hx])]
theorem cntF_stable {succ : Nat→List Nat} {rk : Nat→Nat} (hr : ∀ x,∀ t∈succ x,rk t < rk x) : ∀ (n m q : Nat),rk q < n→rk q < m→cntF succ n q = cntF succ m q:=by
 intro n
 induction n with
 | zero=>intro m q h;omega
 | succ n ih=>
  intro m q h1 h2
  cases m with
  | zero=>omega
  | succ m=>
   simp only [cntF]
   rw [sum_congr (f:=cntF succ n) (g:=cntF succ m) fun x hx=>ih m x (by have:=hr q x hx;omega) (by have:=hr q x hx;omega)]
def cnt (succ : Nat→List Nat) (rk : Nat→Nat) (q : Nat) : Nat:=cntF succ (rk q + 1) q
theorem cnt_eq {succ : Nat→List Nat} {rk : Nat→Nat} (hr : ∀ x,∀ t∈succ x,rk t < rk x) (q : Nat) : cnt succ rk q = 1 + ((succ q).map (cnt succ rk)).sum:=by
 show 1 + ((succ q).map (cntF succ (rk q))).sum = _
 rw [sum_congr (f:=cntF succ (rk q)) (g:=cnt succ rk) fun t ht=>cntF_stable hr _ _ t (hr q t ht) (Nat.lt_succ_self _)]
def sumC (c : Nat→Nat) (l : List Nat) : Nat:=(l.map c).sum
theorem sumC_snoc (c : Nat→Nat) (l : List Nat) (x : Nat) : sumC c (l ++ [x]) = sumC c l + c x:=by unfold sumC;simp
theorem sumC_take {c : Nat→Nat} {l : List Nat} {k : Nat} (h : k < l.length) : sumC c (l.take (k + 1)) = sumC c (l.take k) + c l[k]:=by
 rw [List.take_succ_eq_append_getElem h,sumC_snoc]
theorem sumC_le (c : Nat→Nat) (l : List Nat) (k : Nat) : sumC c (l.take k)≤sumC c l:=by
 have h:=List.take_append_drop k l
 have : sumC c l = sumC c (l.take k) + sumC c (l.drop k):=by
  conv=>lhs;rw [← h]
  unfold sumC
  rw [List.map_append,List.sum_append]
 omega
theorem sumC_perm {c : Nat→Nat} {l m : List Nat} (h : l.Perm m) : sumC c l = sumC c m:=by
 unfold sumC
 exact (h.map c).sum_nat
theorem perm_range : ∀ (N : Nat) (l : List Nat),l.Nodup→(∀ x,x∈l↔x < N)→l.Perm (List.range N):=by
 intro N l hn h
 exact (List.perm_ext_iff_of_nodup hn List.nodup_range).2 fun x=>by rw [h x,List.mem_range]
end Go.Proofs.YtpcgaebbbioifaaGreatDoor.Lt
namespace Go.Proofs.YtpcgaebbbioifaaGreatDoor.Lt
section
variable (n : Nat) (ok : Nat→Nat→Bool) (to : Nat→Nat)
def endW (s : Nat) : List Nat→Nat
 | []=>s
 | [i]=>to i
 | _ :: j :: l=>endW s (j :: l)
end
section
variable {n : Nat} {ok : Nat→Nat→Bool} {to : Nat→Nat} {rk : Nat→Nat}
theorem flatMap_congr' {α β : Type} {f g : α→List β} : ∀ {l : List α},(∀ x∈l,f x = g x)→l.flatMap f = l.flatMap g:=by
 intro l
 induction l with
 | nil=>intro _;rfl
 | cons a l ih=>
  intro h
  rw [List.flatMap_cons,List.flatMap_cons,h a (by simp),ih fun x hx=>h x (by simp [hx])]
end
section
variable (n : Nat) (ok : Nat→Nat→Bool) (to rk : Nat→Nat)
end
section
variable {n : Nat} {ok : Nat→Nat→Bool} {to rk : Nat→Nat}
end
end Go.Proofs.YtpcgaebbbioifaaGreatDoor.Lt
