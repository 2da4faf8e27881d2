import Derived.Test.YtpcgaebbbioifaaGreatDoorT22
import Derived.Test.YtpcgaebbbioifaaGreatDoorT23
namespace Go.Proofs.YtpcgaebbbioifaaGreatDoor.Fi
set_option maxRecDepth 100000
open Go.RowKit Sp Pa Te Sh
def ownL (L : List (List Span)) (i : Int) : List Span:=L.getD i.toNat []
theorem ownL_nat {L : List (List Span)} {j : Nat} (h : j < L.length) : ownL L (j : Int) = L[j]:=by unfold ownL;simp [h]
def EachS (gs : List (List Span)) (l : List PT) (L : List (List Span)) : Prop:=L.length≤gs.length∧∀ (j : Nat) (h : j < L.length) (h' : j < gs.length),Is L[j] (JoinS (plP l j) gs[j])
theorem eachS_own {gs : List (List Span)} {l : List PT} {L : List (List Span)} (h : EachS gs l L) (hl : L.length = gs.length) : OwnS (ownL L) gs l:=fun i hi=>by
 rw [ownL_nat (by omega)]
 exact h.2 i (by omega) hi
theorem places_sum {L : List (List Span)} (f : List Span→Int) : ((placesN L.length).map fun i=>f (ownL L i)).sum = (L.map f).sum:=by
 congr 1
 unfold placesN
 rw [List.map_map]
 refine List.ext_getElem (by simp) fun j h1 h2=>?_
 simp only [List.getElem_map,List.getElem_range,Function.comp]
 have hj : j < L.length:=by simpa using h2
 exact congrArg f (ownL_nat hj)
def InnS (gs : List (List Span)) (l : List PT) (s : Int) (z : Int) : Prop:=∃ xs,WinS gs xs∧innT xs s l = z
def AllIn (gs : List (List Span)) (l : List PT) (s : Int) : Prop:=∀ xs,WinS gs xs→(∀ x∈xs,Sy x)∧Sy (innT xs s l)
theorem join_mem {ps : List PT} (hb : BitsAll ps) (hl : ps.length≤4) {g p : List Span} (hne : ∃ x,mem g x) (hp : Is p (JoinS ps g)) : p≠[]∧(∀ x,mem p x→0≤x∧x≤264241152)∧0≤least p∧least p≤264241152∧0≤most p∧most p≤264241152:=by
 obtain ⟨x0,hx0⟩:=hne
 have h1 : ∀ x,mem p x→0≤x∧x≤264241152:=fun x hx=>by
  obtain ⟨z,_,rfl⟩:=(hp.2 x).1 hx
  have:=totT_bound hb z
  omega
 have hnp : p≠[]:=fun e=>hp.nil_iff.1 e _ ⟨x0,hx0,rfl⟩
 have h2:=h1 _ (first_mem hp.1 hnp).1
 have h3:=h1 _ (last_mem hp.1 hnp).1
 exact ⟨hnp,h1,h2.1,h2.2,h3.1,h3.2⟩
theorem fst_least {p : List Span} (h : p≠[]) : fstP p = (least p,true):=by
 obtain ⟨q,l,rfl⟩:=List.exists_cons_of_ne_nil h
 rfl
theorem lst_most {p : List Span} (h : p≠[]) : lstP p = (most p,true):=by
 obtain ⟨l,q,rfl⟩ : ∃ l q,p = l ++ [q]:=⟨p.dropLast,p.getLast h,(List.dropLast_concat_getLast h).symm⟩
 unfold most lstP
 simp
theorem ct_ok {a b : List Span} (ha : Plain a) (hb : Plain b) (hna : a≠[]) (hnb : b≠[]) (h0 : ∀ x,mem a x→0≤x) (h1 : ∀ x,mem b x→0≤x) : CtOk a b (most a) (most b):=by
 have key : ∀ {p : List Span},Plain p→p≠[]→(∀ x,mem p x→0≤x)→(∀ q∈p,0≤q.1∧q.1≤q.2∧q.2≤most p)∧∃ lo,p.getLast? = some (lo,most p):=fun {p} hp hn h=>by
  refine ⟨fun q hq=>?_,?_⟩
  ·have ok:=hp.2 q hq
   unfold Ok at ok
   have m1 : mem p q.1:=⟨by unfold Rng;omega,q,hq,by omega,ok.1⟩
   have m2 : mem p q.2:=⟨by unfold Rng;omega,q,hq,ok.1,by omega⟩
   exact ⟨h _ m1,ok.1,(last_mem hp hn).2 _ m2⟩
  ·refine ⟨(p.getLast hn).1,?_⟩
   rw [List.getLast?_eq_some_getLast hn]
   have e : most p = (p.getLast hn).2:=by unfold most lstP;rw [List.getLast?_eq_some_getLast hn]
   rw [e]
 exact ⟨(key ha hna h0).1,(key hb hnb h1).1,(key ha hna h0).2,(key hb hnb h1).2⟩
def SumQ (own : Int→List Span) : List Int→Int→Prop
 | [],y=>y = 0
 | a :: r,y=>∃ x z,SumQ own r x∧mem (own a) z∧x + z = y
theorem sumQ_O {own : Int→List Span} : ∀ (r : List Int),r.Nodup→∀ y,SumQ own r y↔SumO own r.reverse y
 | [],_,y=>by rw [List.reverse_nil,sumO_nil];rfl
 | a :: r,h,y=>by
  obtain ⟨h1,h2⟩:=List.nodup_cons.1 h
  rw [List.reverse_cons,sumO_snoc (by rw [List.mem_reverse];exact h1)]
  have ih:=sumQ_O (own:=own) r h2
  constructor
  ·rintro ⟨x,z,q1,q2,q3⟩
   exact ⟨x,z,(ih x).1 q1,q2,q3⟩
  ·rintro ⟨x,z,q1,q2,q3⟩
   exact ⟨x,z,(ih x).2 q1,q2,q3⟩
theorem perm_sum {a b : List Int} (h : a.Perm b) (f : Int→Int) : (a.map f).sum = (b.map f).sum:=by
 induction h with
 | nil=>rfl
 | cons x _ ih=>rw [List.map_cons,List.sum_cons,List.map_cons,List.sum_cons,ih]
 | swap x y l=>simp only [List.map_cons,List.sum_cons];omega
 | trans _ _ h1 h2=>rw [h1,h2]
theorem sumO_perm {own : Int→List Span} {a b : List Int} (h : a.Perm b) (y : Int) : SumO own a y↔SumO own b y:=by
 have hs:=perm_sum h
 exact ⟨fun ⟨f,h1,h2⟩=>⟨f,fun i hi=>h1 i (h.mem_iff.2 hi),by rw [← hs];exact h2⟩,fun ⟨f,h1,h2⟩=>⟨f,fun i hi=>h1 i (h.mem_iff.1 hi),by rw [hs];exact h2⟩⟩
open Classical in
noncomputable def curQ (own : Int→List Span) (r : List Int) : List Span:=if h : ∃ p,Is p (SumQ own r) then Classical.choose h else []
theorem curQ_is {own : Int→List Span} {r : List Int} {p : List Span} (h : Is p (SumQ own r)) : curQ own r = p:=by
 have hex : ∃ p,Is p (SumQ own r):=⟨p,h⟩
 unfold curQ
 rw [dif_pos hex]
 exact (Classical.choose_spec hex).eq h fun _=>Iff.rfl
end Go.Proofs.YtpcgaebbbioifaaGreatDoor.Fi
