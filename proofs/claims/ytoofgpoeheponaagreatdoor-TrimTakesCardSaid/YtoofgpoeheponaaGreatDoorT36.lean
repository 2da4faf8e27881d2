import Derived.Test.YtoofgpoeheponaaGreatDoorT19
import Derived.Test.YtoofgpoeheponaaGreatDoorT35
set_option maxRecDepth 100000
namespace Go.Proofs.YtoofgpoeheponaaGreatDoor.De
open Go Go.RowKit Sp Pa Te Mi Fi
structure DV where
 i : Int
 o : Int
 n : Int
 s : Int
 A : Option Addr
 cr : Nat
 B : Option Addr
 cf : Nat
 rs : List RuL
 fs : List FiL
structure DM (w : World) (d : DV) : Prop where
 rules : RRu w d.A d.rs.length d.rs
 rl : d.rs.length≤maxLen
 finals : RFi w d.B d.fs.length d.fs
 fl : d.fs.length≤maxLen
 nr : NilT w d.A d.rs.length 5 4
 nf : NilT w d.B d.fs.length 3 2
theorem nil_below {w w' : World} {A : Option Addr} {n m k : Nat} (h : NilT w A n m k) (hA : 0 < n→∃ b off,A = some ⟨b,off,none⟩∧b < w.heap.size) (hb : Below w.heap.size w w') : NilT w' A n m k:=fun b off e j hj l c hc=>by
 obtain ⟨b',off',e',hlt⟩:=hA (by omega)
 rw [e] at e'
 injection e' with e'
 injection e' with e'
 subst e'
 exact h b off e j hj l c ((hb.cell (p:=⟨b,off + j * m + k,none⟩) hlt).symm.trans hc)
theorem DM.below {w w' : World} {d : DV} (h : DM w d) (hb : Below w.heap.size w w') : DM w' d:=
 ⟨h.rules.belowM hb,h.rl,h.finals.belowM hb,h.fl,nil_below h.nr (fun hn=>by
  obtain ⟨b,off,e,hlt,_⟩:=h.rules.2 hn
  exact ⟨b,off,e,hlt⟩) hb,nil_below h.nf (fun hn=>by
  obtain ⟨b,off,e,hlt,_⟩:=h.finals.2 hn
  exact ⟨b,off,e,hlt⟩) hb⟩
def DV.right (d : DV) : Prop:=(whereD d.i d.o d.n d.s d.rs d.fs).1 = 0
theorem badAt_none {α : Type} {P : α→Bool} {l : List α} (h : badAt P l = none) : ∀ x∈l,P x = true:=fun x hx=>by
 unfold badAt at h
 have:=List.findIdx?_eq_none_iff.1 h x hx
 simpa using this
structure RightD (d : DV) : Prop where
 i : d.i = 1∨d.i = 2
 o : d.o = 1∨d.o = 2
 n : 1≤d.n∧d.n≤1024
 s : 0≤d.s∧d.s < d.n
 r : d.rs.length≤4096
 f : d.fs.length≤4096
 rs : ∀ r∈d.rs,0≤r.frm∧r.frm < d.n∧0≤r.to_∧r.to_ < d.n∧r.gs.length≤4∧(∀ g∈r.gs,g.length≤64)∧r.out.length≤64∧(∀ t∈r.out,t.ps.length≤4)∧0≤r.eat∧r.eat≤4
 fs : ∀ r∈d.fs,0≤r.frm∧r.frm < d.n∧r.gs.length≤4∧(∀ g∈r.gs,g.length≤64)∧r.out.length≤64∧(∀ t∈r.out,t.ps.length≤4)
theorem guards_bound {i : Int} {gs : List (List Span)} (h : guardsB i gs = true) : gs.length≤4∧∀ g∈gs,g.length≤64:=by
 unfold guardsB at h
 rw [Bool.and_eq_true,decide_eq_true_eq] at h
 refine ⟨h.1,fun g hg=>?_⟩
 have h2:=List.all_eq_true.1 h.2 g hg
 unfold guardB at h2
 simp only [Bool.and_eq_true,decide_eq_true_eq] at h2
 exact h2.2.1
theorem terms_bound {i o : Int} {gs : List (List Span)} {ts : List TmL} (h : termsB (fitF i o gs) ts = true) : ts.length≤64∧∀ t∈ts,t.ps.length≤4:=by
 unfold termsB at h
 rw [Bool.and_eq_true,decide_eq_true_eq] at h
 refine ⟨h.1,fun t ht=>?_⟩
 have h2:=(fitF_iff i o gs t).1 (List.all_eq_true.1 h.2 t ht)
 exact (Fi.num_parts (Fi.right_num h2.2.1).1).2.2.2
theorem DV.right.rightD {d : DV} (h : d.right) : RightD d:=by
 unfold DV.right whereD whereV at h
 split at h
 ·next hh=>
  unfold headB at hh
  simp only [Bool.and_eq_true,decide_eq_true_eq] at hh
  obtain ⟨h1,h2,h3,h4,h5,h6,h7⟩:=hh
  unfold stB at h5
  rw [decide_eq_true_eq] at h5
  split at h
  ·simp at h
  ·next hr=>
   split at h
   ·simp at h
   ·next hf=>
    unfold sortB at h1 h2
    refine ⟨by simpa using h1,by simpa using h2,⟨h3,h4⟩,h5,h6,h7,fun r hr'=>?_,fun r hr'=>?_⟩
    ·have q:=badAt_none hr r hr'
     unfold ruleB stB eatB at q
     simp only [Bool.and_eq_true,decide_eq_true_eq] at q
     obtain ⟨q1,q2,q3,q4,q5⟩:=q
     obtain ⟨g1,g2⟩:=guards_bound q3
     obtain ⟨t1,t2⟩:=terms_bound q5
     refine ⟨q1.1,q1.2,q2.1,q2.2,g1,g2,t1,t2,?_,?_⟩ <;> omega
    ·have q:=badAt_none hf r hr'
     unfold finB stB at q
     simp only [Bool.and_eq_true,decide_eq_true_eq] at q
     obtain ⟨q1,q3,q5⟩:=q
     obtain ⟨g1,g2⟩:=guards_bound q3
     obtain ⟨t1,t2⟩:=terms_bound q5
     exact ⟨q1.1,q1.2,g1,g2,t1,t2⟩
 ·simp at h
theorem RowRu.reads {p : Nat→Prop} {w : World} {base : Nat} {v : Value} {L : List RuL} (h : RowRu p w base v L) (hl : ∀ r∈L,r.gs.length≤maxLen∧(∀ g∈r.gs,g.length≤maxLen)∧r.out.length≤maxLen∧IntR r.eat) : ∃ A c,v = .slice A L.length c∧RRu w A L.length L∧L.length≤c∧L.length≤maxLen:=by
 obtain ⟨vs,h1,h2⟩:=h
 have hrow:=h1
 rcases h1.2 with ⟨hv,hn⟩ | ⟨g,cap,cur,hv,hg,hb,hn,hm,hs,ht⟩
 ·have : L = []:=List.eq_nil_of_length_eq_zero hn
  subst this
  exact ⟨none,0,hv,RRu.nil_ _ _,Nat.le_refl _,Nat.zero_le _⟩
 ·subst hv
  refine ⟨some ⟨g,0,none⟩,cap,rfl,⟨rfl,fun hn0=>⟨g,0,rfl,(World.ownsRow.lt hrow g rfl).2,fun j hj=>?_⟩⟩,hn,by omega⟩
  obtain ⟨G,gc,T,tc,⟨a0,a1,a2,a3,a4⟩,b1,b2,b3,b4⟩:=h2 j hj
  obtain ⟨l1,l2,l3,l4⟩:=hl _ (List.getElem_mem hj)
  have cc : ∀ r,r < 5→w.cell? ⟨g,0 + j * 5 + r,none⟩ = vs[j * 5 + r]?:=fun r hr=>by rw [Nat.zero_add];exact World.ownsRow.cellAt hrow (j * 5 + r) (by omega)
  have c0:=cc 0 (by omega)
  rw [Nat.add_zero,Nat.add_zero] at c0
  exact ⟨c0.trans a0,(cc 1 (by omega)).trans a1,(cc 3 (by omega)).trans a3,⟨G,gc,(cc 2 (by omega)).trans a2,b1.reads,b2,l1,l2⟩,T,tc,(cc 4 (by omega)).trans a4,b3.reads,b4,l3,l4⟩
theorem RowFi.reads {p : Nat→Prop} {w : World} {base : Nat} {v : Value} {L : List FiL} (h : RowFi p w base v L) (hl : ∀ r∈L,r.gs.length≤maxLen∧(∀ g∈r.gs,g.length≤maxLen)∧r.out.length≤maxLen) : ∃ A c,v = .slice A L.length c∧RFi w A L.length L∧L.length≤c∧L.length≤maxLen:=by
 obtain ⟨vs,h1,h2⟩:=h
 have hrow:=h1
 rcases h1.2 with ⟨hv,hn⟩ | ⟨g,cap,cur,hv,hg,hb,hn,hm,hs,ht⟩
 ·have : L = []:=List.eq_nil_of_length_eq_zero hn
  subst this
  exact ⟨none,0,hv,RFi.nil_ _ _,Nat.le_refl _,Nat.zero_le _⟩
 ·subst hv
  refine ⟨some ⟨g,0,none⟩,cap,rfl,⟨rfl,fun hn0=>⟨g,0,rfl,(World.ownsRow.lt hrow g rfl).2,fun j hj=>?_⟩⟩,hn,by omega⟩
  obtain ⟨G,gc,T,tc,⟨a0,a1,a2⟩,b1,b2,b3,b4⟩:=h2 j hj
  obtain ⟨l1,l2,l3⟩:=hl _ (List.getElem_mem hj)
  have cc : ∀ r,r < 3→w.cell? ⟨g,0 + j * 3 + r,none⟩ = vs[j * 3 + r]?:=fun r hr=>by rw [Nat.zero_add];exact World.ownsRow.cellAt hrow (j * 3 + r) (by omega)
  have c0:=cc 0 (by omega)
  rw [Nat.add_zero,Nat.add_zero] at c0
  exact ⟨c0.trans a0,⟨G,gc,(cc 1 (by omega)).trans a1,b1.reads,b2,l1,l2⟩,T,tc,(cc 2 (by omega)).trans a2,b3.reads,b4,l3⟩
section
variable {w w' : World} {bs x : Nat} {i o n s n' : Int} {L : List RuL} {F : List FiL} {v vf : Value}
theorem DBox.cells (h : DBox w x i o n s v vf) : w.cell? ⟨x,0,none⟩ = some (.int .i64 i)∧w.cell? ⟨x,1,none⟩ = some (.int .i64 o)∧w.cell? ⟨x,2,none⟩ = some (.int .i64 n)∧w.cell? ⟨x,3,none⟩ = some (.int .i64 s)∧w.cell? ⟨x,4,none⟩ = some v∧w.cell? ⟨x,5,none⟩ = some vf:=by
 have hb : Blk w x 26 #[.int .i64 i,.int .i64 o,.int .i64 n,.int .i64 s,v,vf]:=h
 exact ⟨hb.cell 0,hb.cell 1,hb.cell 2,hb.cell 3,hb.cell 4,hb.cell 5⟩
theorem DBox.set2 (h : DBox w x i o n s v vf) (n' : Int) : DBox (w.setCell ⟨x,2,none⟩ (.int .i64 n')) x i o n' s v vf:=by
 have hb : Blk w x 26 #[.int .i64 i,.int .i64 o,.int .i64 n,.int .i64 s,v,vf]:=h
 exact hb.set_ 2 _
end
theorem LayS.start {w : World} {x : Nat} {i o n s : Int} (h : DBox w x i o n s (.slice none 0 0) (.slice none 0 0)) : LayS (x + 1) x i o n s [] [] (.slice none 0 0) (.slice none 0 0) w:=
 ⟨h,RowRu.nil_ _ _ _,RowFi.nil_ _ _ _,fun g e=>by simp [Value.ownBlock] at e,Nat.lt_succ_self _⟩
end Go.Proofs.YtoofgpoeheponaaGreatDoor.De
namespace Go.Proofs.YtoofgpoeheponaaGreatDoor.Tr
open Go Go.RowKit Sp Pa Te Mi De
def NilV (vs : List Value) (n m k : Nat) : Prop:=∀ j,j < n→∀ l c,vs[j * m + k]? = some (.slice none l c)→c = 0
def NilW (w : World) (base : Nat) (e : TypeId) (m k : Nat) (v : Value) (n : Nat) : Prop:=∃ vs,w.ownsRow base e m v n vs∧NilV vs n m k
theorem NilW.nil_ (w : World) (base : Nat) (e : TypeId) (m k : Nat) : NilW w base e m k (.slice none 0 0) 0:=⟨[],World.ownsRow_nil _ _ _ _,fun _ h=>absurd h (Nat.not_lt_zero _)⟩
section
variable {w w' : World} {base : Nat} {e : TypeId} {m k n : Nat} {v v' : Value}
theorem NilW.keep (h : NilW w base e m k v n) (hv : ∀ g,v.ownBlock = some g→w'.heap[g]? = w.heap[g]?) : NilW w' base e m k v n:=by
 obtain ⟨vs,h1,h2⟩:=h
 exact ⟨vs,Fi.row_keep h1 hv,h2⟩
theorem NilW.more (h : NilW w base e m k v n) {vs cs : List Value} (hvs : w.ownsRow base e m v n vs) (ho : w'.ownsRow base e m v' (n + 1) (vs ++ cs)) (hk : k < m) (hc : ∀ l c,cs[k]? = some (.slice none l c)→c = 0) : NilW w' base e m k v' (n + 1):=by
 obtain ⟨vs',h1,h2⟩:=h
 obtain rfl : vs' = vs:=Fi.row_unique h1 hvs
 refine ⟨_,ho,fun j hj l c hjc=>?_⟩
 have hl : vs'.length = n * m:=h1.1
 rcases Nat.lt_or_ge j n with q | q
 ·refine h2 j q l c ?_
  have hlt : j * m + k < n * m:=by
   have:=Nat.mul_le_mul_right m (show j + 1≤n from q)
   rw [Nat.succ_mul] at this
   omega
  rwa [List.getElem?_append_left (by omega)] at hjc
 ·obtain rfl : j = n:=by omega
  rw [List.getElem?_append_right (by omega),hl,Nat.add_sub_cancel_left] at hjc
  exact hc l c hjc
theorem NilW.nilT {A : Option Addr} {c : Nat} (h : NilW w base e m k (.slice A n c) n) (hk : k < m) : NilT w A n m k:=fun b off eA j hj l c' hjc=>by
 obtain ⟨vs,h1,h2⟩:=h
 subst eA
 have hrow:=h1
 rcases h1.2 with ⟨hv,_⟩ | ⟨g,cap,cur,hv,hg,hb,hn,hm,hs,ht⟩
 ·injection hv with hv
  cases hv
 ·injection hv with hv
  injection hv with hv
  injection hv with e1 e2
  subst e1 e2
  refine h2 j hj l c' ?_
  rw [Nat.zero_add] at hjc
  rw [← hjc]
  exact (World.ownsRow.cellAt hrow (j * m + k) (by
   have:=Nat.mul_le_mul_right m (show j + 1≤n from hj)
   rw [Nat.succ_mul] at this
   omega)).symm
end
def kR (l : List Nat) (r : RuL) : RuL:={ r with frm:=(numL l r.frm.toNat : Int),to_:=(numL l r.to_.toNat : Int) }
def kF (l : List Nat) (f : FiL) : FiL:={ f with frm:=(numL l f.frm.toNat : Int) }
section
variable {l : List Nat} {rs : List RuL} {fs : List FiL} {k : Nat}
theorem trR_more (hk : k < rs.length) (h1 : rs[k].frm.toNat∈l) (h2 : rs[k].to_.toNat∈l) : trR l (rs.take (k + 1)) = trR l (rs.take k) ++ [kR l rs[k]]:=by
 unfold trR
 rw [List.take_succ_eq_append_getElem hk,List.filter_append,List.map_append,List.filter_cons,decide_eq_true h1,decide_eq_true h2]
 rfl
theorem trR_skip (hk : k < rs.length) (h : (decide (rs[k].frm.toNat∈l) && decide (rs[k].to_.toNat∈l)) = false) : trR l (rs.take (k + 1)) = trR l (rs.take k):=by
 unfold trR
 rw [List.take_succ_eq_append_getElem hk,List.filter_append,List.map_append,List.filter_cons,h]
 simp
theorem trF_more (hk : k < fs.length) (h1 : fs[k].frm.toNat∈l) : trF l (fs.take (k + 1)) = trF l (fs.take k) ++ [kF l fs[k]]:=by
 unfold trF
 rw [List.take_succ_eq_append_getElem hk,List.filter_append,List.map_append,List.filter_cons,decide_eq_true h1]
 rfl
theorem trF_skip (hk : k < fs.length) (h : decide (fs[k].frm.toNat∈l) = false) : trF l (fs.take (k + 1)) = trF l (fs.take k):=by
 unfold trF
 rw [List.take_succ_eq_append_getElem hk,List.filter_append,List.map_append,List.filter_cons,h]
 simp
end
def KrRel (x : Nat) (i o n s : Int) (l : List Nat) (rs : List RuL) (wz : World) (iv : Value) (wr : World) : Prop:=
 ∃ (k : Nat) (v : Value),k≤rs.length∧iv = .int .i64 k∧LayS (x + 1) x i o n s (trR l (rs.take k)) [] v (.slice none 0 0) wr∧Below x wz wr∧NilW wr (x + 1) 50 5 4 v (trR l (rs.take k)).length
def KfRel (x : Nat) (i o n s : Int) (l : List Nat) (rs : List RuL) (fs : List FiL) (wz : World) (v : Value) (iv : Value) (wr : World) : Prop:=
 ∃ (k : Nat) (vf : Value),k≤fs.length∧iv = .int .i64 k∧LayS (x + 1) x i o n s (trR l rs) (trF l (fs.take k)) v vf wr∧Below x wz wr∧NilW wr (x + 1) 50 5 4 v (trR l rs).length∧NilW wr (x + 1) 45 3 2 vf (trF l (fs.take k)).length
section
variable {x k B : Nat} {i o n s : Int} {l : List Nat} {rs : List RuL} {fs : List FiL} {v v9 vf : Value} {wz wr ws w9 : World} {r : RuL} {f : FiL} {AG AT : Option Addr} {cG cT : Nat} {vs : List Value}
theorem rule_kept (hk : k < rs.length) (hrk : rs[k] = r) (h1 : r.frm.toNat∈l) (h2 : r.to_.toNat∈l) (hlay : LayS (x + 1) x i o n s (trR l (rs.take k)) [] v (.slice none 0 0) wr) (hbl : Below x wz wr) (hnil : NilW wr (x + 1) 50 5 4 v (trR l (rs.take k)).length)
  (hbx : Below wr.heap.size wr ws) (hB : wr.heap.size≤B) (hgt : NewGT B r.gs r.out AG cG AT cT ws) (hT : AT = none→cT = 0) (hvs : ws.ownsRow (x + 1) 50 5 v (trR l (rs.take k)).length vs) (hg9 : ws.grownBy w9 v.ownBlock)
  (hown9 : w9.ownsRow (x + 1) 50 5 v9 ((trR l (rs.take k)).length + 1) (vs ++ [.int .i64 (numL l r.frm.toNat : Int),.int .i64 (numL l r.to_.toNat : Int),.slice AG r.gs.length cG,.int .i64 r.eat,.slice AT r.out.length cT]))
  (hat : v9.ownBlock = v.ownBlock∨v9.ownBlock = some ws.heap.size) :
  KrRel x i o n s l rs wz (.int .i64 ((k + 1 : Nat) : Int)) (w9.setCell ⟨x,4,none⟩ v9):=by
 have hls:=hlay.keep hbx
 have hown : ∀ g,v.ownBlock = some g→x + 1≤g∧g < wr.heap.size:=fun g e=>by
  obtain ⟨vs0,h0,_⟩:=hlay.rules
  exact World.ownsRow.lt h0 g e
 have hsz:=hbx.size
 have hxl:=hlay.box.lt
 have hp : ∀ b,B≤b→b < ws.heap.size→(x + 1≤b∧(Value.slice none 0 0).ownBlock≠some b)∧v.ownBlock≠some b:=fun b hb _=>⟨⟨by omega,fun e=>by simp [Value.ownBlock] at e⟩,fun e=>by have:=(hown b e).2;omega⟩
 have hl:=hls.rule (r:=kR l r) (gc:=cG) (tc:=cT) (G:=AG) (T:=AT) (H:=ws.heap.size) hvs (hgt.g.keep ⟨Nat.le_refl _,fun _ _ _=>rfl⟩ hp) hgt.gl (hgt.t.keep ⟨Nat.le_refl _,fun _ _ _=>rfl⟩ hp) hgt.tl hg9 hown9 hat (Nat.le_refl _)
 have hnil2:=(hnil.keep (fun g e=>hbx.block g (hown g e).2)).more hvs hown9 (by omega) (fun l c e=>by
  simp only [List.getElem?_cons_succ,List.getElem?_cons_zero,Option.some.injEq,Value.slice.injEq] at e
  obtain ⟨e1,_,e3⟩:=e
  rw [← e3]
  exact hT e1)
 have htk : trR l (rs.take (k + 1)) = trR l (rs.take k) ++ [kR l r]:=by rw [trR_more hk (by rw [hrk];exact h1) (by rw [hrk];exact h2),hrk]
 refine ⟨k + 1,v9,hk,rfl,by rw [htk];exact hl,?_,?_⟩
 ·exact ((hbl.trans (hbx.mono (by omega))).grown hg9 (by omega) (fun q e=>by have:=(hown q e).1;omega)).setCell (p:=⟨x,4,none⟩) (Nat.le_refl _) _
 ·rw [htk,List.length_append]
  exact hnil2.keep fun g e=>heap_setCell_other w9 ⟨x,4,none⟩ g _ (by have:=(World.ownsRow.lt hown9 g e).1;show g≠x;omega)
theorem rule_gone (hk : k < rs.length) (h : (decide (rs[k].frm.toNat∈l) && decide (rs[k].to_.toNat∈l)) = false) (hlay : LayS (x + 1) x i o n s (trR l (rs.take k)) [] v (.slice none 0 0) wr) (hbl : Below x wz wr) (hnil : NilW wr (x + 1) 50 5 4 v (trR l (rs.take k)).length) (hbx : Below wr.heap.size wr ws) :
  KrRel x i o n s l rs wz (.int .i64 ((k + 1 : Nat) : Int)) ws:=by
 refine ⟨k + 1,v,hk,rfl,by rw [trR_skip hk h];exact hlay.keep hbx,hbl.trans (hbx.mono (Nat.le_of_lt hlay.box.lt)),by
  rw [trR_skip hk h]
  exact hnil.keep fun g e=>hbx.block g (by
   obtain ⟨vs0,h0,_⟩:=hlay.rules
   exact (World.ownsRow.lt h0 g e).2)⟩
theorem final_kept (hk : k < fs.length) (hrk : fs[k] = f) (h1 : f.frm.toNat∈l) (hlay : LayS (x + 1) x i o n s (trR l rs) (trF l (fs.take k)) v vf wr) (hbl : Below x wz wr) (hnr : NilW wr (x + 1) 50 5 4 v (trR l rs).length) (hnil : NilW wr (x + 1) 45 3 2 vf (trF l (fs.take k)).length)
  (hbx : Below wr.heap.size wr ws) (hB : wr.heap.size≤B) (hgt : NewGT B f.gs f.out AG cG AT cT ws) (hT : AT = none→cT = 0) (hvs : ws.ownsRow (x + 1) 45 3 vf (trF l (fs.take k)).length vs) (hg9 : ws.grownBy w9 vf.ownBlock)
  (hown9 : w9.ownsRow (x + 1) 45 3 v9 ((trF l (fs.take k)).length + 1) (vs ++ [.int .i64 (numL l f.frm.toNat : Int),.slice AG f.gs.length cG,.slice AT f.out.length cT]))
  (hat : v9.ownBlock = vf.ownBlock∨v9.ownBlock = some ws.heap.size) :
  KfRel x i o n s l rs fs wz v (.int .i64 ((k + 1 : Nat) : Int)) (w9.setCell ⟨x,5,none⟩ v9):=by
 have hls:=hlay.keep hbx
 have hown : ∀ g,v.ownBlock = some g→x + 1≤g∧g < wr.heap.size:=fun g e=>by
  obtain ⟨vs0,h0,_⟩:=hlay.rules
  exact World.ownsRow.lt h0 g e
 have hownf : ∀ g,vf.ownBlock = some g→x + 1≤g∧g < wr.heap.size:=fun g e=>by
  obtain ⟨vs0,h0,_⟩:=hlay.finals
  exact World.ownsRow.lt h0 g e
 have hsz:=hbx.size
 have hxl:=hlay.box.lt
 have hp : ∀ b,B≤b→b < ws.heap.size→(x + 1≤b∧v.ownBlock≠some b)∧vf.ownBlock≠some b:=fun b hb _=>⟨⟨by omega,fun e=>by have:=(hown b e).2;omega⟩,fun e=>by have:=(hownf b e).2;omega⟩
 have hl:=hls.final (r:=kF l f) (gc:=cG) (tc:=cT) (G:=AG) (T:=AT) (H:=ws.heap.size) hvs (hgt.g.keep ⟨Nat.le_refl _,fun _ _ _=>rfl⟩ hp) hgt.gl (hgt.t.keep ⟨Nat.le_refl _,fun _ _ _=>rfl⟩ hp) hgt.tl hg9 hown9 hat (Nat.le_refl _)
 have hnil2:=(hnil.keep (fun g e=>hbx.block g (hownf g e).2)).more hvs hown9 (by omega) (fun l c e=>by
  simp only [List.getElem?_cons_succ,List.getElem?_cons_zero,Option.some.injEq,Value.slice.injEq] at e
  obtain ⟨e1,_,e3⟩:=e
  rw [← e3]
  exact hT e1)
 have htk : trF l (fs.take (k + 1)) = trF l (fs.take k) ++ [kF l f]:=by rw [trF_more hk (by rw [hrk];exact h1),hrk]
 refine ⟨k + 1,v9,hk,rfl,by rw [htk];exact hl,?_,hnr.keep fun g e=>?_,?_⟩
 ·exact ((hbl.trans (hbx.mono (by omega))).grown hg9 (by omega) (fun q e=>by have:=(hownf q e).1;omega)).setCell (p:=⟨x,5,none⟩) (Nat.le_refl _) _
 ·have h3:=hown g e
  rw [heap_setCell_other w9 ⟨x,5,none⟩ g _ (show g≠x by omega),hg9.block g (by omega) (fun q=>hlay.apart g e q.symm),hbx.block g h3.2]
 ·rw [htk,List.length_append]
  exact hnil2.keep fun g e=>heap_setCell_other w9 ⟨x,5,none⟩ g _ (by have:=(World.ownsRow.lt hown9 g e).1;show g≠x;omega)
theorem final_gone (hk : k < fs.length) (h : decide (fs[k].frm.toNat∈l) = false) (hlay : LayS (x + 1) x i o n s (trR l rs) (trF l (fs.take k)) v vf wr) (hbl : Below x wz wr) (hnr : NilW wr (x + 1) 50 5 4 v (trR l rs).length) (hnil : NilW wr (x + 1) 45 3 2 vf (trF l (fs.take k)).length) (hbx : Below wr.heap.size wr ws) :
  KfRel x i o n s l rs fs wz v (.int .i64 ((k + 1 : Nat) : Int)) ws:=by
 refine ⟨k + 1,vf,hk,rfl,by rw [trF_skip hk h];exact hlay.keep hbx,hbl.trans (hbx.mono (Nat.le_of_lt hlay.box.lt)),hnr.keep fun g e=>hbx.block g (by
   obtain ⟨vs0,h0,_⟩:=hlay.rules
   exact (World.ownsRow.lt h0 g e).2),by
  rw [trF_skip hk h]
  exact hnil.keep fun g e=>hbx.block g (by
   obtain ⟨vs0,h0,_⟩:=hlay.finals
   exact (World.ownsRow.lt h0 g e).2)⟩
end
theorem walk_any {E : List Eg} {M : Nat} (hE : ∀ e∈E,e.1 < M∧e.2 < M) {q : Nat} (hw : Walk E (M + 1) q) (n : Nat) : ∃ q,Walk E (n + 1) q:=by
 classical
 have hlt : ∀ k q,Walk E (k + 1) q→q < M:=fun k q h=>by
  obtain ⟨e,he,h2,_⟩:=h
  rw [← h2]
  exact (hE e he).2
 have hk : ∃ k,k≤M∧∀ q,q < M→Walk E k q→Walk E (k + 1) q:=by
  apply Classical.byContradiction
  intro hno
  have hstep : ∀ k,k≤M→((List.range M).filter fun q=>decide (Walk E (k + 1) q)).length < ((List.range M).filter fun q=>decide (Walk E k q)).length:=fun k hkM=>by
   have e1 : ((List.range M).filter fun q=>decide (Walk E (k + 1) q)) = ((List.range M).filter fun q=>decide (Walk E k q)).filter fun q=>decide (Walk E (k + 1) q):=by
    rw [List.filter_filter]
    refine List.filter_congr fun q _=>?_
    by_cases h : Walk E (k + 1) q
    ·rw [decide_eq_true h,decide_eq_true h.less];rfl
    ·rw [decide_eq_false h];rfl
   rw [e1]
   refine Nat.lt_of_le_of_ne (List.length_filter_le _ _) fun e2=>hno ⟨k,hkM,fun q hq h=>?_⟩
   have:=List.length_filter_eq_length_iff.1 e2 q (List.mem_filter.2 ⟨List.mem_range.2 hq,decide_eq_true h⟩)
   exact of_decide_eq_true this
  have hsum : ∀ k,k≤M + 1→((List.range M).filter fun q=>decide (Walk E k q)).length + k≤M:=fun k=>by
   induction k with
   | zero=>
    intro _
    have:=List.length_filter_le (fun q=>decide (Walk E 0 q)) (List.range M)
    simp only [List.length_range] at this
    omega
   | succ k ih=>
    intro hk
    have h1:=ih (by omega)
    have h2:=hstep k (by omega)
    omega
  have:=hsum (M + 1) (Nat.le_refl _)
  omega
 obtain ⟨k,hkM,hst⟩:=hk
 have hmore : ∀ d q,q < M→Walk E k q→Walk E (k + d) q:=fun d=>by
  induction d with
  | zero=>exact fun q _ h=>h
  | succ d ih=>
   intro q hq h
   obtain ⟨e,he,h2,h3⟩:=hst q hq h
   exact ⟨e,he,h2,ih e.1 (hE e he).1 h3⟩
 obtain ⟨d,hd⟩ : ∃ d,M + 1 = k + d:=⟨M + 1 - k,by omega⟩
 have hq:=hlt M q hw
 rw [hd] at hw
 have:=hmore (n + 1) q hq hw.lessN
 rw [Nat.add_comm] at this
 exact ⟨q,this.lessN⟩
theorem num_inj {l : List Nat} {p q : Nat} (hp : p∈l) (h : numL l p = numL l q) : p = q:=by
 unfold numL at h
 have hq : l.idxOf q < l.length:=by rw [← h];exact List.idxOf_lt_length_iff.2 hp
 have e1 : l[l.idxOf p]'(List.idxOf_lt_length_iff.2 hp) = p:=List.getElem_idxOf _
 have e2 : l[l.idxOf q]'hq = q:=List.getElem_idxOf _
 rw [← e1,← e2]
 congr 1
theorem walk_back {E E' : List Eg} {l : List Nat} (h : ∀ e'∈E',∃ e∈E,e.1∈l∧e.2∈l∧e' = (numL l e.1,numL l e.2)) : ∀ k p,p∈l→Walk E' k (numL l p)→Walk E k p
 | 0,_,_,_=>trivial
 | k + 1,p,hp,hw=>by
  obtain ⟨e',he',h2,h3⟩:=hw
  obtain ⟨e,he,h4,h5,rfl⟩:=h e' he'
  exact ⟨e,he,(num_inj hp h2.symm).symm,walk_back h k e.1 h4 h3⟩
section
variable {i o : Int} {N s : Nat} {rs : List RuL} {fs : List FiL} {l : List Nat}
theorem eps_back {e' : Eg} (h : e'∈epsE (trR l rs)) : ∃ e∈epsE rs,e.1∈l∧e.2∈l∧e' = (numL l e.1,numL l e.2):=by
 unfold epsE at h
 obtain ⟨r',h1,rfl⟩:=List.mem_map.1 h
 obtain ⟨h2,h3⟩:=List.mem_filter.1 h1
 unfold trR at h2
 obtain ⟨r,h4,rfl⟩:=List.mem_map.1 h2
 obtain ⟨h5,h6⟩:=List.mem_filter.1 h4
 rw [Bool.and_eq_true,decide_eq_true_eq,decide_eq_true_eq] at h6
 exact ⟨edg r,List.mem_map.2 ⟨r,List.mem_filter.2 ⟨h5,h3⟩,rfl⟩,h6.1,h6.2,by unfold edg;simp⟩
theorem cyc_kept (h : cycE (epsE rs) N = false) : cycE (epsE (trR l rs)) l.length = false:=by
 unfold cycE at h ⊢
 rw [@decide_eq_false_iff_not _ (Classical.propDecidable _)] at h ⊢
 rintro ⟨q,hq⟩
 have hE : ∀ e∈epsE (trR l rs),e.1 < l.length∧e.2 < l.length:=fun e he=>by
  obtain ⟨d,_,h1,h2,rfl⟩:=eps_back he
  exact ⟨numL_lt h1,numL_lt h2⟩
 obtain ⟨q',hq2⟩:=walk_any hE hq N
 have hq3:=hq2
 obtain ⟨e',he',h2,_⟩:=hq3
 obtain ⟨e,_,_,h5,rfl⟩:=eps_back he'
 exact h ⟨e.2,walk_back (fun _=>eps_back) (N + 1) e.2 h5 (by show Walk _ _ (numL l e.2);rw [show numL l e.2 = q' from h2];exact hq2)⟩
theorem where_parts {i o n s : Int} (h : (whereD i o n s rs fs).1 = 0) : headB i o n s rs.length fs.length = true∧(∀ r∈rs,ruleB i n (fitF i o) r = true)∧(∀ f∈fs,finB i n (fitF i o) f = true)∧cycE (epsE rs) n.toNat = false:=by
 unfold whereD whereV at h
 split at h
 ·next hh=>
  split at h
  ·simp at h
  ·next hr=>
   split at h
   ·simp at h
   ·next hf=>
    split at h
    ·simp at h
    ·next hc=>exact ⟨hh,badAt_none hr,badAt_none hf,by simpa using hc⟩
 ·simp at h
theorem where_of {i o n s : Int} (h1 : headB i o n s rs.length fs.length = true) (h2 : ∀ r∈rs,ruleB i n (fitF i o) r = true) (h3 : ∀ f∈fs,finB i n (fitF i o) f = true) (h4 : cycE (epsE rs) n.toNat = false) : whereD i o n s rs fs = (0,0):=by
 have e2 : badAt (ruleB i n (fitF i o)) rs = none:=List.findIdx?_eq_none_iff.2 fun x hx=>by simp [h2 x hx]
 have e3 : badAt (finB i n (fitF i o)) fs = none:=List.findIdx?_eq_none_iff.2 fun x hx=>by simp [h3 x hx]
 unfold whereD whereV
 rw [if_pos h1,e2,e3,h4]
 rfl
theorem tr_right (hw : (whereD i o (N : Int) (s : Int) rs fs).1 = 0) (hl : ∀ q∈l,q < N) (hn : l.Nodup) (hs : s∈l) : whereD i o (l.length : Int) (numL l s : Int) (trR l rs) (trF l fs) = (0,0):=by
 obtain ⟨h1,h2,h3,h4⟩:=where_parts hw
 have hlN : l.length≤N:=nodup_len hn hl
 have hpos:=List.length_pos_of_mem hs
 have hns:=numL_lt hs
 unfold headB at h1
 simp only [Bool.and_eq_true,decide_eq_true_eq] at h1
 obtain ⟨a1,a2,a3,a4,a5,a6,a7⟩:=h1
 have b1 : (trR l rs).length≤rs.length:=by unfold trR;rw [List.length_map];exact List.length_filter_le _ _
 have b2 : (trF l fs).length≤fs.length:=by unfold trF;rw [List.length_map];exact List.length_filter_le _ _
 refine where_of ?_ (fun r' hr'=>?_) (fun f' hf'=>?_) ?_
 ·unfold headB
  rw [a1,a2,decide_eq_true (show (1 : Int)≤(l.length : Int) by omega),decide_eq_true (show (l.length : Int)≤1024 by omega),stB_t (by omega) (by omega),decide_eq_true (show (trR l rs).length≤4096 by omega),decide_eq_true (show (trF l fs).length≤4096 by omega)]
  rfl
 ·unfold trR at hr'
  obtain ⟨r,h5,rfl⟩:=List.mem_map.1 hr'
  obtain ⟨h6,h7⟩:=List.mem_filter.1 h5
  rw [Bool.and_eq_true,decide_eq_true_eq,decide_eq_true_eq] at h7
  have h8:=h2 r h6
  have k1:=numL_lt h7.1
  have k2:=numL_lt h7.2
  unfold ruleB at h8 ⊢
  simp only [Bool.and_eq_true] at h8 ⊢
  exact ⟨stB_t (by omega) (by omega),stB_t (by omega) (by omega),h8.2.2⟩
 ·unfold trF at hf'
  obtain ⟨r,h5,rfl⟩:=List.mem_map.1 hf'
  obtain ⟨h6,h7⟩:=List.mem_filter.1 h5
  rw [decide_eq_true_eq] at h7
  have h8:=h3 r h6
  have k1:=numL_lt h7
  unfold finB at h8 ⊢
  simp only [Bool.and_eq_true] at h8 ⊢
  exact ⟨stB_t (by omega) (by omega),h8.2⟩
 ·rw [Int.toNat_natCast]
  refine cyc_kept (N:=N) ?_
  rw [Int.toNat_natCast] at h4
  exact h4
end
end Go.Proofs.YtoofgpoeheponaaGreatDoor.Tr
namespace Go.Proofs.YtoofgpoeheponaaGreatDoor.De
open Go Go.RowKit Sp Pa Te Mi Fi
theorem guards_nil (k : Int) : guardsB k [] = true:=by
 unfold guardsB
 simp
theorem badAt_all {α : Type} {P : α→Bool} {l : List α} (h : ∀ x∈l,P x = true) : badAt P l = none:=by
 unfold badAt
 rw [List.findIdx?_eq_none_iff]
 intro x hx
 simp [h x hx]
theorem where_zero {i o n s : Int} {rs : List RuL} {fs : List FiL} (hh : headB i o n s rs.length fs.length = true) (hr : ∀ r∈rs,ruleB i n (fitF i o) r = true) (hf : ∀ f∈fs,finB i n (fitF i o) f = true) (hc : cycE (epsE rs) n.toNat = false) : whereD i o n s rs fs = (0,0):=by
 unfold whereD whereV
 rw [if_pos hh,badAt_all hr,badAt_all hf,hc]
 rfl
theorem cyc_no {E : List Eg} {N : Nat} (h : ∀ q,¬ Walk E (N + 1) q) : cycE E N = false:=by
 unfold cycE
 exact @decide_eq_false _ (Classical.propDecidable _) fun ⟨q,hq⟩=>h q hq
theorem cyc_nil (N : Nat) : cycE [] N = false:=cyc_no fun q ⟨e,he,_⟩=>by cases he
theorem empty_final {i o n f : Int} (hf : 0≤f∧f < n) : finB i n (fitF i o) ⟨f,[],[]⟩ = true:=by
 unfold finB termsB
 rw [stB_t hf.1 hf.2,guards_nil]
 simp
theorem sort_one {k : Int} (hk : k = 1∨k = 2) : sortB k = true:=by
 unfold sortB
 rcases hk with rfl | rfl <;> decide
theorem rgp_all {w : World} {A : Option Addr} {n : Nat} {fam : List (List Span)} (h : RGs w A n fam) : RGp (fun b=>b < w.heap.size) w A fam:=fun hn=>by
 obtain ⟨b,off,e,hb,hc⟩:=h.2 (by have:=h.1;omega)
 refine ⟨b,off,e,hb,hb,fun j hj=>?_⟩
 obtain ⟨Aj,cj,h1,h2,h3,h4⟩:=hc j hj
 refine ⟨Aj,cj,h1,⟨h2,fun hp b' off' e'=>?_⟩,h3,h4⟩
 obtain ⟨b2,off2,e2,hb2,_⟩:=h2.2 hp
 rw [e2] at e'
 injection e' with e'
 injection e' with e'
 omega
theorem rtp_all {w : World} {A : Option Addr} {n : Nat} {ts : List TmL} (h : RTm w A n ts) : RTp (fun b=>b < w.heap.size) w A ts:=fun hn=>by
 obtain ⟨b,off,e,hb,hc⟩:=h.2 (by have:=h.1;omega)
 refine ⟨b,off,e,hb,hb,fun j hj=>?_⟩
 obtain ⟨h0,h1,h2,h3,h4,A',c',h5,h6,h7,h8⟩:=hc j hj
 refine ⟨h0,h1,h2,h3,h4,A',c',h5,⟨h6,fun hp b' off' e'=>?_⟩,h7,h8⟩
 obtain ⟨b2,off2,e2,hb2,_⟩:=h6.2 hp
 rw [e2] at e'
 injection e' with e'
 injection e' with e'
 omega
structure RJ (B0 bs x : Nat) (i o n s : Int) (L : List RuL) (F : List FiL) (v vf : Value) (w : World) : Prop where
 box : DBox w x i o n s v vf
 rules : RowRu (fun b=>b < B0) w bs v L
 finals : RowFi (fun b=>b < B0) w bs vf F
 apart : ∀ g,v.ownBlock = some g→vf.ownBlock≠some g
 low : x < bs
 old : B0≤x
section
variable {w w' : World} {B0 bs x : Nat} {i o n s : Int} {L : List RuL} {F : List FiL} {v vf v' : Value}
theorem RJ.keep (h : RJ B0 bs x i o n s L F v vf w) (hb : Below w.heap.size w w') : RJ B0 bs x i o n s L F v vf w' where
 box:=h.box.keep (hb.block x h.box.lt)
 rules:=h.rules.keep hb.size (fun g e=>hb.block g (by obtain ⟨vs,h1,_⟩:=h.rules;exact (World.ownsRow.lt h1 g e).2)) (fun b _ _ hlt=>hb.block b hlt) (fun _ hp _=>hp)
 finals:=h.finals.keep hb.size (fun g e=>hb.block g (by obtain ⟨vs,h1,_⟩:=h.finals;exact (World.ownsRow.lt h1 g e).2)) (fun b _ _ hlt=>hb.block b hlt) (fun _ hp _=>hp)
 apart:=h.apart
 low:=h.low
 old:=h.old
theorem RJ.rule {vs : List Value} {r : RuL} {G T : Option Addr} {gc tc H : Nat} (h : RJ B0 bs x i o n s L F v vf w) (hvs : w.ownsRow bs 50 5 v L.length vs)
  (hg : RGp (fun b=>b < B0) w G r.gs) (hgc : r.gs.length≤gc) (ht : RTp (fun b=>b < B0) w T r.out) (htc : r.out.length≤tc)
  (hgr : w.grownBy w' v.ownBlock) (ho : w'.ownsRow bs 50 5 v' (L.length + 1) (vs ++ [.int .i64 r.frm,.int .i64 r.to_,.slice G r.gs.length gc,.int .i64 r.eat,.slice T r.out.length tc])) (hat : v'.ownBlock = v.ownBlock∨v'.ownBlock = some H) (hH : w.heap.size≤H) :
  RJ B0 bs x i o n s (L ++ [r]) F v' vf (w'.setCell ⟨x,4,none⟩ v'):=by
 have hxl:=h.box.lt
 have hlo:=h.low
 have hol:=h.old
 have hnx : ∀ g,bs≤g→g≠x:=fun g hg e=>by omega
 have hvx : v.ownBlock≠some x:=fun e=>by have:=(World.ownsRow.lt hvs x e).1;omega
 have hset : ∀ g,g≠x→(w'.setCell ⟨x,4,none⟩ v').heap[g]? = w'.heap[g]?:=fun g hg=>heap_setCell_other w' ⟨x,4,none⟩ g v' hg
 have hsz : w'.heap.size = (w'.setCell ⟨x,4,none⟩ v').heap.size:=by simp
 have hno : ∀ b,b < B0→v.ownBlock≠some b:=fun b hb e=>by have:=(World.ownsRow.lt hvs b e).1;omega
 have hru:=h.rules.more hvs (hg.keep ⟨Nat.le_refl _,fun _ _ _=>rfl⟩ (fun b hb _=>⟨hb,hno b hb⟩)) hgc (ht.keep ⟨Nat.le_refl _,fun _ _ _=>rfl⟩ (fun b hb _=>⟨hb,hno b hb⟩)) htc hgr ho hat hH
 obtain ⟨fs',hf1,hf2⟩:=h.finals
 have hfb : ∀ g,vf.ownBlock = some g→bs≤g∧g < w.heap.size:=fun g e=>World.ownsRow.lt hf1 g e
 refine ⟨(h.box.keep (hgr.block x hxl (fun e=>hvx e.symm))).set4 v',hru.keep (by omega) (fun g e=>hset g (hnx g (World.ownsRow.lt ho g e).1)) (fun b hb _ _=>hset b (by omega)) (fun _ hp _=>hp),?_,fun g e q=>?_,hlo,hol⟩
 ·refine RowFi.keep (w:=w) ⟨fs',hf1,hf2⟩ (by have:=hgr.size;omega) (fun g e=>?_) (fun b hb _ hlt=>?_) (fun b hb hlt=>hb)
  ·rw [hset g (hnx g (hfb g e).1)]
   exact hgr.block g (hfb g e).2 (fun q=>h.apart g q.symm e)
  ·rw [hset b (by omega)]
   exact hgr.block b hlt (fun q=>hno b hb q.symm)
 ·have h1:=(hfb g q).2
  rcases hat with k | k
  ·exact h.apart g (by rw [← k,e]) q
  ·rw [k] at e
   injection e with e
   omega
theorem RJ.final {vs : List Value} {r : FiL} {G T : Option Addr} {gc tc H : Nat} (h : RJ B0 bs x i o n s L F v vf w) (hvs : w.ownsRow bs 45 3 vf F.length vs)
  (hg : RGp (fun b=>b < B0) w G r.gs) (hgc : r.gs.length≤gc) (ht : RTp (fun b=>b < B0) w T r.out) (htc : r.out.length≤tc)
  (hgr : w.grownBy w' vf.ownBlock) (ho : w'.ownsRow bs 45 3 v' (F.length + 1) (vs ++ [.int .i64 r.frm,.slice G r.gs.length gc,.slice T r.out.length tc])) (hat : v'.ownBlock = vf.ownBlock∨v'.ownBlock = some H) (hH : w.heap.size≤H) :
  RJ B0 bs x i o n s L (F ++ [r]) v v' (w'.setCell ⟨x,5,none⟩ v'):=by
 have hxl:=h.box.lt
 have hlo:=h.low
 have hol:=h.old
 have hnx : ∀ g,bs≤g→g≠x:=fun g hg e=>by omega
 have hvx : vf.ownBlock≠some x:=fun e=>by have:=(World.ownsRow.lt hvs x e).1;omega
 have hset : ∀ g,g≠x→(w'.setCell ⟨x,5,none⟩ v').heap[g]? = w'.heap[g]?:=fun g hg=>heap_setCell_other w' ⟨x,5,none⟩ g v' hg
 have hsz : w'.heap.size = (w'.setCell ⟨x,5,none⟩ v').heap.size:=by simp
 have hno : ∀ b,b < B0→vf.ownBlock≠some b:=fun b hb e=>by have:=(World.ownsRow.lt hvs b e).1;omega
 have hru:=h.finals.more hvs (hg.keep ⟨Nat.le_refl _,fun _ _ _=>rfl⟩ (fun b hb _=>⟨hb,hno b hb⟩)) hgc (ht.keep ⟨Nat.le_refl _,fun _ _ _=>rfl⟩ (fun b hb _=>⟨hb,hno b hb⟩)) htc hgr ho hat hH
 obtain ⟨fs',hf1,hf2⟩:=h.rules
 have hfb : ∀ g,v.ownBlock = some g→bs≤g∧g < w.heap.size:=fun g e=>World.ownsRow.lt hf1 g e
 refine ⟨(h.box.keep (hgr.block x hxl (fun e=>hvx e.symm))).set5 v',?_,hru.keep (by omega) (fun g e=>hset g (hnx g (World.ownsRow.lt ho g e).1)) (fun b hb _ _=>hset b (by omega)) (fun _ hp _=>hp),fun g e q=>?_,hlo,hol⟩
 ·refine RowRu.keep (w:=w) ⟨fs',hf1,hf2⟩ (by have:=hgr.size;omega) (fun g e=>?_) (fun b hb _ hlt=>?_) (fun b hb hlt=>hb)
  ·rw [hset g (hnx g (hfb g e).1)]
   exact hgr.block g (hfb g e).2 (fun q=>h.apart g e q.symm)
  ·rw [hset b (by omega)]
   exact hgr.block b hlt (fun q=>hno b hb q.symm)
 ·have h1:=(hfb g e).2
  rcases hat with k | k
  ·exact h.apart g e (by rw [← k,q])
  ·rw [k] at q
   injection q with q
   omega
end
theorem ru_here {w W : World} {A : Option Addr} {n : Nat} {L : List RuL} (h : RRu w A n L) (hb : Below w.heap.size w W) {k : Nat} (hk : k < L.length) : ∃ b off G gc T tc,A = some ⟨b,off,none⟩∧b < w.heap.size ∧
  W.cell? ⟨b,off + k * 5,none⟩ = some (.int .i64 L[k].frm)∧W.cell? ⟨b,off + k * 5 + 1,none⟩ = some (.int .i64 L[k].to_)∧W.cell? ⟨b,off + k * 5 + 2,none⟩ = some (.slice G L[k].gs.length gc)∧W.cell? ⟨b,off + k * 5 + 3,none⟩ = some (.int .i64 L[k].eat)∧W.cell? ⟨b,off + k * 5 + 4,none⟩ = some (.slice T L[k].out.length tc) ∧
  RGp (fun b=>b < w.heap.size) W G L[k].gs∧L[k].gs.length≤gc∧RTp (fun b=>b < w.heap.size) W T L[k].out∧L[k].out.length≤tc:=by
 obtain ⟨b,off,e,hlt,hc⟩:=h.2 (by have:=h.1;omega)
 obtain ⟨h0,h1,h3,⟨G,gc,h2,hg,hgc,_⟩,T,tc,h4,ht,htc,_⟩:=hc k hk
 exact ⟨b,off,G,gc,T,tc,e,hlt,(hb.cell hlt).trans h0,(hb.cell hlt).trans h1,(hb.cell hlt).trans h2,(hb.cell hlt).trans h3,(hb.cell hlt).trans h4,
  (rgp_all hg).keep ⟨hb.size,fun q hq _=>hb.block q hq⟩ (fun _ hq _=>hq),hgc,(rtp_all ht).keep ⟨hb.size,fun q hq _=>hb.block q hq⟩ (fun _ hq _=>hq),htc⟩
theorem fi_here {w W : World} {A : Option Addr} {n : Nat} {L : List FiL} (h : RFi w A n L) (hb : Below w.heap.size w W) {k : Nat} (hk : k < L.length) : ∃ b off G gc T tc,A = some ⟨b,off,none⟩∧b < w.heap.size ∧
  W.cell? ⟨b,off + k * 3,none⟩ = some (.int .i64 L[k].frm)∧W.cell? ⟨b,off + k * 3 + 1,none⟩ = some (.slice G L[k].gs.length gc)∧W.cell? ⟨b,off + k * 3 + 2,none⟩ = some (.slice T L[k].out.length tc) ∧
  RGp (fun b=>b < w.heap.size) W G L[k].gs∧L[k].gs.length≤gc∧RTp (fun b=>b < w.heap.size) W T L[k].out∧L[k].out.length≤tc:=by
 obtain ⟨b,off,e,hlt,hc⟩:=h.2 (by have:=h.1;omega)
 obtain ⟨h0,⟨G,gc,h2,hg,hgc,_⟩,T,tc,h4,ht,htc,_⟩:=hc k hk
 exact ⟨b,off,G,gc,T,tc,e,hlt,(hb.cell hlt).trans h0,(hb.cell hlt).trans h2,(hb.cell hlt).trans h4,
  (rgp_all hg).keep ⟨hb.size,fun q hq _=>hb.block q hq⟩ (fun _ hq _=>hq),hgc,(rtp_all ht).keep ⟨hb.size,fun q hq _=>hb.block q hq⟩ (fun _ hq _=>hq),htc⟩
end Go.Proofs.YtoofgpoeheponaaGreatDoor.De
