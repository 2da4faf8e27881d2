import Derived.Test.YtpcgaebbbioifaaGreatDoorT0
import Derived.Test.YtpcgaebbbioifaaGreatDoorT36
import Derived.Test.YtpcgaebbbioifaaGreatDoorT40
set_option maxRecDepth 100000
namespace Go.Proofs.YtpcgaebbbioifaaGreatDoor.Ep
open Go Go.RowKit Sp Pa Te Mi De Tr
def wayR (frm : Int) (wr : List TmL) (r : RuL) : RuL:=⟨frm,r.to_,r.gs,r.eat,wr ++ r.out⟩
def wayF (frm : Int) (wr : List TmL) (r : FiL) : FiL:=⟨frm,r.gs,wr ++ r.out⟩
def layRL (frm : Int) (wr : List TmL) : List RuL→List RuL→Option (List RuL)
 | [],acc=>some acc
 | r :: l,acc=>if r.gs.length = 0 then layRL frm wr l acc else if acc.length = 4096∨64 < wr.length + r.out.length then none else layRL frm wr l (acc ++ [wayR frm wr r])
def layFL (frm : Int) (wr : List TmL) : List FiL→List FiL→Option (List FiL)
 | [],acc=>some acc
 | r :: l,acc=>if acc.length = 4096∨64 < wr.length + r.out.length then none else layFL frm wr l (acc ++ [wayF frm wr r])
structure Src (w0 wR wF : World) (x bs gR gF N : Nat) (P : List (RuL × RawR)) (PF : List (FiL × RawF)) : Prop where
 rows : OwnsY 5 encR 23 43 wR gR (gR + 1) N (byL RawR.frm (P.map (·.2)))
 fins : OwnsY 3 encF 24 45 wF gF (gF + 1) N (byL RawF.frm (PF.map (·.2)))
 rx : x < gR∨wR.heap.size≤x
 fx : x < gF∨wF.heap.size≤x
 rb : wR.heap.size≤bs
 fb : wF.heap.size≤bs
 ir : ∀ p∈P,IsRawR w0 p.1 p.2
 ifn : ∀ p∈PF,IsRawF w0 p.1 p.2
 top : w0.heap.size≤x
 num : N≤1024
 pl : P.length≤4096
 fl : PF.length≤4096
 br : ∀ p∈P,0≤p.1.to_∧p.1.to_ < N∧p.1.gs.length≤4∧(∀ g∈p.1.gs,g.length≤64)∧p.1.out.length≤64∧∀ t∈p.1.out,t.ps.length≤4
 bf : ∀ p∈PF,p.1.gs.length≤4∧(∀ g∈p.1.gs,g.length≤64)∧p.1.out.length≤64∧∀ t∈p.1.out,t.ps.length≤4
 nr : ∀ p∈P,p.2.TA = none→p.2.tc = 0
 nf : ∀ p∈PF,p.2.TA = none→p.2.tc = 0
structure In0 (w0 wR wF : World) (gR gF : Nat) (w : World) : Prop where
 b0 : Below w0.heap.size w0 w
 r : ∀ b,gR≤b→b < wR.heap.size→w.heap[b]? = wR.heap[b]?
 f : ∀ b,gF≤b→b < wF.heap.size→w.heap[b]? = wF.heap[b]?
theorem In0.cellR {w0 wR wF w : World} {gR gF q : Nat} (h : In0 w0 wR wF gR gF w) (hl : gR < wR.heap.size) : w.cell? ⟨gR,q,none⟩ = wR.cell? ⟨gR,q,none⟩:=by
 simp only [World.cell?,h.r gR (Nat.le_refl _) hl]
theorem In0.cellF {w0 wR wF w : World} {gR gF q : Nat} (h : In0 w0 wR wF gR gF w) (hl : gF < wF.heap.size) : w.cell? ⟨gF,q,none⟩ = wF.cell? ⟨gF,q,none⟩:=by
 simp only [World.cell?,h.f gF (Nat.le_refl _) hl]
theorem Src.next {w0 wR wF w w' : World} {x bs gR gF N : Nat} {P : List (RuL × RawR)} {PF : List (FiL × RawF)} (hS : Src w0 wR wF x bs gR gF N P PF) (h : In0 w0 wR wF gR gF w) (hl : Below x w w') (hk : ∀ b,b < bs→b≠x→w'.heap[b]? = w.heap[b]?) : In0 w0 wR wF gR gF w':=
 ⟨h.b0.trans (hl.mono hS.top),fun b h1 h2=>(hk b (by have:=hS.rb;omega) (fun e=>by have:=hS.rx;omega)).trans (h.r b h1 h2),fun b h1 h2=>(hk b (by have:=hS.fb;omega) (fun e=>by have:=hS.fx;omega)).trans (h.f b h1 h2)⟩
def pq (P : List (RuL × RawR)) (q : Nat) : List (RuL × RawR):=P.filter fun p=>p.2.frm == q
def pqF (P : List (FiL × RawF)) (q : Nat) : List (FiL × RawF):=P.filter fun p=>p.2.frm == q
theorem pq_raw (P : List (RuL × RawR)) (q : Nat) : byL RawR.frm (P.map (·.2)) q = (pq P q).map (·.2):=by
 unfold byL pq
 rw [List.filter_map]
 rfl
theorem pqF_raw (P : List (FiL × RawF)) (q : Nat) : byL RawF.frm (P.map (·.2)) q = (pqF P q).map (·.2):=by
 unfold byL pqF
 rw [List.filter_map]
 rfl
section
variable {X : Nat→Prop} {bs x B gg capg : Nat} {ru fi : Value} {i o n s : Int} {L : List RuL} {F : List FiL} {v vf v' vf' : Value} {w wr ws w9 : World} {r : RuL} {f : FiL} {AG AT : Option Addr} {cG cT : Nat} {vs : List Value}
structure FR (X : Nat→Prop) (bs x : Nat) (ru fi : Value) (i o n s : Int) (L : List RuL) (F : List FiL) (v vf v' vf' : Value) (w w' : World) : Prop where
 fs : FS X bs x ru fi i o n s L F v' vf' w'
 kd : KeepD x v vf w w'
 gr : ∀ g,v'.ownBlock = some g→v.ownBlock = some g∨w.heap.size≤g
 gf : ∀ g,vf'.ownBlock = some g→vf.ownBlock = some g∨w.heap.size≤g
 low : Below x w w'
theorem FR.lowb {L0 : List RuL} {F0 : List FiL} {w' : World} (h : FR X bs x ru fi i o n s L F v vf v' vf' w w') (h0 : FS X bs x ru fi i o n s L0 F0 v vf w) (hbs : bs≤w.heap.size) : ∀ b,b < bs→b≠x→w'.heap[b]? = w.heap[b]?:=fun b hb hx=>
 h.kd.2 b (by omega) hx (fun e=>by obtain ⟨vs0,q0,_⟩:=h0.rules;have:=(World.ownsRow.lt q0 b e).1;omega) (fun e=>by obtain ⟨vs0,q0,_⟩:=h0.finals;have:=(World.ownsRow.lt q0 b e).1;omega)
theorem FR.start (h : FS X bs x ru fi i o n s L F v vf w) : FR X bs x ru fi i o n s L F v vf v vf w w:=
 ⟨h,⟨Nat.le_refl _,fun _ _ _ _ _=>rfl⟩,fun _ e=>.inl e,fun _ e=>.inl e,Below.refl _ _⟩
theorem FR.keep {w' w'' : World} (h : FR X bs x ru fi i o n s L F v vf v' vf' w w') (hb : Below w'.heap.size w' w'') : FR X bs x ru fi i o n s L F v vf v' vf' w w'':=
 ⟨h.fs.keep hb,⟨Nat.le_trans h.kd.1 hb.size,fun b h1 h2 h3 h4=>(hb.block b (Nat.lt_of_lt_of_le h1 h.kd.1)).trans (h.kd.2 b h1 h2 h3 h4)⟩,h.gr,h.gf,h.low.trans (hb.mono (Nat.le_of_lt h.fs.box.lt))⟩
theorem frule_next (h : FR X bs x ru fi i o n s L F v vf v' vf' w wr)
  (hbs : bs≤w.heap.size) (hbx : Below wr.heap.size wr ws) (hB : wr.heap.size≤B) (hgt : NewGT B r.gs r.out AG cG AT cT ws) (htn : AT = none→cT = 0) (hvs : ws.ownsRow bs 43 5 v' L.length vs) (hg9 : ws.grownBy w9 v'.ownBlock)
  (hown9 : w9.ownsRow bs 43 5 (.slice (some ⟨gg,0,none⟩) (L.length + 1) capg) (L.length + 1) (vs ++ [.int .i64 r.frm,.int .i64 r.to_,.slice AG r.gs.length cG,.int .i64 r.eat,.slice AT r.out.length cT]))
  (hat : v'.ownBlock = some gg∨gg = ws.heap.size) :
  FR X bs x ru fi i o n s (L ++ [r]) F v vf (.slice (some ⟨gg,0,none⟩) (L.length + 1) capg) vf' w (w9.setCell ⟨x,6,none⟩ (.slice (some ⟨gg,0,none⟩) (L.length + 1) capg)):=by
 obtain ⟨hlay,hkd,hvv,hvf,hbl⟩:=h
 have hls:=hlay.keep hbx
 have hown : ∀ g,v'.ownBlock = some g→g < wr.heap.size:=fun g e=>by
  obtain ⟨vs0,h0,_⟩:=hlay.rules
  exact (World.ownsRow.lt h0 g e).2
 have hownf : ∀ g,vf'.ownBlock = some g→g < wr.heap.size:=fun g e=>by
  obtain ⟨vs0,h0,_⟩:=hlay.finals
  exact (World.ownsRow.lt h0 g e).2
 have hsz:=hbx.size
 have hwr:=hkd.1
 have hp : ∀ b,B≤b→b < ws.heap.size→((bs≤b∧¬ X b)∧vf'.ownBlock≠some b)∧v'.ownBlock≠some b:=fun b hb _=>⟨⟨⟨by omega,fun e=>by have:=hlay.xlt b e;omega⟩,fun e=>by have:=hownf b e;omega⟩,fun e=>by have:=hown b e;omega⟩
 have hl:=hls.rule (r:=r) (gc:=cG) (tc:=cT) (G:=AG) (T:=AT) (H:=ws.heap.size) hvs (hgt.g.keep ⟨Nat.le_refl _,fun _ _ _=>rfl⟩ hp) hgt.gl (hgt.t.keep ⟨Nat.le_refl _,fun _ _ _=>rfl⟩ hp) hgt.tl htn hg9 hown9 (by
  rcases hat with e | e
  ·exact .inl (by rw [e];rfl)
  ·exact .inr (by rw [e];rfl)) (Nat.le_refl _)
 refine ⟨hl,⟨?_,fun b hb hx h1 h2=>?_⟩,fun g e=>?_,hvf,?_⟩
 ·have:=hg9.size
  simp
  omega
 ·rw [heap_setCell_other w9 ⟨x,6,none⟩ b _ hx,hg9.block b (by omega) (fun e=>by rcases hvv b e.symm with q | q;exact h1 q;omega),hbx.block b (by omega)]
  exact hkd.2 b hb hx h1 h2
 ·have e : gg = g:=by simpa [Value.ownBlock] using e
  subst e
  rcases hat with q | q
  ·exact hvv _ q
  ·exact .inr (by omega)
 ·have hlow:=hlay.low
  have hlt:=hlay.box.lt
  exact ((hbl.trans (hbx.mono (Nat.le_of_lt hlt))).grown hg9 (by omega) (fun q e=>by have:=(World.ownsRow.lt hvs q e).1;omega)).setCell (p:=⟨x,6,none⟩) (Nat.le_refl _) _
theorem ffinal_next (h : FR X bs x ru fi i o n s L F v vf v' vf' w wr)
  (hbs : bs≤w.heap.size) (hbx : Below wr.heap.size wr ws) (hB : wr.heap.size≤B) (hgt : NewGT B f.gs f.out AG cG AT cT ws) (htn : AT = none→cT = 0) (hvs : ws.ownsRow bs 45 3 vf' F.length vs) (hg9 : ws.grownBy w9 vf'.ownBlock)
  (hown9 : w9.ownsRow bs 45 3 (.slice (some ⟨gg,0,none⟩) (F.length + 1) capg) (F.length + 1) (vs ++ [.int .i64 f.frm,.slice AG f.gs.length cG,.slice AT f.out.length cT]))
  (hat : vf'.ownBlock = some gg∨gg = ws.heap.size) :
  FR X bs x ru fi i o n s L (F ++ [f]) v vf v' (.slice (some ⟨gg,0,none⟩) (F.length + 1) capg) w (w9.setCell ⟨x,7,none⟩ (.slice (some ⟨gg,0,none⟩) (F.length + 1) capg)):=by
 obtain ⟨hlay,hkd,hvv,hvf,hbl⟩:=h
 have hls:=hlay.keep hbx
 have hown : ∀ g,v'.ownBlock = some g→g < wr.heap.size:=fun g e=>by
  obtain ⟨vs0,h0,_⟩:=hlay.rules
  exact (World.ownsRow.lt h0 g e).2
 have hownf : ∀ g,vf'.ownBlock = some g→g < wr.heap.size:=fun g e=>by
  obtain ⟨vs0,h0,_⟩:=hlay.finals
  exact (World.ownsRow.lt h0 g e).2
 have hsz:=hbx.size
 have hwr:=hkd.1
 have hp : ∀ b,B≤b→b < ws.heap.size→((bs≤b∧¬ X b)∧v'.ownBlock≠some b)∧vf'.ownBlock≠some b:=fun b hb _=>⟨⟨⟨by omega,fun e=>by have:=hlay.xlt b e;omega⟩,fun e=>by have:=hown b e;omega⟩,fun e=>by have:=hownf b e;omega⟩
 have hl:=hls.final (r:=f) (gc:=cG) (tc:=cT) (G:=AG) (T:=AT) (H:=ws.heap.size) hvs (hgt.g.keep ⟨Nat.le_refl _,fun _ _ _=>rfl⟩ hp) hgt.gl (hgt.t.keep ⟨Nat.le_refl _,fun _ _ _=>rfl⟩ hp) hgt.tl htn hg9 hown9 (by
  rcases hat with e | e
  ·exact .inl (by rw [e];rfl)
  ·exact .inr (by rw [e];rfl)) (Nat.le_refl _)
 refine ⟨hl,⟨?_,fun b hb hx h1 h2=>?_⟩,hvv,fun g e=>?_,?_⟩
 ·have:=hg9.size
  simp
  omega
 ·rw [heap_setCell_other w9 ⟨x,7,none⟩ b _ hx,hg9.block b (by omega) (fun e=>by rcases hvf b e.symm with q | q;exact h2 q;omega),hbx.block b (by omega)]
  exact hkd.2 b hb hx h1 h2
 ·have e : gg = g:=by simpa [Value.ownBlock] using e
  subst e
  rcases hat with q | q
  ·exact hvf _ q
  ·exact .inr (by omega)
 ·have hlow:=hlay.low
  have hlt:=hlay.box.lt
  exact ((hbl.trans (hbx.mono (Nat.le_of_lt hlt))).grown hg9 (by omega) (fun q e=>by have:=(World.ownsRow.lt hvs q e).1;omega)).setCell (p:=⟨x,7,none⟩) (Nat.le_refl _) _
end
end Go.Proofs.YtpcgaebbbioifaaGreatDoor.Ep
namespace Go.Proofs.YtpcgaebbbioifaaGreatDoor.Ep
set_option maxHeartbeats 64000000
open Go Go.RowKit Sp Pa Te Mi De Tr
open Go.Lib (hid)
theorem FBox.at0 {w : World} {x : Nat} {ru fi : Value} {i o n s : Int} {v vf : Value} (h : FBox w x ru fi i o n s v vf) : w.cell? ⟨x,0,none⟩ = some ru:=by simp [World.cell?,show w.heap[x]? = _ from h]
theorem FBox.at1 {w : World} {x : Nat} {ru fi : Value} {i o n s : Int} {v vf : Value} (h : FBox w x ru fi i o n s v vf) : w.cell? ⟨x,1,none⟩ = some fi:=by simp [World.cell?,show w.heap[x]? = _ from h]
theorem own_shp {w : World} {base : Nat} {e : TypeId} {size : Nat} {v : Value} {n : Nat} {xs : List Value} (h : w.ownsRow base e size v n xs) : ∃ A c,v = .slice A n c:=by
 obtain ⟨_,h2⟩:=h
 rcases h2 with ⟨hv,hn⟩ | ⟨g,cap,cur,hv,_⟩
 ·exact ⟨none,0,by rw [hv,hn]⟩
 ·exact ⟨_,cap,hv⟩
theorem layRL_skip {frm : Int} {ts : List TmL} {l : List RuL} {k : Nat} {acc : List RuL} {r : RuL} (hk : k < l.length) (hr : l[k] = r) (h0 : r.gs.length = 0) : layRL frm ts (l.drop k) acc = layRL frm ts (l.drop (k + 1)) acc:=by
 rw [List.drop_eq_getElem_cons hk,hr]
 simp [layRL,h0]
theorem layRL_bad {frm : Int} {ts : List TmL} {l : List RuL} {k : Nat} {acc : List RuL} {r : RuL} (hk : k < l.length) (hr : l[k] = r) (h0 : r.gs.length≠0) (hb : acc.length = 4096∨64 < ts.length + r.out.length) : layRL frm ts (l.drop k) acc = none:=by
 rw [List.drop_eq_getElem_cons hk,hr]
 simp only [layRL]
 rw [if_neg h0,if_pos hb]
theorem layRL_ok {frm : Int} {ts : List TmL} {l : List RuL} {k : Nat} {acc : List RuL} {r : RuL} (hk : k < l.length) (hr : l[k] = r) (h0 : r.gs.length≠0) (hb : ¬ (acc.length = 4096∨64 < ts.length + r.out.length)) : layRL frm ts (l.drop k) acc = layRL frm ts (l.drop (k + 1)) (acc ++ [wayR frm ts r]):=by
 conv=>lhs;rw [List.drop_eq_getElem_cons hk,hr]
 simp only [layRL]
 rw [if_neg h0,if_neg hb]
def LayR (X : Nat→Prop) (bs x : Nat) (ru fi : Value) (i o n s : Int) (res : Option (List RuL)) (F : List FiL) (v vf : Value) (w : World) (e : Ending) (w' : World) : Prop:=
 (res = none∧e = .returned (.bool false)∧Below x w w')∨(∃ L' v',res = some L'∧L'.length≤4096∧e = .returned (.bool true)∧FR X bs x ru fi i o n s L' F v vf v' vf w w')
def LaRel (X : Nat→Prop) (bs x : Nat) (ru fi : Value) (i o n s : Int) (frm : Int) (ts : List TmL) (rs : List RuL) (res : Option (List RuL)) (F : List FiL) (v vf : Value) (w : World) (iv : Value) (wr : World) : Prop:=
 ∃ (k : Nat) (L' : List RuL) (v' : Value),k≤rs.length∧iv = .int .i64 (k : Int)∧layRL frm ts (rs.drop k) L' = res∧L'.length≤4096∧FR X bs x ru fi i o n s L' F v vf v' vf w wr
theorem layR_any (X : Nat→Prop) (bs x gR gF N p q : Nat) (fi : Value) (i o n s : Int) (L : List RuL) (F : List FiL) (v vf : Value) (w0 wR wF w : World) (P : List (RuL × RawR)) (PF : List (FiL × RawF)) (AW : Option Addr) (cW : Nat) (ts : List TmL)
  (hS : Src w0 wR wF x bs gR gF N P PF) (hb0 : In0 w0 wR wF gR gF w) (hF : FS X bs x (.slice (some ⟨gR,0,none⟩) N N) fi i o n s L F v vf w) (hbs : bs≤w.heap.size) (hq : q < N) (hL : L.length≤4096)
  (hT : RTp (fun b=>b < x∨X b) w AW ts) (hTn : AW = none→cW = 0) (hTl : ts.length≤90000) (hTp : ∀ t∈ts,t.ps.length≤4) (hXb : ∀ b,X b→bs≤b) :
  Calls Tryz.prog 36 #[.pointer (some ⟨x,0,none⟩),.int .i64 (p : Int),.int .i64 (q : Int),.slice AW ts.length cW] w (LayR X bs x (.slice (some ⟨gR,0,none⟩) N N) fi i o n s (layRL (p : Int) ts ((pq P q).map (·.1)) L) F v vf w):=by
 have htop:=hS.top
 obtain ⟨Aq,cq,hcq0,_,hgl,hown⟩:=hS.rows.at_ hq
 rw [pq_raw] at hcq0 hown
 obtain ⟨m,hm⟩ : ∃ m,(pq P q).length = m:=⟨_,rfl⟩
 have hmb : m≤4096:=by
  have h1:=List.length_filter_le (fun z : RuL × RawR=>z.2.frm == q) P
  have h2:=hS.pl
  unfold pq at hm
  omega
 rw [List.length_map,hm] at hcq0 hown
 have hcq : w.cell? ⟨gR,q,none⟩ = some (.slice Aq m cq):=(hb0.cellR hgl).trans hcq0
 have hx0:=hF.box.at0
 obtain ⟨res,hres⟩ : ∃ res,layRL (p : Int) ts ((pq P q).map (·.1)) L = res:=⟨_,rfl⟩
 obtain ⟨nW,hnW⟩ : ∃ nW,ts.length = nW:=⟨_,rfl⟩
 have HST:=hid (show LaRel X bs x (.slice (some ⟨gR,0,none⟩) N N) fi i o n s (p : Int) ts ((pq P q).map (·.1)) res F v vf w (.int .i64 0) w from ⟨0,L,v,Nat.zero_le _,rfl,by rw [List.drop_zero];exact hres,hL,FR.start hF⟩)
 have HS:=hid hS
 have HB0:=hid hb0
 have HT:=hid hT
 have HTN:=hid hTn
 have HTP:=hid hTp
 have HM:=hid hm
 have HNW:=hid hnW
 have HOWN:=hid hown
 have HFS:=hid hF
 have HBS1:=hid hbs
 have HTOP:=hid htop
 have HXB:=hid hXb
 have i1 : (0 : Int)≤(q : Int):=Int.natCast_nonneg _
 have i2 : (q : Int) < (N : Int):=by omega
 rw [hres]
 rw [hnW] at hTl ⊢
 clear hXb hS hb0 hF hbs hL hT hTn hTp hm hown hres hnW hgl hcq0 htop
 go_enter Tryz.func36,Tryz.ntmps36
 go_wp2_with (fail)
 clear hcq hx0
 go_loopw [19] (fun iv wr=>LaRel X bs x (.slice (some ⟨gR,0,none⟩) N N) fi i o n s (p : Int) ts ((pq P q).map (·.1)) res F v vf w iv wr) (fun iv _=>m - (intOf iv).toNat)
 case atStart=>exact HST.out
 case round=>
  obtain ⟨k,L',v',hk,rfl,hres,hL',hfr⟩:=hrel
  rw [List.length_map,HM.out] at hk
  have HFR:=hid hfr
  have HRES:=hid hres
  by_cases hlt : k < m
  case neg=>
   obtain rfl : k = m:=by omega
   have HFI:=hid (show LayR X bs x (.slice (some ⟨gR,0,none⟩) N N) fi i o n s res F v vf w (.returned (.bool true)) wr from by
    rw [List.drop_eq_nil_of_le (by rw [List.length_map,HM.out];exact Nat.le_refl _)] at hres
    exact .inr ⟨L',v',hres.symm,hL',rfl,hfr⟩)
   clear hfr hres
   go_wp2_with (fail)
   go_ret
   exact HFI.out
  have hkl : k < (pq P q).length:=by rw [HM.out];exact hlt
  have hkm : k < ((pq P q).map (·.1)).length:=by rw [List.length_map];exact hkl
  have hb0r : In0 w0 wR wF gR gF wr:=HS.out.next HB0.out hfr.low (hfr.lowb HFS.out HBS1.out)
  have hownr:=ownsRow_keep HOWN.out (fun z e=>hb0r.r z (by have:=(World.ownsRow.lt HOWN.out z e).1;omega) (World.ownsRow.lt HOWN.out z e).2)
  obtain ⟨g,cap,hA,_⟩:=World.ownsRow.form hownr (by omega)
  injection hA with hA1 _ hA2
  subst hA1 hA2
  obtain ⟨pr,hpr⟩ : ∃ pr,(pq P q)[k] = pr:=⟨_,rfl⟩
  have hmem : pr∈P:=(List.mem_filter.1 (show pr∈pq P q by rw [← hpr];exact List.getElem_mem hkl)).1
  have hir:=HS.out.ir pr hmem
  obtain ⟨b0,b1,b2,b3,b4,b5⟩:=HS.out.br pr hmem
  have hnr:=HS.out.nr pr hmem
  have hcell : ∀ j,j < 5→wr.cell? ⟨g,k * 5 + j,none⟩ = (encR pr.2)[j]?:=fun j hj=>by
   rw [World.ownsRow.cellAt hownr (k * 5 + j) (by omega),flat_at encR_len ((pq P q).map (·.2)) k j (by rw [List.length_map];exact hkl) hj,List.getElem_map,hpr]
  have hrk : ((pq P q).map (·.1))[k]'hkm = pr.1:=by rw [List.getElem_map,hpr]
  obtain ⟨r,a9,t,GA,gn,gc,ea,TA,tn,tc⟩:=pr
  obtain ⟨ie0,ie1,ie2,ie3,ie4,ig,ig2,io,io2⟩:=hir
  simp only at hrk ie1 ie2 ie3 ie4 ig io b0 b1 b2 b3 b4 b5 hnr
  have d0 : wr.cell? ⟨g,k * 5,none⟩ = some (.int .i64 (a9 : Int)):=hcell 0 (by omega)
  have d1 : wr.cell? ⟨g,k * 5 + 1,none⟩ = some (.int .i64 t):=hcell 1 (by omega)
  have d2 : wr.cell? ⟨g,k * 5 + 2,none⟩ = some (.slice GA gn gc):=hcell 2 (by omega)
  have d3 : wr.cell? ⟨g,k * 5 + 3,none⟩ = some (.int .i64 ea):=hcell 3 (by omega)
  have d4 : wr.cell? ⟨g,k * 5 + 4,none⟩ = some (.slice TA tn tc):=hcell 4 (by omega)
  obtain ⟨tt,htt⟩ : ∃ tt : Nat,t = (tt : Int):=⟨t.toNat,by omega⟩
  subst htt
  rw [← ie3] at ig
  rw [← ie4] at io
  have HTO:=hid (show r.to_ = (tt : Int)∧r.eat = ea from ⟨ie1.symm,ie2.symm⟩)
  obtain ⟨nO,hnO⟩ : ∃ nO,(ts ++ r.out).length = nO:=⟨_,rfl⟩
  have HNN:=hid (show r.gs.length = gn∧(ts ++ r.out).length = nO from ⟨ie3.symm,hnO⟩)
  have HOL:=hid ie4
  have HIG:=hid ig
  have HIO:=hid io
  have HRK:=hid hrk
  have HKM:=hid hkm
  have HGU0:=hid (fun W (h : RGs W GA gn r.gs)=>show Calls Tryz.prog 50 #[.slice GA gn gc] W (GuardsOut r.gs W) from by
   have:=guards_new GA gc r.gs W (by rw [← ie3];exact h) (by omega) (fun g hg=>by have:=b3 g hg;omega)
   rw [← ie3] at this
   exact this)
  have HTE0:=hid (fun W gg (h1 : RTm W AW nW ts) (h2 : RTm W TA tn r.out) (hc0 : W.cell? ⟨gg,0,none⟩ = some (.slice AW nW cW)) (hc1 : W.cell? ⟨gg,1,none⟩ = some (.slice TA tn tc)) (hlt : gg < W.heap.size)=>show Calls Tryz.prog 51 #[.slice (some ⟨gg,0,none⟩) 2 2] W (TermsOut (ts ++ r.out) W) from
   terms_two gg 2 cW tc AW TA ts r.out W (by rw [HNW.out];exact hc0) (by rw [← ie4];exact hc1) hlt (by rw [HNW.out];exact h1) (by rw [← ie4];exact h2) (by rw [HNW.out];omega) (fun t ht=>by
    rcases List.mem_append.1 ht with z | z
    ·have:=HTP.out t z;omega
    ·have:=b5 t z;omega) HTN.out hnr)
  obtain ⟨vs6,ho6,_⟩:=hfr.fs.rules
  obtain ⟨A6,c6,hv6⟩:=own_shp ho6
  obtain ⟨nL,hnL⟩ : ∃ nL,L'.length = nL:=⟨_,rfl⟩
  have HNL:=hid hnL
  rw [hnL] at hL' hv6
  subst hv6
  obtain ⟨wb0,hwb0⟩ : ∃ wb0,wr.alloc (.cells #[.int .i64 (a9 : Int),.int .i64 (tt : Int),.slice GA gn gc,.int .i64 ea,.slice TA tn tc] 43) = wb0:=⟨_,rfl⟩
  have hbb0 : Below wr.heap.size wr wb0:=by rw [← hwb0];exact (Below.refl _ _).alloc (Nat.le_refl _) _
  have hqb0 : Blk wb0 wr.heap.size 43 #[.int .i64 (a9 : Int),.int .i64 (tt : Int),.slice GA gn gc,.int .i64 ea,.slice TA tn tc]:=by rw [← hwb0];exact heap_alloc_new wr _
  have e0:=hqb0.cell 0
  have e1:=hqb0.cell 1
  have e2:=hqb0.cell 2
  have e3:=hqb0.cell 3
  have e4:=hqb0.cell 4
  simp only [sD,sE,sF] at e0 e1 e2 e3 e4
  have HQ7:=hid hqb0
  have HB7:=hid hbb0
  have j1 : (0 : Int)≤(k : Int):=Int.natCast_nonneg _
  have j2 : (k : Int) < (m : Int):=by omega
  have HB0R:=hid hb0r
  have hgnb : gn≤4:=by omega
  have htnb : tn≤64:=by omega
  clear hfr hres hownr hcell hqb0 hbb0 hpr hmem hrk hb0r ig io ho6 hnL hnO b0 b1 b2 b3 b5 hnr b4 ie0 ie1 ie2 ie3 ie4 ig2 io2
  go_wp2_with (fail)
  refine (epsR_any a9 (tt : Int) GA gn gc ea TA tn tc wb0).mono ?_
  rintro e wb ⟨rfl,hbe⟩
  have HBR:=hid (show Below wr.heap.size wr wb from HB7.out.trans (hbe.mono HB7.out.size))
  have HQ:=hid (HQ7.out.below hbe HQ7.out.lt)
  have HRB:=hid HQ.out.lt
  have HSZ:=hid (Nat.le_of_lt HQ.out.lt)
  have HFRB:=hid (HFR.out.keep HBR.out)
  clear hbe e0 e1 e2 e3 e4 d0 d1 d2 d3 d4
  by_cases hg0 : gn = 0
  ·have HF:=hid (show LaRel X bs x (.slice (some ⟨gR,0,none⟩) N N) fi i o n s (p : Int) ts ((pq P q).map (·.1)) res F v vf w (.int .i64 ((k : Int) + 1)) wb from ⟨k + 1,L',.slice A6 nL c6,HKM.out,by go_num,by rw [← HRES.out,layRL_skip HKM.out HRK.out (by rw [HNN.out.1];exact hg0)],by rw [HNL.out];exact hL',HFRB.out⟩)
   have hge : (gn == 0) = true:=by simp [hg0]
   rw [hge]
   clear hge
   go_wp2_with (fail)
   go_roundw
   case rel=>exact HF.out
   case measure=>simp [intOf];omega
  have hge : (gn == 0) = false:=beq_eq_false_iff_ne.2 hg0
  rw [hge]
  have HG0:=hid (show r.gs.length≠0 by rw [HNN.out.1];exact hg0)
  have cx6:=HFRB.out.fs.box.at6
  have f4:=HQ.out.cell 4
  simp only [sD,sE,sF] at f4
  clear hge hg0
  by_cases hbad : nL = 4096∨64 < nW + tn
  ·have HF:=hid (show LayR X bs x (.slice (some ⟨gR,0,none⟩) N N) fi i o n s res F v vf w (.returned (.bool false)) wb from .inl ⟨by rw [← HRES.out,layRL_bad HKM.out HRK.out HG0.out (by rw [HNL.out,HNW.out,← HOL.out];exact hbad)],rfl,HFRB.out.low⟩)
   by_cases h1 : nL = 4096
   ·subst h1
    go_wp2_with (fail)
    go_ret
    exact HF.out
   ·have t1 : ((nL : Int) == 4096) = false:=beq_eq_false_iff_ne.2 (by omega)
    have t2 : decide ((64 : Int) < (nW : Int) + (tn : Int)) = true:=decide_eq_true (by omega)
    have t3 : (nW : Int) + (tn : Int)≤200000:=by omega
    clear hbad
    go_wp2_with (fail)
    go_ret
    exact HF.out
  have h1 : ¬ nL = 4096:=fun e=>hbad (.inl e)
  have h2 : nW + tn≤64:=by
   by_cases z : 64 < nW + tn
   ·exact absurd (.inr z) hbad
   ·omega
  have t1 : ((nL : Int) == 4096) = false:=beq_eq_false_iff_ne.2 (by omega)
  have t2 : decide ((64 : Int) < (nW : Int) + (tn : Int)) = false:=decide_eq_false (by omega)
  have t3 : (nW : Int) + (tn : Int)≤200000:=by omega
  have HGO:=hid (fun vz wz (h : FR X bs x (.slice (some ⟨gR,0,none⟩) N N) fi i o n s (L' ++ [wayR (p : Int) ts r]) F v vf vz vf w wz)=>show LaRel X bs x (.slice (some ⟨gR,0,none⟩) N N) fi i o n s (p : Int) ts ((pq P q).map (·.1)) res F v vf w (.int .i64 ((k : Int) + 1)) wz from ⟨k + 1,_,vz,HKM.out,by go_num,by rw [← HRES.out,layRL_ok HKM.out HRK.out HG0.out (by rw [HNL.out,HNW.out,← HOL.out];exact hbad)],by rw [List.length_append,List.length_singleton,HNL.out];omega,h⟩)
  have HTW:=hid (show RTm wr AW nW ts from by
   have hlow:=HFS.out.low
   have hown1 : ∀ g,v.ownBlock = some g→bs≤g:=fun g e=>by
    obtain ⟨vs0,h0,_⟩:=HFS.out.rules
    exact (World.ownsRow.lt h0 g e).1
   have hown2 : ∀ g,vf.ownBlock = some g→bs≤g:=fun g e=>by
    obtain ⟨vs0,h0,_⟩:=HFS.out.finals
    exact (World.ownsRow.lt h0 g e).1
   have h:=(HT.out.keep (w':=wr) ⟨HFR.out.kd.1,fun b hb hl=>HFR.out.kd.2 b hl (fun e=>by
    rcases hb with z | z
    ·omega
    ·have:=HXB.out b z;omega) (fun e=>by
    rcases hb with z | z
    ·have:=hown1 b e;omega
    ·exact HFS.out.vx b e z) (fun e=>by
    rcases hb with z | z
    ·have:=hown2 b e;omega
    ·exact HFS.out.vfx b e z)⟩ (fun b hb _=>hb)).reads
   rw [HNW.out] at h
   exact h)
  have HW0:=hid (show w0.heap.size≤wr.heap.size from HB0R.out.b0.size)
  have HGU:=hid (fun W (hb : Below wb.heap.size wb W)=>HGU0.out W (HIG.out.belowM (HB0R.out.b0.trans ((HBR.out.trans (hb.mono HSZ.out)).mono HW0.out))))
  have HTE:=hid (fun W (hb : Below wb.heap.size wb W) gg hc0 hc1 hlt=>HTE0.out W gg (HTW.out.belowM (HBR.out.trans (hb.mono HSZ.out))) (HIO.out.belowM (HB0R.out.b0.trans ((HBR.out.trans (hb.mono HSZ.out)).mono HW0.out))) hc0 hc1 hlt)
  have HBSR:=hid (show bs≤wr.heap.size by have:=HBS1.out;have:=HFR.out.kd.1;omega)
  have HXR:=hid (show x < wr.heap.size from HFR.out.fs.box.lt)
  obtain ⟨i0,hi0,hz0,hz1,hz2⟩:=info_parts infoRule
  clear hbad
  go_upto_region 7 with (fail)
  clear cx6 f4 t1 t2
  go_cut [] (fun wx=>∃ AG cG AT cT,Blk wx wr.heap.size 43 #[.int .i64 (p : Int),.int .i64 (tt : Int),.slice AG gn cG,.int .i64 ea,.slice AT nO cT]∧NewGT wb.heap.size r.gs (ts ++ r.out) AG cG AT cT wx∧Below wr.heap.size wr wx∧(AT = none→cT = 0))
  case first=>
    have hBr : Below wr.heap.size wr wb.drew:=HBR.out.drew
    have hBn : Below wb.heap.size wb wb.drew:=(Below.refl _ _).drew
    obtain ⟨wd,hwd⟩ : ∃ wd,wb.drew = wd:=⟨_,rfl⟩
    refine wp_region_held_drew (S:=fun W=>Below wr.heap.size wr W) (by kernel_rfl) hBr (fun hHeld=>?_)
    rw [hwd] at hBr hBn hHeld ⊢
    refine wpAnyH_take (i:=0) (oi:=⟨some 41,.move (.tmp 1),_,_,_,none⟩) (v:=?_) rfl (by kernel_rfl) (by kernel_rfl) (by kernel_rfl) (fun _ _ _ h=>h) (Or.inl ⟨by rfl,?_⟩) (by assumption) ?_
    rotate_left
    ·intro w' hSw
     (try dsimp only at hSw)
     go_simp
     all_goals with_reducible rfl
    try simp only [Act.put,sA,sB,sC]
    refine wpAnyH_take (i:=1) (oi:=⟨some 42,.fieldAddr 43 (.tmp 10) 2,_,_,_,none⟩) (v:=?_) rfl (by kernel_rfl) (by kernel_rfl) (by kernel_rfl) (fun _ _ _ h=>h) (Or.inl ⟨by rfl,?_⟩) (by assumption) ?_
    rotate_left
    ·intro w' hSw
     (try dsimp only at hSw)
     go_simp
     all_goals with_reducible rfl
    try simp only [Act.put,sA,sB,sC]
    refine wpAnyH_take (i:=4) (oi:=⟨some 45,.move (.tmp 3),_,_,_,none⟩) (v:=?_) rfl (by kernel_rfl) (by kernel_rfl) (by kernel_rfl) (fun _ _ _ h=>h) (Or.inl ⟨by rfl,?_⟩) (by assumption) ?_
    rotate_left
    ·intro w' hSw
     (try dsimp only at hSw)
     go_simp
     all_goals with_reducible rfl
    try simp only [Act.put,sA,sB,sC]
    refine wpAnyH_take (i:=5) (oi:=⟨some 46,.fieldAddr 43 (.tmp 10) 4,_,_,_,none⟩) (v:=?_) rfl (by kernel_rfl) (by kernel_rfl) (by kernel_rfl) (fun _ _ _ h=>h) (Or.inl ⟨by rfl,?_⟩) (by assumption) ?_
    rotate_left
    ·intro w' hSw
     (try dsimp only at hSw)
     go_simp
     all_goals with_reducible rfl
    try simp only [Act.put,sA,sB,sC]
    refine wpAnyH_ready (rs:=[2,6]) (by kernel_rfl) (by simp) ?_
    refine (AllReadyH.cons (o:=⟨some 43,.load 40 (.tmp 42),_,_,_,none⟩) rfl (fun K hK=>?_) (AllReadyH.cons (o:=⟨some 47,.load 41 (.tmp 46),_,_,_,none⟩) rfl (fun K hK=>?_) AllReadyH.nil))
    focus
     have hcl : wd.cell? ⟨wr.heap.size,2,none⟩ = some (.slice GA gn gc):=(HQ.out.below hBn HRB.out).cell 2
     go_simp
     clear hcl
     refine hK.out _ _ ?_ (fun hHeld=>?_)
     ·exact hBr
     clear hK K
     try simp only [Act.put,sA,sB,sC]
     refine wpAnyH_ready (rs:=[3,6]) (by kernel_rfl) (by simp) ?_
     refine (AllReadyH.cons (o:=⟨some 44,.call { callee:=.value (.func 50),args:=#[.tmp 43],argTypes:=#[40] },_,_,_,none⟩) rfl (fun K hK=>?_) (AllReadyH.cons (o:=⟨some 47,.load 41 (.tmp 46),_,_,_,none⟩) rfl (fun K hK=>?_) AllReadyH.nil))
     focus
      go_simp
      go_wp2_with (go_at_call 50;(with_reducible refine (HGU.out _ hBn).mono ?_);rintro eg wg ⟨vG,rfl,hrG,hbG⟩)
      have hszG:=hBn.size
      have hBr:=nextB hBr hbG (Nat.le_trans HSZ.out hBn.size)
      have hBn:=nextB hBn hbG hBn.size
      obtain ⟨AG,cG,hvG,hgp,hgl,_⟩:=RowB.far hrG
      have hgp:=rgp_keep hgp (Below.refl _ _) hszG
      rw [HNN.out.1] at hvG hgl
      subst hvG
      refine hK.out _ _ ?_ (fun hHeld=>?_)
      ·exact hBr
      clear hK K
      try simp only [Act.put,sA,sB,sC]
      refine wpAnyH_ready (rs:=[6]) (by kernel_rfl) (by simp) ?_
      refine (AllReadyH.cons (o:=⟨some 47,.load 41 (.tmp 46),_,_,_,none⟩) rfl (fun K hK=>?_) AllReadyH.nil)
      have hcl : wg.cell? ⟨wr.heap.size,4,none⟩ = some (.slice TA tn tc):=(HQ.out.below hBn HRB.out).cell 4
      go_simp
      clear hcl
      refine hK.out _ _ ?_ (fun hHeld=>?_)
      ·exact hBr
      clear hK K
      try simp only [Act.put,sA,sB,sC]
      refine wpAnyH_take (i:=9) (oi:=⟨some 50,.fieldAddr 43 (.tmp 10) 0,_,_,_,none⟩) (v:=?_) rfl (by kernel_rfl) (by kernel_rfl) (by kernel_rfl) (fun _ _ _ h=>h) (Or.inl ⟨by rfl,?_⟩) (by assumption) ?_
      rotate_left
      ·intro w' hSw
       (try dsimp only at hSw)
       go_simp
       all_goals with_reducible rfl
      try simp only [Act.put,sA,sB,sC]
      refine wpAnyH_ready (rs:=[7]) (by kernel_rfl) (by simp) ?_
      refine (AllReadyH.cons (o:=⟨some 48,.buildSlice 103 2 #[(0,.tmp 45),(1,.tmp 47)],_,_,_,none⟩) rfl (fun K hK=>?_) AllReadyH.nil)
      obtain ⟨ws,hws,hqs,hls,hbS⟩:=new_cells wg #[.slice AW nW cW,.slice TA tn tc] 41
      go_simp
      try rw [hws]
      have hBr:=nextB hBr hbS (Nat.le_trans HSZ.out hBn.size)
      have hBn:=nextB hBn hbS hBn.size
      have hgp:=rgp_keep hgp hbS (Nat.le_refl _)
      refine hK.out _ _ ?_ (fun hHeld=>?_)
      ·exact hBr
      clear hK K
      try simp only [Act.put,sA,sB,sC]
      refine wpAnyH_ready (rs:=[8]) (by kernel_rfl) (by simp) ?_
      refine (AllReadyH.cons (o:=⟨some 49,.call { callee:=.value (.func 51),args:=#[.tmp 48],argTypes:=#[103] },_,_,_,none⟩) rfl (fun K hK=>?_) AllReadyH.nil)
      go_simp
      go_wp2_with (go_at_call 51;(with_reducible refine (HTE.out _ hBn _ (hqs.cell 0) (hqs.cell 1) hls).mono ?_);rintro et wt ⟨vT,rfl,hrT,hbT⟩)
      have hszT:=hBn.size
      have hBr:=nextB hBr hbT (Nat.le_trans HSZ.out hBn.size)
      have hBn:=nextB hBn hbT hBn.size
      obtain ⟨AT,cT,hvT,htp,htl,htn⟩:=RowT.far hrT
      have HTNX:=hid htn
      clear htn
      have htp:=rtp_keep htp (Below.refl _ _) hszT
      have hgp:=rgp_keep hgp hbT (Nat.le_refl _)
      rw [HNN.out.2] at hvT htl
      subst hvT
      refine hK.out _ _ ?_ (fun hHeld=>?_)
      ·exact hBr
      clear hK K
      try simp only [Act.put,sA,sB,sC]
      obtain ⟨wl,rfl⟩ : ∃ wl : World,wl = wt:=⟨_,rfl⟩
     rotate_left 1
     focus
      have hcl : wd.cell? ⟨wr.heap.size,4,none⟩ = some (.slice TA tn tc):=(HQ.out.below hBn HRB.out).cell 4
      go_simp
      clear hcl
      refine hK.out _ _ ?_ (fun hHeld=>?_)
      ·exact hBr
      clear hK K
      try simp only [Act.put,sA,sB,sC]
      refine wpAnyH_take (i:=9) (oi:=⟨some 50,.fieldAddr 43 (.tmp 10) 0,_,_,_,none⟩) (v:=?_) rfl (by kernel_rfl) (by kernel_rfl) (by kernel_rfl) (fun _ _ _ h=>h) (Or.inl ⟨by rfl,?_⟩) (by assumption) ?_
      rotate_left
      ·intro w' hSw
       (try dsimp only at hSw)
       go_simp
       all_goals with_reducible rfl
      try simp only [Act.put,sA,sB,sC]
      refine wpAnyH_ready (rs:=[3,7]) (by kernel_rfl) (by simp) ?_
      refine (AllReadyH.cons (o:=⟨some 44,.call { callee:=.value (.func 50),args:=#[.tmp 43],argTypes:=#[40] },_,_,_,none⟩) rfl (fun K hK=>?_) (AllReadyH.cons (o:=⟨some 48,.buildSlice 103 2 #[(0,.tmp 45),(1,.tmp 47)],_,_,_,none⟩) rfl (fun K hK=>?_) AllReadyH.nil))
      focus
       go_simp
       go_wp2_with (go_at_call 50;(with_reducible refine (HGU.out _ hBn).mono ?_);rintro eg wg ⟨vG,rfl,hrG,hbG⟩)
       have hszG:=hBn.size
       have hBr:=nextB hBr hbG (Nat.le_trans HSZ.out hBn.size)
       have hBn:=nextB hBn hbG hBn.size
       obtain ⟨AG,cG,hvG,hgp,hgl,_⟩:=RowB.far hrG
       have hgp:=rgp_keep hgp (Below.refl _ _) hszG
       rw [HNN.out.1] at hvG hgl
       subst hvG
       refine hK.out _ _ ?_ (fun hHeld=>?_)
       ·exact hBr
       clear hK K
       try simp only [Act.put,sA,sB,sC]
       refine wpAnyH_ready (rs:=[7]) (by kernel_rfl) (by simp) ?_
       refine (AllReadyH.cons (o:=⟨some 48,.buildSlice 103 2 #[(0,.tmp 45),(1,.tmp 47)],_,_,_,none⟩) rfl (fun K hK=>?_) AllReadyH.nil)
       obtain ⟨ws,hws,hqs,hls,hbS⟩:=new_cells wg #[.slice AW nW cW,.slice TA tn tc] 41
       go_simp
       try rw [hws]
       have hBr:=nextB hBr hbS (Nat.le_trans HSZ.out hBn.size)
       have hBn:=nextB hBn hbS hBn.size
       have hgp:=rgp_keep hgp hbS (Nat.le_refl _)
       refine hK.out _ _ ?_ (fun hHeld=>?_)
       ·exact hBr
       clear hK K
       try simp only [Act.put,sA,sB,sC]
       refine wpAnyH_ready (rs:=[8]) (by kernel_rfl) (by simp) ?_
       refine (AllReadyH.cons (o:=⟨some 49,.call { callee:=.value (.func 51),args:=#[.tmp 48],argTypes:=#[103] },_,_,_,none⟩) rfl (fun K hK=>?_) AllReadyH.nil)
       go_simp
       go_wp2_with (go_at_call 51;(with_reducible refine (HTE.out _ hBn _ (hqs.cell 0) (hqs.cell 1) hls).mono ?_);rintro et wt ⟨vT,rfl,hrT,hbT⟩)
       have hszT:=hBn.size
       have hBr:=nextB hBr hbT (Nat.le_trans HSZ.out hBn.size)
       have hBn:=nextB hBn hbT hBn.size
       obtain ⟨AT,cT,hvT,htp,htl,htn⟩:=RowT.far hrT
       have HTNX:=hid htn
       clear htn
       have htp:=rtp_keep htp (Below.refl _ _) hszT
       have hgp:=rgp_keep hgp hbT (Nat.le_refl _)
       rw [HNN.out.2] at hvT htl
       subst hvT
       refine hK.out _ _ ?_ (fun hHeld=>?_)
       ·exact hBr
       clear hK K
       try simp only [Act.put,sA,sB,sC]
       obtain ⟨wl,rfl⟩ : ∃ wl : World,wl = wt:=⟨_,rfl⟩
      rotate_left 1
      focus
       obtain ⟨ws,hws,hqs,hls,hbS⟩:=new_cells wd #[.slice AW nW cW,.slice TA tn tc] 41
       go_simp
       try rw [hws]
       have hBr:=nextB hBr hbS (Nat.le_trans HSZ.out hBn.size)
       have hBn:=nextB hBn hbS hBn.size
       refine hK.out _ _ ?_ (fun hHeld=>?_)
       ·exact hBr
       clear hK K
       try simp only [Act.put,sA,sB,sC]
       refine wpAnyH_ready (rs:=[3]) (by kernel_rfl) (by simp) ?_
       refine (AllReadyH.cons (o:=⟨some 44,.call { callee:=.value (.func 50),args:=#[.tmp 43],argTypes:=#[40] },_,_,_,none⟩) rfl (fun K hK=>?_) AllReadyH.nil)
       go_simp
       go_wp2_with (go_at_call 50;(with_reducible refine (HGU.out _ hBn).mono ?_);rintro eg wg ⟨vG,rfl,hrG,hbG⟩)
       have hszG:=hBn.size
       have hBr:=nextB hBr hbG (Nat.le_trans HSZ.out hBn.size)
       have hBn:=nextB hBn hbG hBn.size
       obtain ⟨AG,cG,hvG,hgp,hgl,_⟩:=RowB.far hrG
       have hgp:=rgp_keep hgp (Below.refl _ _) hszG
       rw [HNN.out.1] at hvG hgl
       subst hvG
       have hqs:=hqs.below hbG hls
       have hls:=Nat.lt_of_lt_of_le hls hbG.size
       refine hK.out _ _ ?_ (fun hHeld=>?_)
       ·exact hBr
       clear hK K
       try simp only [Act.put,sA,sB,sC]
       refine wpAnyH_ready (rs:=[8]) (by kernel_rfl) (by simp) ?_
       refine (AllReadyH.cons (o:=⟨some 49,.call { callee:=.value (.func 51),args:=#[.tmp 48],argTypes:=#[103] },_,_,_,none⟩) rfl (fun K hK=>?_) AllReadyH.nil)
       go_simp
       go_wp2_with (go_at_call 51;(with_reducible refine (HTE.out _ hBn _ (hqs.cell 0) (hqs.cell 1) hls).mono ?_);rintro et wt ⟨vT,rfl,hrT,hbT⟩)
       have hszT:=hBn.size
       have hBr:=nextB hBr hbT (Nat.le_trans HSZ.out hBn.size)
       have hBn:=nextB hBn hbT hBn.size
       obtain ⟨AT,cT,hvT,htp,htl,htn⟩:=RowT.far hrT
       have HTNX:=hid htn
       clear htn
       have htp:=rtp_keep htp (Below.refl _ _) hszT
       have hgp:=rgp_keep hgp hbT (Nat.le_refl _)
       rw [HNN.out.2] at hvT htl
       subst hvT
       refine hK.out _ _ ?_ (fun hHeld=>?_)
       ·exact hBr
       clear hK K
       try simp only [Act.put,sA,sB,sC]
       obtain ⟨wl,rfl⟩ : ∃ wl : World,wl = wt:=⟨_,rfl⟩
    rotate_left 3
    focus
     have hcl : wd.cell? ⟨wr.heap.size,4,none⟩ = some (.slice TA tn tc):=(HQ.out.below hBn HRB.out).cell 4
     go_simp
     clear hcl
     refine hK.out _ _ ?_ (fun hHeld=>?_)
     ·exact hBr
     clear hK K
     try simp only [Act.put,sA,sB,sC]
     refine wpAnyH_ready (rs:=[2,7]) (by kernel_rfl) (by simp) ?_
     refine (AllReadyH.cons (o:=⟨some 43,.load 40 (.tmp 42),_,_,_,none⟩) rfl (fun K hK=>?_) (AllReadyH.cons (o:=⟨some 48,.buildSlice 103 2 #[(0,.tmp 45),(1,.tmp 47)],_,_,_,none⟩) rfl (fun K hK=>?_) AllReadyH.nil))
     focus
      have hcl : wd.cell? ⟨wr.heap.size,2,none⟩ = some (.slice GA gn gc):=(HQ.out.below hBn HRB.out).cell 2
      go_simp
      clear hcl
      refine hK.out _ _ ?_ (fun hHeld=>?_)
      ·exact hBr
      clear hK K
      try simp only [Act.put,sA,sB,sC]
      refine wpAnyH_take (i:=9) (oi:=⟨some 50,.fieldAddr 43 (.tmp 10) 0,_,_,_,none⟩) (v:=?_) rfl (by kernel_rfl) (by kernel_rfl) (by kernel_rfl) (fun _ _ _ h=>h) (Or.inl ⟨by rfl,?_⟩) (by assumption) ?_
      rotate_left
      ·intro w' hSw
       (try dsimp only at hSw)
       go_simp
       all_goals with_reducible rfl
      try simp only [Act.put,sA,sB,sC]
      refine wpAnyH_ready (rs:=[3,7]) (by kernel_rfl) (by simp) ?_
      refine (AllReadyH.cons (o:=⟨some 44,.call { callee:=.value (.func 50),args:=#[.tmp 43],argTypes:=#[40] },_,_,_,none⟩) rfl (fun K hK=>?_) (AllReadyH.cons (o:=⟨some 48,.buildSlice 103 2 #[(0,.tmp 45),(1,.tmp 47)],_,_,_,none⟩) rfl (fun K hK=>?_) AllReadyH.nil))
      focus
       go_simp
       go_wp2_with (go_at_call 50;(with_reducible refine (HGU.out _ hBn).mono ?_);rintro eg wg ⟨vG,rfl,hrG,hbG⟩)
       have hszG:=hBn.size
       have hBr:=nextB hBr hbG (Nat.le_trans HSZ.out hBn.size)
       have hBn:=nextB hBn hbG hBn.size
       obtain ⟨AG,cG,hvG,hgp,hgl,_⟩:=RowB.far hrG
       have hgp:=rgp_keep hgp (Below.refl _ _) hszG
       rw [HNN.out.1] at hvG hgl
       subst hvG
       refine hK.out _ _ ?_ (fun hHeld=>?_)
       ·exact hBr
       clear hK K
       try simp only [Act.put,sA,sB,sC]
       refine wpAnyH_ready (rs:=[7]) (by kernel_rfl) (by simp) ?_
       refine (AllReadyH.cons (o:=⟨some 48,.buildSlice 103 2 #[(0,.tmp 45),(1,.tmp 47)],_,_,_,none⟩) rfl (fun K hK=>?_) AllReadyH.nil)
       obtain ⟨ws,hws,hqs,hls,hbS⟩:=new_cells wg #[.slice AW nW cW,.slice TA tn tc] 41
       go_simp
       try rw [hws]
       have hBr:=nextB hBr hbS (Nat.le_trans HSZ.out hBn.size)
       have hBn:=nextB hBn hbS hBn.size
       have hgp:=rgp_keep hgp hbS (Nat.le_refl _)
       refine hK.out _ _ ?_ (fun hHeld=>?_)
       ·exact hBr
       clear hK K
       try simp only [Act.put,sA,sB,sC]
       refine wpAnyH_ready (rs:=[8]) (by kernel_rfl) (by simp) ?_
       refine (AllReadyH.cons (o:=⟨some 49,.call { callee:=.value (.func 51),args:=#[.tmp 48],argTypes:=#[103] },_,_,_,none⟩) rfl (fun K hK=>?_) AllReadyH.nil)
       go_simp
       go_wp2_with (go_at_call 51;(with_reducible refine (HTE.out _ hBn _ (hqs.cell 0) (hqs.cell 1) hls).mono ?_);rintro et wt ⟨vT,rfl,hrT,hbT⟩)
       have hszT:=hBn.size
       have hBr:=nextB hBr hbT (Nat.le_trans HSZ.out hBn.size)
       have hBn:=nextB hBn hbT hBn.size
       obtain ⟨AT,cT,hvT,htp,htl,htn⟩:=RowT.far hrT
       have HTNX:=hid htn
       clear htn
       have htp:=rtp_keep htp (Below.refl _ _) hszT
       have hgp:=rgp_keep hgp hbT (Nat.le_refl _)
       rw [HNN.out.2] at hvT htl
       subst hvT
       refine hK.out _ _ ?_ (fun hHeld=>?_)
       ·exact hBr
       clear hK K
       try simp only [Act.put,sA,sB,sC]
       obtain ⟨wl,rfl⟩ : ∃ wl : World,wl = wt:=⟨_,rfl⟩
      rotate_left 1
      focus
       obtain ⟨ws,hws,hqs,hls,hbS⟩:=new_cells wd #[.slice AW nW cW,.slice TA tn tc] 41
       go_simp
       try rw [hws]
       have hBr:=nextB hBr hbS (Nat.le_trans HSZ.out hBn.size)
       have hBn:=nextB hBn hbS hBn.size
       refine hK.out _ _ ?_ (fun hHeld=>?_)
       ·exact hBr
       clear hK K
       try simp only [Act.put,sA,sB,sC]
       refine wpAnyH_ready (rs:=[3]) (by kernel_rfl) (by simp) ?_
       refine (AllReadyH.cons (o:=⟨some 44,.call { callee:=.value (.func 50),args:=#[.tmp 43],argTypes:=#[40] },_,_,_,none⟩) rfl (fun K hK=>?_) AllReadyH.nil)
       go_simp
       go_wp2_with (go_at_call 50;(with_reducible refine (HGU.out _ hBn).mono ?_);rintro eg wg ⟨vG,rfl,hrG,hbG⟩)
       have hszG:=hBn.size
       have hBr:=nextB hBr hbG (Nat.le_trans HSZ.out hBn.size)
       have hBn:=nextB hBn hbG hBn.size
       obtain ⟨AG,cG,hvG,hgp,hgl,_⟩:=RowB.far hrG
       have hgp:=rgp_keep hgp (Below.refl _ _) hszG
       rw [HNN.out.1] at hvG hgl
       subst hvG
       have hqs:=hqs.below hbG hls
       have hls:=Nat.lt_of_lt_of_le hls hbG.size
       refine hK.out _ _ ?_ (fun hHeld=>?_)
       ·exact hBr
       clear hK K
       try simp only [Act.put,sA,sB,sC]
       refine wpAnyH_ready (rs:=[8]) (by kernel_rfl) (by simp) ?_
       refine (AllReadyH.cons (o:=⟨some 49,.call { callee:=.value (.func 51),args:=#[.tmp 48],argTypes:=#[103] },_,_,_,none⟩) rfl (fun K hK=>?_) AllReadyH.nil)
       go_simp
       go_wp2_with (go_at_call 51;(with_reducible refine (HTE.out _ hBn _ (hqs.cell 0) (hqs.cell 1) hls).mono ?_);rintro et wt ⟨vT,rfl,hrT,hbT⟩)
       have hszT:=hBn.size
       have hBr:=nextB hBr hbT (Nat.le_trans HSZ.out hBn.size)
       have hBn:=nextB hBn hbT hBn.size
       obtain ⟨AT,cT,hvT,htp,htl,htn⟩:=RowT.far hrT
       have HTNX:=hid htn
       clear htn
       have htp:=rtp_keep htp (Below.refl _ _) hszT
       have hgp:=rgp_keep hgp hbT (Nat.le_refl _)
       rw [HNN.out.2] at hvT htl
       subst hvT
       refine hK.out _ _ ?_ (fun hHeld=>?_)
       ·exact hBr
       clear hK K
       try simp only [Act.put,sA,sB,sC]
       obtain ⟨wl,rfl⟩ : ∃ wl : World,wl = wt:=⟨_,rfl⟩
     rotate_left 2
     focus
      obtain ⟨ws,hws,hqs,hls,hbS⟩:=new_cells wd #[.slice AW nW cW,.slice TA tn tc] 41
      go_simp
      try rw [hws]
      have hBr:=nextB hBr hbS (Nat.le_trans HSZ.out hBn.size)
      have hBn:=nextB hBn hbS hBn.size
      refine hK.out _ _ ?_ (fun hHeld=>?_)
      ·exact hBr
      clear hK K
      try simp only [Act.put,sA,sB,sC]
      refine wpAnyH_ready (rs:=[2]) (by kernel_rfl) (by simp) ?_
      refine (AllReadyH.cons (o:=⟨some 43,.load 40 (.tmp 42),_,_,_,none⟩) rfl (fun K hK=>?_) AllReadyH.nil)
      have hcl : ws.cell? ⟨wr.heap.size,2,none⟩ = some (.slice GA gn gc):=(HQ.out.below hBn HRB.out).cell 2
      go_simp
      clear hcl
      refine hK.out _ _ ?_ (fun hHeld=>?_)
      ·exact hBr
      clear hK K
      try simp only [Act.put,sA,sB,sC]
      refine wpAnyH_take (i:=9) (oi:=⟨some 50,.fieldAddr 43 (.tmp 10) 0,_,_,_,none⟩) (v:=?_) rfl (by kernel_rfl) (by kernel_rfl) (by kernel_rfl) (fun _ _ _ h=>h) (Or.inl ⟨by rfl,?_⟩) (by assumption) ?_
      rotate_left
      ·intro w' hSw
       (try dsimp only at hSw)
       go_simp
       all_goals with_reducible rfl
      try simp only [Act.put,sA,sB,sC]
      refine wpAnyH_ready (rs:=[3]) (by kernel_rfl) (by simp) ?_
      refine (AllReadyH.cons (o:=⟨some 44,.call { callee:=.value (.func 50),args:=#[.tmp 43],argTypes:=#[40] },_,_,_,none⟩) rfl (fun K hK=>?_) AllReadyH.nil)
      go_simp
      go_wp2_with (go_at_call 50;(with_reducible refine (HGU.out _ hBn).mono ?_);rintro eg wg ⟨vG,rfl,hrG,hbG⟩)
      have hszG:=hBn.size
      have hBr:=nextB hBr hbG (Nat.le_trans HSZ.out hBn.size)
      have hBn:=nextB hBn hbG hBn.size
      obtain ⟨AG,cG,hvG,hgp,hgl,_⟩:=RowB.far hrG
      have hgp:=rgp_keep hgp (Below.refl _ _) hszG
      rw [HNN.out.1] at hvG hgl
      subst hvG
      have hqs:=hqs.below hbG hls
      have hls:=Nat.lt_of_lt_of_le hls hbG.size
      refine hK.out _ _ ?_ (fun hHeld=>?_)
      ·exact hBr
      clear hK K
      try simp only [Act.put,sA,sB,sC]
      refine wpAnyH_ready (rs:=[8]) (by kernel_rfl) (by simp) ?_
      refine (AllReadyH.cons (o:=⟨some 49,.call { callee:=.value (.func 51),args:=#[.tmp 48],argTypes:=#[103] },_,_,_,none⟩) rfl (fun K hK=>?_) AllReadyH.nil)
      go_simp
      go_wp2_with (go_at_call 51;(with_reducible refine (HTE.out _ hBn _ (hqs.cell 0) (hqs.cell 1) hls).mono ?_);rintro et wt ⟨vT,rfl,hrT,hbT⟩)
      have hszT:=hBn.size
      have hBr:=nextB hBr hbT (Nat.le_trans HSZ.out hBn.size)
      have hBn:=nextB hBn hbT hBn.size
      obtain ⟨AT,cT,hvT,htp,htl,htn⟩:=RowT.far hrT
      have HTNX:=hid htn
      clear htn
      have htp:=rtp_keep htp (Below.refl _ _) hszT
      have hgp:=rgp_keep hgp hbT (Nat.le_refl _)
      rw [HNN.out.2] at hvT htl
      subst hvT
      refine hK.out _ _ ?_ (fun hHeld=>?_)
      ·exact hBr
      clear hK K
      try simp only [Act.put,sA,sB,sC]
      obtain ⟨wl,rfl⟩ : ∃ wl : World,wl = wt:=⟨_,rfl⟩
    all_goals
     have hq0:=HQ.out.below hBn HRB.out
     have hsz0:=hBn.size
     obtain ⟨wf,hwf⟩ : ∃ wf,wl.setCell ⟨wr.heap.size,0,none⟩ (.int .i64 (p : Int)) = wf:=⟨_,rfl⟩
     have hqf : Blk wf wr.heap.size 43 #[.int .i64 (p : Int),.int .i64 (tt : Int),.slice GA gn gc,.int .i64 ea,.slice TA tn tc]:=by rw [← hwf];exact hq0.set_ 0 _
     obtain ⟨wu,hwu⟩ : ∃ wu,wf.setCell ⟨wr.heap.size,2,none⟩ (.slice AG gn cG) = wu:=⟨_,rfl⟩
     have hq1 : Blk wu wr.heap.size 43 #[.int .i64 (p : Int),.int .i64 (tt : Int),.slice AG gn cG,.int .i64 ea,.slice TA tn tc]:=by rw [← hwu];exact hqf.set_ 2 _
     obtain ⟨wv,hwv⟩ : ∃ wv,wu.setCell ⟨wr.heap.size,4,none⟩ (.slice AT nO cT) = wv:=⟨_,rfl⟩
     have hq2 : Blk wv wr.heap.size 43 #[.int .i64 (p : Int),.int .i64 (tt : Int),.slice AG gn cG,.int .i64 ea,.slice AT nO cT]:=by rw [← hwv];exact hq1.set_ 4 _
     have hBf : Below wr.heap.size wr wf:=by rw [← hwf];exact hBr.setCell (Nat.le_refl _) _
     have hBu : Below wr.heap.size wr wu:=by rw [← hwu];exact hBf.setCell (Nat.le_refl _) _
     have hBv : Below wr.heap.size wr wv:=by rw [← hwv];exact hBu.setCell (Nat.le_refl _) _
     have hngt : NewGT wb.heap.size r.gs (ts ++ r.out) AG cG AT cT wv:=NewGT.keep (w:=wl) ⟨hgp,by rw [HNN.out.1];exact hgl,htp,by rw [HNN.out.2];exact htl⟩ (by rw [← hwv,← hwu,← hwf];simp) (fun b hb _=>by
      have hne : b≠wr.heap.size:=fun e=>by have:=HRB.out;omega
      rw [← hwv,heap_setCell_other wu ⟨wr.heap.size,4,none⟩ b _ hne,← hwu,heap_setCell_other wf ⟨wr.heap.size,2,none⟩ b _ hne,← hwf,heap_setCell_other wl ⟨wr.heap.size,0,none⟩ b _ hne])
     have k5 : wl.cell? ⟨wr.heap.size,0,none⟩ = some (.int .i64 (a9 : Int)):=hq0.cell 0
     have k6 : wl.frozen? ⟨wr.heap.size,0,none⟩ = false:=hq0.frozen 0
     have k1 : wf.cell? ⟨wr.heap.size,2,none⟩ = some (.slice GA gn gc):=hqf.cell 2
     have k2 : wf.frozen? ⟨wr.heap.size,2,none⟩ = false:=hqf.frozen 2
     have k3 : wu.cell? ⟨wr.heap.size,4,none⟩ = some (.slice TA tn tc):=hq1.cell 4
     have k4 : wu.frozen? ⟨wr.heap.size,4,none⟩ = false:=hq1.frozen 4
     clear hgp htp hq0 hq1 hqf
     refine wpAnyH_ready (rs:=[10]) (by kernel_rfl) (by simp) ?_
     refine (AllReadyH.cons (o:=⟨none,.store 3 (.tmp 50) (.tmp 41),_,_,_,none⟩) rfl (fun K hK=>?_) AllReadyH.nil)
     go_simp
     try rw [hwf]
     have hBr:=hBf
     refine hK.out _ _ ?_ (fun hHeld=>?_)
     ·exact hBr
     clear hK K
     try simp only [Act.put,sA,sB,sC]
     refine wpAnyH_take (i:=11) (oi:=⟨some 51,.fieldAddr 43 (.tmp 10) 2,_,_,_,none⟩) (v:=?_) rfl (by kernel_rfl) (by kernel_rfl) (by kernel_rfl) (fun _ _ _ h=>h) (Or.inl ⟨by rfl,?_⟩) (by assumption) ?_
     rotate_left
     ·intro w' hSw
      (try dsimp only at hSw)
      go_simp
      all_goals with_reducible rfl
     try simp only [Act.put,sA,sB,sC]
     refine wpAnyH_ready (rs:=[12]) (by kernel_rfl) (by simp) ?_
     refine (AllReadyH.cons (o:=⟨none,.store 40 (.tmp 51) (.tmp 44),_,_,_,none⟩) rfl (fun K hK=>?_) AllReadyH.nil)
     go_simp
     try rw [hwu]
     have hBr:=hBu
     refine hK.out _ _ ?_ (fun hHeld=>?_)
     ·exact hBr
     clear hK K
     try simp only [Act.put,sA,sB,sC]
     refine wpAnyH_take (i:=13) (oi:=⟨some 52,.fieldAddr 43 (.tmp 10) 4,_,_,_,none⟩) (v:=?_) rfl (by kernel_rfl) (by kernel_rfl) (by kernel_rfl) (fun _ _ _ h=>h) (Or.inl ⟨by rfl,?_⟩) (by assumption) ?_
     rotate_left
     ·intro w' hSw
      (try dsimp only at hSw)
      go_simp
      all_goals with_reducible rfl
     try simp only [Act.put,sA,sB,sC]
     refine wpAnyH_ready (rs:=[14]) (by kernel_rfl) (by simp) ?_
     refine (AllReadyH.cons (o:=⟨none,.store 41 (.tmp 52) (.tmp 49),_,_,_,none⟩) rfl (fun K hK=>?_) AllReadyH.nil)
     go_simp
     try rw [hwv]
     have hBr:=hBv
     refine hK.out _ _ ?_ (fun hHeld=>?_)
     ·exact hBr
     clear hK K
     try simp only [Act.put,sA,sB,sC]
     refine wpAnyH_done (by kernel_rfl) ?_ _
     go_wp2_with (fail)
     go_meet
     exact ⟨AG,cG,AT,cT,hq2,hngt,hBv,HTNX.out⟩
  case rest=>
    obtain ⟨wx,rfl⟩ : ∃ wx : World,wx = wc:=⟨_,rfl⟩
    obtain ⟨AG,cG,AT,cT,hqx,hgx,hbx,htnx⟩:=hcut
    have HTX:=hid htnx
    have HQX:=hid hqx
    have HGTX:=hid hgx
    have HBRX:=hid hbx
    have HLX:=hid (HFR.out.keep hbx)
    have hszx:=hbx.size
    have HNE:=hid (show some wr.heap.size≠(Value.slice A6 nL c6).ownBlock from fun e=>by
     obtain ⟨vs0,h0,_⟩:=HFR.out.fs.rules
     have:=(World.ownsRow.lt h0 wr.heap.size e.symm).2
     omega)
    have HNX:=hid (show some x≠(Value.slice A6 nL c6).ownBlock from fun e=>by
     obtain ⟨vs0,h0,_⟩:=HFR.out.fs.rules
     have:=(World.ownsRow.lt h0 x e.symm).1
     have:=HFR.out.fs.low
     omega)
    clear hqx hgx hbx htnx
    go_upto_region 8 with (fail)
    obtain ⟨wd,hwd⟩ : ∃ wd,wx.drew = wd:=⟨_,rfl⟩
    have hQW : Blk wd wr.heap.size 43 #[.int .i64 (p : Int),.int .i64 (tt : Int),.slice AG gn cG,.int .i64 ea,.slice AT nO cT]:=by rw [← hwd];exact HQX.out.drew
    have hBx : Below wx.heap.size wx wd:=by rw [← hwd];exact (Below.refl _ _).drew
    refine wp_region_held_drew (S:=fun W=>Blk W wr.heap.size 43 #[.int .i64 (p : Int),.int .i64 (tt : Int),.slice AG gn cG,.int .i64 ea,.slice AT nO cT]) (by kernel_rfl) (by rw [hwd];exact hQW) (fun hHeld=>?_)
    rw [hwd] at hHeld ⊢
    refine wpAnyH_take (i:=0) (oi:=⟨some 53,.move (.tmp 0),_,_,_,none⟩) (v:=?_) rfl (by kernel_rfl) (by kernel_rfl) (by kernel_rfl) (fun _ _ _ h=>h) (Or.inl ⟨by rfl,?_⟩) (by assumption) ?_
    rotate_left
    ·intro w' hSw
     (try dsimp only at hSw)
     go_simp
     all_goals with_reducible rfl
    try simp only [Act.put,sA,sB,sC]
    refine wpAnyH_take (i:=1) (oi:=⟨some 54,.move (.tmp 0),_,_,_,none⟩) (v:=?_) rfl (by kernel_rfl) (by kernel_rfl) (by kernel_rfl) (fun _ _ _ h=>h) (Or.inl ⟨by rfl,?_⟩) (by assumption) ?_
    rotate_left
    ·intro w' hSw
     (try dsimp only at hSw)
     go_simp
     all_goals with_reducible rfl
    try simp only [Act.put,sA,sB,sC]
    refine wpAnyH_take (i:=2) (oi:=⟨some 55,.nilCheck (.tmp 54),_,_,_,none⟩) (v:=?_) rfl (by kernel_rfl) (by kernel_rfl) (by kernel_rfl) (fun _ _ _ h=>h) (Or.inl ⟨by rfl,?_⟩) (by assumption) ?_
    rotate_left
    ·intro w' hSw
     (try dsimp only at hSw)
     go_simp
     all_goals with_reducible rfl
    try simp only [Act.put,sA,sB,sC]
    refine wpAnyH_take (i:=3) (oi:=⟨some 56,.fieldAddr 67 (.tmp 55) 2,_,_,_,none⟩) (v:=?_) rfl (by kernel_rfl) (by kernel_rfl) (by kernel_rfl) (fun _ _ _ h=>h) (Or.inl ⟨by rfl,?_⟩) (by assumption) ?_
    rotate_left
    ·intro w' hSw
     (try dsimp only at hSw)
     go_simp
     all_goals with_reducible rfl
    try simp only [Act.put,sA,sB,sC]
    refine wpAnyH_take (i:=4) (oi:=⟨some 57,.fieldAddr 26 (.tmp 56) 4,_,_,_,none⟩) (v:=?_) rfl (by kernel_rfl) (by kernel_rfl) (by kernel_rfl) (fun _ _ _ h=>h) (Or.inl ⟨by rfl,?_⟩) (by assumption) ?_
    rotate_left
    ·intro w' hSw
     (try dsimp only at hSw)
     go_simp
     all_goals with_reducible rfl
    try simp only [Act.put,sA,sB,sC]
    refine wpAnyH_take (i:=6) (oi:=⟨some 59,.load 43 (.tmp 10),_,_,_,none⟩) (v:=?_) rfl (by kernel_rfl) (by kernel_rfl) (by kernel_rfl) (fun _ _ _ h=>h) (Or.inl ⟨by rfl,?_⟩) (by assumption) ?_
    rotate_left
    ·intro w' hSw
     (try dsimp only at hSw)
     have l0:=hSw.cell 0
     have l1:=hSw.cell 1
     have l2:=hSw.cell 2
     have l3:=hSw.cell 3
     have l4:=hSw.cell 4
     simp only [sD,sE,sF] at l0 l1 l2 l3 l4
     go_simp
     all_goals with_reducible rfl
    try simp only [Act.put,sA,sB,sC]
    refine wpAnyH_ready (rs:=[5,7]) (by kernel_rfl) (by simp) ?_
    refine (AllReadyH.cons (o:=⟨some 58,.load 23 (.tmp 57),_,_,_,none⟩) rfl (fun K hK=>?_) (AllReadyH.cons (o:=⟨some 60,.buildSlice 23 1 #[(0,.tmp 59)],_,_,_,none⟩) rfl (fun K hK=>?_) AllReadyH.nil))
    focus
     have hcl:=((HLX.out.keep hBx).fs.box).at6
     go_simp
     clear hcl
     refine hK.out _ _ ?_ (fun hHeld=>?_)
     ·exact hQW
     clear hK K
     try simp only [Act.put,sA,sB,sC]
     refine wpAnyH_ready (rs:=[7]) (by kernel_rfl) (by simp) ?_
     refine (AllReadyH.cons (o:=⟨some 60,.buildSlice 23 1 #[(0,.tmp 59)],_,_,_,none⟩) rfl (fun K hK=>?_) AllReadyH.nil)
     obtain ⟨ws,hws,hqs,hls,hbS⟩:=new_cells wd #[.int .i64 (p : Int),.int .i64 (tt : Int),.slice AG gn cG,.int .i64 ea,.slice AT nO cT] 43
     have hQW:=hQW.below hbS hQW.lt
     have hBx:=below_nextD hBx hbS
     go_simp
     try rw [hws]
     refine hK.out _ _ ?_ (fun hHeld=>?_)
     ·exact hQW
     clear hK K
     try simp only [Act.put,sA,sB,sC]
     refine wpAnyH_ready (rs:=[8]) (by kernel_rfl) (by simp) ?_
     refine (AllReadyH.cons (o:=⟨some 61,.call { callee:=.builtin .append,args:=#[.tmp 58,.tmp 60],argTypes:=#[23,23] },_,_,_,none⟩) rfl (fun K hK=>?_) AllReadyH.nil)
     have hls2:=(HLX.out.keep hBx)
     obtain ⟨vs,hvs,_⟩:=hls2.fs.rules
     have hszW:=hBx.size
     (refine step_append_lies _ (by rfl) _ _ _ (by rfl) bs 43 i0 _ 5 72 Tryz.underlying23 hi0 hz0 hz1 hz2 rfl (by omega) (.slice A6 nL c6) nL vs (by rfl) (by rw [HNL.out] at hvs;exact hvs) ⟨wd.heap.size,0,none⟩ 1 1 [.int .i64 (p : Int),.int .i64 (tt : Int),.slice AG gn cG,.int .i64 ea,.slice AT nO cT] (by rfl) (by rfl) (World.news_of_block hqs) (by simp [Value.oneCell']) (by decide) (by simp only [maxLen];omega) (by omega) (by have:=HBSR.out;have:=HBRX.out.size;omega) _ rfl ?_;intro gg capg w9 hown9 hg9 hat hgl9)
     have hQ9:=Blk_keep hQW (hg9.block wr.heap.size hQW.lt (HNE.out))
     have hQW:=hQ9
     refine hK.out _ _ ?_ (fun hHeld=>?_)
     ·exact hQW
     clear hK K
     try simp only [Act.put,sA,sB,sC]
    rotate_left 1
    focus
     obtain ⟨ws,hws,hqs,hls,hbS⟩:=new_cells wd #[.int .i64 (p : Int),.int .i64 (tt : Int),.slice AG gn cG,.int .i64 ea,.slice AT nO cT] 43
     have hQW:=hQW.below hbS hQW.lt
     have hBx:=below_nextD hBx hbS
     go_simp
     try rw [hws]
     refine hK.out _ _ ?_ (fun hHeld=>?_)
     ·exact hQW
     clear hK K
     try simp only [Act.put,sA,sB,sC]
     refine wpAnyH_ready (rs:=[5]) (by kernel_rfl) (by simp) ?_
     refine (AllReadyH.cons (o:=⟨some 58,.load 23 (.tmp 57),_,_,_,none⟩) rfl (fun K hK=>?_) AllReadyH.nil)
     have hcl:=((HLX.out.keep hBx).fs.box).at6
     go_simp
     clear hcl
     refine hK.out _ _ ?_ (fun hHeld=>?_)
     ·exact hQW
     clear hK K
     try simp only [Act.put,sA,sB,sC]
     refine wpAnyH_ready (rs:=[8]) (by kernel_rfl) (by simp) ?_
     refine (AllReadyH.cons (o:=⟨some 61,.call { callee:=.builtin .append,args:=#[.tmp 58,.tmp 60],argTypes:=#[23,23] },_,_,_,none⟩) rfl (fun K hK=>?_) AllReadyH.nil)
     have hls2:=(HLX.out.keep hBx)
     obtain ⟨vs,hvs,_⟩:=hls2.fs.rules
     have hszW:=hBx.size
     (refine step_append_lies _ (by rfl) _ _ _ (by rfl) bs 43 i0 _ 5 72 Tryz.underlying23 hi0 hz0 hz1 hz2 rfl (by omega) (.slice A6 nL c6) nL vs (by rfl) (by rw [HNL.out] at hvs;exact hvs) ⟨wd.heap.size,0,none⟩ 1 1 [.int .i64 (p : Int),.int .i64 (tt : Int),.slice AG gn cG,.int .i64 ea,.slice AT nO cT] (by rfl) (by rfl) (World.news_of_block hqs) (by simp [Value.oneCell']) (by decide) (by simp only [maxLen];omega) (by omega) (by have:=HBSR.out;have:=HBRX.out.size;omega) _ rfl ?_;intro gg capg w9 hown9 hg9 hat hgl9)
     have hQ9:=Blk_keep hQW (hg9.block wr.heap.size hQW.lt (HNE.out))
     have hQW:=hQ9
     refine hK.out _ _ ?_ (fun hHeld=>?_)
     ·exact hQW
     clear hK K
     try simp only [Act.put,sA,sB,sC]
    all_goals
     have hdb:=hls2.fs.box.keep (hg9.block x hls2.fs.box.lt HNX.out)
     have k1:=hdb.at6
     have k2:=hdb.frozen 6
     have hnext:=frule_next (r:=wayR (p : Int) ts r) HFR.out HBS1.out (HBRX.out.trans (hBx.mono HBRX.out.size)) (Nat.le_of_lt HRB.out) (NewGT.keep HGTX.out hBx.size (fun b _ hlt=>hBx.block b hlt)) HTX.out hvs hg9 (by
      simp only [wayR]
      rw [HNN.out.1,HNN.out.2,HNL.out,HTO.out.1,HTO.out.2]
      exact hown9) hat
     rw [HNL.out] at hnext
     have HNEXT:=hid hnext
     clear hnext
     refine wpAnyH_take (i:=9) (oi:=⟨some 62,.nilCheck (.tmp 53),_,_,_,none⟩) (v:=?_) rfl (by kernel_rfl) (by kernel_rfl) (by kernel_rfl) (fun _ _ _ h=>h) (Or.inl ⟨by rfl,?_⟩) (by assumption) ?_
     rotate_left
     ·intro w' hSw
      (try dsimp only at hSw)
      go_simp
      all_goals with_reducible rfl
     try simp only [Act.put,sA,sB,sC]
     refine wpAnyH_take (i:=10) (oi:=⟨some 63,.fieldAddr 67 (.tmp 62) 2,_,_,_,none⟩) (v:=?_) rfl (by kernel_rfl) (by kernel_rfl) (by kernel_rfl) (fun _ _ _ h=>h) (Or.inl ⟨by rfl,?_⟩) (by assumption) ?_
     rotate_left
     ·intro w' hSw
      (try dsimp only at hSw)
      go_simp
      all_goals with_reducible rfl
     try simp only [Act.put,sA,sB,sC]
     refine wpAnyH_take (i:=11) (oi:=⟨some 64,.fieldAddr 26 (.tmp 63) 4,_,_,_,none⟩) (v:=?_) rfl (by kernel_rfl) (by kernel_rfl) (by kernel_rfl) (fun _ _ _ h=>h) (Or.inl ⟨by rfl,?_⟩) (by assumption) ?_
     rotate_left
     ·intro w' hSw
      (try dsimp only at hSw)
      go_simp
      all_goals with_reducible rfl
     try simp only [Act.put,sA,sB,sC]
     obtain ⟨wz,hwz⟩ : ∃ wz,w9.setCell ⟨x,6,none⟩ (.slice (some ⟨gg,0,none⟩) (nL + 1) capg) = wz:=⟨_,rfl⟩
     rw [hwz] at HNEXT
     have hQZ : Blk wz wr.heap.size 43 #[.int .i64 (p : Int),.int .i64 (tt : Int),.slice AG gn cG,.int .i64 ea,.slice AT nO cT]:=by rw [← hwz];exact Blk_keep hQW (heap_setCell_other w9 ⟨x,6,none⟩ wr.heap.size _ (show wr.heap.size≠x by have:=HXR.out;omega))
     refine wpAnyH_ready (rs:=[12]) (by kernel_rfl) (by simp) ?_
     refine (AllReadyH.cons (o:=⟨none,.store 23 (.tmp 64) (.tmp 61),_,_,_,none⟩) rfl (fun K hK=>?_) AllReadyH.nil)
     go_simp
     try rw [hwz]
     have hQW:=hQZ
     refine hK.out _ _ ?_ (fun hHeld=>?_)
     ·exact hQW
     clear hK K
     try simp only [Act.put,sA,sB,sC]
     refine wpAnyH_done (by kernel_rfl) ?_ _
     have HREL:=hid (HGO.out _ wz HNEXT.out)
     go_wp2_with (fail)
     go_roundw
     case rel=>exact HREL.out
     case measure=>simp [intOf];omega
end Go.Proofs.YtpcgaebbbioifaaGreatDoor.Ep
namespace Go.Proofs.YtpcgaebbbioifaaGreatDoor.Ep
set_option maxHeartbeats 64000000
open Go Go.RowKit Sp Pa Te Mi De Tr
open Go.Lib (hid)
theorem encF_len (x : RawF) : (encF x).length = 3:=rfl
theorem layFL_bad {frm : Int} {ts : List TmL} {l : List FiL} {k : Nat} {acc : List FiL} {r : FiL} (hk : k < l.length) (hr : l[k] = r) (hb : acc.length = 4096∨64 < ts.length + r.out.length) : layFL frm ts (l.drop k) acc = none:=by
 rw [List.drop_eq_getElem_cons hk,hr]
 simp only [layFL]
 rw [if_pos hb]
theorem layFL_ok {frm : Int} {ts : List TmL} {l : List FiL} {k : Nat} {acc : List FiL} {r : FiL} (hk : k < l.length) (hr : l[k] = r) (hb : ¬ (acc.length = 4096∨64 < ts.length + r.out.length)) : layFL frm ts (l.drop k) acc = layFL frm ts (l.drop (k + 1)) (acc ++ [wayF frm ts r]):=by
 conv=>lhs;rw [List.drop_eq_getElem_cons hk,hr]
 simp only [layFL]
 rw [if_neg hb]
def LayF (X : Nat→Prop) (bs x : Nat) (ru fi : Value) (i o n s : Int) (res : Option (List FiL)) (L : List RuL) (v vf : Value) (w : World) (e : Ending) (w' : World) : Prop:=
 (res = none∧e = .returned (.bool false)∧Below x w w')∨(∃ F' vf',res = some F'∧F'.length≤4096∧e = .returned (.bool true)∧FR X bs x ru fi i o n s L F' v vf v vf' w w')
def LbRel (X : Nat→Prop) (bs x : Nat) (ru fi : Value) (i o n s : Int) (frm : Int) (ts : List TmL) (rs : List FiL) (res : Option (List FiL)) (L : List RuL) (v vf : Value) (w : World) (iv : Value) (wr : World) : Prop:=
 ∃ (k : Nat) (L' : List FiL) (v' : Value),k≤rs.length∧iv = .int .i64 (k : Int)∧layFL frm ts (rs.drop k) L' = res∧L'.length≤4096∧FR X bs x ru fi i o n s L L' v vf v v' w wr
theorem layF_any (X : Nat→Prop) (bs x gR gF N p q : Nat) (ru : Value) (i o n s : Int) (L : List RuL) (F : List FiL) (v vf : Value) (w0 wR wF w : World) (P : List (RuL × RawR)) (PF : List (FiL × RawF)) (AW : Option Addr) (cW : Nat) (ts : List TmL)
  (hS : Src w0 wR wF x bs gR gF N P PF) (hb0 : In0 w0 wR wF gR gF w) (hF : FS X bs x ru (.slice (some ⟨gF,0,none⟩) N N) i o n s L F v vf w) (hbs : bs≤w.heap.size) (hq : q < N) (hL : F.length≤4096)
  (hT : RTp (fun b=>b < x∨X b) w AW ts) (hTn : AW = none→cW = 0) (hTl : ts.length≤90000) (hTp : ∀ t∈ts,t.ps.length≤4) (hXb : ∀ b,X b→bs≤b) :
  Calls Tryz.prog 37 #[.pointer (some ⟨x,0,none⟩),.int .i64 (p : Int),.int .i64 (q : Int),.slice AW ts.length cW] w (LayF X bs x ru (.slice (some ⟨gF,0,none⟩) N N) i o n s (layFL (p : Int) ts ((pqF PF q).map (·.1)) F) L v vf w):=by
 have htop:=hS.top
 obtain ⟨Aq,cq,hcq0,_,hgl,hown⟩:=hS.fins.at_ hq
 rw [pqF_raw] at hcq0 hown
 obtain ⟨m,hm⟩ : ∃ m,(pqF PF q).length = m:=⟨_,rfl⟩
 have hmb : m≤4096:=by
  have h1:=List.length_filter_le (fun z : FiL × RawF=>z.2.frm == q) PF
  have h2:=hS.fl
  unfold pqF at hm
  omega
 rw [List.length_map,hm] at hcq0 hown
 have hcq : w.cell? ⟨gF,q,none⟩ = some (.slice Aq m cq):=(hb0.cellF hgl).trans hcq0
 have hx0:=hF.box.at1
 obtain ⟨res,hres⟩ : ∃ res,layFL (p : Int) ts ((pqF PF q).map (·.1)) F = res:=⟨_,rfl⟩
 obtain ⟨nW,hnW⟩ : ∃ nW,ts.length = nW:=⟨_,rfl⟩
 have HST:=hid (show LbRel X bs x ru (.slice (some ⟨gF,0,none⟩) N N) i o n s (p : Int) ts ((pqF PF q).map (·.1)) res L v vf w (.int .i64 0) w from ⟨0,F,vf,Nat.zero_le _,rfl,by rw [List.drop_zero];exact hres,hL,FR.start hF⟩)
 have HS:=hid hS
 have HB0:=hid hb0
 have HT:=hid hT
 have HTN:=hid hTn
 have HTP:=hid hTp
 have HM:=hid hm
 have HNW:=hid hnW
 have HOWN:=hid hown
 have HFS:=hid hF
 have HBS1:=hid hbs
 have HTOP:=hid htop
 have HXB:=hid hXb
 have i1 : (0 : Int)≤(q : Int):=Int.natCast_nonneg _
 have i2 : (q : Int) < (N : Int):=by omega
 rw [hres]
 rw [hnW] at hTl ⊢
 clear hXb hS hb0 hF hbs hL hT hTn hTp hm hown hres hnW hgl hcq0 htop
 go_enter Tryz.func37,Tryz.ntmps37
 go_wp2_with (fail)
 clear hcq hx0
 go_loopw [19] (fun iv wr=>LbRel X bs x ru (.slice (some ⟨gF,0,none⟩) N N) i o n s (p : Int) ts ((pqF PF q).map (·.1)) res L v vf w iv wr) (fun iv _=>m - (intOf iv).toNat)
 case atStart=>exact HST.out
 case round=>
  obtain ⟨k,L',v',hk,rfl,hres,hL',hfr⟩:=hrel
  rw [List.length_map,HM.out] at hk
  have HFR:=hid hfr
  have HRES:=hid hres
  by_cases hlt : k < m
  case neg=>
   obtain rfl : k = m:=by omega
   have HFI:=hid (show LayF X bs x ru (.slice (some ⟨gF,0,none⟩) N N) i o n s res L v vf w (.returned (.bool true)) wr from by
    rw [List.drop_eq_nil_of_le (by rw [List.length_map,HM.out];exact Nat.le_refl _)] at hres
    exact .inr ⟨L',v',hres.symm,hL',rfl,hfr⟩)
   clear hfr hres
   go_wp2_with (fail)
   go_ret
   exact HFI.out
  have hkl : k < (pqF PF q).length:=by rw [HM.out];exact hlt
  have hkm : k < ((pqF PF q).map (·.1)).length:=by rw [List.length_map];exact hkl
  have hb0r : In0 w0 wR wF gR gF wr:=HS.out.next HB0.out hfr.low (hfr.lowb HFS.out HBS1.out)
  have hownr:=ownsRow_keep HOWN.out (fun z e=>hb0r.f z (by have:=(World.ownsRow.lt HOWN.out z e).1;omega) (World.ownsRow.lt HOWN.out z e).2)
  obtain ⟨g,cap,hA,_⟩:=World.ownsRow.form hownr (by omega)
  injection hA with hA1 _ hA2
  subst hA1 hA2
  obtain ⟨pr,hpr⟩ : ∃ pr,(pqF PF q)[k] = pr:=⟨_,rfl⟩
  have hmem : pr∈PF:=(List.mem_filter.1 (show pr∈pqF PF q by rw [← hpr];exact List.getElem_mem hkl)).1
  have hir:=HS.out.ifn pr hmem
  obtain ⟨b2,b3,b4,b5⟩:=HS.out.bf pr hmem
  have hnr:=HS.out.nf pr hmem
  have hcell : ∀ j,j < 3→wr.cell? ⟨g,k * 3 + j,none⟩ = (encF pr.2)[j]?:=fun j hj=>by
   rw [World.ownsRow.cellAt hownr (k * 3 + j) (by omega),flat_at encF_len ((pqF PF q).map (·.2)) k j (by rw [List.length_map];exact hkl) hj,List.getElem_map,hpr]
  have hrk : ((pqF PF q).map (·.1))[k]'hkm = pr.1:=by rw [List.getElem_map,hpr]
  obtain ⟨r,a9,GA,gn,gc,TA,tn,tc⟩:=pr
  obtain ⟨ie0,ie3,ie4,ig,ig2,io,io2⟩:=hir
  simp only at hrk ie3 ie4 ig io b2 b3 b4 b5 hnr
  have d0 : wr.cell? ⟨g,k * 3,none⟩ = some (.int .i64 (a9 : Int)):=hcell 0 (by omega)
  have d1 : wr.cell? ⟨g,k * 3 + 1,none⟩ = some (.slice GA gn gc):=hcell 1 (by omega)
  have d2 : wr.cell? ⟨g,k * 3 + 2,none⟩ = some (.slice TA tn tc):=hcell 2 (by omega)
  rw [← ie3] at ig
  rw [← ie4] at io
  obtain ⟨nO,hnO⟩ : ∃ nO,(ts ++ r.out).length = nO:=⟨_,rfl⟩
  have HNN:=hid (show r.gs.length = gn∧(ts ++ r.out).length = nO from ⟨ie3.symm,hnO⟩)
  have HOL:=hid ie4
  have HIG:=hid ig
  have HIO:=hid io
  have HRK:=hid hrk
  have HKM:=hid hkm
  have HGU0:=hid (fun W (h : RGs W GA gn r.gs)=>show Calls Tryz.prog 50 #[.slice GA gn gc] W (GuardsOut r.gs W) from by
   have:=guards_new GA gc r.gs W (by rw [← ie3];exact h) (by omega) (fun g hg=>by have:=b3 g hg;omega)
   rw [← ie3] at this
   exact this)
  have HTE0:=hid (fun W gg (h1 : RTm W AW nW ts) (h2 : RTm W TA tn r.out) (hc0 : W.cell? ⟨gg,0,none⟩ = some (.slice AW nW cW)) (hc1 : W.cell? ⟨gg,1,none⟩ = some (.slice TA tn tc)) (hlt : gg < W.heap.size)=>show Calls Tryz.prog 51 #[.slice (some ⟨gg,0,none⟩) 2 2] W (TermsOut (ts ++ r.out) W) from
   terms_two gg 2 cW tc AW TA ts r.out W (by rw [HNW.out];exact hc0) (by rw [← ie4];exact hc1) hlt (by rw [HNW.out];exact h1) (by rw [← ie4];exact h2) (by rw [HNW.out];omega) (fun t ht=>by
    rcases List.mem_append.1 ht with z | z
    ·have:=HTP.out t z;omega
    ·have:=b5 t z;omega) HTN.out hnr)
  obtain ⟨vs6,ho6,_⟩:=hfr.fs.finals
  obtain ⟨A6,c6,hv6⟩:=own_shp ho6
  obtain ⟨nL,hnL⟩ : ∃ nL,L'.length = nL:=⟨_,rfl⟩
  have HNL:=hid hnL
  rw [hnL] at hL' hv6
  subst hv6
  obtain ⟨wb,hwb⟩ : ∃ wb,wr.alloc (.cells #[.int .i64 (a9 : Int),.slice GA gn gc,.slice TA tn tc] 45) = wb:=⟨_,rfl⟩
  have hbb0 : Below wr.heap.size wr wb:=by rw [← hwb];exact (Below.refl _ _).alloc (Nat.le_refl _) _
  have hqb0 : Blk wb wr.heap.size 45 #[.int .i64 (a9 : Int),.slice GA gn gc,.slice TA tn tc]:=by rw [← hwb];exact heap_alloc_new wr _
  have e0:=hqb0.cell 0
  have e1:=hqb0.cell 1
  have e2:=hqb0.cell 2
  simp only [sD,sE,sF] at e0 e1 e2
  have HQ7:=hid hqb0
  have HB7:=hid hbb0
  have j1 : (0 : Int)≤(k : Int):=Int.natCast_nonneg _
  have j2 : (k : Int) < (m : Int):=by omega
  have HB0R:=hid hb0r
  have hgnb : gn≤4:=by omega
  have htnb : tn≤64:=by omega
  clear hfr hres hownr hcell hqb0 hbb0 hpr hmem hrk hb0r ig io ho6 hnL hnO b2 b3 b5 hnr b4 ie0 ie3 ie4 ig2 io2
  have HBR:=HB7
  have HQ:=HQ7
  have HRB:=hid HQ.out.lt
  have HSZ:=hid (Nat.le_of_lt HQ.out.lt)
  have HFRB:=hid (HFR.out.keep HBR.out)
  have cx6:=HFRB.out.fs.box.at7
  by_cases hbad : nL = 4096∨64 < nW + tn
  ·have HF:=hid (show LayF X bs x ru (.slice (some ⟨gF,0,none⟩) N N) i o n s res L v vf w (.returned (.bool false)) wb from .inl ⟨by rw [← HRES.out,layFL_bad HKM.out HRK.out (by rw [HNL.out,HNW.out,← HOL.out];exact hbad)],rfl,HFRB.out.low⟩)
   by_cases h1 : nL = 4096
   ·subst h1
    go_wp2_with (fail)
    go_ret
    exact HF.out
   ·have t1 : ((nL : Int) == 4096) = false:=beq_eq_false_iff_ne.2 (by omega)
    have t2 : decide ((64 : Int) < (nW : Int) + (tn : Int)) = true:=decide_eq_true (by omega)
    have t3 : (nW : Int) + (tn : Int)≤200000:=by omega
    clear hbad
    go_wp2_with (fail)
    go_ret
    exact HF.out
  have h1 : ¬ nL = 4096:=fun e=>hbad (.inl e)
  have h2 : nW + tn≤64:=by
   by_cases z : 64 < nW + tn
   ·exact absurd (.inr z) hbad
   ·omega
  have t1 : ((nL : Int) == 4096) = false:=beq_eq_false_iff_ne.2 (by omega)
  have t2 : decide ((64 : Int) < (nW : Int) + (tn : Int)) = false:=decide_eq_false (by omega)
  have t3 : (nW : Int) + (tn : Int)≤200000:=by omega
  have HGO:=hid (fun vz wz (h : FR X bs x ru (.slice (some ⟨gF,0,none⟩) N N) i o n s L (L' ++ [wayF (p : Int) ts r]) v vf v vz w wz)=>show LbRel X bs x ru (.slice (some ⟨gF,0,none⟩) N N) i o n s (p : Int) ts ((pqF PF q).map (·.1)) res L v vf w (.int .i64 ((k : Int) + 1)) wz from ⟨k + 1,_,vz,HKM.out,by go_num,by rw [← HRES.out,layFL_ok HKM.out HRK.out (by rw [HNL.out,HNW.out,← HOL.out];exact hbad)],by rw [List.length_append,List.length_singleton,HNL.out];omega,h⟩)
  have HTW:=hid (show RTm wr AW nW ts from by
   have hlow:=HFS.out.low
   have hown1 : ∀ g,v.ownBlock = some g→bs≤g:=fun g e=>by
    obtain ⟨vs0,h0,_⟩:=HFS.out.rules
    exact (World.ownsRow.lt h0 g e).1
   have hown2 : ∀ g,vf.ownBlock = some g→bs≤g:=fun g e=>by
    obtain ⟨vs0,h0,_⟩:=HFS.out.finals
    exact (World.ownsRow.lt h0 g e).1
   have h:=(HT.out.keep (w':=wr) ⟨HFR.out.kd.1,fun b hb hl=>HFR.out.kd.2 b hl (fun e=>by
    rcases hb with z | z
    ·omega
    ·have:=HXB.out b z;omega) (fun e=>by
    rcases hb with z | z
    ·have:=hown1 b e;omega
    ·exact HFS.out.vx b e z) (fun e=>by
    rcases hb with z | z
    ·have:=hown2 b e;omega
    ·exact HFS.out.vfx b e z)⟩ (fun b hb _=>hb)).reads
   rw [HNW.out] at h
   exact h)
  have HW0:=hid (show w0.heap.size≤wr.heap.size from HB0R.out.b0.size)
  have HGU:=hid (fun W (hb : Below wb.heap.size wb W)=>HGU0.out W (HIG.out.belowM (HB0R.out.b0.trans ((HBR.out.trans (hb.mono HSZ.out)).mono HW0.out))))
  have HTE:=hid (fun W (hb : Below wb.heap.size wb W) gg hc0 hc1 hlt=>HTE0.out W gg (HTW.out.belowM (HBR.out.trans (hb.mono HSZ.out))) (HIO.out.belowM (HB0R.out.b0.trans ((HBR.out.trans (hb.mono HSZ.out)).mono HW0.out))) hc0 hc1 hlt)
  have HBSR:=hid (show bs≤wr.heap.size by have:=HBS1.out;have:=HFR.out.kd.1;omega)
  have HXR:=hid (show x < wr.heap.size from HFR.out.fs.box.lt)
  obtain ⟨i0,hi0,hz0,hz1,hz2⟩:=info_parts infoFinal
  clear hbad
  go_upto_region 6 with (fail)
  clear cx6 e0 e1 e2 d0 d1 d2 t1 t2 hwb
  go_cut [] (fun wx=>∃ AG cG AT cT,Blk wx wr.heap.size 45 #[.int .i64 (p : Int),.slice AG gn cG,.slice AT nO cT]∧NewGT wb.heap.size r.gs (ts ++ r.out) AG cG AT cT wx∧Below wr.heap.size wr wx∧(AT = none→cT = 0))
  case first=>
    have hBr : Below wr.heap.size wr wb.drew:=HBR.out.drew
    have hBn : Below wb.heap.size wb wb.drew:=(Below.refl _ _).drew
    obtain ⟨wd,hwd⟩ : ∃ wd,wb.drew = wd:=⟨_,rfl⟩
    refine wp_region_held_drew (S:=fun W=>Below wr.heap.size wr W) (by kernel_rfl) hBr (fun hHeld=>?_)
    rw [hwd] at hBr hBn hHeld ⊢
    refine wpAnyH_take (i:=0) (oi:=⟨some 39,.move (.tmp 1),_,_,_,none⟩) (v:=?_) rfl (by kernel_rfl) (by kernel_rfl) (by kernel_rfl) (fun _ _ _ h=>h) (Or.inl ⟨by rfl,?_⟩) (by assumption) ?_
    rotate_left
    ·intro w' hSw
     (try dsimp only at hSw)
     go_simp
     all_goals with_reducible rfl
    try simp only [Act.put,sA,sB,sC]
    refine wpAnyH_take (i:=1) (oi:=⟨some 40,.fieldAddr 45 (.tmp 10) 1,_,_,_,none⟩) (v:=?_) rfl (by kernel_rfl) (by kernel_rfl) (by kernel_rfl) (fun _ _ _ h=>h) (Or.inl ⟨by rfl,?_⟩) (by assumption) ?_
    rotate_left
    ·intro w' hSw
     (try dsimp only at hSw)
     go_simp
     all_goals with_reducible rfl
    try simp only [Act.put,sA,sB,sC]
    refine wpAnyH_take (i:=4) (oi:=⟨some 43,.move (.tmp 3),_,_,_,none⟩) (v:=?_) rfl (by kernel_rfl) (by kernel_rfl) (by kernel_rfl) (fun _ _ _ h=>h) (Or.inl ⟨by rfl,?_⟩) (by assumption) ?_
    rotate_left
    ·intro w' hSw
     (try dsimp only at hSw)
     go_simp
     all_goals with_reducible rfl
    try simp only [Act.put,sA,sB,sC]
    refine wpAnyH_take (i:=5) (oi:=⟨some 44,.fieldAddr 45 (.tmp 10) 2,_,_,_,none⟩) (v:=?_) rfl (by kernel_rfl) (by kernel_rfl) (by kernel_rfl) (fun _ _ _ h=>h) (Or.inl ⟨by rfl,?_⟩) (by assumption) ?_
    rotate_left
    ·intro w' hSw
     (try dsimp only at hSw)
     go_simp
     all_goals with_reducible rfl
    try simp only [Act.put,sA,sB,sC]
    refine wpAnyH_ready (rs:=[2,6]) (by kernel_rfl) (by simp) ?_
    refine (AllReadyH.cons (o:=⟨some 41,.load 40 (.tmp 40),_,_,_,none⟩) rfl (fun K hK=>?_) (AllReadyH.cons (o:=⟨some 45,.load 41 (.tmp 44),_,_,_,none⟩) rfl (fun K hK=>?_) AllReadyH.nil))
    focus
     have hcl : wd.cell? ⟨wr.heap.size,1,none⟩ = some (.slice GA gn gc):=(HQ.out.below hBn HRB.out).cell 1
     go_simp
     clear hcl
     refine hK.out _ _ ?_ (fun hHeld=>?_)
     ·exact hBr
     clear hK K
     try simp only [Act.put,sA,sB,sC]
     refine wpAnyH_ready (rs:=[3,6]) (by kernel_rfl) (by simp) ?_
     refine (AllReadyH.cons (o:=⟨some 42,.call { callee:=.value (.func 50),args:=#[.tmp 41],argTypes:=#[40] },_,_,_,none⟩) rfl (fun K hK=>?_) (AllReadyH.cons (o:=⟨some 45,.load 41 (.tmp 44),_,_,_,none⟩) rfl (fun K hK=>?_) AllReadyH.nil))
     focus
      go_simp
      go_wp2_with (go_at_call 50;(with_reducible refine (HGU.out _ hBn).mono ?_);rintro eg wg ⟨vG,rfl,hrG,hbG⟩)
      have hszG:=hBn.size
      have hBr:=nextB hBr hbG (Nat.le_trans HSZ.out hBn.size)
      have hBn:=nextB hBn hbG hBn.size
      obtain ⟨AG,cG,hvG,hgp,hgl,_⟩:=RowB.far hrG
      have hgp:=rgp_keep hgp (Below.refl _ _) hszG
      rw [HNN.out.1] at hvG hgl
      subst hvG
      refine hK.out _ _ ?_ (fun hHeld=>?_)
      ·exact hBr
      clear hK K
      try simp only [Act.put,sA,sB,sC]
      refine wpAnyH_ready (rs:=[6]) (by kernel_rfl) (by simp) ?_
      refine (AllReadyH.cons (o:=⟨some 45,.load 41 (.tmp 44),_,_,_,none⟩) rfl (fun K hK=>?_) AllReadyH.nil)
      have hcl : wg.cell? ⟨wr.heap.size,2,none⟩ = some (.slice TA tn tc):=(HQ.out.below hBn HRB.out).cell 2
      go_simp
      clear hcl
      refine hK.out _ _ ?_ (fun hHeld=>?_)
      ·exact hBr
      clear hK K
      try simp only [Act.put,sA,sB,sC]
      refine wpAnyH_take (i:=9) (oi:=⟨some 48,.fieldAddr 45 (.tmp 10) 0,_,_,_,none⟩) (v:=?_) rfl (by kernel_rfl) (by kernel_rfl) (by kernel_rfl) (fun _ _ _ h=>h) (Or.inl ⟨by rfl,?_⟩) (by assumption) ?_
      rotate_left
      ·intro w' hSw
       (try dsimp only at hSw)
       go_simp
       all_goals with_reducible rfl
      try simp only [Act.put,sA,sB,sC]
      refine wpAnyH_ready (rs:=[7]) (by kernel_rfl) (by simp) ?_
      refine (AllReadyH.cons (o:=⟨some 46,.buildSlice 103 2 #[(0,.tmp 43),(1,.tmp 45)],_,_,_,none⟩) rfl (fun K hK=>?_) AllReadyH.nil)
      obtain ⟨ws,hws,hqs,hls,hbS⟩:=new_cells wg #[.slice AW nW cW,.slice TA tn tc] 41
      go_simp
      try rw [hws]
      have hBr:=nextB hBr hbS (Nat.le_trans HSZ.out hBn.size)
      have hBn:=nextB hBn hbS hBn.size
      have hgp:=rgp_keep hgp hbS (Nat.le_refl _)
      refine hK.out _ _ ?_ (fun hHeld=>?_)
      ·exact hBr
      clear hK K
      try simp only [Act.put,sA,sB,sC]
      refine wpAnyH_ready (rs:=[8]) (by kernel_rfl) (by simp) ?_
      refine (AllReadyH.cons (o:=⟨some 47,.call { callee:=.value (.func 51),args:=#[.tmp 46],argTypes:=#[103] },_,_,_,none⟩) rfl (fun K hK=>?_) AllReadyH.nil)
      go_simp
      go_wp2_with (go_at_call 51;(with_reducible refine (HTE.out _ hBn _ (hqs.cell 0) (hqs.cell 1) hls).mono ?_);rintro et wt ⟨vT,rfl,hrT,hbT⟩)
      have hszT:=hBn.size
      have hBr:=nextB hBr hbT (Nat.le_trans HSZ.out hBn.size)
      have hBn:=nextB hBn hbT hBn.size
      obtain ⟨AT,cT,hvT,htp,htl,htn⟩:=RowT.far hrT
      have HTNX:=hid htn
      clear htn
      have htp:=rtp_keep htp (Below.refl _ _) hszT
      have hgp:=rgp_keep hgp hbT (Nat.le_refl _)
      rw [HNN.out.2] at hvT htl
      subst hvT
      refine hK.out _ _ ?_ (fun hHeld=>?_)
      ·exact hBr
      clear hK K
      try simp only [Act.put,sA,sB,sC]
      obtain ⟨wl,rfl⟩ : ∃ wl : World,wl = wt:=⟨_,rfl⟩
     rotate_left 1
     focus
      have hcl : wd.cell? ⟨wr.heap.size,2,none⟩ = some (.slice TA tn tc):=(HQ.out.below hBn HRB.out).cell 2
      go_simp
      clear hcl
      refine hK.out _ _ ?_ (fun hHeld=>?_)
      ·exact hBr
      clear hK K
      try simp only [Act.put,sA,sB,sC]
      refine wpAnyH_take (i:=9) (oi:=⟨some 48,.fieldAddr 45 (.tmp 10) 0,_,_,_,none⟩) (v:=?_) rfl (by kernel_rfl) (by kernel_rfl) (by kernel_rfl) (fun _ _ _ h=>h) (Or.inl ⟨by rfl,?_⟩) (by assumption) ?_
      rotate_left
      ·intro w' hSw
       (try dsimp only at hSw)
       go_simp
       all_goals with_reducible rfl
      try simp only [Act.put,sA,sB,sC]
      refine wpAnyH_ready (rs:=[3,7]) (by kernel_rfl) (by simp) ?_
      refine (AllReadyH.cons (o:=⟨some 42,.call { callee:=.value (.func 50),args:=#[.tmp 41],argTypes:=#[40] },_,_,_,none⟩) rfl (fun K hK=>?_) (AllReadyH.cons (o:=⟨some 46,.buildSlice 103 2 #[(0,.tmp 43),(1,.tmp 45)],_,_,_,none⟩) rfl (fun K hK=>?_) AllReadyH.nil))
      focus
       go_simp
       go_wp2_with (go_at_call 50;(with_reducible refine (HGU.out _ hBn).mono ?_);rintro eg wg ⟨vG,rfl,hrG,hbG⟩)
       have hszG:=hBn.size
       have hBr:=nextB hBr hbG (Nat.le_trans HSZ.out hBn.size)
       have hBn:=nextB hBn hbG hBn.size
       obtain ⟨AG,cG,hvG,hgp,hgl,_⟩:=RowB.far hrG
       have hgp:=rgp_keep hgp (Below.refl _ _) hszG
       rw [HNN.out.1] at hvG hgl
       subst hvG
       refine hK.out _ _ ?_ (fun hHeld=>?_)
       ·exact hBr
       clear hK K
       try simp only [Act.put,sA,sB,sC]
       refine wpAnyH_ready (rs:=[7]) (by kernel_rfl) (by simp) ?_
       refine (AllReadyH.cons (o:=⟨some 46,.buildSlice 103 2 #[(0,.tmp 43),(1,.tmp 45)],_,_,_,none⟩) rfl (fun K hK=>?_) AllReadyH.nil)
       obtain ⟨ws,hws,hqs,hls,hbS⟩:=new_cells wg #[.slice AW nW cW,.slice TA tn tc] 41
       go_simp
       try rw [hws]
       have hBr:=nextB hBr hbS (Nat.le_trans HSZ.out hBn.size)
       have hBn:=nextB hBn hbS hBn.size
       have hgp:=rgp_keep hgp hbS (Nat.le_refl _)
       refine hK.out _ _ ?_ (fun hHeld=>?_)
       ·exact hBr
       clear hK K
       try simp only [Act.put,sA,sB,sC]
       refine wpAnyH_ready (rs:=[8]) (by kernel_rfl) (by simp) ?_
       refine (AllReadyH.cons (o:=⟨some 47,.call { callee:=.value (.func 51),args:=#[.tmp 46],argTypes:=#[103] },_,_,_,none⟩) rfl (fun K hK=>?_) AllReadyH.nil)
       go_simp
       go_wp2_with (go_at_call 51;(with_reducible refine (HTE.out _ hBn _ (hqs.cell 0) (hqs.cell 1) hls).mono ?_);rintro et wt ⟨vT,rfl,hrT,hbT⟩)
       have hszT:=hBn.size
       have hBr:=nextB hBr hbT (Nat.le_trans HSZ.out hBn.size)
       have hBn:=nextB hBn hbT hBn.size
       obtain ⟨AT,cT,hvT,htp,htl,htn⟩:=RowT.far hrT
       have HTNX:=hid htn
       clear htn
       have htp:=rtp_keep htp (Below.refl _ _) hszT
       have hgp:=rgp_keep hgp hbT (Nat.le_refl _)
       rw [HNN.out.2] at hvT htl
       subst hvT
       refine hK.out _ _ ?_ (fun hHeld=>?_)
       ·exact hBr
       clear hK K
       try simp only [Act.put,sA,sB,sC]
       obtain ⟨wl,rfl⟩ : ∃ wl : World,wl = wt:=⟨_,rfl⟩
      rotate_left 1
      focus
       obtain ⟨ws,hws,hqs,hls,hbS⟩:=new_cells wd #[.slice AW nW cW,.slice TA tn tc] 41
       go_simp
       try rw [hws]
       have hBr:=nextB hBr hbS (Nat.le_trans HSZ.out hBn.size)
       have hBn:=nextB hBn hbS hBn.size
       refine hK.out _ _ ?_ (fun hHeld=>?_)
       ·exact hBr
       clear hK K
       try simp only [Act.put,sA,sB,sC]
       refine wpAnyH_ready (rs:=[3]) (by kernel_rfl) (by simp) ?_
       refine (AllReadyH.cons (o:=⟨some 42,.call { callee:=.value (.func 50),args:=#[.tmp 41],argTypes:=#[40] },_,_,_,none⟩) rfl (fun K hK=>?_) AllReadyH.nil)
       go_simp
       go_wp2_with (go_at_call 50;(with_reducible refine (HGU.out _ hBn).mono ?_);rintro eg wg ⟨vG,rfl,hrG,hbG⟩)
       have hszG:=hBn.size
       have hBr:=nextB hBr hbG (Nat.le_trans HSZ.out hBn.size)
       have hBn:=nextB hBn hbG hBn.size
       obtain ⟨AG,cG,hvG,hgp,hgl,_⟩:=RowB.far hrG
       have hgp:=rgp_keep hgp (Below.refl _ _) hszG
       rw [HNN.out.1] at hvG hgl
       subst hvG
       have hqs:=hqs.below hbG hls
       have hls:=Nat.lt_of_lt_of_le hls hbG.size
       refine hK.out _ _ ?_ (fun hHeld=>?_)
       ·exact hBr
       clear hK K
       try simp only [Act.put,sA,sB,sC]
       refine wpAnyH_ready (rs:=[8]) (by kernel_rfl) (by simp) ?_
       refine (AllReadyH.cons (o:=⟨some 47,.call { callee:=.value (.func 51),args:=#[.tmp 46],argTypes:=#[103] },_,_,_,none⟩) rfl (fun K hK=>?_) AllReadyH.nil)
       go_simp
       go_wp2_with (go_at_call 51;(with_reducible refine (HTE.out _ hBn _ (hqs.cell 0) (hqs.cell 1) hls).mono ?_);rintro et wt ⟨vT,rfl,hrT,hbT⟩)
       have hszT:=hBn.size
       have hBr:=nextB hBr hbT (Nat.le_trans HSZ.out hBn.size)
       have hBn:=nextB hBn hbT hBn.size
       obtain ⟨AT,cT,hvT,htp,htl,htn⟩:=RowT.far hrT
       have HTNX:=hid htn
       clear htn
       have htp:=rtp_keep htp (Below.refl _ _) hszT
       have hgp:=rgp_keep hgp hbT (Nat.le_refl _)
       rw [HNN.out.2] at hvT htl
       subst hvT
       refine hK.out _ _ ?_ (fun hHeld=>?_)
       ·exact hBr
       clear hK K
       try simp only [Act.put,sA,sB,sC]
       obtain ⟨wl,rfl⟩ : ∃ wl : World,wl = wt:=⟨_,rfl⟩
    rotate_left 3
    focus
     have hcl : wd.cell? ⟨wr.heap.size,2,none⟩ = some (.slice TA tn tc):=(HQ.out.below hBn HRB.out).cell 2
     go_simp
     clear hcl
     refine hK.out _ _ ?_ (fun hHeld=>?_)
     ·exact hBr
     clear hK K
     try simp only [Act.put,sA,sB,sC]
     refine wpAnyH_ready (rs:=[2,7]) (by kernel_rfl) (by simp) ?_
     refine (AllReadyH.cons (o:=⟨some 41,.load 40 (.tmp 40),_,_,_,none⟩) rfl (fun K hK=>?_) (AllReadyH.cons (o:=⟨some 46,.buildSlice 103 2 #[(0,.tmp 43),(1,.tmp 45)],_,_,_,none⟩) rfl (fun K hK=>?_) AllReadyH.nil))
     focus
      have hcl : wd.cell? ⟨wr.heap.size,1,none⟩ = some (.slice GA gn gc):=(HQ.out.below hBn HRB.out).cell 1
      go_simp
      clear hcl
      refine hK.out _ _ ?_ (fun hHeld=>?_)
      ·exact hBr
      clear hK K
      try simp only [Act.put,sA,sB,sC]
      refine wpAnyH_take (i:=9) (oi:=⟨some 48,.fieldAddr 45 (.tmp 10) 0,_,_,_,none⟩) (v:=?_) rfl (by kernel_rfl) (by kernel_rfl) (by kernel_rfl) (fun _ _ _ h=>h) (Or.inl ⟨by rfl,?_⟩) (by assumption) ?_
      rotate_left
      ·intro w' hSw
       (try dsimp only at hSw)
       go_simp
       all_goals with_reducible rfl
      try simp only [Act.put,sA,sB,sC]
      refine wpAnyH_ready (rs:=[3,7]) (by kernel_rfl) (by simp) ?_
      refine (AllReadyH.cons (o:=⟨some 42,.call { callee:=.value (.func 50),args:=#[.tmp 41],argTypes:=#[40] },_,_,_,none⟩) rfl (fun K hK=>?_) (AllReadyH.cons (o:=⟨some 46,.buildSlice 103 2 #[(0,.tmp 43),(1,.tmp 45)],_,_,_,none⟩) rfl (fun K hK=>?_) AllReadyH.nil))
      focus
       go_simp
       go_wp2_with (go_at_call 50;(with_reducible refine (HGU.out _ hBn).mono ?_);rintro eg wg ⟨vG,rfl,hrG,hbG⟩)
       have hszG:=hBn.size
       have hBr:=nextB hBr hbG (Nat.le_trans HSZ.out hBn.size)
       have hBn:=nextB hBn hbG hBn.size
       obtain ⟨AG,cG,hvG,hgp,hgl,_⟩:=RowB.far hrG
       have hgp:=rgp_keep hgp (Below.refl _ _) hszG
       rw [HNN.out.1] at hvG hgl
       subst hvG
       refine hK.out _ _ ?_ (fun hHeld=>?_)
       ·exact hBr
       clear hK K
       try simp only [Act.put,sA,sB,sC]
       refine wpAnyH_ready (rs:=[7]) (by kernel_rfl) (by simp) ?_
       refine (AllReadyH.cons (o:=⟨some 46,.buildSlice 103 2 #[(0,.tmp 43),(1,.tmp 45)],_,_,_,none⟩) rfl (fun K hK=>?_) AllReadyH.nil)
       obtain ⟨ws,hws,hqs,hls,hbS⟩:=new_cells wg #[.slice AW nW cW,.slice TA tn tc] 41
       go_simp
       try rw [hws]
       have hBr:=nextB hBr hbS (Nat.le_trans HSZ.out hBn.size)
       have hBn:=nextB hBn hbS hBn.size
       have hgp:=rgp_keep hgp hbS (Nat.le_refl _)
       refine hK.out _ _ ?_ (fun hHeld=>?_)
       ·exact hBr
       clear hK K
       try simp only [Act.put,sA,sB,sC]
       refine wpAnyH_ready (rs:=[8]) (by kernel_rfl) (by simp) ?_
       refine (AllReadyH.cons (o:=⟨some 47,.call { callee:=.value (.func 51),args:=#[.tmp 46],argTypes:=#[103] },_,_,_,none⟩) rfl (fun K hK=>?_) AllReadyH.nil)
       go_simp
       go_wp2_with (go_at_call 51;(with_reducible refine (HTE.out _ hBn _ (hqs.cell 0) (hqs.cell 1) hls).mono ?_);rintro et wt ⟨vT,rfl,hrT,hbT⟩)
       have hszT:=hBn.size
       have hBr:=nextB hBr hbT (Nat.le_trans HSZ.out hBn.size)
       have hBn:=nextB hBn hbT hBn.size
       obtain ⟨AT,cT,hvT,htp,htl,htn⟩:=RowT.far hrT
       have HTNX:=hid htn
       clear htn
       have htp:=rtp_keep htp (Below.refl _ _) hszT
       have hgp:=rgp_keep hgp hbT (Nat.le_refl _)
       rw [HNN.out.2] at hvT htl
       subst hvT
       refine hK.out _ _ ?_ (fun hHeld=>?_)
       ·exact hBr
       clear hK K
       try simp only [Act.put,sA,sB,sC]
       obtain ⟨wl,rfl⟩ : ∃ wl : World,wl = wt:=⟨_,rfl⟩
      rotate_left 1
      focus
       obtain ⟨ws,hws,hqs,hls,hbS⟩:=new_cells wd #[.slice AW nW cW,.slice TA tn tc] 41
       go_simp
       try rw [hws]
       have hBr:=nextB hBr hbS (Nat.le_trans HSZ.out hBn.size)
       have hBn:=nextB hBn hbS hBn.size
       refine hK.out _ _ ?_ (fun hHeld=>?_)
       ·exact hBr
       clear hK K
       try simp only [Act.put,sA,sB,sC]
       refine wpAnyH_ready (rs:=[3]) (by kernel_rfl) (by simp) ?_
       refine (AllReadyH.cons (o:=⟨some 42,.call { callee:=.value (.func 50),args:=#[.tmp 41],argTypes:=#[40] },_,_,_,none⟩) rfl (fun K hK=>?_) AllReadyH.nil)
       go_simp
       go_wp2_with (go_at_call 50;(with_reducible refine (HGU.out _ hBn).mono ?_);rintro eg wg ⟨vG,rfl,hrG,hbG⟩)
       have hszG:=hBn.size
       have hBr:=nextB hBr hbG (Nat.le_trans HSZ.out hBn.size)
       have hBn:=nextB hBn hbG hBn.size
       obtain ⟨AG,cG,hvG,hgp,hgl,_⟩:=RowB.far hrG
       have hgp:=rgp_keep hgp (Below.refl _ _) hszG
       rw [HNN.out.1] at hvG hgl
       subst hvG
       have hqs:=hqs.below hbG hls
       have hls:=Nat.lt_of_lt_of_le hls hbG.size
       refine hK.out _ _ ?_ (fun hHeld=>?_)
       ·exact hBr
       clear hK K
       try simp only [Act.put,sA,sB,sC]
       refine wpAnyH_ready (rs:=[8]) (by kernel_rfl) (by simp) ?_
       refine (AllReadyH.cons (o:=⟨some 47,.call { callee:=.value (.func 51),args:=#[.tmp 46],argTypes:=#[103] },_,_,_,none⟩) rfl (fun K hK=>?_) AllReadyH.nil)
       go_simp
       go_wp2_with (go_at_call 51;(with_reducible refine (HTE.out _ hBn _ (hqs.cell 0) (hqs.cell 1) hls).mono ?_);rintro et wt ⟨vT,rfl,hrT,hbT⟩)
       have hszT:=hBn.size
       have hBr:=nextB hBr hbT (Nat.le_trans HSZ.out hBn.size)
       have hBn:=nextB hBn hbT hBn.size
       obtain ⟨AT,cT,hvT,htp,htl,htn⟩:=RowT.far hrT
       have HTNX:=hid htn
       clear htn
       have htp:=rtp_keep htp (Below.refl _ _) hszT
       have hgp:=rgp_keep hgp hbT (Nat.le_refl _)
       rw [HNN.out.2] at hvT htl
       subst hvT
       refine hK.out _ _ ?_ (fun hHeld=>?_)
       ·exact hBr
       clear hK K
       try simp only [Act.put,sA,sB,sC]
       obtain ⟨wl,rfl⟩ : ∃ wl : World,wl = wt:=⟨_,rfl⟩
     rotate_left 2
     focus
      obtain ⟨ws,hws,hqs,hls,hbS⟩:=new_cells wd #[.slice AW nW cW,.slice TA tn tc] 41
      go_simp
      try rw [hws]
      have hBr:=nextB hBr hbS (Nat.le_trans HSZ.out hBn.size)
      have hBn:=nextB hBn hbS hBn.size
      refine hK.out _ _ ?_ (fun hHeld=>?_)
      ·exact hBr
      clear hK K
      try simp only [Act.put,sA,sB,sC]
      refine wpAnyH_ready (rs:=[2]) (by kernel_rfl) (by simp) ?_
      refine (AllReadyH.cons (o:=⟨some 41,.load 40 (.tmp 40),_,_,_,none⟩) rfl (fun K hK=>?_) AllReadyH.nil)
      have hcl : ws.cell? ⟨wr.heap.size,1,none⟩ = some (.slice GA gn gc):=(HQ.out.below hBn HRB.out).cell 1
      go_simp
      clear hcl
      refine hK.out _ _ ?_ (fun hHeld=>?_)
      ·exact hBr
      clear hK K
      try simp only [Act.put,sA,sB,sC]
      refine wpAnyH_take (i:=9) (oi:=⟨some 48,.fieldAddr 45 (.tmp 10) 0,_,_,_,none⟩) (v:=?_) rfl (by kernel_rfl) (by kernel_rfl) (by kernel_rfl) (fun _ _ _ h=>h) (Or.inl ⟨by rfl,?_⟩) (by assumption) ?_
      rotate_left
      ·intro w' hSw
       (try dsimp only at hSw)
       go_simp
       all_goals with_reducible rfl
      try simp only [Act.put,sA,sB,sC]
      refine wpAnyH_ready (rs:=[3]) (by kernel_rfl) (by simp) ?_
      refine (AllReadyH.cons (o:=⟨some 42,.call { callee:=.value (.func 50),args:=#[.tmp 41],argTypes:=#[40] },_,_,_,none⟩) rfl (fun K hK=>?_) AllReadyH.nil)
      go_simp
      go_wp2_with (go_at_call 50;(with_reducible refine (HGU.out _ hBn).mono ?_);rintro eg wg ⟨vG,rfl,hrG,hbG⟩)
      have hszG:=hBn.size
      have hBr:=nextB hBr hbG (Nat.le_trans HSZ.out hBn.size)
      have hBn:=nextB hBn hbG hBn.size
      obtain ⟨AG,cG,hvG,hgp,hgl,_⟩:=RowB.far hrG
      have hgp:=rgp_keep hgp (Below.refl _ _) hszG
      rw [HNN.out.1] at hvG hgl
      subst hvG
      have hqs:=hqs.below hbG hls
      have hls:=Nat.lt_of_lt_of_le hls hbG.size
      refine hK.out _ _ ?_ (fun hHeld=>?_)
      ·exact hBr
      clear hK K
      try simp only [Act.put,sA,sB,sC]
      refine wpAnyH_ready (rs:=[8]) (by kernel_rfl) (by simp) ?_
      refine (AllReadyH.cons (o:=⟨some 47,.call { callee:=.value (.func 51),args:=#[.tmp 46],argTypes:=#[103] },_,_,_,none⟩) rfl (fun K hK=>?_) AllReadyH.nil)
      go_simp
      go_wp2_with (go_at_call 51;(with_reducible refine (HTE.out _ hBn _ (hqs.cell 0) (hqs.cell 1) hls).mono ?_);rintro et wt ⟨vT,rfl,hrT,hbT⟩)
      have hszT:=hBn.size
      have hBr:=nextB hBr hbT (Nat.le_trans HSZ.out hBn.size)
      have hBn:=nextB hBn hbT hBn.size
      obtain ⟨AT,cT,hvT,htp,htl,htn⟩:=RowT.far hrT
      have HTNX:=hid htn
      clear htn
      have htp:=rtp_keep htp (Below.refl _ _) hszT
      have hgp:=rgp_keep hgp hbT (Nat.le_refl _)
      rw [HNN.out.2] at hvT htl
      subst hvT
      refine hK.out _ _ ?_ (fun hHeld=>?_)
      ·exact hBr
      clear hK K
      try simp only [Act.put,sA,sB,sC]
      obtain ⟨wl,rfl⟩ : ∃ wl : World,wl = wt:=⟨_,rfl⟩
    all_goals
     have hq0:=HQ.out.below hBn HRB.out
     have hsz0:=hBn.size
     obtain ⟨wf,hwf⟩ : ∃ wf,wl.setCell ⟨wr.heap.size,0,none⟩ (.int .i64 (p : Int)) = wf:=⟨_,rfl⟩
     have hqf : Blk wf wr.heap.size 45 #[.int .i64 (p : Int),.slice GA gn gc,.slice TA tn tc]:=by rw [← hwf];exact hq0.set_ 0 _
     obtain ⟨wu,hwu⟩ : ∃ wu,wf.setCell ⟨wr.heap.size,1,none⟩ (.slice AG gn cG) = wu:=⟨_,rfl⟩
     have hq1 : Blk wu wr.heap.size 45 #[.int .i64 (p : Int),.slice AG gn cG,.slice TA tn tc]:=by rw [← hwu];exact hqf.set_ 1 _
     obtain ⟨wv,hwv⟩ : ∃ wv,wu.setCell ⟨wr.heap.size,2,none⟩ (.slice AT nO cT) = wv:=⟨_,rfl⟩
     have hq2 : Blk wv wr.heap.size 45 #[.int .i64 (p : Int),.slice AG gn cG,.slice AT nO cT]:=by rw [← hwv];exact hq1.set_ 2 _
     have hBf : Below wr.heap.size wr wf:=by rw [← hwf];exact hBr.setCell (Nat.le_refl _) _
     have hBu : Below wr.heap.size wr wu:=by rw [← hwu];exact hBf.setCell (Nat.le_refl _) _
     have hBv : Below wr.heap.size wr wv:=by rw [← hwv];exact hBu.setCell (Nat.le_refl _) _
     have hngt : NewGT wb.heap.size r.gs (ts ++ r.out) AG cG AT cT wv:=NewGT.keep (w:=wl) ⟨hgp,by rw [HNN.out.1];exact hgl,htp,by rw [HNN.out.2];exact htl⟩ (by rw [← hwv,← hwu,← hwf];simp) (fun b hb _=>by
      have hne : b≠wr.heap.size:=fun e=>by have:=HRB.out;omega
      rw [← hwv,heap_setCell_other wu ⟨wr.heap.size,2,none⟩ b _ hne,← hwu,heap_setCell_other wf ⟨wr.heap.size,1,none⟩ b _ hne,← hwf,heap_setCell_other wl ⟨wr.heap.size,0,none⟩ b _ hne])
     have k5 : wl.cell? ⟨wr.heap.size,0,none⟩ = some (.int .i64 (a9 : Int)):=hq0.cell 0
     have k6 : wl.frozen? ⟨wr.heap.size,0,none⟩ = false:=hq0.frozen 0
     have k1 : wf.cell? ⟨wr.heap.size,1,none⟩ = some (.slice GA gn gc):=hqf.cell 1
     have k2 : wf.frozen? ⟨wr.heap.size,1,none⟩ = false:=hqf.frozen 1
     have k3 : wu.cell? ⟨wr.heap.size,2,none⟩ = some (.slice TA tn tc):=hq1.cell 2
     have k4 : wu.frozen? ⟨wr.heap.size,2,none⟩ = false:=hq1.frozen 2
     clear hgp htp hq0 hq1 hqf
     refine wpAnyH_ready (rs:=[10]) (by kernel_rfl) (by simp) ?_
     refine (AllReadyH.cons (o:=⟨none,.store 3 (.tmp 48) (.tmp 39),_,_,_,none⟩) rfl (fun K hK=>?_) AllReadyH.nil)
     go_simp
     try rw [hwf]
     have hBr:=hBf
     refine hK.out _ _ ?_ (fun hHeld=>?_)
     ·exact hBr
     clear hK K
     try simp only [Act.put,sA,sB,sC]
     refine wpAnyH_take (i:=11) (oi:=⟨some 49,.fieldAddr 45 (.tmp 10) 1,_,_,_,none⟩) (v:=?_) rfl (by kernel_rfl) (by kernel_rfl) (by kernel_rfl) (fun _ _ _ h=>h) (Or.inl ⟨by rfl,?_⟩) (by assumption) ?_
     rotate_left
     ·intro w' hSw
      (try dsimp only at hSw)
      go_simp
      all_goals with_reducible rfl
     try simp only [Act.put,sA,sB,sC]
     refine wpAnyH_ready (rs:=[12]) (by kernel_rfl) (by simp) ?_
     refine (AllReadyH.cons (o:=⟨none,.store 40 (.tmp 49) (.tmp 42),_,_,_,none⟩) rfl (fun K hK=>?_) AllReadyH.nil)
     go_simp
     try rw [hwu]
     have hBr:=hBu
     refine hK.out _ _ ?_ (fun hHeld=>?_)
     ·exact hBr
     clear hK K
     try simp only [Act.put,sA,sB,sC]
     refine wpAnyH_take (i:=13) (oi:=⟨some 50,.fieldAddr 45 (.tmp 10) 2,_,_,_,none⟩) (v:=?_) rfl (by kernel_rfl) (by kernel_rfl) (by kernel_rfl) (fun _ _ _ h=>h) (Or.inl ⟨by rfl,?_⟩) (by assumption) ?_
     rotate_left
     ·intro w' hSw
      (try dsimp only at hSw)
      go_simp
      all_goals with_reducible rfl
     try simp only [Act.put,sA,sB,sC]
     refine wpAnyH_ready (rs:=[14]) (by kernel_rfl) (by simp) ?_
     refine (AllReadyH.cons (o:=⟨none,.store 41 (.tmp 50) (.tmp 47),_,_,_,none⟩) rfl (fun K hK=>?_) AllReadyH.nil)
     go_simp
     try rw [hwv]
     have hBr:=hBv
     refine hK.out _ _ ?_ (fun hHeld=>?_)
     ·exact hBr
     clear hK K
     try simp only [Act.put,sA,sB,sC]
     refine wpAnyH_done (by kernel_rfl) ?_ _
     go_wp2_with (fail)
     go_meet
     exact ⟨AG,cG,AT,cT,hq2,hngt,hBv,HTNX.out⟩
  case rest=>
    obtain ⟨wx,rfl⟩ : ∃ wx : World,wx = wc:=⟨_,rfl⟩
    obtain ⟨AG,cG,AT,cT,hqx,hgx,hbx,htnx⟩:=hcut
    have HTX:=hid htnx
    have HQX:=hid hqx
    have HGTX:=hid hgx
    have HBRX:=hid hbx
    have HLX:=hid (HFR.out.keep hbx)
    have hszx:=hbx.size
    have HNE:=hid (show some wr.heap.size≠(Value.slice A6 nL c6).ownBlock from fun e=>by
     obtain ⟨vs0,h0,_⟩:=HFR.out.fs.finals
     have:=(World.ownsRow.lt h0 wr.heap.size e.symm).2
     omega)
    have HNX:=hid (show some x≠(Value.slice A6 nL c6).ownBlock from fun e=>by
     obtain ⟨vs0,h0,_⟩:=HFR.out.fs.finals
     have:=(World.ownsRow.lt h0 x e.symm).1
     have:=HFR.out.fs.low
     omega)
    clear hqx hgx hbx htnx
    go_upto_region 7 with (fail)
    obtain ⟨wd,hwd⟩ : ∃ wd,wx.drew = wd:=⟨_,rfl⟩
    have hQW : Blk wd wr.heap.size 45 #[.int .i64 (p : Int),.slice AG gn cG,.slice AT nO cT]:=by rw [← hwd];exact HQX.out.drew
    have hBx : Below wx.heap.size wx wd:=by rw [← hwd];exact (Below.refl _ _).drew
    refine wp_region_held_drew (S:=fun W=>Blk W wr.heap.size 45 #[.int .i64 (p : Int),.slice AG gn cG,.slice AT nO cT]) (by kernel_rfl) (by rw [hwd];exact hQW) (fun hHeld=>?_)
    rw [hwd] at hHeld ⊢
    refine wpAnyH_take (i:=0) (oi:=⟨some 51,.move (.tmp 0),_,_,_,none⟩) (v:=?_) rfl (by kernel_rfl) (by kernel_rfl) (by kernel_rfl) (fun _ _ _ h=>h) (Or.inl ⟨by rfl,?_⟩) (by assumption) ?_
    rotate_left
    ·intro w' hSw
     (try dsimp only at hSw)
     go_simp
     all_goals with_reducible rfl
    try simp only [Act.put,sA,sB,sC]
    refine wpAnyH_take (i:=1) (oi:=⟨some 52,.move (.tmp 0),_,_,_,none⟩) (v:=?_) rfl (by kernel_rfl) (by kernel_rfl) (by kernel_rfl) (fun _ _ _ h=>h) (Or.inl ⟨by rfl,?_⟩) (by assumption) ?_
    rotate_left
    ·intro w' hSw
     (try dsimp only at hSw)
     go_simp
     all_goals with_reducible rfl
    try simp only [Act.put,sA,sB,sC]
    refine wpAnyH_take (i:=2) (oi:=⟨some 53,.nilCheck (.tmp 52),_,_,_,none⟩) (v:=?_) rfl (by kernel_rfl) (by kernel_rfl) (by kernel_rfl) (fun _ _ _ h=>h) (Or.inl ⟨by rfl,?_⟩) (by assumption) ?_
    rotate_left
    ·intro w' hSw
     (try dsimp only at hSw)
     go_simp
     all_goals with_reducible rfl
    try simp only [Act.put,sA,sB,sC]
    refine wpAnyH_take (i:=3) (oi:=⟨some 54,.fieldAddr 67 (.tmp 53) 2,_,_,_,none⟩) (v:=?_) rfl (by kernel_rfl) (by kernel_rfl) (by kernel_rfl) (fun _ _ _ h=>h) (Or.inl ⟨by rfl,?_⟩) (by assumption) ?_
    rotate_left
    ·intro w' hSw
     (try dsimp only at hSw)
     go_simp
     all_goals with_reducible rfl
    try simp only [Act.put,sA,sB,sC]
    refine wpAnyH_take (i:=4) (oi:=⟨some 55,.fieldAddr 26 (.tmp 54) 5,_,_,_,none⟩) (v:=?_) rfl (by kernel_rfl) (by kernel_rfl) (by kernel_rfl) (fun _ _ _ h=>h) (Or.inl ⟨by rfl,?_⟩) (by assumption) ?_
    rotate_left
    ·intro w' hSw
     (try dsimp only at hSw)
     go_simp
     all_goals with_reducible rfl
    try simp only [Act.put,sA,sB,sC]
    refine wpAnyH_take (i:=6) (oi:=⟨some 57,.load 45 (.tmp 10),_,_,_,none⟩) (v:=?_) rfl (by kernel_rfl) (by kernel_rfl) (by kernel_rfl) (fun _ _ _ h=>h) (Or.inl ⟨by rfl,?_⟩) (by assumption) ?_
    rotate_left
    ·intro w' hSw
     (try dsimp only at hSw)
     have l0:=hSw.cell 0
     have l1:=hSw.cell 1
     have l2:=hSw.cell 2
     simp only [sD,sE,sF] at l0 l1 l2
     go_simp
     all_goals with_reducible rfl
    try simp only [Act.put,sA,sB,sC]
    refine wpAnyH_ready (rs:=[5,7]) (by kernel_rfl) (by simp) ?_
    refine (AllReadyH.cons (o:=⟨some 56,.load 24 (.tmp 55),_,_,_,none⟩) rfl (fun K hK=>?_) (AllReadyH.cons (o:=⟨some 58,.buildSlice 24 1 #[(0,.tmp 57)],_,_,_,none⟩) rfl (fun K hK=>?_) AllReadyH.nil))
    focus
     have hcl:=((HLX.out.keep hBx).fs.box).at7
     go_simp
     clear hcl
     refine hK.out _ _ ?_ (fun hHeld=>?_)
     ·exact hQW
     clear hK K
     try simp only [Act.put,sA,sB,sC]
     refine wpAnyH_ready (rs:=[7]) (by kernel_rfl) (by simp) ?_
     refine (AllReadyH.cons (o:=⟨some 58,.buildSlice 24 1 #[(0,.tmp 57)],_,_,_,none⟩) rfl (fun K hK=>?_) AllReadyH.nil)
     obtain ⟨ws,hws,hqs,hls,hbS⟩:=new_cells wd #[.int .i64 (p : Int),.slice AG gn cG,.slice AT nO cT] 45
     have hQW:=hQW.below hbS hQW.lt
     have hBx:=below_nextD hBx hbS
     go_simp
     try rw [hws]
     refine hK.out _ _ ?_ (fun hHeld=>?_)
     ·exact hQW
     clear hK K
     try simp only [Act.put,sA,sB,sC]
     refine wpAnyH_ready (rs:=[8]) (by kernel_rfl) (by simp) ?_
     refine (AllReadyH.cons (o:=⟨some 59,.call { callee:=.builtin .append,args:=#[.tmp 56,.tmp 58],argTypes:=#[24,24] },_,_,_,none⟩) rfl (fun K hK=>?_) AllReadyH.nil)
     have hls2:=(HLX.out.keep hBx)
     obtain ⟨vs,hvs,_⟩:=hls2.fs.finals
     have hszW:=hBx.size
     (refine step_append_lies _ (by rfl) _ _ _ (by rfl) bs 45 i0 _ 3 56 Tryz.underlying24 hi0 hz0 hz1 hz2 rfl (by omega) (.slice A6 nL c6) nL vs (by rfl) (by rw [HNL.out] at hvs;exact hvs) ⟨wd.heap.size,0,none⟩ 1 1 [.int .i64 (p : Int),.slice AG gn cG,.slice AT nO cT] (by rfl) (by rfl) (World.news_of_block hqs) (by simp [Value.oneCell']) (by decide) (by simp only [maxLen];omega) (by omega) (by have:=HBSR.out;have:=HBRX.out.size;omega) _ rfl ?_;intro gg capg w9 hown9 hg9 hat hgl9)
     have hQ9:=Blk_keep hQW (hg9.block wr.heap.size hQW.lt (HNE.out))
     have hQW:=hQ9
     refine hK.out _ _ ?_ (fun hHeld=>?_)
     ·exact hQW
     clear hK K
     try simp only [Act.put,sA,sB,sC]
    rotate_left 1
    focus
     obtain ⟨ws,hws,hqs,hls,hbS⟩:=new_cells wd #[.int .i64 (p : Int),.slice AG gn cG,.slice AT nO cT] 45
     have hQW:=hQW.below hbS hQW.lt
     have hBx:=below_nextD hBx hbS
     go_simp
     try rw [hws]
     refine hK.out _ _ ?_ (fun hHeld=>?_)
     ·exact hQW
     clear hK K
     try simp only [Act.put,sA,sB,sC]
     refine wpAnyH_ready (rs:=[5]) (by kernel_rfl) (by simp) ?_
     refine (AllReadyH.cons (o:=⟨some 56,.load 24 (.tmp 55),_,_,_,none⟩) rfl (fun K hK=>?_) AllReadyH.nil)
     have hcl:=((HLX.out.keep hBx).fs.box).at7
     go_simp
     clear hcl
     refine hK.out _ _ ?_ (fun hHeld=>?_)
     ·exact hQW
     clear hK K
     try simp only [Act.put,sA,sB,sC]
     refine wpAnyH_ready (rs:=[8]) (by kernel_rfl) (by simp) ?_
     refine (AllReadyH.cons (o:=⟨some 59,.call { callee:=.builtin .append,args:=#[.tmp 56,.tmp 58],argTypes:=#[24,24] },_,_,_,none⟩) rfl (fun K hK=>?_) AllReadyH.nil)
     have hls2:=(HLX.out.keep hBx)
     obtain ⟨vs,hvs,_⟩:=hls2.fs.finals
     have hszW:=hBx.size
     (refine step_append_lies _ (by rfl) _ _ _ (by rfl) bs 45 i0 _ 3 56 Tryz.underlying24 hi0 hz0 hz1 hz2 rfl (by omega) (.slice A6 nL c6) nL vs (by rfl) (by rw [HNL.out] at hvs;exact hvs) ⟨wd.heap.size,0,none⟩ 1 1 [.int .i64 (p : Int),.slice AG gn cG,.slice AT nO cT] (by rfl) (by rfl) (World.news_of_block hqs) (by simp [Value.oneCell']) (by decide) (by simp only [maxLen];omega) (by omega) (by have:=HBSR.out;have:=HBRX.out.size;omega) _ rfl ?_;intro gg capg w9 hown9 hg9 hat hgl9)
     have hQ9:=Blk_keep hQW (hg9.block wr.heap.size hQW.lt (HNE.out))
     have hQW:=hQ9
     refine hK.out _ _ ?_ (fun hHeld=>?_)
     ·exact hQW
     clear hK K
     try simp only [Act.put,sA,sB,sC]
    all_goals
     have hdb:=hls2.fs.box.keep (hg9.block x hls2.fs.box.lt HNX.out)
     have k1:=hdb.at7
     have k2:=hdb.frozen 7
     have hnext:=ffinal_next (f:=wayF (p : Int) ts r) HFR.out HBS1.out (HBRX.out.trans (hBx.mono HBRX.out.size)) (Nat.le_of_lt HRB.out) (NewGT.keep HGTX.out hBx.size (fun b _ hlt=>hBx.block b hlt)) HTX.out hvs hg9 (by
      simp only [wayF]
      rw [HNN.out.1,HNN.out.2,HNL.out]
      exact hown9) hat
     rw [HNL.out] at hnext
     have HNEXT:=hid hnext
     clear hnext
     refine wpAnyH_take (i:=9) (oi:=⟨some 60,.nilCheck (.tmp 51),_,_,_,none⟩) (v:=?_) rfl (by kernel_rfl) (by kernel_rfl) (by kernel_rfl) (fun _ _ _ h=>h) (Or.inl ⟨by rfl,?_⟩) (by assumption) ?_
     rotate_left
     ·intro w' hSw
      (try dsimp only at hSw)
      go_simp
      all_goals with_reducible rfl
     try simp only [Act.put,sA,sB,sC]
     refine wpAnyH_take (i:=10) (oi:=⟨some 61,.fieldAddr 67 (.tmp 60) 2,_,_,_,none⟩) (v:=?_) rfl (by kernel_rfl) (by kernel_rfl) (by kernel_rfl) (fun _ _ _ h=>h) (Or.inl ⟨by rfl,?_⟩) (by assumption) ?_
     rotate_left
     ·intro w' hSw
      (try dsimp only at hSw)
      go_simp
      all_goals with_reducible rfl
     try simp only [Act.put,sA,sB,sC]
     refine wpAnyH_take (i:=11) (oi:=⟨some 62,.fieldAddr 26 (.tmp 61) 5,_,_,_,none⟩) (v:=?_) rfl (by kernel_rfl) (by kernel_rfl) (by kernel_rfl) (fun _ _ _ h=>h) (Or.inl ⟨by rfl,?_⟩) (by assumption) ?_
     rotate_left
     ·intro w' hSw
      (try dsimp only at hSw)
      go_simp
      all_goals with_reducible rfl
     try simp only [Act.put,sA,sB,sC]
     obtain ⟨wz,hwz⟩ : ∃ wz,w9.setCell ⟨x,7,none⟩ (.slice (some ⟨gg,0,none⟩) (nL + 1) capg) = wz:=⟨_,rfl⟩
     rw [hwz] at HNEXT
     have hQZ : Blk wz wr.heap.size 45 #[.int .i64 (p : Int),.slice AG gn cG,.slice AT nO cT]:=by rw [← hwz];exact Blk_keep hQW (heap_setCell_other w9 ⟨x,7,none⟩ wr.heap.size _ (show wr.heap.size≠x by have:=HXR.out;omega))
     refine wpAnyH_ready (rs:=[12]) (by kernel_rfl) (by simp) ?_
     refine (AllReadyH.cons (o:=⟨none,.store 24 (.tmp 62) (.tmp 59),_,_,_,none⟩) rfl (fun K hK=>?_) AllReadyH.nil)
     go_simp
     try rw [hwz]
     have hQW:=hQZ
     refine hK.out _ _ ?_ (fun hHeld=>?_)
     ·exact hQW
     clear hK K
     try simp only [Act.put,sA,sB,sC]
     refine wpAnyH_done (by kernel_rfl) ?_ _
     have HREL:=hid (HGO.out _ wz HNEXT.out)
     go_wp2_with (fail)
     go_roundw
     case rel=>exact HREL.out
     case measure=>simp [intOf];omega
end Go.Proofs.YtpcgaebbbioifaaGreatDoor.Ep
namespace Go.Proofs.YtpcgaebbbioifaaGreatDoor.Ep
open Go Go.RowKit
variable {P : Program} {w : World}
theorem run_append_keep (t ty : TypeId) (base : Nat) (e : TypeId) (i : TypeInfo) (z : Value) (size bytes : Nat) (ht : P.underlying t = some (.slice e)) (hi : P.info? e = some i) (hz : i.zero = some z)
  (hsize : i.size = size) (hby : i.bytes = bytes) (hzs : z.cells.size = size) (hsz : 0 < size)
  (v : Value) (n : Nat) (xs : List Value) (hown : w.ownsRow base e size v n xs)
  (a : Addr) (m c : Nat) (news : List Value) (hl : news.length = m * size) (hnews : ∀ j u,news[j]? = some u→w.cell? (a.add j) = some u) (h1 : ∀ u∈news,u.oneCell' = true)
  (h63 : n + m≤maxLen) (hbytes : (n + m) * bytes≤140737488355328) (hbase : base≤w.heap.size) :
  ∃ v' w',(Builtin.append_ #[t,t] ty #[v,.slice (some a) m c]).run P w = .ok v' w'∧w'.ownsRow base e size v' (n + m) (xs ++ news)∧w.grownBy w' v.ownBlock ∧
   (v'.ownBlock = v.ownBlock∨v'.ownBlock = some w.heap.size)∧w'.ownsRow base e size v n xs:=by
 obtain ⟨v',w',hr,h2,h3,_,h5⟩:=run_append_own_at (P:=P) w base t ty e i z size bytes ht hi hz hsize hby hzs hsz v n xs hown a m c news hl hnews h1 h63 hbytes hbase
 refine ⟨v',w',hr,h2,h3,h5,?_⟩
 subst hsize
 subst hby
 have hsmall : n + m≤9223372036854775807:=by simp only [maxLen] at h63;omega
 have hown0:=hown
 rcases hown.2 with ⟨rfl,rfl⟩ | ⟨g,cap,cur,rfl,hbg,hg,hnc,hcm,hcs,htake⟩
 ·have hx : xs = []:=List.eq_nil_of_length_eq_zero (by simpa using hown.1)
  subst hx
  exact World.ownsRow_nil _ _ _ _
 ·by_cases hroom : n + m≤cap
  ·have hfit : n * i.size + news.length≤cur.size:=by rw [hl,hcs,← Nat.add_mul];exact Nat.mul_le_mul_right _ hroom
   have hr2:=run_append_room (P:=P) w t ty e i ht hi g n cap cur hg a m c news hl hnews h1 hroom hfit
   rw [hr] at hr2
   injection hr2 with _ e2
   subst e2
   refine ⟨hown.1,.inr ⟨g,cap,_,rfl,hbg,setRow_heap w g cur _ e _ hg,hnc,hcm,?_,?_⟩⟩
   ·simp only [List.size_toArray,List.length_append,List.length_take,List.length_drop,Array.length_toList]
    omega
   ·rw [htake]
    show ((xs ++ news) ++ _).take _ = xs
    rw [List.append_assoc,← hown.1]
    exact List.take_left
  ·have holds : ∀ j u,xs[j]? = some u→w.cell? ((⟨g,0,none⟩ : Addr).add j) = some u:=hown.cells (g:=g) rfl
   have hr2:=run_append_grow (P:=P) w t ty e i z ht hi hz ⟨g,0,none⟩ n cap xs hown.1 holds a m c news hl hnews (by omega) (by omega) (growslice_fits (by omega) hbytes)
   rw [hr] at hr2
   injection hr2 with _ e2
   subst e2
   refine ⟨hown.1,.inr ⟨g,cap,cur,rfl,hbg,?_,hnc,hcm,hcs,htake⟩⟩
   have hlt : g < w.heap.size:=by
    rcases Nat.lt_or_ge g w.heap.size with k | k
    ·exact k
    ·rw [Array.getElem?_eq_none k] at hg
     cases hg
   rw [heap_alloc_old w.drew _ hlt]
   exact hg
theorem step_append_keep {o : Oper} {a : Act} {K : Act→World→Prop} {Q : Exit→Act→World→Prop} (s x : Operand) (t : TypeId)
  (ho : o.op = .call { callee:=.builtin .append,args:=#[s,x],argTypes:=#[t,t] })
  (base : Nat) (e : TypeId) (i : TypeInfo) (z : Value) (size bytes : Nat) (ht : P.underlying t = some (.slice e)) (hi : P.info? e = some i) (hz : i.zero = some z)
  (hsize : i.size = size) (hby : i.bytes = bytes) (hzs : z.cells.size = size) (hsz : 0 < size)
  (v : Value) (n : Nat) (xs : List Value) (hs : a.eval s = v) (hown : w.ownsRow base e size v n xs)
  (ad : Addr) (m c : Nat) (news : List Value) (hx : a.eval x = .slice (some ad) m c) (hl : news.length = m * size) (hnews : ∀ j u,news[j]? = some u→w.cell? (ad.add j) = some u) (h1 : ∀ u∈news,u.oneCell' = true)
  (h63 : n + m≤maxLen) (hbytes : (n + m) * bytes≤140737488355328) (hbase : base≤w.heap.size)
  (h : ∀ v' w',w'.ownsRow base e size v' (n + m) (xs ++ news)→w.grownBy w' v.ownBlock→(v'.ownBlock = v.ownBlock∨v'.ownBlock = some w.heap.size)→w'.ownsRow base e size v n xs→K (a.put o.dst v') w') : Oper.wp P o a w K Q:=by
 obtain ⟨v',w',hr,h2,h3,h4,h5⟩:=run_append_keep (P:=P) (w:=w) t o.type base e i z size bytes ht hi hz hsize hby hzs hsz v n xs hown ad m c news hl hnews h1 h63 hbytes hbase
 unfold Oper.wp execOp
 simp only [ho,resolve,invoke,builtin,Sem.run_bind,Sem.run_pure,Result.andThen_ok,List.map_toArray,List.map_cons,List.map_nil,hs,hx,hr]
 exact h v' w' h2 h3 h4 h5
theorem own_prefix {w1 w2 : World} {base : Nat} {e : TypeId} {size : Nat} {v v' : Value} {n m : Nat} {xs news : List Value} (hsz : 0 < size) (h : w1.ownsRow base e size v n xs) (h' : w1.ownsRow base e size v' (n + m) (xs ++ news)) (h2 : w2.ownsRow base e size v' (n + m) (xs ++ news)) (hb : v'.ownBlock = v.ownBlock) : w2.ownsRow base e size v n xs:=by
 rcases h.2 with ⟨rfl,rfl⟩ | ⟨g,cap,cur,rfl,hbg,hg,hnc,hcm,hcs,htake⟩
 ·have hx : xs = []:=List.eq_nil_of_length_eq_zero (by simpa using h.1)
  subst hx
  exact World.ownsRow_nil _ _ _ _
 ·rcases h'.2 with ⟨rfl,_⟩ | ⟨g',cap',cur',rfl,_,hg',_,_,hcs',_⟩
  ·simp [Value.ownBlock] at hb
  ·have e1 : g' = g:=by simpa [Value.ownBlock] using hb
   subst e1
   rw [hg] at hg'
   injection hg' with e2
   injection e2 with e3
   subst e3
   have ecap : cap' = cap:=by
    have : cap' * size = cap * size:=by omega
    exact Nat.eq_of_mul_eq_mul_right hsz this
   subst ecap
   rcases h2.2 with ⟨e4,_⟩ | ⟨g2,cap2,cur2,e4,_,hg2,_,_,hcs2,htake2⟩
   ·cases e4
   ·injection e4 with e5 _ e6
    injection e5 with e5
    injection e5 with e5
    subst e5 e6
    refine ⟨h.1,.inr ⟨_,_,cur2,rfl,hbg,hg2,hnc,hcm,hcs2,?_⟩⟩
    have e7 : cur2.toList.take (n * size) = ((cur2.toList.take ((n + m) * size))).take (n * size):=by
     rw [List.take_take,Nat.min_eq_left (Nat.mul_le_mul_right _ (Nat.le_add_right n m))]
    rw [e7,htake2,← h.1]
    exact List.take_left
end Go.Proofs.YtpcgaebbbioifaaGreatDoor.Ep
namespace Go.Proofs.YtpcgaebbbioifaaGreatDoor.Ep
set_option maxHeartbeats 64000000
open Go Go.RowKit Go.Deep Sp Pa Te Mi De Tr Lt
theorem right_cyc {i o : Int} {N : Nat} {s : Int} {rs : List RuL} {fs : List FiL} (h : (whereD i o (N : Int) s rs fs).1 = 0) : cycE (epsE rs) N = false:=by
 unfold whereD whereV at h
 split at h
 ·split at h
  ·simp at h
  ·split at h
   ·simp at h
   ·split at h
    ·simp at h
    ·rename_i z
     simpa using z
 ·simp at h
noncomputable def waysN (rs : List RuL) (N : Nat) : Nat:=sumC (cnt (succD rs) (rkE (epsE rs) N)) (List.range N)
noncomputable def waysV (i o n s : Int) (rs : List RuL) (fs : List FiL) : Int × Int:=
 if (whereD i o n s rs fs).1 = 0 then (if waysN rs n.toNat≤4096 then ((waysN rs n.toNat : Int),0) else (0,4)) else (0,2)
def WaysD (v : Int × Int) (w : World) (e : Ending) (w' : World) : Prop:=e = .returned (.tuple #[.int .i64 v.1,.int .i64 v.2])∧Below w.heap.size w w'
theorem ways_any (i o n s : Int) (A : Option Addr) (cr : Nat) (B : Option Addr) (cf : Nat) (rs : List RuL) (fs : List FiL) (w : World) (hd : DM w ⟨i,o,n,s,A,cr,B,cf,rs,fs⟩) (hT : Fi.TabB w) :
  Calls Tryz.prog 8 #[dsc i o n s A rs.length cr B fs.length cf] w (WaysD (waysV i o n s rs fs) w):=by
 have hC : ∀ W,Below w.heap.size w W→Calls Tryz.prog 15 #[dsc i o n s A rs.length cr B fs.length cf] W (RetI (if (whereD i o n s rs fs).1 = 0 then 0 else 2) W):=fun W hW=>
  checkD_any i o n s A cr B cf rs fs W (hd.below hW).rules hd.rl (hd.below hW).finals hd.fl (hT.next hW)
 by_cases hw : (whereD i o n s rs fs).1 = 0
 ·have hR : RightD ⟨i,o,n,s,A,cr,B,cf,rs,fs⟩:=DV.right.rightD (d:=⟨i,o,n,s,A,cr,B,cf,rs,fs⟩) hw
  have hn:=hR.n
  simp only at hn
  obtain ⟨N,rfl⟩:=Int.eq_ofNat_of_zero_le (show 0≤n by omega)
  simp only [if_pos hw] at hC
  have hrs : ∀ r∈rs,0≤r.frm∧r.frm < (N : Int)∧0≤r.to_∧r.to_ < (N : Int):=fun r hr=>by
   obtain ⟨h1,h2,h3,h4,_⟩:=hR.rs r hr
   exact ⟨h1,h2,h3,h4⟩
  obtain ⟨P,hP,hK,hI⟩:=raw_rules hd.rules fun r hr=>(hrs r hr).1
  refine (ways_ok i o N s A cr B fs.length cf rs P w hP hK hI hR.r hrs (right_cyc hw) (by omega) hC).mono ?_
  rintro e w' ⟨hb,h⟩
  refine ⟨?_,hb⟩
  unfold waysV waysN
  rw [if_pos hw]
  simp only [Int.toNat_natCast]
  rcases h with ⟨h1,rfl⟩ | ⟨h1,rfl⟩
  ·rw [if_pos h1]
  ·rw [if_neg (by omega)]
 ·have HC:=Lib.hid hC
  have hv : waysV i o n s rs fs = (0,2):=by unfold waysV;rw [if_neg hw]
  rw [hv]
  obtain ⟨w1,hw1⟩ : ∃ w1,w.alloc (.cells #[.int .i64 i,.int .i64 o,.int .i64 n,.int .i64 s,.slice A rs.length cr,.slice B fs.length cf] 26) = w1:=⟨_,rfl⟩
  have hb1 : Below w.heap.size w w1:=by rw [← hw1];exact (Below.refl _ _).alloc (Nat.le_refl _) _
  have hq1 : Blk w1 w.heap.size 26 #[.int .i64 i,.int .i64 o,.int .i64 n,.int .i64 s,.slice A rs.length cr,.slice B fs.length cf]:=by rw [← hw1];exact heap_alloc_new w _
  have k0:=hq1.cell 0
  have k1:=hq1.cell 1
  have k2:=hq1.cell 2
  have k3:=hq1.cell 3
  have k4:=hq1.cell 4
  have k5:=hq1.cell 5
  simp only [sD,sE,sF] at k0 k1 k2 k3 k4 k5
  have HCK:=Lib.hid (hC w1 hb1)
  rw [if_neg hw] at HCK
  have HB1:=Lib.hid hb1
  clear hd hT hC hw hv hq1 hb1
  go_enter Tryz.func8,Tryz.ntmps8
  go_wp2_with (fail)
  refine HCK.out.mono ?_
  rintro e w2 ⟨rfl,hb2⟩
  have HFI:=Lib.hid (show WaysD (0,2) w (.returned (.tuple #[.int .i64 0,.int .i64 2])) w2 from ⟨rfl,HB1.out.trans (hb2.mono HB1.out.size)⟩)
  clear hb2
  go_wp2_with (fail)
  go_ret2
  exact HFI.out
end Go.Proofs.YtpcgaebbbioifaaGreatDoor.Ep
