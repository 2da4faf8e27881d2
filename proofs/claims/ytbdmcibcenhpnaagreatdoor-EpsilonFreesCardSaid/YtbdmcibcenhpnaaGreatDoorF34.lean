import Derived.Test.YtbdmcibcenhpnaaGreatDoorF22
import Derived.Test.YtbdmcibcenhpnaaGreatDoorF33
namespace Go.Proofs.YtbdmcibcenhpnaaGreatDoor.Fi
set_option maxHeartbeats 64000000
set_option maxRecDepth 100000
open Go Go.RowKit Go.Maps Sp Pa Te Sh
open Go.Lib (hid)
def I64 (a:Int):Prop:=-9223372036854775808<=a/\a<=9223372036854775807
def PlM (w:World) (gM n:Nat) (l:List PT):Prop:=
 ∃(D:DataW Value) (vs:Int->Value),w.ownsMap Tryz.prog 3 RH gM n D/\(∀i,I64 i->D.atKey (.int .i64 i) (.held (.slice none 0 0)) = .held (vs i)) /\
  (∀i,rF w (gM+1) (vs i) (plP l i))/\(∀i j b,(vs i).ownBlock=some b->(vs j).ownBlock=some b->i=j)/\gM<w.heap.size
theorem PlM.below {w w':World} {gM n:Nat} {l:List PT} (h:PlM w gM n l) (hb:Below w.heap.size w w'):PlM w' gM n l:=by
 obtain⟨D,vs,h1,h2,h3,h4,h5⟩:=h;refine⟨D,vs,?_,h2,fun i=>aQ (h3 i) fun q e=>hb.block q (World.ownsRow.lt (h3 i) q e).2,h4,by have:=hb.size;omega⟩;obtain⟨es,clock,hbk,F,hs,e⟩:=h1;exact⟨es,clock,(hb.block gM h5).trans hbk,F,hs,e⟩
theorem PlM.look {w:World} {gM n:Nat} {l:List PT} (h:PlM w gM n l) {a:Int} (ha:I64 a):∃A c,(Instr.lookup 130 (.map (some gM)) (.int .i64 a) false).run Tryz.prog w = .ok (.slice A (plP l a).length c) w/\RP w w.heap.size A (plP l a).length (plP l a)/\(plP l a).length<=c:=by
 obtain⟨D,vs,h1,h2,h3,h4,h5⟩:=h;obtain⟨A,c,e,hr,hc,_⟩:=zV (h3 a);have:=sI h1 ha.1 ha.2 (h2 a ha);rw[e]at this;exact⟨A,c,this,hr,hc⟩
theorem AA {v:Value} {r:Option Nat} (h:∀b,v.ownBlock=some b->r≠some b):v.ownBlock=none\/v.ownBlock≠r:=by
 cases e:v.ownBlock with
 | none=>exact .inl rfl
 | some b=>exact .inr fun q=>h b e q.symm
def Cn (l:List PT) (gM:Nat) (w:World) (i:Value) (wr:World):Prop:=∃k:Nat,k<=l.length/\i = .int .i64 k/\PlM wr gM k (l.take k)/\Below w.heap.size w wr
def Kk (l:List PT) (w:World) (e:Ending) (w':World):Prop:=e = .returned (.map (some w.heap.size))/\PlM w' w.heap.size l.length l/\Below w.heap.size w w'
theorem wX (A:Option Addr) (c m:Nat) (l:List PT) (w:World) (h:RP w w.heap.size A m l) (hm:m<=1000) (hk:∀q∈l,I64 q.1) :
  Calls Tryz.prog 108 #[.slice A m c] w (Kk l w):=by
 have hlen:=h.1;subst hlen;obtain⟨i0,hi0,hz0,hz1,hz2⟩:=info_parts uQ;have hmm:=@run_makeMap Tryz.prog;have H:=hid h;have HK:=hid hk;clear h hk;go_enter Tryz.func108,Tryz.ntmps108;obtain⟨gM,hgM⟩:∃gM,w.heap.size=gM:=⟨_,rfl⟩;have HGM:=hid hgM;obtain⟨w1,hw1⟩:∃w1,w.alloc (.map #[] 0)=w1:=⟨_,rfl⟩;have hb1:Below w.heap.size w w1:=by rw[<- hw1];exact(Below.refl _ _).alloc (Nat.le_refl _) _
 have hs1:w1.heap.size=gM+1:=by rw[<- hw1];simp[hgM]
 have hm1:PlM w1 gM 0 (l.take 0):=⟨.map [],fun _=>.slice none 0 0,by rw[<- hw1,<- hgM];exact World.ownsMap_made _ _ _ _,fun _ _=>rfl,fun i=>by rw[List.take_zero,jy];exact World.ownsRow_nil _ _ _ _,fun i j b e=>by simp[Value.ownBlock]at e,by omega⟩;have HST:=hid (show Cn l gM w (.int .i64 (0:Nat)) w1 from⟨0,Nat.zero_le _,rfl,hm1,hb1⟩);clear hm1 hb1;go_wp2_with (fail)
 go_loopw [9] (fun i wr=>Cn l gM w i wr) (fun i _=>l.length-(intOf i).toNat)
 case atStart=>exact HST.out
 case round=>
  obtain⟨k,hkl,rfl,hpm,hb⟩:=hrel;by_cases hlt:k<l.length
  ·obtain⟨b,off,a,d,t,u,hA,hbB,⟨_,e0⟩,f0,f1,f2,f3⟩:=(H.out.ah hb).at_ hlt
   have ha:=HK.out _ (List.getElem_mem hlt);rw[e0]at ha;have hE:plP (l.take (k+1))=fun i=>if a=i then plP (l.take k) i++[(a,d,t,u)]else plP (l.take k) i:=by
    funext i
    rw[List.take_succ_eq_append_getElem hlt,nD,e0,oF,jy]
    split <;> simp
   subst hA;obtain⟨L,hL⟩:∃L,l.take k=L:=⟨_,rfl⟩;rw[hL]at hpm hE;have hLl:∀i,(plP L i).length<=k:=fun i=>by have:=iB L i;rw[<- hL,List.length_take]at this;rw[<- hL];omega
   obtain⟨B5,hB5⟩:∃B5,wr.heap.size=B5:=⟨_,rfl⟩;obtain⟨w2,hw2⟩:∃w2,wr.alloc (.cells #[.int .i64 a,.int .i64 d,.int .i64 t,.int .i64 u] 94)=w2:=⟨_,rfl⟩;have b2:Below wr.heap.size wr w2:=by rw[<- hw2];exact(Below.refl _ _).alloc (Nat.le_refl _) _
   have hs2:w2.heap.size=B5+1:=by rw[<- hw2];simp[hB5]
   have g0:w2.cell? ⟨B5,0,none⟩=some (.int .i64 a):=by rw[<- hw2,<- hB5];simp
   have g1:w2.cell? ⟨B5,1,none⟩=some (.int .i64 d):=by rw[<- hw2,<- hB5];simp
   have g2:w2.cell? ⟨B5,2,none⟩=some (.int .i64 t):=by rw[<- hw2,<- hB5];simp
   have g3:w2.cell? ⟨B5,3,none⟩=some (.int .i64 u):=by rw[<- hw2,<- hB5];simp
   obtain⟨D,vs,p1,q2,p3,q4,q5⟩:=hpm;have hlt3:∀i q,(vs i).ownBlock=some q->gM+1<=q/\q<B5:=fun i q e=>by rw[<- hB5];exact World.ownsRow.lt (p3 i) q e
   have q1:w2.ownsMap Tryz.prog 3 RH gM k D:=by rw[<- hw2];exact p1.alloc _
   have q3:∀i,rF w2 (gM+1) (vs i) (plP L i):=fun i=>aQ (p3 i) fun q e=>b2.block q (World.ownsRow.lt (p3 i) q e).2
   obtain⟨Av,cv,hva,_,_,_⟩:=zV (q3 a);obtain⟨nv,hnv⟩:∃nv,(plP L a).length=nv:=⟨_,rfl⟩;have hnl:nv<=1000:=by have:=hLl a;omega
   rw[hnv]at hva;have q2a:=q2 a ha;rw[hva]at q2a;have hr1:(Instr.lookup 130 (.map (some gM)) (.int .i64 a) false).run Tryz.prog w2.drew = .ok (.slice Av nv cv) w2.drew:=sI (W:=w2.drew) (D:=D) q1.drew ha.1 ha.2 q2a;have hr2:(Instr.lookup 130 (.map (some gM)) (.int .i64 a) false).run Tryz.prog (w2.alloc (.cells #[.int .i64 a,.int .i64 d,.int .i64 t,.int .i64 u] 94)).drew = .ok (.slice Av nv cv) (w2.alloc (.cells #[.int .i64 a,.int .i64 d,.int .i64 t,.int .i64 u] 94)).drew:=sI (W:=(w2.alloc (.cells #[.int .i64 a,.int .i64 d,.int .i64 t,.int .i64 u] 94)).drew) (D:=D) (q1.alloc _).drew ha.1 ha.2 q2a;have hgl:w.heap.size<=gM:=by have:=HGM.out;omega
   have hvo:(w2.alloc (.cells #[.int .i64 a,.int .i64 d,.int .i64 t,.int .i64 u] 94)).drew.ownsRow (gM+1) 94 4 (.slice Av nv cv) nv (gi (plP L a)):=by
    have h1:=q3 a;unfold rF at h1;rw[hva,hnv]at h1;exact(World.ownsRow.alloc h1 _).drew
   have hvg:∀q,(Value.slice Av nv cv).ownBlock=some q->gM+1<=q/\q<B5:=fun q e=>hlt3 a q (by rw[hva];exact e)
   have OP:(Value.slice Av nv cv).ownBlock≠some B5:=fun e=>by have:=(hvg _ e).2;omega
   have OO:(Value.slice Av nv cv).ownBlock≠some gM:=fun e=>by have:=(hvg _ e).1;omega
   have hnews:∀jj v,[Value.int .i64 a,.int .i64 d,.int .i64 t,.int .i64 u][jj]? = some v->((w2.alloc (.cells #[.int .i64 a,.int .i64 d,.int .i64 t,.int .i64 u] 94)).drew).cell? ((⟨B5+1,0,none⟩:Addr).add jj)=some v:=by
    rw[<- hs2];exact World.news_of_block (w:=(w2.alloc (.cells #[.int .i64 a,.int .i64 d,.int .i64 t,.int .i64 u] 94)).drew) (cs:=#[.int .i64 a,.int .i64 d,.int .i64 t,.int .i64 u]) (t:=94) (fr:=(0,0)) (heap_alloc_new w2 _)
   have HQ1:=hid q1;have HB:=hid hb;have vK:=hid (fun(gg bX:Nat) (w4 w5:World) (hown1:w4.ownsRow (gM+1) 94 4 (.slice (some ⟨gg,0,none⟩) (nv+1) bX) (nv+1) (gi (plP L a)++[.int .i64 a,.int .i64 d,.int .i64 t,.int .i64 u])) (hgrow:((w2.alloc (.cells #[.int .i64 a,.int .i64 d,.int .i64 t,.int .i64 u] 94)).drew).grownBy w4 (Value.slice Av nv cv).ownBlock) (hgg:(Value.slice Av nv cv).ownBlock=some gg\/gg=B5+1+1) (hm5:w5.ownsMap Tryz.prog 3 RH gM (k+1) (D.put (.int .i64 a) (.held (.slice (some ⟨gg,0,none⟩) (nv+1) bX)))) (hg5:w4.grownBy w5 (some gM))=>show Cn l gM w (.int .i64 ((k:Int)+1)) w5 from by
    have Qw:gM+1<=gg:=by
     rcases hgg with e | e
     ·exact(hvg _ e).1
     ·omega
    have hgrow':w2.grownBy w4 (Value.slice Av nv cv).ownBlock:=⟨hgrow.os,hgrow.tape,hgrow.output,by have:=hgrow.size;simp at this;omega,fun i hi hne=>(hgrow.block i (by simp;omega) hne).trans (Below.heap_alloc w2 _ i hi)⟩;have hz2:w2.heap.size<=w4.heap.size:=hgrow'.size;refine⟨k+1,by omega,by go_num,⟨_,fun i=>if i=a then .slice (some ⟨gg,0,none⟩) (nv+1) bX else vs i,hm5,fun i hi=>?_,fun i=>?_,fun i j b=>?_,?_⟩,?_⟩
    ·by_cases e:i=a
     ·subst e
      show _=DataW.held (if i=i then _ else _);rw[if_pos rfl];obtain⟨_,_,_,_,_,eD⟩:=HQ1.out;exact atKey_put_same ⟨_,eD⟩ (Lx.key (Ly hi.1 hi.2)) _ _
     ·show _=DataW.held (if i=a then _ else _)
      rw[if_neg e,atKey_put_other (fun q=>e (by injection q))];exact q2 i hi
    ·rw[hE]
     by_cases e:i=a
     ·subst e
      simp only[if_true];have h1:rF w4 (gM+1) (.slice (some ⟨gg,0,none⟩) (nv+1) bX) (plP L i++[(i,d,t,u)]):=by
       unfold rF;rw[List.length_append,List.length_singleton,hnv,qP];exact hown1
      have hne:gg≠gM:=by omega
      exact World.ownsRow.kept h1 hg5 (.inr fun q=>hne (by simpa[Value.ownBlock]using q))
     ·simp only[if_neg e,if_neg (fun q:a=i=>e q.symm)]
      have h1:=World.ownsRow.kept (q3 i) hgrow' (AA fun b e2 q=>e (q4 i a b e2 (by rw[hva];exact q)));exact World.ownsRow.kept h1 hg5 (AA fun b e2 q=>absurd (Option.some.inj q) (by have:=(hlt3 i b e2).1;omega))
    ·by_cases e1:i=a
     ·by_cases e2:j=a
      ·intro _ _;rw[e1,e2]
      ·simp only[if_pos e1,if_neg e2]
       intro h1 h2;have h1:gg=b:=by simpa[Value.ownBlock]using h1
       rcases hgg with q | q
       ·exact(e2 (q4 j a b h2 (by rw[hva,q,h1]))).elim
       ·have:=(hlt3 j b h2).2;omega
     ·by_cases e2:j=a
      ·simp only[if_neg e1,if_pos e2]
       intro h1 h2;have h2:gg=b:=by simpa[Value.ownBlock]using h2
       rcases hgg with q | q
       ·exact(e1 (q4 i a b h1 (by rw[hva,q,h2]))).elim
       ·have:=(hlt3 i b h1).2;omega
      ·simp only[if_neg e1,if_neg e2]
       exact q4 i j b
    ·have:=hg5.size;omega
    ·exact(((HB.out.trans (b2.mono HB.out.size)).grown hgrow' (by have:=HB.out.size;omega) (fun q e=>by have:=(hvg q e).1;omega)).grown hg5 (by have:=HB.out.size;omega) (fun q e=>by injection e with e;omega)))
   have hgs:gM+1<=w2.heap.size:=by omega
   have i1:(0:Int)<=(k:Int):=Int.natCast_nonneg _;have i2:(k:Int)<(l.length:Int):=by omega
   have s1:IntKind.i64.wrap ((k:Int)+1)=(k:Int)+1:=IntWalk.i64_in _ (by omega);clear b2 q1 q2 q3 q4 q5 p1 p3 hlt3 hva q2a hE hL hLl hvg e0 hb hnv;go_wp2_with (fail)
   go_region_law ((refine step_append_lies _ (by rfl) _ _ _ (by rfl) (gM+1) 94 i0 _ 4 32 Tryz.underlying49 hi0 hz0 hz1 hz2 rfl (by omega) (.slice Av nv cv) nv (gi (plP L a)) (by rfl) hvo ⟨B5+1,0,none⟩ 1 1 [.int .i64 a,.int .i64 d,.int .i64 t,.int .i64 u] (by rfl) (by rfl) hnews (by simp[Value.oneCell']) (by omega) (by simp only[maxLen];omega) (by omega) (by simp;omega) (B5+1+1) (by simp[hs2]) ?_;intro gg bX w4 hown1 hgrow hat LU;have hg04:w4.cell? ⟨B5,0,none⟩=some (.int .i64 a):=hgrow.cell ((World.grownBy_alloc w2 (.cells #[.int .i64 a,.int .i64 d,.int .i64 t,.int .i64 u] 94) none).cell g0 (by simp)) (fun e=>OP e.symm);obtain⟨w5,hr5,hm5,hg5⟩:=(World.ownsMap.kept ((HQ1.out.alloc (.cells #[.int .i64 a,.int .i64 d,.int .i64 t,.int .i64 u] 94)).drew) hgrow (fun e=>OO e.symm)).update Lx Tryz.underlying130 (by unfold maxLen;omega) (Ly ha.1 ha.2) (show RH (.slice (some ⟨gg,0,none⟩) (nv+1) bX)=some (.held (.slice (some ⟨gg,0,none⟩) (nv+1) bX),[])from rfl)))
   all_goals have HS:=hid (vK.out gg bX w4 w5 hown1 hgrow hat hm5 hg5)
   all_goals clear hown1 hgrow hat LU hm5 hg5 hg04
   all_goals go_wp2_with (fail)
   all_goals go_roundw
   all_goals first
    | exact HS.out
    | (simp[intOf];done)
    | (simp[intOf];omega)
  ·obtain rfl:k=l.length:=by omega
   rw[List.take_length]at hpm;have HFI:=hid (show Kk l w (.returned (.map (some gM))) wr from⟨by rw[HGM.out],by rw[HGM.out];exact hpm,hb⟩);clear hpm hb;go_wp2_with (fail);go_ret;exact HFI.out
end Go.Proofs.YtbdmcibcenhpnaaGreatDoor.Fi
