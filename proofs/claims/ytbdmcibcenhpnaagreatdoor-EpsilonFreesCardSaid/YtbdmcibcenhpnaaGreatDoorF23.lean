import Derived.Test.YtbdmcibcenhpnaaGreatDoorF12
import Derived.Deep.OwnRows
set_option maxRecDepth 100000
namespace Go.Proofs.YtbdmcibcenhpnaaGreatDoor.Fi
set_option maxHeartbeats 64000000
open Go Go.RowKit Sp Sh
open Go.Lib (hid)
def Eh (l:List Int):List Value:=l.map (Value.int .i64)
def CY (f:Nat->Int) (q:Nat) (v:Int):Nat->Int:=fun j=>if j=q then v else f j
def dV (w:World) (g N:Nat) (f:Nat->Int):Prop:=w.ownsRow g 3 1 (.slice (some ⟨g,0,none⟩) N N) N (Eh ((List.range N).map f))
section
variable {w w':World} {g N q:Nat} {f:Nat->Int}
theorem dV.cell (h:dV w g N f) (hq:q<N):w.cell? ⟨g,q,none⟩=some (.int .i64 (f q)):=by
 rw[World.ownsRow.cellAt h q (by omega)];simp[Eh,hq]
theorem dV.frozen (h:dV w g N f) (q:Nat):w.frozen? ⟨g,q,none⟩=false:=World.ownsRow.frozenAt h q
theorem dV.stored (h:dV w g N f) (q:Nat) (v:Int):dV (w.setCell ⟨g,q,none⟩ (.int .i64 v)) g N (CY f q v):=by
 have:=(World.ownsRow.stored h q (.int .i64 v)).1;unfold dV;have e:Eh ((List.range N).map (CY f q v))=(Eh ((List.range N).map f)).set q (.int .i64 v):=List.ext_getElem (by simp[Eh]) fun j h1 h2=>by
  simp only[Eh,List.getElem_map,List.getElem_range,List.getElem_set,CY];by_cases e:j=q
  ·rw[if_pos e,if_pos e.symm]
  ·rw[if_neg e,if_neg fun k=>e k.symm]
 rw[e];exact this
theorem dV.lt (h:dV w g N f):g<w.heap.size:=(World.ownsRow.lt h g rfl).2
theorem dV.keep (h:dV w g N f) (hk:w'.heap[g]? = w.heap[g]?):dV w' g N f:=by
 refine⟨h.1,?_⟩;rcases h.2 with h2 | ⟨g',cap,cur,hv,hg,hr,hrest⟩
 ·exact .inl h2
 ·refine .inr ⟨g',cap,cur,hv,hg,?_,hrest⟩
  injection hv with hv;injection hv with hv;injection hv with hv;subst hv;exact hk.trans hr
theorem dV.below (h:dV w g N f) {B:Nat} (hg:g<B) (hb:Below B w w'):dV w' g N f:=h.keep (hb.block g hg)
end
theorem Hq (L:List Span) (p:Span) {z y:Nat} (h1:p.1=(z:Int)) (h2:p.2+1=(y:Int)) (h3:p.1<=p.2):(fun j:Nat=>iG (L++[p]) j)=CY (CY (fun j:Nat=>iG L j) z (iG L z+1)) y (iG L y-1):=by
 funext j
 rw[ET,h1,h2];unfold CY;by_cases e1:j=y
 ·subst e1
  rw[if_pos rfl,if_neg (by omega),if_pos rfl];omega
 ·rw[if_neg e1]
  by_cases e2:j=z
  ·subst e2
   rw[if_pos rfl,if_pos rfl,if_neg (by omega)];omega
  ·rw[if_neg e2,if_neg (by omega),if_neg (by omega)]
   show _=iG L (j:Int);omega
theorem Bt (o:List Span) (a h k:Int):(flat (o++[(a,h)])).set (o.length*2+1) (.int .i64 k)=flat (o++[(a,k)]):=by
 rw[aA,aA];have e:=aH o;rw[List.set_append_right _ _ (by omega),e];have:o.length*2+1-o.length*2=1:=by omega
 rw[this];rfl
theorem cD {w:World} {base g cap:Nat} {o:List Span} {a h:Int} (ho:av w base (.slice (some ⟨g,0,none⟩) (o++[(a,h)]).length cap) (o++[(a,h)])) (k:Int) :
  av (w.setCell ⟨g,o.length*2+1,none⟩ (.int .i64 k)) base (.slice (some ⟨g,0,none⟩) (o++[(a,k)]).length cap) (o++[(a,k)])/\w.cell? ⟨g,o.length*2+1,none⟩=some (.int .i64 h)/\w.frozen? ⟨g,o.length*2+1,none⟩=false:=by
 have h1:=(World.ownsRow.stored ho (o.length*2+1) (.int .i64 k)).1;rw[Bt]at h1;refine⟨?_,?_,World.ownsRow.frozenAt ho _⟩
 ·unfold av
  simp only[List.length_append,List.length_singleton]at h1 ⊢;exact h1
 ·rw[World.ownsRow.cellAt ho _ (by simp;omega),aA,List.getElem?_append_right (by rw[aH];omega),aH]
  have:o.length*2+1-o.length*2=1:=by omega
  rw[this];rfl
structure IY (a b:List Span) (ta tb:Int):Prop where
 fst:∀p∈a,0<=p.1/\p.1<=p.2/\p.2<=ta
 snd:∀p∈b,0<=p.1/\p.1<=p.2/\p.2<=tb
 Ec:∃lo,a.getLast? = some (lo,ta)
 Eb:∃lo,b.getLast? = some (lo,tb)
theorem IY.nonneg {a b:List Span} {ta tb:Int} (h:IY a b ta tb):0<=ta/\0<=tb:=by
 obtain⟨lo,e⟩:=h.Ec;obtain⟨lo2,e2⟩:=h.Eb;have h1:=h.fst _ (List.mem_of_getLast? e);have h2:=h.snd _ (List.mem_of_getLast? e2);simp only at h1 h2;omega
theorem C9 {a b:List Span} {ta tb:Int} (h:IY a b ta tb) (hT:ta+tb<=1056964608):tN (cK a b)/\∀p∈cK a b,p.2<ta+tb+1:=by
 have key:∀p∈cK a b,0<=p.1/\p.1<=p.2/\p.2<=ta+tb:=fun p hp=>by
  unfold cK at hp;obtain⟨x,hx,hp⟩:=List.mem_flatMap.1 hp;obtain⟨y,hy,rfl⟩:=List.mem_map.1 hp;have h1:=h.fst x hx;have h2:=h.snd y hy;simp only;omega
 exact⟨fun p hp=>⟨(key p hp).1,(key p hp).2.1,by have:=(key p hp).2.2;omega⟩,fun p hp=>by have:=(key p hp).2.2;omega⟩
def KO (a b:List Span) (w:World) (g N:Nat) (i:Value) (wr:World):Prop:=∃k:Nat,k<=a.length/\i = .int .i64 k/\dV wr g N (fun j=>iG (cK (a.take k) b) j)/\Below w.heap.size w wr
def KN (pre b:List Span) (lo hi:Int) (w:World) (g N B:Nat) (i:Value) (wr:World):Prop:=∃k:Nat,k<=b.length/\i = .int .i64 k/\dV wr g N (fun j=>iG (pre++(b.take k).map fun q=>(lo+q.1,hi+q.2)) j)/\Below w.heap.size w wr/\wr.cell? ⟨B,0,none⟩=some (.int .i64 lo)/\wr.cell? ⟨B,1,none⟩=some (.int .i64 hi)/\B<wr.heap.size
def Nj (L:List Span) (ws:World) (N:Nat) (v p i:Value) (wr:World):Prop:=∃(k:Nat) (out:List Span),k<=N/\i = .int .i64 k/\p = .int .i64 (mg L ((k:Int)-1))/\av wr ws.heap.size v out/\cH L k out/\Below ws.heap.size ws wr/\out.length<=k
theorem tq (A A':Option Addr) (n n' c c':Nat) (a b:List Span) (ta tb:Int) (w:World) (h:RS w w.heap.size A n a) (h':RS w w.heap.size A' n' b) (hn1:n<=1073741825) (hn2:n'<=1073741825) (hok:IY a b ta tb) (hT:ta+tb<=1056964608) :
  Calls Tryz.prog 130 #[.slice A n c,.slice A' n' c'] w (aP (mem (cK a b)) w):=by
 obtain⟨i0,hi0,hz0,hz1,hz2⟩:=info_parts bQ;obtain⟨hta,htb⟩:=hok.nonneg;obtain⟨hcn,hcb⟩:=C9 hok hT;have hla:=h.1;have hlb:=h'.1;have hnp:0<n:=by
  obtain⟨lo,e⟩:=hok.Ec;rcases Nat.eq_zero_or_pos n with q | q
  ·rw[q]at hla;rw[List.eq_nil_of_length_eq_zero hla]at e;cases e
  ·exact q
 have hnp':0<n':=by
  obtain⟨lo,e⟩:=hok.Eb;rcases Nat.eq_zero_or_pos n' with q | q
  ·rw[q]at hlb;rw[List.eq_nil_of_length_eq_zero hlb]at e;cases e
  ·exact q
 obtain⟨m,hm⟩:∃m,n-1=m:=⟨_,rfl⟩;obtain⟨m',hm'⟩:∃m,n'-1=m:=⟨_,rfl⟩;obtain⟨bA,off,lo0,LV,hA,hbB,⟨hkl,hlk⟩,f1,f2⟩:=h.at_ (k:=m) (by omega);obtain⟨bA',off',Qo,KW,hA',K1,⟨NM,qJ⟩,f1',f2'⟩:=h'.at_ (k:=m') (by omega);obtain rfl:LV=ta:=by
  obtain⟨lo,e⟩:=hok.Ec;rw[List.getLast?_eq_getElem?,hla,hm,List.getElem?_eq_getElem hkl,hlk]at e;injection e with e;injection e with _ e
 obtain rfl:KW=tb:=by
  obtain⟨lo,e⟩:=hok.Eb;rw[List.getLast?_eq_getElem?,hlb,hm',List.getElem?_eq_getElem NM,qJ]at e;injection e with e;injection e with _ e
 obtain⟨T,hTT⟩:=Int.eq_ofNat_of_zero_le (show 0<=LV+KW by omega);have hTb:T<=1056964608:=by omega
 obtain⟨N,hN⟩:∃N,T+2=N:=⟨_,rfl⟩;have s0:IntKind.i64.wrap (LV+KW)=(T:Int):=by rw[<- hTT];exact IntWalk.i64_in _ (by omega)
 have s1:IntKind.i64.wrap ((T:Int)+2)=(N:Int):=by rw[IntWalk.i64_in _ (by omega)];omega
 have s2:IntKind.i64.wrap ((n:Int)-1)=(m:Int):=by rw[IntWalk.i64_in _ (by omega)];omega
 have s3:IntKind.i64.wrap ((n':Int)-1)=(m':Int):=by rw[IntWalk.i64_in _ (by omega)];omega
 have j1:(0:Int)<=(m:Int):=Int.natCast_nonneg _;have j2:(m:Int)<(n:Int):=by omega
 have j3:(0:Int)<=(m':Int):=Int.natCast_nonneg _;have j4:(m':Int)<(n':Int):=by omega
 have HN:=hid hN;have HT:=hid hTT;have H:=hid h;have H':=hid h';have HLA:=hid (And.intro hla hlb);have HOK:=hid hok;have HCN:=hid hcn;have HCB:=hid hcb;have HLEN:=hid (show(cK a b).length<=1152921506754330625 by
  rw[kS,hla,hlb];have:=Nat.mul_le_mul hn1 hn2;omega)
 have hNb:N<=1056964610:=by omega
 subst hA hA';clear h h' hok hcn hcb hlk qJ hN hTT hla hlb hm hm' hkl NM hTb hT f1 f1';go_enter Tryz.func130,Tryz.ntmps130;go_wp2_with (fail);go_quiet (fail);clear s2 s3 f2 f2' j1 j2 j3 j4;obtain⟨w1,hw1⟩:∃w1,w.drewN nq=w1:=⟨_,rfl⟩;rw[hw1];have hsz1:w1.heap.size=w.heap.size:=by rw[<- hw1];rfl
 have hB1:Below w.heap.size w w1:=by rw[<- hw1];exact below_drewN (Below.refl _ _) _
 clear hw1;obtain⟨g,hg⟩:∃g,w1.heap.size=g:=⟨_,rfl⟩;obtain⟨w2,hw2⟩:∃w2,w1.alloc (.cells (madeCells #[.int .i64 0] N) 3)=w2:=⟨_,rfl⟩;have hmk:=run_make_row' (P:=Tryz.prog) 56 3 (.int .i64 0) 8 Tryz.underlying56 gh rfl .i64 .i64 N (by omega) (by omega) w1;rw[hw2,hg]at hmk;have hsz2:w2.heap.size=g+1:=by rw[<- hw2,<- hg];simp
 have hoz:dV w2 g N (fun j=>iG (cK (a.take 0) b) j):=by
  have:=World.ownsRow_lit (base:=g) (e:=3) (size:=1) w1 (madeCells #[.int .i64 0] N) N (by omega) (by simp only[maxLen];omega) (by simp[madeCells]);rw[toList_madeCells_one,hw2,hg]at this;unfold dV;rw[show Eh ((List.range N).map fun j:Nat=>iG (cK (a.take 0) b) j)=List.replicate N (.int .i64 0)from List.ext_getElem (by simp[Eh]) fun j h1 h2=>by simp[Eh,cK,iG]];exact this
 have hB2:Below w.heap.size w w2:=by rw[<- hw2];exact hB1.alloc (by omega) _
 have HST:=hid (show KO a b w g N (.int .i64 (0:Nat)) w2 from⟨0,Nat.zero_le _,rfl,hoz,hB2⟩);clear hoz hB2 hB1 hw2;go_wp2_with (fail)
 go_loopw [35] (fun i wr=>KO a b w g N i wr) (fun i _=>n-(intOf i).toNat)
 case atStart=>exact HST.out
 case round=>
  obtain⟨k,hk,rfl,ho,hb⟩:=hrel;by_cases hlt:k<n
  ·obtain⟨b1,off1,lo,hi,hA,uT,⟨hkl,hlk⟩,f1,f2⟩:=(H.out.ah hb).at_ hlt
   injection hA with hA;injection hA with e1 e2 _;subst e1 e2;have HB:=hid hb;have s3:IntKind.i64.wrap ((k:Int)+1)=(k:Int)+1:=IntWalk.i64_in _ (by omega);have HNX:=hid (mT (a:=a) (b:=b) hkl);rw[hlk]at HNX;have hpa:=HOK.out.fst _ (List.getElem_mem hkl);rw[hlk]at hpa;simp only at hpa;obtain⟨B,hB⟩:∃B,wr.heap.size=B:=⟨_,rfl⟩;obtain⟨w4,hw4⟩:∃w4,wr.alloc (.cells #[.int .i64 lo,.int .i64 hi] 47)=w4:=⟨_,rfl⟩;have b4:Below wr.heap.size wr w4:=by rw[<- hw4];exact(Below.refl _ _).alloc (Nat.le_refl _) _
   have hs4:w4.heap.size=B+1:=by rw[<- hw4,<- hB];simp
   have hg1:w4.cell? ⟨B,0,none⟩=some (.int .i64 lo):=by rw[<- hw4,<- hB];simp
   have hg2:w4.cell? ⟨B,1,none⟩=some (.int .i64 hi):=by rw[<- hw4,<- hB];simp
   have hgB:g<B:=by have:=ho.lt;omega
   obtain⟨pre,hpre⟩:∃pre,cK (a.take k) b=pre:=⟨_,rfl⟩;have MO:=hid hpre;rw[hpre]at ho;have hpl:pre.length<=1152921506754330625:=by
    rw[<- hpre,kS,List.length_take];have h2:=Nat.mul_le_mul (show min k a.length<=n by omega) (Nat.le_of_eq HLA.out.2);have h3:=Nat.mul_le_mul hn1 hn2;omega
   have HST2:=hid (show KN pre b lo hi w g N B (.int .i64 (0:Nat)) w4 from⟨0,Nat.zero_le _,rfl,by rw[List.take_zero,List.map_nil,List.append_nil];exact ho.below (by omega) b4,HB.out.trans (b4.mono HB.out.size),hg1,hg2,by omega⟩);clear ho hb hlk hpre hg1 hg2 b4;have HOB:=hid (show∀q∈b,0<=q.1/\q.1<=q.2/\q.2<=KW from HOK.out.snd);go_wp2_with (fail)
   go_loopw [41] (fun i wr=>KN pre b lo hi w g N B i wr) (fun i _=>n'-(intOf i).toNat)
   case atStart=>exact HST2.out
   case round=>
    obtain⟨j,hj,rfl,ho,hb,g1,g2,hBl⟩:=hrel;have HB2:=hid hb;by_cases hjt:j<n'
    ·obtain⟨b2,off2,lo2,hi2,hA2,sP,⟨hjl,hlj⟩,f3,f4⟩:=(H'.out.ah hb).at_ hjt
     injection hA2 with hA2;injection hA2 with e1 e2 _;subst e1 e2;have hpb:=HOB.out _ (List.getElem_mem hjl);rw[hlj]at hpb;simp only at hpb;obtain⟨z,hz⟩:=Int.eq_ofNat_of_zero_le (show 0<=lo+lo2 by omega);obtain⟨y0,hy0⟩:=Int.eq_ofNat_of_zero_le (show 0<=hi+hi2 by omega);obtain⟨y,hy⟩:∃y,y0+1=y:=⟨_,rfl⟩;have hTo:=HT.out;have hNo:=HN.out;have hzN:z<N:=by omega
     have hyN:y<N:=by omega
     have hzy:z<y:=by omega
     have t1:IntKind.i64.wrap (lo+lo2)=(z:Int):=by rw[IntWalk.i64_in _ (by omega)];exact hz
     have t2:IntKind.i64.wrap (hi+hi2)=(y0:Int):=by rw[IntWalk.i64_in _ (by omega)];exact hy0
     have t3:IntKind.i64.wrap ((y0:Int)+1)=(y:Int):=by rw[IntWalk.i64_in _ (by omega)];omega
     obtain⟨X,hX⟩:∃X,pre++(b.take j).map (fun q=>(lo+q.1,hi+q.2))=X:=⟨_,rfl⟩;rw[hX]at ho;have hXl:X.length<=2305843013508661250:=by
      rw[<- hX,List.length_append,List.length_map,List.length_take];omega
     have hcz:=jc X z;have hcy:=jc X y;have HUP:=hid (Hq X (lo+lo2,hi+hi2) (z:=z) (y:=y) hz (by show hi+hi2+1=_;omega) (by show lo+lo2<=hi+hi2;omega));have HNJ:=hid (show pre++(b.take (j+1)).map (fun q=>(lo+q.1,hi+q.2))=X++[(lo+lo2,hi+hi2)]from by
      rw[<- hX,List.take_succ_eq_append_getElem hjl,List.map_append,List.append_assoc,hlj];rfl)
     have q1:=ho.cell hzN;have q2:=ho.frozen z;obtain⟨cz,KY⟩:∃cz,iG X (z:Int)=cz:=⟨_,rfl⟩;obtain⟨cy,KZ⟩:∃cy,iG X (y:Int)=cy:=⟨_,rfl⟩;rw[KY]at hcz q1;rw[KZ]at hcy;have HCZ:=hid (And.intro KY KZ);obtain⟨w5,hw5⟩:∃w5,wr.alloc (.cells #[.int .i64 lo2,.int .i64 hi2] 47)=w5:=⟨_,rfl⟩;have b5:Below wr.heap.size wr w5:=by rw[<- hw5];exact(Below.refl _ _).alloc (Nat.le_refl _) _
     have hs5:w5.heap.size=wr.heap.size+1:=by rw[<- hw5];simp
     obtain⟨B5,hB5⟩:∃B5,wr.heap.size=B5:=⟨_,rfl⟩;have c1:w5.cell? ⟨B5,0,none⟩=some (.int .i64 lo2):=by rw[<- hw5,<- hB5];simp
     have c2:w5.cell? ⟨B5,1,none⟩=some (.int .i64 hi2):=by rw[<- hw5,<- hB5];simp
     have hgl:=ho.lt;have c3:w5.cell? ⟨B,0,none⟩=some (.int .i64 lo):=(b5.cell hBl).trans g1;have c4:w5.cell? ⟨B,1,none⟩=some (.int .i64 hi):=(b5.cell hBl).trans g2;have ho5:=ho.below hgl b5;have d1:=ho5.cell hzN;have d2:=ho5.frozen z;rw[KY]at d1;obtain⟨w6,hw6⟩:∃w6,w5.setCell ⟨g,z,none⟩ (.int .i64 (cz+1))=w6:=⟨_,rfl⟩;have ho6:dV w6 g N (CY (fun j:Nat=>iG X j) z (cz+1)):=by rw[<- hw6];exact ho5.stored z (cz+1)
     have d3:=ho6.cell hyN;have d4:=ho6.frozen y;have e3:CY (fun j:Nat=>iG X j) z (cz+1) y=cy:=by unfold CY;rw[if_neg (by omega)];exact KZ
     rw[e3]at d3;have k6:∀B' i,B'≠g->w6.cell? ⟨B',i,none⟩=w5.cell? ⟨B',i,none⟩:=fun B' i hne=>by rw[<- hw6];exact World.cell?_setCell_other _ _ _ _ (fun q=>hne (by injection q with q;exact q.symm))
     have hgB5:B5≠g:=by omega
     have hBg:B≠g:=by omega
     have c5:w6.cell? ⟨B5,0,none⟩=some (.int .i64 lo2):=(k6 _ _ hgB5).trans c1;have c6:w6.cell? ⟨B5,1,none⟩=some (.int .i64 hi2):=(k6 _ _ hgB5).trans c2;have c7:w6.cell? ⟨B,0,none⟩=some (.int .i64 lo):=(k6 _ _ hBg).trans c3;have c8:w6.cell? ⟨B,1,none⟩=some (.int .i64 hi):=(k6 _ _ hBg).trans c4;obtain⟨w7,hw7⟩:∃w7,w6.setCell ⟨g,y,none⟩ (.int .i64 (cy-1))=w7:=⟨_,rfl⟩;have k7:∀B' i,B'≠g->w7.cell? ⟨B',i,none⟩=w6.cell? ⟨B',i,none⟩:=fun B' i hne=>by rw[<- hw7];exact World.cell?_setCell_other _ _ _ _ (fun q=>hne (by injection q with q;exact q.symm))
     have HST3:=hid (show dV w7 g N (fun j:Nat=>iG (X++[(lo+lo2,hi+hi2)]) j)/\Below w.heap.size w w7/\w7.cell? ⟨B,0,none⟩=some (.int .i64 lo)/\w7.cell? ⟨B,1,none⟩=some (.int .i64 hi)/\B<w7.heap.size from by
      refine⟨?_,?_,(k7 _ _ hBg).trans c7,(k7 _ _ hBg).trans c8,?_⟩
      ·rw[HUP.out,HCZ.out.1,HCZ.out.2,<- hw7]
       exact ho6.stored y (cy-1)
      ·rw[<- hw7,<- hw6]
       exact((HB2.out.trans (b5.mono HB2.out.size)).setCell (by show w.heap.size<=g;omega) _).setCell (by show w.heap.size<=g;omega) _
      ·rw[<- hw7,<- hw6]
       simp;omega)
     have i1:(0:Int)<=(j:Int):=Int.natCast_nonneg _;have i2:(j:Int)<(n':Int):=by omega
     have i3:(0:Int)<=(z:Int):=Int.natCast_nonneg _;have i4:(z:Int)<(N:Int):=by omega
     have i5:(0:Int)<=(y:Int):=Int.natCast_nonneg _;have i6:(y:Int)<(N:Int):=by omega
     have t4:IntKind.i64.wrap (cz+1)=cz+1:=IntWalk.i64_in _ (by omega);have t5:IntKind.i64.wrap (cy-1)=cy-1:=IntWalk.i64_in _ (by omega);have t6:IntKind.i64.wrap ((j:Int)+1)=(j:Int)+1:=IntWalk.i64_in _ (by omega);clear ho ho5 ho6 b5 hb hX hXl hlj g1 g2 hjl k6 k7 q1 q2 KY KZ e3 hz hy hy0 hTo hNo hpb hgB5 hBg hzN hyN hzy hgl hs5;go_wp2_with (fail)
     go_roundw
     case rel=>exact⟨j+1,by have:=HLA.out.2;omega,by go_num,by rw[HNJ.out];exact HST3.out.1,HST3.out.2⟩
     case measure=>simp[intOf];omega
    ·have hjn:j=n':=by have:=HLA.out.2;omega
     have HFI:=hid (show dV wr g N (fun j:Nat=>iG (cK (a.take (k+1)) b) j)from by
      rw[HNX.out,MO.out];have h1:=ho;rw[List.take_of_length_le (by have:=HLA.out.2;omega)]at h1;exact h1)
     clear ho hb g1 g2;go_wp2_with (fail)
     go_roundw
     case rel=>exact⟨k+1,by have:=HLA.out.1;omega,by go_num,HFI.out,HB2.out⟩
     case measure=>simp[intOf];omega
  ·obtain rfl:k=n:=by have:=HLA.out.1;omega
   have htk:a.take k=a:=List.take_of_length_le (by have:=HLA.out.1;omega);rw[htk]at ho;obtain⟨L,hL⟩:∃L,cK a b=L:=⟨_,rfl⟩;rw[hL]at ho HCN HCB HLEN ⊢;have HLL:=hid hL
   rename World=>ws
   have HZ:=hid ho;have HBS:=hid hb;have hgs:=ho.lt;clear htk hL ho hb;go_wp2_with (fail)
   go_loopw [11,12,70] (fun v p i wr=>Nj L ws N v p i wr) (fun _ _ i _=>N-(intOf i).toNat)
   case atStart=>exact⟨0,[],Nat.zero_le _,rfl,by rw[tj (fun p hp=>(HCN.out p hp).1) (by omega)],World.ownsRow_nil _ _ _ _,cH.start HCN.out,Below.refl _ _,Nat.zero_le _⟩
   case round=>
    obtain⟨k,out,hk,rfl,rfl,ho,hi,hb,hol⟩:=hrel;have HB:=hid hb;have Qy:=hb.size;have hoz:=HZ.out.below hgs hb;obtain⟨P,hP⟩:∃P,mg L ((k:Int)-1)=P:=⟨_,rfl⟩;have hPb:=dN L ((k:Int)-1);rw[hP]at hPb ⊢;by_cases hkt:k<N
    ·have q1:=hoz.cell hkt
     obtain⟨cc,hcc⟩:∃cc,iG L (k:Int)=cc:=⟨_,rfl⟩;have hcb:=jc L (k:Int);have hcs:=iZ (fun p hp=>(HCN.out p hp).2.1) (k:Int);have hcn:=dN L (k:Int);rw[hcc]at q1 hcb hcs;rw[hP]at hcs;rw[hcs]at hcn;have hLl:=HLEN.out;have HCC:=hid hcc;have HPP:=hid hP;have HCS:=hid (show mg L (((k+1:Nat):Int)-1)=P+cc from by rw[show((k+1:Nat):Int)-1=(k:Int)by omega];exact hcs);have HI:=hid hi;have i1:(0:Int)<=(k:Int):=Int.natCast_nonneg _;have i2:(k:Int)<(N:Int):=by omega
     have t1:IntKind.i64.wrap (P+cc)=P+cc:=IntWalk.i64_in _ (by omega);have t2:IntKind.i64.wrap ((k:Int)+1)=(k:Int)+1:=IntWalk.i64_in _ (by omega);have hPl:P<=1152921506754330625:=by omega
     have hcl:cc<=1152921506754330625/\-1152921506754330625<=cc:=by omega
     obtain⟨hcl1,hcl2⟩:=hcl;have hpc:0<=P+cc:=hcn.1;clear hoz hcc hP hi hcs hcn hcb hLl;by_cases hP0:P=0
     ·subst hP0
      by_cases hc0:0<cc
      ·have hsh:=aF ho
       obtain⟨Av,cv,hv,_,_⟩:=hsh;obtain⟨nx,hnx⟩:∃nx,out.length=nx:=⟨_,rfl⟩;have HNX:=hid hnx;rw[hnx]at hv hol;subst hv;obtain⟨w5,hw5⟩:∃w5,wr.alloc (.cells #[.int .i64 (k:Int),.int .i64 (k:Int)] 47)=w5:=⟨_,rfl⟩;have b5:Below wr.heap.size wr w5:=by rw[<- hw5];exact(Below.refl _ _).alloc (Nat.le_refl _) _
       have hs5:w5.heap.size=wr.heap.size+1:=by rw[<- hw5];simp
       have NI:=jA ho b5;have ho5:w5.ownsRow ws.heap.size 47 2 (.slice Av nx cv) nx (flat out):=by
        have:=NI;unfold av at this;rw[hnx]at this;exact this
       have hge:∀q,(Value.slice Av nx cv).ownBlock=some q->ws.heap.size<=q:=fun q e=>(World.ownsRow.lt ho q e).1
       have hnews:∀jj u,[Value.int .i64 (k:Int),.int .i64 (k:Int)][jj]? = some u->w5.cell? ((⟨wr.heap.size,0,none⟩:Addr).add jj)=some u:=by
        rw[<- hw5];exact World.news_of_block (cs:=#[.int .i64 (k:Int),.int .i64 (k:Int)]) (t:=47) (fr:=(0,0)) (heap_alloc_new wr _)
       have HB5:=hid (HB.out.trans (b5.mono HB.out.size));clear ho NI b5 hb hnx;go_wp2_with (at_builtin;go_must (refine wpList_append_own_at _ rfl _ _ 48 rfl ws.heap.size 47 i0 _ 2 16 Tryz.underlying48 hi0 hz0 hz1 hz2 rfl (by decide) (.slice Av nx cv) nx (flat out) rfl ho5 ⟨wr.heap.size,0,none⟩ 1 1 [.int .i64 (k:Int),.int .i64 (k:Int)] rfl rfl hnews ?c2 ?c3 ?c4 ?c5 ?_))
       case c2=>intro u hu;simp at hu;rcases hu with rfl | rfl <;> rfl
       case c3=>simp only[maxLen];omega
       case c4=>omega
       case c5=>omega
       intro v7 w7 hown7 hg7 _ hat7;have hO7:av w7 ws.heap.size v7 (out++[((k:Int),(k:Int))]):=by
        unfold av;rw[aA,List.length_append,List.length_singleton,HNX.out];exact hown7
       obtain⟨g7,c7,hv7,LW,OW⟩:=World.ownsRow.form hO7 (by simp);rw[List.length_append,List.length_singleton,HNX.out]at hv7;have HB7:=hid (HB5.out.grown hg7 HB5.out.size (fun q e=>hge q e));subst hv7;have I7:=cD (o:=out) (a:=(k:Int)) (h:=(k:Int)) (g:=g7) (cap:=c7) (by rw[List.length_append,List.length_singleton,HNX.out];exact hO7) (k:Int);rw[List.length_append,List.length_singleton,HNX.out]at I7;obtain⟨_,hc7,hf7⟩:=I7;have Cx:=hid (fun W (hW:W=w7.setCell ⟨g7,nx*2+1,none⟩ (.int .i64 (k:Int)))=>show av W ws.heap.size (.slice (some ⟨g7,0,none⟩) (nx+1) c7) (out++[((k:Int),(k:Int))])/\Below ws.heap.size ws W from by
        have h1:=(cD (o:=out) (a:=(k:Int)) (h:=(k:Int)) (g:=g7) (cap:=c7) (by rw[List.length_append,List.length_singleton,HNX.out];exact hO7) (k:Int)).1;rw[List.length_append,List.length_singleton,HNX.out]at h1;subst hW;exact⟨h1,HB7.out.setCell LW _⟩)
       have s7:IntKind.i64.wrap ((nx:Int)+1-1)=(nx:Int):=by rw[show(nx:Int)+1-1=(nx:Int)by omega];exact IntWalk.i64_in _ (by omega)
       have s8:IntKind.i64.wrap (((nx+1:Nat):Int)-1)=(nx:Int):=by rw[show((nx+1:Nat):Int)-1=(nx:Int)by omega];exact IntWalk.i64_in _ (by omega)
       have n1:(0:Int)<=(nx:Int):=Int.natCast_nonneg _;have jI:=hid (cH.fresh HCN.out HI.out HPP.out (by rw[HCC.out];exact hc0));have hd1:decide (0<cc)=true:=decide_eq_true hc0;clear hown7 hg7 hat7 ho5 hnews hO7 hge;go_wp2_with (fail);obtain⟨w9,hw9⟩:∃w9,w7.setCell ⟨g7,nx*2+1,none⟩ (.int .i64 (k:Int))=w9:=⟨_,rfl⟩;rw[hw9];obtain⟨hx1,hx2⟩:=Cx.out w9 hw9.symm;have HX1:=hid hx1;have HX2:=hid hx2;clear hx1 hx2 hw9;go_wp2_with (fail)
       go_roundw
       case rel=>exact⟨k+1,out++[((k:Int),(k:Int))],by omega,by go_num,by rw[HCS.out];simp,HX1.out,by have:=jI.out;simpa using this,HX2.out,by have:=HNX.out;simp;omega⟩
       case measure=>simp[intOf];omega
      ·obtain rfl:cc=0:=by omega
       have jI:=hid (cH.none_ HCN.out HI.out (by rw[HCC.out,HPP.out];rfl));have HO:=hid ho;clear ho hb hc0;go_wp2_with (fail)
       go_roundw
       case rel=>exact⟨k+1,out,by omega,by go_num,by rw[HCS.out];simp,HO.out,by have:=jI.out;simpa using this,HB.out,by omega⟩
       case measure=>simp[intOf];omega
     ·have hPp:0<P:=by omega
      have hd0:(P == 0)=false:=by simpa using hP0
      by_cases hs0:0<P+cc
      ·obtain⟨o,a1,rfl⟩:=HI.out.on (by rw[HPP.out];exact hPp)
       obtain⟨g7,c7,hv7,LW,OW⟩:=World.ownsRow.form ho (by simp);have I7:=cD (o:=o) (a:=a1) (h:=(k:Int)-1) (g:=g7) (cap:=c7) (by rw[<- hv7];exact ho) (k:Int);obtain⟨nx,hnx⟩:∃nx,o.length=nx:=⟨_,rfl⟩;have HNX:=hid hnx;rw[List.length_append,List.length_singleton]at hv7 hol;simp only[List.length_append,List.length_singleton]at I7;rw[hnx]at hv7 hol I7;subst hv7;obtain⟨hy1,hc7,hf7⟩:=I7;have Cx:=hid (fun W (hW:W=wr.setCell ⟨g7,nx*2+1,none⟩ (.int .i64 (k:Int)))=>show av W ws.heap.size (.slice (some ⟨g7,0,none⟩) (nx+1) c7) (o++[(a1,(k:Int))])/\Below ws.heap.size ws W from by
        subst hW;exact⟨hy1,HB.out.setCell LW _⟩)
       have s7:IntKind.i64.wrap ((nx:Int)+1-1)=(nx:Int):=by rw[show(nx:Int)+1-1=(nx:Int)by omega];exact IntWalk.i64_in _ (by omega)
       have s8:IntKind.i64.wrap (((nx+1:Nat):Int)-1)=(nx:Int):=by rw[show((nx+1:Nat):Int)-1=(nx:Int)by omega];exact IntWalk.i64_in _ (by omega)
       have n1:(0:Int)<=(nx:Int):=Int.natCast_nonneg _;have jI:=hid (cH.longer HCN.out HI.out (by rw[HCC.out,HPP.out];exact hs0));have hd1:decide (0<P+cc)=true:=decide_eq_true hs0;clear ho hy1 hb hnx;go_wp2_with (fail);obtain⟨w9,hw9⟩:∃w9,wr.setCell ⟨g7,nx*2+1,none⟩ (.int .i64 (k:Int))=w9:=⟨_,rfl⟩;rw[hw9];obtain⟨hx1,hx2⟩:=Cx.out w9 hw9.symm;have HX1:=hid hx1;have HX2:=hid hx2;clear hx1 hx2 hw9;go_wp2_with (fail)
       go_roundw
       case rel=>exact⟨k+1,o++[(a1,(k:Int))],by omega,by go_num,by rw[HCS.out],HX1.out,by have:=jI.out;simpa using this,HX2.out,by have:=HNX.out;simp;omega⟩
       case measure=>simp[intOf];omega
      ·have Nz:P+cc=0:=by omega
       have jI:=hid (cH.none_ HCN.out HI.out (by rw[HCC.out,HPP.out];exact Nz));have hd1:decide (0<P+cc)=false:=decide_eq_false hs0;have HO:=hid ho;clear ho hb;go_wp2_with (fail)
       go_roundw
       case rel=>exact⟨k+1,out,by omega,by go_num,by rw[HCS.out,Nz],HO.out,by have:=jI.out;simpa using this,HB.out,by omega⟩
       case measure=>simp[intOf];omega
    ·obtain rfl:k=N:=by omega
     have HFI:=hid (show aP (mem L) w (.returned u11) wr from⟨_,out,rfl,hi.done HCN.out (fun p hp=>by have h1:=HCB.out p hp;have h2:=HT.out;have h3:=HN.out;omega),aL ho HBS.out.size,HBS.out.trans (hb.mono HBS.out.size)⟩);clear ho hb hi hoz hP;go_wp2_with (fail);go_ret;have hfi:=HFI.out;rw[<- HLL.out]at hfi;exact hfi
end Go.Proofs.YtbdmcibcenhpnaaGreatDoor.Fi
namespace Go.Proofs.YtbdmcibcenhpnaaGreatDoor.Fi
set_option maxHeartbeats 64000000
open Go Go.RowKit Sp Sh
theorem vX (A A':Option Addr) (n n' c c':Nat) (a b:List Span) (ta tb:Int) (w:World) (h:RS w w.heap.size A n a) (h':RS w w.heap.size A' n' b) (hn1:n<=1073741825) (hn2:n'<=1073741825) (hok:IY a b ta tb) (hT:ta+tb<=1056964608) (hg:16384<n*n') :
  Calls Tryz.prog 115 #[.slice A n c,.slice A' n' c'] w (aP (mem (cK a b)) w):=by
 have HC:=Lib.hid (tq A A' n n' c c' a b ta tb w h h' hn1 hn2 hok hT);have hm2:n*n'<=1073741825*1073741825:=Nat.mul_le_mul hn1 hn2;have hm:(16384:Int)<(n:Int)*(n':Int):=by rw[<- Int.natCast_mul];omega
 have hm0:(n:Int)*(n':Int)<=1152921506754330625:=by rw[<- Int.natCast_mul];omega
 have s0:IntKind.i64.wrap ((n:Int)*(n':Int))=(n:Int)*(n':Int):=IntWalk.i64_in _ (by omega);obtain⟨m,hmm⟩:∃m,(n:Int)*(n':Int)=m:=⟨_,rfl⟩;rw[hmm]at s0 hm hm0;have hd:decide ((16384:Int)<m)=true:=decide_eq_true (by omega);clear h h' hok hg hm2;go_enter Tryz.func115,Tryz.ntmps115;go_wp2_with (fail);refine HC.out.mono ?_;intro e w1 hq;obtain⟨v,out,rfl,h1,h2,h3⟩:=hq;have HF:=Lib.hid (show aP (mem (cK a b)) w (.returned v) w1 from⟨v,out,rfl,h1,h2,h3⟩);clear h1 h2 h3;go_wp2_with (fail);go_ret;exact HF.out
theorem Da (A A':Option Addr) (n n' c c':Nat) (a b:List Span) (ta tb:Int) (w:World) (h:RS w w.heap.size A n a) (h':RS w w.heap.size A' n' b) (hn1:n<=1073741825) (hn2:n'<=1073741825) (hok:IY a b ta tb) (hT:ta+tb<=1056964608) :
  Calls Tryz.prog 115 #[.slice A n c,.slice A' n' c'] w (aP (Hz a b) w):=by
 have hso:H9 a b:=fun p hp q hq=>by
  have h1:=hok.fst p hp;have h2:=hok.snd q hq;have h3:=hok.nonneg;omega
 by_cases hg:16384<n*n'
 ·exact(vX A A' n n' c c' a b ta tb w h h' hn1 hn2 hok hT hg).mono fun e w' ⟨v,out,he,hi,ho,hb⟩=>⟨v,out,he,hi.congr (pO hso),ho,hb⟩
 ·have hp:0<n/\0<n':=by
   obtain⟨lo,e⟩:=hok.Ec;obtain⟨lo2,e2⟩:=hok.Eb;have h1:=h.1;have h2:=h'.1;refine⟨?_,?_⟩
   ·rcases Nat.eq_zero_or_pos n with q | q
    ·rw[q]at h1;rw[List.eq_nil_of_length_eq_zero h1]at e;cases e
    ·exact q
   ·rcases Nat.eq_zero_or_pos n' with q | q
    ·rw[q]at h2;rw[List.eq_nil_of_length_eq_zero h2]at e2;cases e2
    ·exact q
  have b1:n<=n*n':=Nat.le_mul_of_pos_right n hp.2;have b2:n'<=n*n':=Nat.le_mul_of_pos_left n' hp.1;exact oz A A' n n' c c' a b w h h' (by omega) (by omega) (by omega) hso
end Go.Proofs.YtbdmcibcenhpnaaGreatDoor.Fi
