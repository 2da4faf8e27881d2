import Derived.Test.YtbdmcibcenhpnaaGreatDoorF0
import Derived.Test.YtbdmcibcenhpnaaGreatDoorF00
import Derived.Test.YtbdmcibcenhpnaaGreatDoorF21
import Derived.Test.YtbdmcibcenhpnaaGreatDoorF29
import Derived.Test.YtbdmcibcenhpnaaGreatDoorF30
set_option maxRecDepth 100000
namespace Go.Proofs.YtbdmcibcenhpnaaGreatDoor.Pa
set_option maxHeartbeats 64000000
open Go Go.RowKit Go.Shelf Sp
open Go.Lib (hid)
attribute [local go_sem] Oper.semAt_some
def rsF (U x:Int):Span := (IntKind.i64.wrap (x*U), IntKind.i64.wrap (x*U))
def rZ (u:Int) (p:List Span):List Span := if u=0 then p else(bM p).map (rsF (pw u))
theorem uJ {f:Int->Span} (pre:List Int) (x:Int):(pre++[x]).map f=pre.map f++[f x] := by simp
attribute [local go_sem] jw
theorem zO (a d t u:Int) (base:Nat) (v:Value) (p:List Span) (w:World) (hown:av w base v p) (hbase:base<=w.heap.size) (hp:Plain p) (hu01:p≠[]->0<=u/\u<=20) :
    Calls Tryz.prog 118 #[prt a d t u, v] w (vI w base (rZ u p)) := by
  obtain⟨A, c, hv, hr, hge, hlc⟩ := qu hown;subst hv;by_cases hu:u=0
  · subst hu
    have HO := hid hown;clear hown hr hge;go_enter Tryz.func118, Tryz.ntmps118;go_wp2_with (fail);go_ret;exact⟨_, rfl, (show av _ base _ p from World.ownsRow.alloc HO.out _), (Below.refl _ _).alloc hbase _⟩
  have hub:(u == 0)=false := by simpa using hu
  have HR := hid (show rZ u p=(bM p).map (rsF (pw u))from if_neg hu);have hs := hp.short;have hpos := aU u;have hcl := vD hp;have hnl := qz p hp;have hlen:(bM p).length<=2147483650 := by omega
  have HP := hid hp;have HNL := hid hlen;obtain⟨i0, hi, hz0, hz1, hz2⟩ := info_parts bQ;have HU := hid hu01;clear hu hcl hnl hlen hown hge hu01;obtain⟨w0, hw0⟩:∃w0, w.alloc (.cells #[.int .i64 a, .int .i64 d, .int .i64 t, .int .i64 u] 94)=w0 := ⟨_, rfl⟩;have hbw:Below w.heap.size w w0 := by rw[<- hw0]; exact(Below.refl _ w).alloc (Nat.le_refl _) _
  have hsz:w0.heap.size=w.heap.size+1 := by rw[<- hw0]; simp
  have q0 := boxed4 (w := w) (w1 := w0) (by rw[hw0]; exact Below.refl _ _);have q3:w0.cell? ⟨w.heap.size, 3, none⟩=some (.int .i64 u) := q0.2.2.2;refine(callsIn_wide (n := 4)).1 ?_;refine callsIn_of_wp_marks Tryz.func118 rfl trivial ?_ rfl;simp only[Tryz.ntmps118, List.size_toArray, List.length_cons, List.length_nil, Nat.reduceAdd, Nat.reduceSub, Array.replicate_succ, Array.replicate_zero, List.push_toArray, List.append_toArray, List.nil_append, List.cons_append]
  gi_wp2_with (fail)
  have bO := Boxed.new w0 48 (.slice none 0 0);rw[hsz]at bO;have hb1:Below w0.heap.size w0 (w0.alloc (.cells #[.slice none 0 0] 48)) := (Below.refl _ _).alloc (Nat.le_refl _) _;have hsz1:(w0.alloc (.cells #[.slice none 0 0] 48)).heap.size=w.heap.size+2 := by simp[hsz]
  have hr1 := (hr.ah hbw).ah hb1
  generalize (w0.alloc (.cells #[.slice none 0 0] 48))=w1 at *
  refine⟨trivial, ?_⟩;refine(callsIn_wide.2 (EN A p.length c p p w1 hr1 (by omega) (Is.self HP.out))).mono ?_;rintro e w2 ⟨Bs, A2, c2, rfl, hcs, hge, hge2, hr2, hb2⟩;have hsz2 := hb2.size;have bO2 := aO bO hb2 (by omega);have hbW:Below w0.heap.size w0 w2 := hb1.trans (hb2.mono (by omega));have HQ3 := hid q3;have hst := sW 3 (by omega) Bs A2 c2 p HP.out (gb (w.heap.size+1)) w2
    (fun W hW => ⟨by have := hW.size; omega, fun g hg => by rw[dx (aO bO2 hW (by omega))]at hg; cases hg⟩)
    (fun W b off hW e => ⟨by have := hge2 b off e; omega, fun hg => by rw[dx (aO bO2 hW (by omega))]at hg; cases hg⟩) hcs hr2
  have Qe := hid hbw;have HH1 := hid hb1;clear hcs hge hge2 hr2 hb2 hr1 hr hb1 bO q0 q3 hbw hw0
  gi_wp2_with (fail)
  refine wpIn_rangeFunc_ownF (F := Fence.wide) rfl (by omega) (gf := 141) (lb := #[.pointer (some ⟨Bs, 0, none⟩)]) rfl trivial (enters_of Tryz.func141 (by kernel_rfl) rfl)
    hst (fun h k => (gb _).trans h k) (fun W l o o' hl ho hc _ => lQ (by omega) ho hc) (Below.refl _ _) (fun _ => rfl)
    (fun pre W => (∃v, Boxed W (w.heap.size+1) 48 v/\W.ownsRow w0.heap.size 47 2 v (pre.map (rsF (pw u))).length (flat (pre.map (rsF (pw u))))/\True)/\Below w0.heap.size w0 W)
    (fun _ _ _ => False)
    (OwnFrom.and (Own.from (holdsRow_own w0.heap.size (w.heap.size+1) 48 47 2 (fun pre:List Int => (pre.map (rsF (pw u))).length) (fun pre => flat (pre.map (rsF (pw u)))) (fun _ _ => True)) _) (ownFrom_below (Nat.le_refl _) (by omega)))
    (fun _ _ _ _ _ hs _ _ => hs)
    ⟨⟨_, bO2, World.ownsRow_nil _ _ _ _, trivial⟩, hbW⟩
    (fun x => { tmps := #[prt a d t u, .slice A p.length c, .pointer (some ⟨w.heap.size, 0, none⟩), undef, .slice none 0 0, .pointer (some ⟨w.heap.size+1, 0, none⟩), .int .i64 x, .pointer (some ⟨w.heap.size, 3, none⟩), .int .i64 u, .bool false, undef, .slice A p.length c, .func (.func 141) #[] #[.pointer (some ⟨Bs, 0, none⟩)], .int .i64 x, undef, undef, undef, undef, undef, undef, undef, undef, undef, undef, undef, undef, undef], defers := [] }) ?assign ?body ?done ?stop
  case assign =>
    intro l x W K hK
    gi_wp2
    exact hK
  case body =>
    rintro lp pre x W ⟨⟨v, hv, hrow, -⟩, hB⟩ hlt;have hc := hv.cell;have hf := hv.frozen;have hWs := hB.size;have q3:W.cell? ⟨w.heap.size, 3, none⟩=some (.int .i64 u) := (hB.cell (p := ⟨w.heap.size, 3, none⟩) (by simp; omega)).trans HQ3.out;have hBl := hv.lt;obtain⟨hu0, hu1⟩ := HU.out (fun e => by rw[e]at hlt; simp[bM]at hlt);have c1:u<=64 := by omega
    have HV := hid hv;have rO := hid hrow;have HBB := hid hB;have hne:some (w.heap.size+1)≠v.ownBlock := hv.not_row (by decide) hrow;have hne3:v.ownBlock≠some w.heap.size := fun e => by have := (hrow.lt _ e).1; omega
    clear hst hrow hv hB
    gi_wp2_with (fail)
    refine Ro.mO (S := (fun w' => w'.cell? ⟨w.heap.size, 3, none⟩=some (.int .i64 u))) (by kernel_rfl) (Ro.zZ (by kernel_rfl)) ?hq q3 (fun hHeld => ?_)
    case hq =>
      rintro⟨a', w', h'⟩;exact h'
    refine tk 1 ⟨some 15, .move (.tmp 6), _, _, _, none⟩ ?_ rfl ?_ ?_;rotate_left
    · intro w' hSw
      (try dsimp only at hSw)
      go_simp;all_goals with_reducible rfl
    try simp only[Act.put, sA, sB, sC]
    refine tk 2 ⟨some 16, .fieldAddr 94 (.tmp 2) 3, _, _, _, none⟩ ?_ rfl ?_ ?_;rotate_left
    · intro w' hSw
      (try dsimp only at hSw)
      go_simp;all_goals with_reducible rfl
    try simp only[Act.put, sA, sB, sC]
    refine tk 3 ⟨some 17, .load 3 (.tmp 16), _, _, _, none⟩ ?_ rfl ?_ ?_;rotate_left
    · intro w' hSw
      (try dsimp only at hSw)
      go_simp;all_goals with_reducible rfl
    try simp only[Act.put, sA, sB, sC]
    refine tk 4 ⟨some 18, .binOp .shl 3 (.tmp 15) (.tmp 17) 3, _, _, _, none⟩ ?_ rfl ?_ ?_;rotate_left
    · intro w' hSw
      (try dsimp only at hSw)
      go_simp;all_goals with_reducible rfl
    try simp only[Act.put, sA, sB, sC]
    refine tk 5 ⟨some 19, .move (.tmp 6), _, _, _, none⟩ ?_ rfl ?_ ?_;rotate_left
    · intro w' hSw
      (try dsimp only at hSw)
      go_simp;all_goals with_reducible rfl
    try simp only[Act.put, sA, sB, sC]
    refine tk 6 ⟨some 20, .fieldAddr 94 (.tmp 2) 3, _, _, _, none⟩ ?_ rfl ?_ ?_;rotate_left
    · intro w' hSw
      (try dsimp only at hSw)
      go_simp;all_goals with_reducible rfl
    try simp only[Act.put, sA, sB, sC]
    refine tk 7 ⟨some 21, .load 3 (.tmp 20), _, _, _, none⟩ ?_ rfl ?_ ?_;rotate_left
    · intro w' hSw
      (try dsimp only at hSw)
      go_simp;all_goals with_reducible rfl
    try simp only[Act.put, sA, sB, sC]
    refine tk 8 ⟨some 22, .binOp .shl 3 (.tmp 19) (.tmp 21) 3, _, _, _, none⟩ ?_ rfl ?_ ?_;rotate_left
    · intro w' hSw
      (try dsimp only at hSw)
      go_simp;all_goals with_reducible rfl
    try simp only[Act.put, sA, sB, sC]
    refine tk 9 ⟨some 23, .build 47 #[(0, .tmp 18), (1, .tmp 22)], _, _, _, none⟩ ?_ rfl ?_ ?_;rotate_left
    · intro w' hSw
      (try dsimp only at hSw)
      go_simp;all_goals with_reducible rfl
    try simp only[Act.put, sA, sB, sC]
    refine wpAnyH_ready (rs := [0, 10]) (by kernel_rfl) (by simp) ?_;refine AllReadyH.cons (o := ⟨some 14, .load 48 (.tmp 5), _, _, _, none⟩) rfl (fun K hK => ?_) (AllReadyH.cons (o := ⟨some 24, .buildSlice 48 1 #[(0, .tmp 23)], _, _, _, none⟩) rfl (fun K hK => ?_) AllReadyH.nil)
    · go_simp
      refine hK.out _ _ ?_ (fun hHeld => ?_)
      · first | go_keep | simp[*]
      clear hK K;try simp only[Act.put, sA, sB, sC]
      refine wpAnyH_ready (rs := [10]) (by kernel_rfl) (by simp) ?_;refine AllReadyH.cons (o := ⟨some 24, .buildSlice 48 1 #[(0, .tmp 23)], _, _, _, none⟩) rfl (fun K hK => ?_) AllReadyH.nil;go_simp;refine hK.out _ _ ?_ (fun hHeld => ?_)
      · first | go_keep | simp[*]
      clear hK K;try simp only[Act.put, sA, sB, sC]
      refine wpAnyH_ready (rs := [11]) (by kernel_rfl) (by simp) ?_;refine AllReadyH.cons (o := ⟨some 25, .call { callee := .builtin .append, args := #[.tmp 14, .tmp 24], argTypes := #[48, 48] }, _, _, _, none⟩) rfl (fun K hK => ?_) AllReadyH.nil;refine step_append_lies _ (by rfl) _ _ _ (by rfl) w0.heap.size 47 i0 _ 2 16 Tryz.underlying48 hi hz0 hz1 hz2 rfl (by omega) v (pre.map (rsF (pw u))).length (flat (pre.map (rsF (pw u)))) (by rfl) ((rO.out.alloc _).drew)
              ⟨W.heap.size, 0, none⟩ 1 1 [.int .i64 (IntKind.i64.wrap (x*pw u)), .int .i64 (IntKind.i64.wrap (x*pw u))] (by rfl) (by rfl) (World.news_of_block (cs := #[.int .i64 (IntKind.i64.wrap (x*pw u)), .int .i64 (IntKind.i64.wrap (x*pw u))]) (t := 47) (fr := (0, 0)) (heap_alloc_new W _)) (by simp[Value.oneCell'])
              (by omega) (by rw[List.length_map]; have := HNL.out; simp only[maxLen]; omega) (by rw[List.length_map]; have := HNL.out; omega) (by simp; omega) (W.heap.size+1) (by simp) ?_
      intro gg cap w4 hown1 hgrow hat hlt4;refine hK.out _ _ ?_ (fun hHeld => ?_)
      · (rw[hgrow.cell_far _ (by simp; omega) (Ne.symm hne3)]; assumption)
      clear hK K;try simp only[Act.put, sA, sB, sC]
      have hgrow':(W.alloc (.cells #[.int .i64 (IntKind.i64.wrap (x*pw u)), .int .i64 (IntKind.i64.wrap (x*pw u))] 47)).grownBy w4 v.ownBlock := ⟨hgrow.os, hgrow.tape, hgrow.output, hgrow.size, hgrow.block⟩;obtain⟨hv1, hv2, hr2, hk2, hb2⟩ := HV.out.appended (by decide) rO.out (by omega) (by omega) hown1 hgrow';have hkp := eu (n := (pre.map (rsF (pw u))).length+1) (cap := cap) HV.out hv1 (by have := hgrow'.size; simp at this; omega) (fun k hk hne => by rw[hgrow'.block k (by simp; omega) hne]; exact Below.heap_alloc W _ k hk) (hat.imp id (fun e => by omega)) hlt4;have hc1 := hv1.cell;have hf1 := hv1.frozen;rw[List.length_map]at hv2 hr2 hk2 hb2 hkp;refine wpAnyH_ready (rs := [12]) (by kernel_rfl) (by simp) ?_;refine AllReadyH.cons (o := ⟨none, .store 48 (.tmp 5) (.tmp 25), _, _, _, none⟩) rfl (fun K hK => ?_) AllReadyH.nil;go_simp;refine hK.out _ _ ?_ (fun hHeld => ?_)
      · first | go_keep | simp[*]
      clear hK K;try simp only[Act.put, sA, sB, sC]
      refine wpAnyH_done (by kernel_rfl) ?_ _
      gi_wp2_with (fail)
      exact⟨hk2, hkp, ⟨⟨_, hv2, by rw[uJ, aA, List.length_append, List.length_map]; exact hr2, trivial⟩, HBB.out.trans hb2⟩⟩
    · go_simp
      refine hK.out _ _ ?_ (fun hHeld => ?_)
      · first | go_keep | simp[*]
      clear hK K;try simp only[Act.put, sA, sB, sC]
      refine wpAnyH_ready (rs := [0]) (by kernel_rfl) (by simp) ?_;refine AllReadyH.cons (o := ⟨some 14, .load 48 (.tmp 5), _, _, _, none⟩) rfl (fun K hK => ?_) AllReadyH.nil;go_simp;refine hK.out _ _ ?_ (fun hHeld => ?_)
      · first | go_keep | simp[*]
      clear hK K;try simp only[Act.put, sA, sB, sC]
      refine wpAnyH_ready (rs := [11]) (by kernel_rfl) (by simp) ?_;refine AllReadyH.cons (o := ⟨some 25, .call { callee := .builtin .append, args := #[.tmp 14, .tmp 24], argTypes := #[48, 48] }, _, _, _, none⟩) rfl (fun K hK => ?_) AllReadyH.nil;refine step_append_lies _ (by rfl) _ _ _ (by rfl) w0.heap.size 47 i0 _ 2 16 Tryz.underlying48 hi hz0 hz1 hz2 rfl (by omega) v (pre.map (rsF (pw u))).length (flat (pre.map (rsF (pw u)))) (by rfl) ((rO.out.alloc _).drew)
              ⟨W.heap.size, 0, none⟩ 1 1 [.int .i64 (IntKind.i64.wrap (x*pw u)), .int .i64 (IntKind.i64.wrap (x*pw u))] (by rfl) (by rfl) (World.news_of_block (cs := #[.int .i64 (IntKind.i64.wrap (x*pw u)), .int .i64 (IntKind.i64.wrap (x*pw u))]) (t := 47) (fr := (0, 0)) (heap_alloc_new W _)) (by simp[Value.oneCell'])
              (by omega) (by rw[List.length_map]; have := HNL.out; simp only[maxLen]; omega) (by rw[List.length_map]; have := HNL.out; omega) (by simp; omega) (W.heap.size+1) (by simp) ?_
      intro gg cap w4 hown1 hgrow hat hlt4;refine hK.out _ _ ?_ (fun hHeld => ?_)
      · (rw[hgrow.cell_far _ (by simp; omega) (Ne.symm hne3)]; assumption)
      clear hK K;try simp only[Act.put, sA, sB, sC]
      have hgrow':(W.alloc (.cells #[.int .i64 (IntKind.i64.wrap (x*pw u)), .int .i64 (IntKind.i64.wrap (x*pw u))] 47)).grownBy w4 v.ownBlock := ⟨hgrow.os, hgrow.tape, hgrow.output, hgrow.size, hgrow.block⟩;obtain⟨hv1, hv2, hr2, hk2, hb2⟩ := HV.out.appended (by decide) rO.out (by omega) (by omega) hown1 hgrow';have hkp := eu (n := (pre.map (rsF (pw u))).length+1) (cap := cap) HV.out hv1 (by have := hgrow'.size; simp at this; omega) (fun k hk hne => by rw[hgrow'.block k (by simp; omega) hne]; exact Below.heap_alloc W _ k hk) (hat.imp id (fun e => by omega)) hlt4;have hc1 := hv1.cell;have hf1 := hv1.frozen;rw[List.length_map]at hv2 hr2 hk2 hb2 hkp;refine wpAnyH_ready (rs := [12]) (by kernel_rfl) (by simp) ?_;refine AllReadyH.cons (o := ⟨none, .store 48 (.tmp 5) (.tmp 25), _, _, _, none⟩) rfl (fun K hK => ?_) AllReadyH.nil;go_simp;refine hK.out _ _ ?_ (fun hHeld => ?_)
      · first | go_keep | simp[*]
      clear hK K;try simp only[Act.put, sA, sB, sC]
      refine wpAnyH_done (by kernel_rfl) ?_ _
      gi_wp2_with (fail)
      exact⟨hk2, hkp, ⟨⟨_, hv2, by rw[uJ, aA, List.length_append, List.length_map]; exact hr2, trivial⟩, HBB.out.trans hb2⟩⟩
  case done =>
    rintro D ys W hD rfl ⟨⟨v, hv, hrow, -⟩, hB⟩ hK;have hc := hv.cell;have HO := hid (show av (W.putObj D (.deferred none)) base v ((bM p).map (rsF (pw u)))from aL (ownsRow_putObj hrow _ hK rfl) (by omega));have HBF := hid ((Qe.out.mono hbase).trans ((hB.trans (belowK_b (w := w0) (Nat.le_refl _) W D _ (.deferred none) (by omega) hK rfl rfl)).mono (by omega)));clear hst hrow hv hB hbW bO2
    gi_wp2_with (fail)
    refine⟨by simp, .inl ⟨_, _, rfl, run_takeDeferred hK, ?_⟩⟩;exact⟨_, results_tmp rfl _ _ _, v, rfl, by rw[HR.out]; exact HO.out, HBF.out⟩
  case stop =>
    rintro D cd pre W hD hpre h hK;exact h.elim
end Go.Proofs.YtbdmcibcenhpnaaGreatDoor.Pa
namespace Go.Proofs.YtbdmcibcenhpnaaGreatDoor.Pa
open Go Sp
def Iu (d t u:Int) (s:List Span) (y:Int):Prop:=∃x,CR d t u s x/\dc d t u x=y
def pN (d t:Int) (p:List Span):List Span:=p.flatMap fun q=>mF d t q.1 q.2
theorem y9 {d t:Int} {p:List Span} {k:Nat} {lo hi:Int} (hk:∃hl:k<p.length,p[k]=(lo,hi)):pN d t (p.take (k+1))=pN d t (p.take k)++mF d t lo hi:=by
 obtain⟨hl,e⟩:=hk;rw[List.take_succ_eq_append_getElem hl,pN,List.flatMap_append,e];simp[pN]
theorem tU (d t:Int) (p:List Span):(pN d t p).length<=2*p.length:=by
 induction p with
 | nil=>simp[pN]
 | cons q p ih=>
  have:pN d t (q::p)=mF d t q.1 q.2++pN d t p:=rfl;rw[this,List.length_append,List.length_cons];have:=y8 d t q.1 q.2;omega
theorem C8 {d t:Int} (ht:t<=21) {p:List Span} (hp:Low p) (y:Int):mem (pN d t p) y↔∃x,mem p x/\x / pw d % pw t=y:=by
 induction p with
 | nil=>
  constructor
  ·intro h;exact absurd h (aI y)
  ·rintro⟨x,h,_⟩;exact absurd h (aI x)
 | cons q p ih=>
  have hq:=hp q (by simp);have ih:=ih (fun r hr=>hp r (by simp[hr]));have e:pN d t (q::p)=mF d t q.1 q.2++pN d t p:=rfl;rw[e,mem_append,ih,yZ hq.2.1 ht]
  constructor
  ·rintro(⟨x,a,b,c⟩ | ⟨x,a,b⟩)
   ·exact⟨x,mem_cons.2 (.inl ⟨by unfold Rng;omega,a,b⟩),c⟩
   ·exact⟨x,mem_cons.2 (.inr a),b⟩
  ·rintro⟨x,a,c⟩
   rcases mem_cons.1 a with⟨_,a1,a2⟩ | a
   ·exact .inl ⟨x,a1,a2,c⟩
   ·exact .inr ⟨x,a,c⟩
theorem jt:∀(n:Nat) (lo x:Int),x∈seg lo n↔lo<=x/\x<lo+n:=by
 intro n
 induction n with
 | zero=>intro lo x;simp[seg] <;> omega
 | succ n ih=>intro lo x;rw[seg,List.mem_cons,ih];omega
theorem wD:∀(n:Nat) (lo:Int),(seg lo n).Pairwise (· < ·):=by
 intro n
 induction n with
 | zero=>intro lo;exact List.Pairwise.nil
 | succ n ih=>intro lo;rw[seg];exact List.Pairwise.cons (fun x hx=>by have:=(jt n (lo+1) x).1 hx;omega) (ih _)
theorem eN:∀(p:List Span),Plain p->∀x,x∈bM p↔mem p x:=by
 intro p
 induction p with
 | nil=>intro _ x;simp[bM,aI]
 | cons q p ih=>
  intro h x;have hc:=h.cons;have ho:=hc.1;unfold Ok at ho;rw[bM,List.mem_append,jt,ih hc.2.1 x,mem_cons];unfold Rng
  constructor
  all_goals
   rintro(a | a)
   ·exact .inl (by omega)
   ·exact .inr a
theorem qy:∀(p:List Span),Plain p->(bM p).Pairwise (· < ·):=by
 intro p
 induction p with
 | nil=>intro _;exact List.Pairwise.nil
 | cons q p ih=>
  intro h;have hc:=h.cons;have ho:=hc.1;unfold Ok at ho;rw[bM];refine List.pairwise_append.2 ⟨wD _ _,ih hc.2.1,fun a ha b hb=>?_⟩;have h1:=(jt _ _ a).1 ha;obtain⟨_,r,hr,h2,h3⟩:=(eN p hc.2.1 b).1 hb;have:=hc.2.2 r hr;omega
theorem Gu {p:List Span} {u:Int} (hp:Plain p) (hl:∀y,mem p y->0<=y/\y<=63) (hu1:1<=u) (hu2:u<=20):Is ((bM p).map (rsF (pw u))) fun v=>∃y,mem p y/\y*pw u=v:=by
 have h2:=Jt hu1;have h20:=mH hu2 pw20;have hb:∀y,mem p y->0<=y*pw u/\y*pw u<=66060288:=fun y hy=>qC (A:=63) (B:=1048576) (hl y hy).1 (hl y hy).2 (by omega) h20
 have hf:∀y,mem p y->rsF (pw u) y=(y*pw u,y*pw u):=fun y hy=>by
  have:=hb y hy;unfold rsF;rw[IntWalk.i64_in _ (by omega)]
 refine⟨⟨?_,?_⟩,fun v=>?_⟩
 ·rw[List.pairwise_map]
  refine(qy p hp).imp_of_mem fun {a b} ha hb' hab=>?_
  rw[hf a ((eN p hp a).1 ha),hf b ((eN p hp b).1 hb')];simp only;have:=Int.mul_le_mul_of_nonneg_right (show a+1<=b by omega) (show 0<=pw u by omega);rw[Int.add_mul,Int.one_mul]at this;omega
 ·intro q hq
  obtain⟨y,hy,rfl⟩:=List.mem_map.1 hq;have hy:=(eN p hp y).1 hy;rw[hf y hy];have:=hb y hy;unfold Ok;simp only;omega
 ·unfold mem
  constructor
  ·rintro⟨_,q,hq,a,b⟩
   obtain⟨y,hy,rfl⟩:=List.mem_map.1 hq;have hy:=(eN p hp y).1 hy;rw[hf y hy]at a b;simp only at a b;exact⟨y,hy,by omega⟩
  ·rintro⟨y,hy,rfl⟩
   have:=hb y hy;refine⟨by unfold Rng;omega,rsF (pw u) y,List.mem_map.2 ⟨y,(eN p hp y).2 hy,rfl⟩,?_⟩;rw[hf y hy];exact⟨Int.le_refl _,Int.le_refl _⟩
theorem JB {d t u:Int} {s own tk:List Span} (hown:Is own (CR d t u s)) (htk:Is tk (mem (pN d t own))):Is (rZ u tk) (Iu d t u s):=by
 by_cases hb:Bits d t u
 ·have hlow:Low own:=FC hown.1 fun x hx=>((hown.2 x).1 hx).2.2
  have hk:∀y,mem tk y↔∃x,CR d t u s x/\x / pw d % pw t=y:=fun y=>by
   rw[htk.2,C8 hb.2.2.2.1 hlow]
   constructor
   ·rintro⟨x,a,b⟩;exact⟨x,(hown.2 x).1 a,b⟩
   ·rintro⟨x,a,b⟩;exact⟨x,(hown.2 x).2 a,b⟩
  obtain⟨b1,b2,b3,b4,b5,b6,b7⟩:=hb;by_cases hu:u=0
  ·subst hu
   rw[rZ,if_pos rfl];refine⟨htk.1,fun y=>?_⟩;rw[hk];unfold Iu dc;rw[oD];simp only[Int.mul_one]
  ·rw[rZ,if_neg hu]
   refine(Gu htk.1 (fun y hy=>?_) (by omega) b6).congr fun v=>?_
   ·obtain⟨x,_,rfl⟩:=(hk y).1 hy
    have:=mod_lt (x / pw d) t;have:=mH (show t<=6 by omega) pw6;omega
   ·constructor
    ·rintro⟨y,hy,rfl⟩
     obtain⟨x,a,rfl⟩:=(hk y).1 hy;exact⟨x,a,rfl⟩
    ·rintro⟨x,a,rfl⟩
     exact⟨_,(hk _).2 ⟨x,a,rfl⟩,rfl⟩
 ·have h1:own=[]:=hown.cQ.2 fun x hx=>hb hx.1
  subst h1;have h2:tk=[]:=htk.cQ.2 fun x hx=>aI x hx
  subst h2;have e:rZ u []=[]:=by unfold rZ;split <;> rfl
  rw[e];exact⟨Plain.nil,fun y=>⟨fun h=>absurd h (aI y),fun⟨x,hx,_⟩=>absurd hx.1 hb⟩⟩
theorem Hs {d t u:Int} {s own tk:List Span} (hown:Is own (CR d t u s)) (htk:Is tk (mem (pN d t own))) (hne:tk≠[]):0<=u/\u<=20:=by
 by_cases hb:Bits d t u
 ·exact⟨hb.2.2.2.2.1,hb.2.2.2.2.2.1⟩
 ·have h1:own=[]:=hown.cQ.2 fun x hx=>hb hx.1
  subst h1;exact absurd (htk.cQ.2 fun x hx=>aI x hx) hne
end Go.Proofs.YtbdmcibcenhpnaaGreatDoor.Pa
namespace Go.Proofs.YtbdmcibcenhpnaaGreatDoor.Pa
set_option maxHeartbeats 64000000
open Go Go.RowKit Sp
open Go.Lib (hid)
def Kq (d t:Int) (p:List Span) (w2:World) (v i:Value) (wr:World):Prop:=∃k:Nat,k<=p.length/\i = .int .i64 k/\av wr w2.heap.size v (pN d t (p.take k))/\Below w2.heap.size w2 wr
theorem qI (a d t u:Int) (A:Option Addr) (n c:Nat) (s:List Span) (w:World) (h:RS w w.heap.size A n s) (hn:n<=1099511627776) (hc:n<=c) :
  Calls Tryz.prog 95 #[prt a d t u,.slice A n c] w (aP (Iu d t u s) w):=by
 have HV:=hid (fun W (hW:RS W W.heap.size A n s)=>vU a d t u A n c s W hW hn hc);have H:=hid h;obtain⟨w0,hw0⟩:∃w0,w.alloc (.cells #[.int .i64 a,.int .i64 d,.int .i64 t,.int .i64 u] 94)=w0:=⟨_,rfl⟩;have hbw:Below w.heap.size w w0:=by rw[<- hw0];exact(Below.refl _ w).alloc (Nat.le_refl _) _
 have hz0:w0.heap.size=w.heap.size+1:=by rw[<- hw0];simp
 have q0:∀(W:World),Below w0.heap.size w0 W->W.cell? ⟨w.heap.size,0,none⟩=some (.int .i64 a)/\W.cell? ⟨w.heap.size,1,none⟩=some (.int .i64 d)/\W.cell? ⟨w.heap.size,2,none⟩=some (.int .i64 t)/\W.cell? ⟨w.heap.size,3,none⟩=some (.int .i64 u):=by
  rw[<- hw0];exact fun W hW=>boxed4 hW
 obtain⟨q1,q2,q3,q4⟩:=q0 w0 (Below.refl _ _);have Q0:=hid q0;have HW:=hid hbw;clear h q0 hbw hn hc;go_enter Tryz.func95,Tryz.ntmps95;go_wp2_with (fail);refine(HV.out _ (H.out.ah HW.out)).mono ?_;rintro e w2 ⟨v2,p,rfl,his,ho,hb2⟩;obtain⟨A2,c2,hv2,hc2,hr2⟩:=aF ho;subst hv2;have hz2:=hb2.size;have hs:=his.1.short;have HI:=hid his;have HR:=hid hr2;have HB2:=hid hb2;have hlow:p≠[]->Bits d t u/\Low p:=fun hp=>by
  have hl:Low p:=FC his.1 fun x hx=>((his.2 x).1 hx).2.2
  obtain⟨q,l,rfl⟩:=List.exists_cons_of_ne_nil hp;obtain⟨x1,x2,x3⟩:=his.1.2 q (by simp);exact⟨((his.2 q.1).1 ⟨by unfold Rng;omega,q,by simp,Int.le_refl _,x1⟩).1,hl⟩
 have HL:=hid hlow;clear q1 q2 q3 q4 hw0 his hr2 ho hb2 hlow HV;go_wp2_with (fail)
 go_loopw [5,12] (fun v i wr=>Kq d t p w2 v i wr) (fun _ i _=>p.length-(intOf i).toNat)
 case atStart=>exact⟨0,Nat.zero_le _,rfl,World.ownsRow_nil _ _ _ _,Below.refl _ _⟩
 case round=>
  obtain⟨k,hk,rfl,ho,hb⟩:=hrel;have hz:=hb.size;have HO:=hid ho;have HB:=hid hb;by_cases hlt:k<p.length
  ·obtain⟨b,off,lo,hi,hA,hbB,hlk,hc1,Et⟩:=(HR.out.below hb).at_ hlt
   have hbs:b<wr.heap.size:=by omega
   obtain⟨lX,hl⟩:=HL.out (fun e=>by rw[e]at hlt;simp at hlt);have hq:=hl p[k] (List.getElem_mem hlt);have hq0:0<=lo/\lo<=hi/\hi<=2097151:=by obtain⟨hl1,e1⟩:=hlk;rw[e1]at hq;exact hq
   have HNX:=hid (y9 (d:=d) (t:=t) hlk);have hlen:=tU d t (p.take k);rw[List.length_take]at hlen;have HBI:=hid lX;obtain⟨r0,r1,r2,r3⟩:=Q0.out wr (HB2.out.trans (hb.mono hz2));have hwz:w.heap.size<wr.heap.size:=by omega
   clear hlk hq hl lX ho hb;subst hA;go_wp2_with (fail);refine(C6 w2.heap.size _ (pN d t (p.take k)) a d t u lo hi _ (show av _ _ _ _ from World.ownsRow.alloc HO.out _) (by simp;omega) (by omega) HBI.out hq0.1 hq0.2.1 hq0.2.2).mono ?_;rintro e w3 ⟨v3,rfl,ho3,hb3⟩;have HO3:=hid ho3;have HB3:=hid ((HB.out.alloc hz _).trans hb3);clear ho3 hb3;go_wp2_with (fail)
   go_roundw
   case rel=>exact⟨k+1,by omega,by go_num,by rw[HNX.out];exact HO3.out,HB3.out⟩
   case measure=>simp[intOf];omega
  ·have hT:p.take k=p:=List.take_of_length_le (by omega)
   rw[hT]at ho;obtain⟨A5,c5,hv5,hc5,hr5⟩:=aF ho;subst hv5;have hlen:=tU d t p;have hbB:Below w0.heap.size w0 wr:=HB2.out.trans (hb.mono hz2);obtain⟨r0,r1,r2,r3⟩:=Q0.out wr hbB;have HR5:=hid hr5;have HBB:=hid hbB;have HWB:=hid (HW.out.trans (hbB.mono (by omega)));have hwz:w.heap.size<wr.heap.size:=by have:=hbB.size;omega
   clear hT ho hr5 hb HO hbB HB;go_wp2_with (fail)
   go_region_held3 (fun w'=>w'.cell? ⟨w.heap.size,0,none⟩=some (.int .i64 a)/\w'.cell? ⟨w.heap.size,1,none⟩=some (.int .i64 d)/\w'.cell? ⟨w.heap.size,2,none⟩=some (.int .i64 t)/\w'.cell? ⟨w.heap.size,3,none⟩=some (.int .i64 u))
    (first
     | go_keep
     | (go_split_ands;refine⟨?_,?_,?_,?_⟩;all_goals (rw[hb7.cell (by simp;omega)];assumption))
     | (go_split_ands;refine⟨?_,?_,?_,?_⟩;all_goals (rw[hb6.cell (by simp;omega)];assumption)))
    (first
     | (go_at_call 100;refine(fF A5 (pN d t p).length c5 (pN d t p) _ (HR5.out.ah (Below.refl _ wr).drew) (by omega)).mono ?_;rintro e w6 ⟨v6,tk,rfl,his6,ho6,hb6⟩;have hz6:wr.heap.size<=w6.heap.size:=by(have:=hb6.size;simpa using this))
     | (go_at_call 118;refine(zO a d t u wr.heap.size v6 tk _ (aL ho6 (by simp)) hz6 his6.1 (fun hne=>?_)).mono ?_;(· exact Hs HI.out his6 hne);rintro e w7 ⟨v7,rfl,ho7,hb7⟩))
   have HIM:=hid (JB HI.out his6);have HO7:=hid (aL ho7 (Nat.le_of_lt hwz));have HB7:=hid ((HWB.out.drew.trans (hb6.mono (by simp;omega))).trans (hb7.mono (Nat.le_of_lt hwz)));clear ho7 hb7 ho6 hb6 his6;go_wp2_with (fail);go_ret;exact⟨v7,_,rfl,HIM.out,HO7.out,HB7.out⟩
end Go.Proofs.YtbdmcibcenhpnaaGreatDoor.Pa
namespace Go.Proofs.YtbdmcibcenhpnaaGreatDoor.Pa
open Go Sp
open Go.RowKit Go.Shelf
attribute [local go_sem] Oper.semAt_some
end Go.Proofs.YtbdmcibcenhpnaaGreatDoor.Pa
namespace Go.Proofs.YtbdmcibcenhpnaaGreatDoor.Pa
open Go Go.RowKit Sp
attribute [local go_sem] jr rQ
structure PI (S:Int->Prop) (X:Int) (out:List Span):Prop where
 plain:Plain out
 set:∀y,mem out y↔(S y/\y<X)
theorem PI.move {S:Int->Prop} {X X':Int} {out:List Span} (h:PI S X out) (h1:∀y,X<=y->y<X'->¬ S y) (h2:∀y,X'<=y->y<X->¬ S y):PI S X' out:=
 ⟨h.plain,fun y=>by
  rw[h.set]
  constructor
  ·rintro⟨a,b⟩
   exact⟨a,(Int.lt_or_le y X').elim id fun q=>absurd a (h2 y q b)⟩
  ·rintro⟨a,b⟩
   exact⟨a,(Int.lt_or_le y X).elim id fun q=>absurd a (h1 y q b)⟩⟩
theorem PI.below {S:Int->Prop} {X:Int} {out:List Span} (h:PI S X out):∀q∈out,q.2<X:=fun q hq=>by
 obtain⟨a,b,c⟩:=h.plain.2 q hq;exact((h.set q.2).1 ⟨by unfold Rng;omega,q,hq,a,Int.le_refl _⟩).2
theorem PI.new {S:Int->Prop} {x:Int} {out:List Span} (h:PI S x out) (hS:S x) (hr:Rng x) (hl:∀q∈out,q.2≠x-1):PI S (x+1) (out++[(x,x)]):=
 ⟨h.plain.snoc ⟨Int.le_refl _,hr.1,hr.2⟩ (fun q hq=>by have:=h.below q hq;have:=hl q hq;simp only;omega),fun y=>by
  rw[mem_append,h.set,aN];simp only
  constructor
  ·rintro(⟨a,b⟩ | ⟨a,b,c⟩)
   ·exact⟨a,by omega⟩
   ·obtain rfl:y=x:=by omega
    exact⟨hS,by omega⟩
  ·rintro⟨a,b⟩
   rcases Int.lt_or_le y x with c | c
   ·exact .inl ⟨a,c⟩
   ·obtain rfl:y=x:=by omega
    exact .inr ⟨hr,by omega⟩⟩
theorem PI.ext {S:Int->Prop} {x rl:Int} {o:List Span} (h:PI S x (o++[(rl,x-1)])) (hS:S x) (hr:Rng x):PI S (x+1) (o++[(rl,x)]):=by
 have hp:=h.plain.append;have ho:=(h.plain.2 (rl,x-1) (by simp));unfold Ok at ho;simp only at ho;refine⟨hp.1.snoc ⟨by simp only;omega,by simp only;omega,hr.2⟩ (fun q hq=>by have:=hp.2.2 q hq (rl,x-1) (by simp);simpa using this),fun y=>?_⟩;have h1:=h.set y;rw[mem_append,aN]at h1;rw[mem_append,aN];simp only at h1 ⊢
 constructor
 ·rintro(a | ⟨a,b,c⟩)
  ·have:=h1.1 (.inl a)
   exact⟨this.1,by omega⟩
  ·rcases Int.lt_or_le y x with e | e
   ·have:=h1.1 (.inr ⟨a,b,by omega⟩)
    exact⟨this.1,by omega⟩
   ·obtain rfl:y=x:=by omega
    exact⟨hS,by omega⟩
 ·rintro⟨a,b⟩
  rcases Int.lt_or_le y x with e | e
  ·rcases h1.2 ⟨a,e⟩with k | ⟨k1,k2,k3⟩
   ·exact .inl k
   ·exact .inr ⟨k1,k2,by omega⟩
  ·obtain rfl:y=x:=by omega
   exact .inr ⟨hr,by omega⟩
theorem xC {out:List Span} {x:Int} {o:List Span} {rl rh:Int} (he:out=o++[(rl,rh)]) (hp:Plain out) (hb:∀q∈out,q.2<x) (hne:rh≠x-1):∀q∈out,q.2≠x-1:=by
 subst he;intro q hq;rcases List.mem_append.1 hq with h | h
 ·have h1:=hp.append.2.2 q h (rl,rh) (by simp)
  have h2:=hp.2 (rl,rh) (by simp);have h3:=hb (rl,rh) (by simp);unfold Ok at h2;simp only at h1 h2 h3;omega
 ·obtain rfl:=List.mem_singleton.1 h
  exact hne
end Go.Proofs.YtbdmcibcenhpnaaGreatDoor.Pa
namespace Go.Proofs.YtbdmcibcenhpnaaGreatDoor.Rg
set_option maxHeartbeats 64000000
open Go Go.RowKit Sp Pa
open Go.Lib (hid)
def SpR (L:List Int) (base:Nat) (w0:World) (v i:Value) (wr:World):Prop :=
  ∃(k:Nat) (o:List Span) (A:Option Addr) (c:Nat) (X:Int), k<=L.length/\i = .int .i64 k/\v = .slice A o.length c/\av wr base (.slice A o.length c) o/\PI (· ∈ L) X o/\(∀y∈L.take k, y<X)/\(∀y∈L.drop k, X<=y)/\Below base w0 wr
theorem C5 {L:List Int} {k:Nat} {y:Int} (h:y∈L):y∈L.take k\/y∈L.drop k := by rw[<- List.mem_append, List.take_append_drop]; exact h
theorem Dg {L:List Int} (h:Srt L) {k:Nat} (hk:k<L.length):∀y∈L.drop (k+1), L[k]<y := fun y hy => by
  obtain⟨i, hi, rfl⟩ := List.getElem_of_mem hy;rw[List.getElem_drop];exact h.lt (by omega) (by rw[List.length_drop]at hi; omega)
theorem pT (A:Option Addr) (n c:Nat) (L:List Int) (w:World) (h:RN w w.heap.size A n L) (hn:n<=4000000) (hs:Srt L) (hR:∀y∈L, Rng y) :
    Calls Tryz.prog 80 #[.slice A n c] w (aP (· ∈ L) w) := by
  obtain⟨i0, hi0, hz0, hz1, hz2⟩ := info_parts bQ;have hla := h.1;have H := hid h;have HS := hid hs;have HR := hid hR;obtain⟨base, hbase⟩:∃base, w.heap.size=base := ⟨_, rfl⟩;have HST := hid (show SpR L base w (.slice none 0 0) (.int .i64 (0:Nat)) w from⟨0, [], none, 0, -1073741825, Nat.zero_le _, rfl, rfl, World.ownsRow_nil _ _ _ _, ⟨Plain.nil, fun y => ⟨fun k => absurd k (aI y), fun k => by have := hR y k.1; unfold Rng at this; omega⟩⟩, fun y hy => by simp at hy, fun y hy => by have := hR y (List.mem_of_mem_drop hy); unfold Rng at this; omega, Below.refl _ _⟩);clear h hs hR;go_enter Tryz.func80, Tryz.ntmps80;go_wp2_with (fail)
  go_loopw [3, 4] (fun v i wr => SpR L base w v i wr) (fun _ i _ => n-(intOf i).toNat)
  case atStart => exact HST.out
  case round =>
    obtain⟨k, o, Ao, co, X, hk, rfl, rfl, ho, hPI, hX1, hX2, hb⟩ := hrel;have hz := hb.size;have HO := hid ho;have HPI := hid hPI;have HX1 := hid hX1;have HX2 := hid hX2;have HBo := hid hb;by_cases hlt:k<n
    · have hkl:k<L.length := by omega
      obtain⟨x, hx⟩:∃x, L[k]=x := ⟨_, rfl⟩;obtain⟨b, off, hA, hbB, hcA⟩ := H.out.2 (by omega);rw[hbase]at hbB;have HCA := hid (fun(W:World) (hW:Below base w W) => show W.cell? ⟨b, off+k, none⟩=some (.int .i64 x)from by rw[hW.cell (by exact hbB), hcA k hkl, hx]);have hxr := HR.out x (by rw[<- hx]; exact List.getElem_mem hkl);have HIN := hid (show x∈L by rw[<- hx]; exact List.getElem_mem hkl);have hdr:L.drop k=x::L.drop (k+1) := by rw[<- hx]; exact List.drop_eq_getElem_cons hkl
      have hXx:X<=x := hX2 x (by rw[hdr]; exact List.mem_cons_self ..);have hgt := Dg HS.out hkl;rw[hx]at hgt;have hst:PI (· ∈ L) x o := HPI.out.move (fun y y1 y2 hy => by
        rcases C5 (k := k) hy with q | q
        · have := HX1.out y q; omega
        · rw[hdr]at q
          rcases List.mem_cons.1 q with rfl | q
          · omega
          · have := hgt y q; omega) (fun y y1 y2 _ => by omega)
      have HST2 := hid hst;have HT1 := hid (show∀y∈L.take (k+1), y<x+1 from fun y hy => by
        rw[List.take_succ_eq_append_getElem hkl, hx]at hy;rcases List.mem_append.1 hy with q | q
        · have := HX1.out y q; omega
        · rw[List.mem_singleton]at q; omega)
      have HT2 := hid (show∀y∈L.drop (k+1), x+1<=y from fun y hy => by have := hgt y hy; omega);have Qp : -1073741824<=x/\x<=1073741824 := hxr;have HXR := hid hxr;have f1 := HCA.out wr hb;have hbs:b<wr.heap.size := by omega
      subst hA;clear ho hPI hX1 hX2 hb hcA hx hdr hgt hst hxr;have s1:IntKind.i64.wrap (x-1)=x-1 := IntWalk.i64_in _ (by omega);have s2:IntKind.i64.wrap ((k:Int)+1)=(k:Int)+1 := IntWalk.i64_in _ (by omega);have i1:(0:Int)<=(k:Int) := Int.natCast_nonneg _;have i2:(k:Int)<(n:Int) := by omega
      have HNX := hid (fun(o':List Span) (A':Option Addr) (c':Nat) (W:World) (h1:av W base (.slice A' o'.length c') o') (h2:PI (· ∈ L) (x+1) o') (h3:Below base w W) => show SpR L base w (.slice A' o'.length c') (.int .i64 ((k:Int)+1)) W from⟨k+1, o', A', c', x+1, hkl, rfl, rfl, h1, h2, HT1.out, HT2.out, h3⟩);rcases List.eq_nil_or_concat o with rfl | ⟨o3, ⟨rl, rh⟩, rfl⟩
      · have hd0:decide ((0:Int)<((0:Nat):Int))=false := by simp
        simp only[List.length_nil];have HOX := hid (show wr.ownsRow base 47 2 (.slice Ao 0 co) 0 []from HO.out);go_wp2_with (fail);go_quiet (fail);obtain⟨w5, hw5⟩:∃w5, wr.drewN nq=w5 := ⟨_, rfl⟩;have hB5:Below base w w5 := by rw[<- hw5]; exact below_drewN HBo.out _
        have HB5 := hid hB5;have ho5:w5.ownsRow base 47 2 (.slice Ao 0 co) 0 [] := by rw[<- hw5]; exact HOX.out
        have HO5 := hid ho5;have f3 := HCA.out w5 hB5;have hz5 := hB5.size;have hb5:b<w5.heap.size := by omega
        have hag:(Value.slice Ao 0 co).ownBlock≠some b := fun e => by have := (World.ownsRow.lt ho5 _ e).1; omega
        rw[hw5];clear hB5 ho5 hw5;go_wp2_with (fail)
        go_region_held3 (fun w' => w'.cell? ⟨b, off+k, none⟩=some (.int .i64 x))
          (first
            | go_keep
            | (go_split_ands
               first
                 | (rw[hgrow.cell_far _ (by simp; omega) (Ne.symm hag)]; assumption)
                 | (refine⟨?_, ?_⟩ <;> (rw[hgrow.cell_far _ (by simp; omega) (Ne.symm hag)]; assumption))))
          ((refine step_append_lies _ (by rfl) _ _ _ (by rfl) base 47 i0 _ 2 16 Tryz.underlying48 hi0 hz0 hz1 hz2 rfl (by omega) (.slice Ao 0 co) 0 [] (by rfl) ((World.ownsRow.alloc HO5.out _).drew)
              ⟨w5.heap.size, 0, none⟩ 1 1 [.int .i64 x, .int .i64 x] (by rfl) (by rfl) (World.news_of_block (cs := #[.int .i64 x, .int .i64 x]) (t := 47) (fr := (0, 0)) (heap_alloc_new w5 _)) (by simp[Value.oneCell'])
              (by omega) (by simp only[maxLen]; omega) (by omega) (by simp; omega) (w5.heap.size+1) (by simp) ?_; intro gg cap w6 hown1 hgrow hat hlt6))
        have HNW := hid (HNX.out [(x, x)] (some ⟨gg, 0, none⟩) cap w6 (by exact hown1) (HST2.out.new HIN.out HXR.out (fun q hq => by cases hq)) (((HB5.out.alloc (by omega) _).drew).grown hgrow (by simp; omega) (fun q hq => (World.ownsRow.lt HO5.out q hq).1)));clear hown1 hgrow hat hlt6;go_wp2_with (fail)
        go_roundw
        case rel => exact HNW.out
        case measure => simp[intOf]; omega
      · simp only[List.concat_eq_append]at *
        have hoK := HST2.out.plain.short;obtain⟨g2, hA2, hbg, hgl⟩ := cu HO.out (by simp);subst hA2;have hcr := cD HO.out;have hfz := World.ownsRow.frozenAt HO.out (o3.length*2+1);simp only[List.length_append, List.length_singleton]at *;have hrb : -1073741824<=rh/\rh<=1073741824 := by have := HST2.out.plain.2 (rl, rh) (by simp); unfold Ok at this; simp only at this; omega
        have hd0:decide ((0:Int)<((o3.length+1:Nat):Int))=true := by simp
        generalize hj:o3.length=j at *
        have HJ := hid hj; clear hj;have s3:IntKind.i64.wrap (((j+1:Nat):Int)-1)=(j:Int) := by rw[IntWalk.i64_in _ (by omega)]; omega
        have s4:IntKind.i64.wrap ((j:Int)+1-1)=(j:Int) := by rw[IntWalk.i64_in _ (by omega)]; omega
        have HOX := hid (show wr.ownsRow base 47 2 (.slice (some ⟨g2, 0, none⟩) (j+1) co) (j+1) (flat (o3++[(rl, rh)]))from by
          have := HO.out;unfold av at this;rw[List.length_append, List.length_singleton, HJ.out]at this;exact this)
        by_cases e:rh=x-1
        · have hd1:(rh == x-1)=true := by simpa using e
          have HE := hid e; clear e;go_wp2_with (fail);go_quiet (fail);have HNW := hid (fun q => HNX.out (o3++[(rl, x)]) (some ⟨g2, 0, none⟩) co ((wr.drewN q).setCell ⟨g2, j*2+1, none⟩ (.int .i64 x)) (by
            have := dR (w := wr.drewN q) (rl := rl) (rh := rh) (show av (wr.drewN q) base (.slice (some ⟨g2, 0, none⟩) (j+1) co) (o3++[(rl, rh)])from HO.out) HJ.out x;simpa only[List.length_append, List.length_singleton, HJ.out]using this) (by have := HST2.out; rw[HE.out]at this; exact this.ext HIN.out HXR.out) ((below_drewN HBo.out q).setCell hbg _))
          rw[show(o3++[(rl, x)]).length=j+1 from by simp[HJ.out]]at HNW;go_wp2_with (fail)
          go_roundw
          case rel => exact HNW.out _
          case measure => simp[intOf]; omega
        · have hd1:(rh == x-1)=false := by simpa using e
          have HE := hid e; clear e;go_wp2_with (fail);go_quiet (fail);obtain⟨w5, hw5⟩:∃w5, wr.drewN nq=w5 := ⟨_, rfl⟩;have hB5:Below base w w5 := by rw[<- hw5]; exact below_drewN HBo.out _
          have HB5 := hid hB5;have ho5:w5.ownsRow base 47 2 (.slice (some ⟨g2, 0, none⟩) (j+1) co) (j+1) (flat (o3++[(rl, rh)])) := by rw[<- hw5]; exact HOX.out
          have HO5 := hid ho5;have f3 := HCA.out w5 hB5;have hz5 := hB5.size;have hb5:b<w5.heap.size := by omega
          have hag:(Value.slice (some ⟨g2, 0, none⟩) (j+1) co).ownBlock≠some b := fun e => by have := (World.ownsRow.lt ho5 _ e).1; omega
          rw[hw5];clear hB5 ho5 hw5;go_wp2_with (fail)
          go_region_held3 (fun w' => w'.cell? ⟨b, off+k, none⟩=some (.int .i64 x))
            (first
              | go_keep
              | (go_split_ands
                 first
                   | (rw[hgrow.cell_far _ (by simp; omega) (Ne.symm hag)]; assumption)
                   | (refine⟨?_, ?_⟩ <;> (rw[hgrow.cell_far _ (by simp; omega) (Ne.symm hag)]; assumption))))
            ((refine step_append_lies _ (by rfl) _ _ _ (by rfl) base 47 i0 _ 2 16 Tryz.underlying48 hi0 hz0 hz1 hz2 rfl (by omega) (.slice (some ⟨g2, 0, none⟩) (j+1) co) (j+1) (flat (o3++[(rl, rh)])) (by rfl) ((World.ownsRow.alloc HO5.out _).drew)
                ⟨w5.heap.size, 0, none⟩ 1 1 [.int .i64 x, .int .i64 x] (by rfl) (by rfl) (World.news_of_block (cs := #[.int .i64 x, .int .i64 x]) (t := 47) (fr := (0, 0)) (heap_alloc_new w5 _)) (by simp[Value.oneCell'])
                (by omega) (by simp only[maxLen]; omega) (by omega) (by simp; omega) (w5.heap.size+1) (by simp) ?_; intro gg cap w6 hown1 hgrow hat hlt6))
          have HNW := hid (HNX.out (o3++[(rl, rh)]++[(x, x)]) (some ⟨gg, 0, none⟩) cap w6 (by
            unfold av;rw[aA, List.length_append, List.length_append, HJ.out];exact hown1) (HST2.out.new HIN.out HXR.out (xC rfl HST2.out.plain HST2.out.below HE.out)) (((HB5.out.alloc (by omega) _).drew).grown hgrow (by simp; omega) (fun q hq => (World.ownsRow.lt HO5.out q hq).1)))
          rw[show(o3++[(rl, rh)]++[(x, x)]).length=j+1+1 from by simp[HJ.out]]at HNW;clear hown1 hgrow hat hlt6;go_wp2_with (fail)
          go_roundw
          case rel => exact HNW.out
          case measure => simp[intOf]; omega
    · have hkn:k=L.length := by omega
      have hfi:Is o (· ∈ L) := ⟨hPI.plain, fun y => by
        rw[hPI.set];exact⟨fun q => q.1, fun q => ⟨q, hX1 y (by rw[hkn, List.take_length]; exact q)⟩⟩⟩
      have HFI := hid (show aP (· ∈ L) w (.returned (.slice Ao o.length co)) wr from⟨_, o, rfl, hfi, by rw[hbase]; exact ho, by rw[hbase]; exact hb⟩);clear ho hPI hX1 hX2 hb hkn hfi;go_wp2_with (fail);go_ret;exact HFI.out
end Go.Proofs.YtbdmcibcenhpnaaGreatDoor.Rg
