import Derived.Test.YtpcgaebbbioifaaGreatDoorJ43
import Derived.Test.YtpcgaebbbioifaaGreatDoorJ48
import Derived.Test.YtpcgaebbbioifaaGreatDoorJ49
set_option maxRecDepth 100000
namespace Go.Proofs.YtpcgaebbbioifaaGreatDoor.Ep
open Go Go.RowKit Sp Pa Te Mi De Tr Lt
def wrL (rs : List RuL) (l : List Nat) : List TmL:=l.flatMap fun i=>(rs.getD i d0R).out
end Go.Proofs.YtpcgaebbbioifaaGreatDoor.Ep
namespace Go.Proofs.YtpcgaebbbioifaaGreatDoor.Ep
open Go Sp Te De Lt
theorem range_filter {α : Type} (d : α) (l : List α) (p : α→Bool) : ((List.range l.length).filter fun i=>p (l.getD i d)).map (fun i=>l.getD i d) = l.filter p:=by
 have h : (List.range l.length).map (fun i=>l.getD i d) = l:=List.ext_getElem (by simp) fun j h1 h2=>by
  simp only [List.getElem_map,List.getElem_range]
  rw [List.getD_eq_getElem?_getD,List.getElem?_eq_getElem h2]
  rfl
 conv=>rhs;rw [← h]
 rw [List.filter_map]
 rfl
theorem kids_rules (rs : List RuL) (a : Nat) : (kids rs.length (okR rs) a 0).map (fun i=>rs.getD i d0R) = (roD rs a).filter fun r=>r.gs.length == 0:=by
 have h1 : kids rs.length (okR rs) a 0 = (List.range rs.length).filter fun i=>(fun r : RuL=>(r.gs.length == 0) && decide (r.frm = (a : Int))) (rs.getD i d0R):=by
  unfold kids
  refine List.filter_congr fun i _=>?_
  simp [okR]
 rw [h1,range_filter d0R rs (fun r : RuL=>(r.gs.length == 0) && decide (r.frm = (a : Int)))]
 unfold roD
 rw [List.filter_filter]
theorem okR_rank {rs : List RuL} {N : Nat} (hc : cycE (epsE rs) N = false) (hr : ∀ r∈rs,0≤r.frm∧0≤r.to_) (a i : Nat) (h : okR rs a i = true) (hi : i < rs.length) : rkE (epsE rs) N (toR rs i) < rkE (epsE rs) N a:=by
 unfold okR at h
 rw [getD_at hi,Bool.and_eq_true,decide_eq_true_eq] at h
 unfold toR
 rw [getD_at hi]
 exact roD_rank hc hr a rs[i] (List.mem_filter.2 ⟨List.getElem_mem hi,by simp [h.2]⟩) (by simpa using h.1)
section
variable {rs : List RuL} {rk : Nat→Nat} (hr : ∀ a i,okR rs a i = true→i < rs.length→rk (toR rs i) < rk a)
def endsW (rs : List RuL) (q : Nat) (u : List Nat) : Nat × List TmL:=(endW (toR rs) q u,wrL rs u)
theorem wrL_snoc (rs : List RuL) (u : List Nat) (i : Nat) : wrL rs (u ++ [i]) = wrL rs u ++ (rs.getD i d0R).out:=by
 unfold wrL
 rw [List.flatMap_append]
 simp
include hr in
theorem sub_waysT (q : Nat) : ∀ (m a : Nat) (u : List Nat),rk a < m→endW (toR rs) q u = a→endsW rs q u :: (sub rs.length (okR rs) (toR rs) rk a u 0).map (endsW rs q) = waysT (roD rs) m a (wrL rs u):=by
 intro m
 induction m with
 | zero=>intro a u h;omega
 | succ m ih=>
  intro a u h ha
  simp only [waysT]
  have e1 : endsW rs q u = (a,wrL rs u):=by unfold endsW;rw [ha]
  rw [e1,sub_eq hr a u 0,List.map_flatMap,← kids_rules rs a,List.flatMap_map]
  congr 1
  refine flatMap_congr' fun i hi=>?_
  obtain ⟨h1,_,h3⟩:=mem_kids.1 hi
  have hrk:=hr a i h3 h1
  have:=ih (toR rs i) (u ++ [i]) (by omega) (endW_snoc q u i)
  rw [List.map_cons,this,wrL_snoc]
  rfl
include hr in
theorem sub_cnt : ∀ (m a : Nat) (u : List Nat),rk a < m→1 + (sub rs.length (okR rs) (toR rs) rk a u 0).length = cntF (succD rs) m a:=by
 intro m
 induction m with
 | zero=>intro a u h;omega
 | succ m ih=>
  intro a u h
  simp only [cntF]
  have e1 : succD rs a = (kids rs.length (okR rs) a 0).map (toR rs):=by
   have h2:=congrArg (List.map fun r : RuL=>r.to_.toNat) (kids_rules rs a)
   rw [List.map_map] at h2
   unfold succD
   have h3 : (roD rs a).filter (fun r=>r.gs.length == 0) = rs.filter fun r=>(r.gs.length == 0) && decide (r.frm = (a : Int)):=by
    unfold roD
    rw [List.filter_filter]
   rw [h3] at h2
   rw [← h2]
   rfl
  rw [e1,List.map_map,sub_eq hr a u 0,List.length_flatMap]
  congr 1
  refine congrArg List.sum (List.map_congr_left fun i hi=>?_)
  obtain ⟨h1,_,h3⟩:=mem_kids.1 hi
  have hrk:=hr a i h3 h1
  show (_ :: _ : List (List Nat)).length = cntF (succD rs) m (toR rs i)
  rw [List.length_cons,← ih (toR rs i) (u ++ [i]) (by omega)]
  omega
include hr in
theorem wsum_is (N : Nat) : wsum rs rk (List.range N) = sumC (Lt.cnt (succD rs) rk) (List.range N):=by
 unfold wsum sumC
 refine congrArg List.sum (List.map_congr_left fun q _=>?_)
 unfold Lt.cnt
 rw [← sub_cnt hr (rk q + 1) q [] (Nat.lt_succ_self _)]
 show ([] :: rest rs.length (okR rs) (toR rs) rk q []).length = _
 unfold rest
 rw [up_nil,List.append_nil,List.length_cons]
 show _ + 1 = 1 + _
 exact Nat.add_comm _ _
end
theorem wsum_ways {rs : List RuL} {N : Nat} (hc : cycE (epsE rs) N = false) (hr : ∀ r∈rs,0≤r.frm∧0≤r.to_) : wsum rs (rkE (epsE rs) N) (List.range N) = waysN rs N:=wsum_is (okR_rank hc hr) N
end Go.Proofs.YtpcgaebbbioifaaGreatDoor.Ep
namespace Go.Proofs.YtpcgaebbbioifaaGreatDoor.Ep
set_option maxHeartbeats 64000000
open Go Go.RowKit Sp Pa Te Mi De Tr Lt
open Go.Lib (hid)
theorem ways_bad (i o n s : Int) (A : Option Addr) (cr : Nat) (B : Option Addr) (cf : Nat) (rs : List RuL) (fs : List FiL) (w : World) (hd : DM w ⟨i,o,n,s,A,cr,B,cf,rs,fs⟩) (hT : Fi.TabB w) (hw : (whereD i o n s rs fs).1≠0) : Calls Tryz.prog 3 #[dsc i o n s A rs.length cr B fs.length cf] w (RetB true w):=by
 obtain ⟨w1,hw1⟩ : ∃ w1,w.alloc (.cells #[.int .i64 i,.int .i64 o,.int .i64 n,.int .i64 s,.slice A rs.length cr,.slice B fs.length cf] 26) = w1:=⟨_,rfl⟩
 have hs1 : w1.heap.size = w.heap.size + 1:=by rw [← hw1];simp
 have hb1 : Below w.heap.size w w1:=by rw [← hw1];exact (Below.refl _ _).alloc (Nat.le_refl _) _
 have hq1 : Blk w1 w.heap.size 26 #[.int .i64 i,.int .i64 o,.int .i64 n,.int .i64 s,.slice A rs.length cr,.slice B fs.length cf]:=by rw [← hw1];exact heap_alloc_new w _
 have H1:=hid (show w.heap.size≤w1.heap.size by omega)
 have HBW:=hid (fun W (h : Below w1.heap.size w1 W)=>show Below w.heap.size w W from hb1.trans (h.mono H1.out))
 have HDB:=hid (fun W (h : Below w1.heap.size w1 W)=>show DB W w.heap.size i o n s A rs.length cr B fs.length cf from by
  have h1:=hq1.below h (by omega)
  exact ⟨h1.cell 0,h1.cell 1,h1.cell 2,h1.cell 3,h1.cell 4,h1.cell 5⟩)
 have HTB:=hid (fun W (h : Below w1.heap.size w1 W)=>show Fi.TabB W from hT.next (HBW.out W h))
 have HDM:=hid (fun W (h : Below w1.heap.size w1 W)=>show DM W ⟨i,o,n,s,A,cr,B,cf,rs,fs⟩ from hd.below (HBW.out W h))
 have HA:=hid (fun W (h : Below w1.heap.size w1 W)=>awake_any W (HTB.out W h))
 have HSM:=hid (Rg.rsmall_any i o n s A cr B cf rs fs w1 (HDM.out w1 (Below.refl _ _)).rules (HDM.out w1 (Below.refl _ _)).finals)
 have HV:=hid (show waysV i o n s rs fs = (0,2) by unfold waysV;rw [if_neg hw])
 have HRT:=hid (decide_eq_false hw)
 clear hw
 obtain ⟨p0,p1,p2,p3,p4,p5⟩:=HDB.out w1 (Below.refl _ _)
 clear hd hT hb1 hq1
 go_enter Tryz.func3,Tryz.ntmps3
 go_wp2_with (fail)
 refine HSM.out.mono ?_
 rintro e w2 ⟨b,rfl,_,hb2⟩
 have H2:=hid hb2
 clear hb2 p0 p1 p2 p3 p4 p5
 obtain ⟨p0,p1,p2,p3,p4,p5⟩:=HDB.out w2 H2.out
 cases b with
 | false=>
  go_wp2_with (fail)
  refine (HA.out w2 H2.out).mono ?_
  rintro e wq ⟨rfl,hbq⟩
  have HQ:=hid (HBW.out wq (below_nextD H2.out hbq))
  clear hbq
  go_wp2_with (fail)
  go_ret
  exact ⟨rfl,HQ.out⟩
 | true=>
 go_wp2_with (fail)
 refine (ways_any i o n s A cr B cf rs fs w2 (HDM.out w2 H2.out) (HTB.out w2 H2.out)).mono ?_
 rintro e w3 ⟨rfl,hb⟩
 have H3:=hid (below_nextD H2.out hb)
 clear hb p0 p1 p2 p3 p4 p5
 obtain ⟨p0,p1,p2,p3,p4,p5⟩:=HDB.out w3 H3.out
 rw [HV.out]
 go_wp2_with (fail)
 refine (rright_any i o n s A cr B cf rs fs w3 (HDM.out w3 H3.out).rules (HDM.out w3 H3.out).rl (HDM.out w3 H3.out).finals (HDM.out w3 H3.out).fl).mono ?_
 rintro e w4 ⟨rfl,hb⟩
 have H4:=hid (below_nextD H3.out hb)
 clear hb p0 p1 p2 p3 p4 p5
 obtain ⟨p0,p1,p2,p3,p4,p5⟩:=HDB.out w4 H4.out
 rw [HRT.out]
 go_wp2_with (fail)
 refine (HA.out w4 H4.out).mono ?_
 rintro e wq ⟨rfl,hbq⟩
 have HQ:=hid (HBW.out wq (below_nextD H4.out hbq))
 clear hbq
 go_wp2_with (fail)
 go_ret
 exact ⟨rfl,HQ.out⟩
theorem ways_much (i o s : Int) (N : Nat) (A : Option Addr) (cr : Nat) (B : Option Addr) (cf : Nat) (rs : List RuL) (fs : List FiL) (w : World) (hd : DM w ⟨i,o,(N : Int),s,A,cr,B,cf,rs,fs⟩) (hT : Fi.TabB w) (hw : (whereD i o (N : Int) s rs fs).1 = 0) (hn : 4096 < waysN rs N) : Calls Tryz.prog 3 #[dsc i o (N : Int) s A rs.length cr B fs.length cf] w (RetB true w):=by
 obtain ⟨w1,hw1⟩ : ∃ w1,w.alloc (.cells #[.int .i64 i,.int .i64 o,.int .i64 (N : Int),.int .i64 s,.slice A rs.length cr,.slice B fs.length cf] 26) = w1:=⟨_,rfl⟩
 have hs1 : w1.heap.size = w.heap.size + 1:=by rw [← hw1];simp
 have hb1 : Below w.heap.size w w1:=by rw [← hw1];exact (Below.refl _ _).alloc (Nat.le_refl _) _
 have hq1 : Blk w1 w.heap.size 26 #[.int .i64 i,.int .i64 o,.int .i64 (N : Int),.int .i64 s,.slice A rs.length cr,.slice B fs.length cf]:=by rw [← hw1];exact heap_alloc_new w _
 have H1:=hid (show w.heap.size≤w1.heap.size by omega)
 have HBW:=hid (fun W (h : Below w1.heap.size w1 W)=>show Below w.heap.size w W from hb1.trans (h.mono H1.out))
 have HDB:=hid (fun W (h : Below w1.heap.size w1 W)=>show DB W w.heap.size i o (N : Int) s A rs.length cr B fs.length cf from by
  have h1:=hq1.below h (by omega)
  exact ⟨h1.cell 0,h1.cell 1,h1.cell 2,h1.cell 3,h1.cell 4,h1.cell 5⟩)
 have HTB:=hid (fun W (h : Below w1.heap.size w1 W)=>show Fi.TabB W from hT.next (HBW.out W h))
 have HDM:=hid (fun W (h : Below w1.heap.size w1 W)=>show DM W ⟨i,o,(N : Int),s,A,cr,B,cf,rs,fs⟩ from hd.below (HBW.out W h))
 have HA:=hid (fun W (h : Below w1.heap.size w1 W)=>awake_any W (HTB.out W h))
 have HSM:=hid (Rg.rsmall_any i o (N : Int) s A cr B cf rs fs w1 (HDM.out w1 (Below.refl _ _)).rules (HDM.out w1 (Below.refl _ _)).finals)
 have HV:=hid (show waysV i o (N : Int) s rs fs = (0,4) by
  unfold waysV
  rw [if_pos hw,Int.toNat_natCast]
  rw [if_neg (by omega)])
 have HRT:=hid (decide_eq_true hw)
 have hR : RightD ⟨i,o,(N : Int),s,A,cr,B,cf,rs,fs⟩:=DV.right.rightD (d:=⟨i,o,(N : Int),s,A,cr,B,cf,rs,fs⟩) hw
 have hcyc:=right_cyc hw
 have hrp : ∀ r∈rs,0≤r.frm∧0≤r.to_:=fun r hr=>⟨(hR.rs r hr).1,(hR.rs r hr).2.2.1⟩
 have HW8:=hid (fun W (h : Below w1.heap.size w1 W)=>show Calls Tryz.prog 10 #[dsc i o (N : Int) s A rs.length cr B fs.length cf] W (Ways8 (waysN rs N) W) from by
  rw [← wsum_ways hcyc hrp]
  exact ways08_any i o s N A cr B fs.length cf rs (rkE (epsE rs) N) W (HDM.out W h).rules hR.r (fun r hr=>(hrp r hr).2) (okR_rank hcyc hrp) (fun a=>by have:=rkE_le (epsE rs) N a;have h2:=hR.n.2;dsimp only at h2;omega) (by have h2:=hR.n.2;dsimp only at h2;omega))
 have HN:=hid hn
 obtain ⟨T,hT0⟩ : ∃ T,waysN rs N = T:=⟨_,rfl⟩
 rw [hT0] at HW8 HN
 clear hw hn hR hcyc hrp hT0
 obtain ⟨p0,p1,p2,p3,p4,p5⟩:=HDB.out w1 (Below.refl _ _)
 clear hd hT hb1 hq1
 go_enter Tryz.func3,Tryz.ntmps3
 go_wp2_with (fail)
 refine HSM.out.mono ?_
 rintro e w2 ⟨b,rfl,_,hb2⟩
 have H2:=hid hb2
 clear hb2 p0 p1 p2 p3 p4 p5
 obtain ⟨p0,p1,p2,p3,p4,p5⟩:=HDB.out w2 H2.out
 cases b with
 | false=>
  go_wp2_with (fail)
  refine (HA.out w2 H2.out).mono ?_
  rintro e wq ⟨rfl,hbq⟩
  have HQ:=hid (HBW.out wq (below_nextD H2.out hbq))
  clear hbq
  go_wp2_with (fail)
  go_ret
  exact ⟨rfl,HQ.out⟩
 | true=>
 go_wp2_with (fail)
 refine (ways_any i o (N : Int) s A cr B cf rs fs w2 (HDM.out w2 H2.out) (HTB.out w2 H2.out)).mono ?_
 rintro e w3 ⟨rfl,hb⟩
 have H3:=hid (below_nextD H2.out hb)
 clear hb p0 p1 p2 p3 p4 p5
 obtain ⟨p0,p1,p2,p3,p4,p5⟩:=HDB.out w3 H3.out
 rw [HV.out]
 go_wp2_with (fail)
 refine (rright_any i o (N : Int) s A cr B cf rs fs w3 (HDM.out w3 H3.out).rules (HDM.out w3 H3.out).rl (HDM.out w3 H3.out).finals (HDM.out w3 H3.out).fl).mono ?_
 rintro e w4 ⟨rfl,hb⟩
 have H4:=hid (below_nextD H3.out hb)
 clear hb p0 p1 p2 p3 p4 p5
 obtain ⟨p0,p1,p2,p3,p4,p5⟩:=HDB.out w4 H4.out
 rw [HRT.out]
 go_wp2_with (fail)
 refine (HW8.out w4 H4.out).mono ?_
 rintro e w5 ⟨hb,hcase⟩
 have H5:=hid (below_nextD H4.out hb)
 clear hb p0 p1 p2 p3 p4 p5
 obtain ⟨p0,p1,p2,p3,p4,p5⟩:=HDB.out w5 H5.out
 rcases hcase with ⟨hT1,_⟩ | ⟨_,rfl⟩
 ·exact absurd hT1 (by have:=HN.out;omega)
 go_wp2_with (fail)
 refine (HA.out w5 H5.out).mono ?_
 rintro e wq ⟨rfl,hbq⟩
 have HQ:=hid (HBW.out wq (below_nextD H5.out hbq))
 clear hbq
 go_wp2_with (fail)
 go_ret
 exact ⟨rfl,HQ.out⟩
theorem ways_fine (i o s : Int) (N : Nat) (A : Option Addr) (cr : Nat) (B : Option Addr) (cf : Nat) (rs : List RuL) (fs : List FiL) (w : World) (hd : DM w ⟨i,o,(N : Int),s,A,cr,B,cf,rs,fs⟩) (hT : Fi.TabB w) (hw : (whereD i o (N : Int) s rs fs).1 = 0) (hn : waysN rs N≤4096) : Calls Tryz.prog 3 #[dsc i o (N : Int) s A rs.length cr B fs.length cf] w (RetB true w):=by
 obtain ⟨w1,hw1⟩ : ∃ w1,w.alloc (.cells #[.int .i64 i,.int .i64 o,.int .i64 (N : Int),.int .i64 s,.slice A rs.length cr,.slice B fs.length cf] 26) = w1:=⟨_,rfl⟩
 have hs1 : w1.heap.size = w.heap.size + 1:=by rw [← hw1];simp
 have hb1 : Below w.heap.size w w1:=by rw [← hw1];exact (Below.refl _ _).alloc (Nat.le_refl _) _
 have hq1 : Blk w1 w.heap.size 26 #[.int .i64 i,.int .i64 o,.int .i64 (N : Int),.int .i64 s,.slice A rs.length cr,.slice B fs.length cf]:=by rw [← hw1];exact heap_alloc_new w _
 have H1:=hid (show w.heap.size≤w1.heap.size by omega)
 have HBW:=hid (fun W (h : Below w1.heap.size w1 W)=>show Below w.heap.size w W from hb1.trans (h.mono H1.out))
 have HDB:=hid (fun W (h : Below w1.heap.size w1 W)=>show DB W w.heap.size i o (N : Int) s A rs.length cr B fs.length cf from by
  have h1:=hq1.below h (by omega)
  exact ⟨h1.cell 0,h1.cell 1,h1.cell 2,h1.cell 3,h1.cell 4,h1.cell 5⟩)
 have HTB:=hid (fun W (h : Below w1.heap.size w1 W)=>show Fi.TabB W from hT.next (HBW.out W h))
 have HDM:=hid (fun W (h : Below w1.heap.size w1 W)=>show DM W ⟨i,o,(N : Int),s,A,cr,B,cf,rs,fs⟩ from hd.below (HBW.out W h))
 have HA:=hid (fun W (h : Below w1.heap.size w1 W)=>awake_any W (HTB.out W h))
 have HSM:=hid (Rg.rsmall_any i o (N : Int) s A cr B cf rs fs w1 (HDM.out w1 (Below.refl _ _)).rules (HDM.out w1 (Below.refl _ _)).finals)
 have HV:=hid (show waysV i o (N : Int) s rs fs = ((waysN rs N : Int),0) by
  unfold waysV
  rw [if_pos hw,Int.toNat_natCast]
  rw [if_pos hn])
 have HRT:=hid (decide_eq_true hw)
 have hR : RightD ⟨i,o,(N : Int),s,A,cr,B,cf,rs,fs⟩:=DV.right.rightD (d:=⟨i,o,(N : Int),s,A,cr,B,cf,rs,fs⟩) hw
 have hcyc:=right_cyc hw
 have hrp : ∀ r∈rs,0≤r.frm∧0≤r.to_:=fun r hr=>⟨(hR.rs r hr).1,(hR.rs r hr).2.2.1⟩
 have HW8:=hid (fun W (h : Below w1.heap.size w1 W)=>show Calls Tryz.prog 10 #[dsc i o (N : Int) s A rs.length cr B fs.length cf] W (Ways8 (waysN rs N) W) from by
  rw [← wsum_ways hcyc hrp]
  exact ways08_any i o s N A cr B fs.length cf rs (rkE (epsE rs) N) W (HDM.out W h).rules hR.r (fun r hr=>(hrp r hr).2) (okR_rank hcyc hrp) (fun a=>by have:=rkE_le (epsE rs) N a;have h2:=hR.n.2;dsimp only at h2;omega) (by have h2:=hR.n.2;dsimp only at h2;omega))
 have HN:=hid hn
 obtain ⟨T,hT0⟩ : ∃ T,waysN rs N = T:=⟨_,rfl⟩
 rw [hT0] at HW8 HV HN
 clear hw hn hR hcyc hrp hT0
 obtain ⟨p0,p1,p2,p3,p4,p5⟩:=HDB.out w1 (Below.refl _ _)
 clear hd hT hb1 hq1
 go_enter Tryz.func3,Tryz.ntmps3
 go_wp2_with (fail)
 refine HSM.out.mono ?_
 rintro e w2 ⟨b,rfl,_,hb2⟩
 have H2:=hid hb2
 clear hb2 p0 p1 p2 p3 p4 p5
 obtain ⟨p0,p1,p2,p3,p4,p5⟩:=HDB.out w2 H2.out
 cases b with
 | false=>
  go_wp2_with (fail)
  refine (HA.out w2 H2.out).mono ?_
  rintro e wq ⟨rfl,hbq⟩
  have HQ:=hid (HBW.out wq (below_nextD H2.out hbq))
  clear hbq
  go_wp2_with (fail)
  go_ret
  exact ⟨rfl,HQ.out⟩
 | true=>
 go_wp2_with (fail)
 refine (ways_any i o (N : Int) s A cr B cf rs fs w2 (HDM.out w2 H2.out) (HTB.out w2 H2.out)).mono ?_
 rintro e w3 ⟨rfl,hb⟩
 have H3:=hid (below_nextD H2.out hb)
 clear hb p0 p1 p2 p3 p4 p5
 obtain ⟨p0,p1,p2,p3,p4,p5⟩:=HDB.out w3 H3.out
 rw [HV.out]
 go_wp2_with (fail)
 refine (rright_any i o (N : Int) s A cr B cf rs fs w3 (HDM.out w3 H3.out).rules (HDM.out w3 H3.out).rl (HDM.out w3 H3.out).finals (HDM.out w3 H3.out).fl).mono ?_
 rintro e w4 ⟨rfl,hb⟩
 have H4:=hid (below_nextD H3.out hb)
 clear hb p0 p1 p2 p3 p4 p5
 obtain ⟨p0,p1,p2,p3,p4,p5⟩:=HDB.out w4 H4.out
 rw [HRT.out]
 go_wp2_with (fail)
 refine (HW8.out w4 H4.out).mono ?_
 rintro e w5 ⟨hb,hcase⟩
 have H5:=hid (below_nextD H4.out hb)
 clear hb p0 p1 p2 p3 p4 p5
 obtain ⟨p0,p1,p2,p3,p4,p5⟩:=HDB.out w5 H5.out
 rcases hcase with ⟨_,rfl⟩ | ⟨hT1,_⟩
 case inr=>exact absurd hT1 (by have:=HN.out;omega)
 go_wp2_with (fail)
 refine (HA.out w5 H5.out).mono ?_
 rintro e wq ⟨rfl,hbq⟩
 have HQ:=hid (HBW.out wq (below_nextD H5.out hbq))
 clear hbq
 go_wp2_with (fail)
 go_ret
 exact ⟨rfl,HQ.out⟩
theorem ways_law (i o n s : Int) (A : Option Addr) (cr : Nat) (B : Option Addr) (cf : Nat) (rs : List RuL) (fs : List FiL) (w : World) (hd : DM w ⟨i,o,n,s,A,cr,B,cf,rs,fs⟩) (hT : Fi.TabB w) : Calls Tryz.prog 3 #[dsc i o n s A rs.length cr B fs.length cf] w (RetB true w):=by
 by_cases hw : (whereD i o n s rs fs).1 = 0
 ·have hR : RightD ⟨i,o,n,s,A,cr,B,cf,rs,fs⟩:=DV.right.rightD (d:=⟨i,o,n,s,A,cr,B,cf,rs,fs⟩) hw
  obtain ⟨N,hN⟩ : ∃ N : Nat,n = (N : Int):=⟨n.toNat,by have:=hR.n;dsimp only at this;omega⟩
  subst hN
  by_cases hn : waysN rs N≤4096
  ·exact ways_fine i o s N A cr B cf rs fs w hd hT hw hn
  ·exact ways_much i o s N A cr B cf rs fs w hd hT hw (by omega)
 ·exact ways_bad i o n s A cr B cf rs fs w hd hT hw
end Go.Proofs.YtpcgaebbbioifaaGreatDoor.Ep
