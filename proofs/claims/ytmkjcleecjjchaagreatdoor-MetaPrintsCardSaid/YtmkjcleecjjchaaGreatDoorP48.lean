import Derived.Test.YtmkjcleecjjchaaGreatDoorP46
import Derived.Test.YtmkjcleecjjchaaGreatDoorP47
import Derived.Deep.RegionHeld3
namespace Go.Proofs.YtmkjcleecjjchaaGreatDoor
open Go.RowKit Sh Jt Js Jo
set_option maxRecDepth 100000
theorem rd_runP {s:Sem Value} {w w':World} {v:Value} (h:s.run Tryz.prog w= .ok v w'):(do let x ←s;pure (Next.value x):Sem Next).run Tryz.prog w= .ok (.value v) w':=by
 rw [Sem.run_bind,h]
 rfl
set_option maxHeartbeats 16000000 in
theorem metaPrints_all (w:World) (m:Man) (A1:Option Addr) (n1 c1:Nat) (A2:Option Addr) (n2 c2:Nat) (hM:ManIn w m A1 n1 c1 A2 n2 c2) (hn1:n1≤140737488351232) (hn2:n2≤140737488351232) (hH:Holds m) (hW:Words m) (hE:MEnv w):
  Calls Tryz.prog 4 #[.agg (mv m.config (.slice A1 n1 c1) (.slice A2 n2 c2)).toArray] w fun e w'=> e= .returned (.bool true)∧Hid (Below w.heap.size w w'):=by
 have HE:=Lib.hid (fun W (q:Below w.heap.size w W)=> hE.below q)
 have HFW:=Lib.hid (fun W (q:Below w.heap.size w W)=> mt_few W m A1 n1 c1 A2 n2 c2 (hM.below q) hn1 hn2 hH)
 have HPS:=Lib.hid (fun (hf:fewM m=true) (h2:n2≤250000)=> mt_prints w m A1 n1 c1 A2 n2 c2 hM hn1 h2 hW hf hE)
 have HN2:=Lib.hid (fun (hf:fewM m=true)=> show n2≤250000 from by have:=(few_bounds hf).2.2.2.1;have:=hM.rest.len;omega)
 have HRM:=Lib.hid (fun (hf:fewM m=true) W (q:Below w.heap.size w W)=> mt_right W m A1 n1 c1 A2 n2 c2 (hM.below q) hn1 (few_fit hf hW) (hE.below q))
 have HRR:=Lib.hid (fun (hf:fewM m=true) (h2:n2≤250000) W (q:Below w.heap.size w W)=> mt_rright W m A1 n1 c1 A2 n2 c2 (hM.below q) hn1 h2 (few_fit hf hW) (fun d hd=> by
  have hfb:=few_bounds hf
  rcases List.mem_cons.1 hd with rfl | hd
  ·have:=hfb.1;omega
  ·have:=hfb.2.1 d hd;omega))
 have HML:=Lib.hid (mv_len hM.dig (.slice A1 n1 c1) (.slice A2 n2 c2))
 have HB:=Lib.hid (below_alloc' w (.cells (mv m.config (.slice A1 n1 c1) (.slice A2 n2 c2)).toArray 31))
 have HMQ:=Lib.hid (Row.new w 31 (mv m.config (.slice A1 n1 c1) (.slice A2 n2 c2)))
 clear hM hW hH hE
 obtain ⟨MV,hMV⟩:∃MV,MV=mv m.config (.slice A1 n1 c1) (.slice A2 n2 c2):=⟨_,rfl⟩
 rw [←hMV]at HML HB HMQ HFW HPS HRM HRR ⊢
 clear hMV
 go_enter Tryz.func4,Tryz.ntmps4
 go_upto_region 1 with fail
 generalize w.alloc (.cells MV.toArray 31)=w0 at*
 go_wp2_with fail
 refine (mt_small _ (HE.out _ HB.out)).mono ?_
 rintro e w1 ⟨rfl,K1⟩
 replace HB:=Lib.hid (HB.out.trans (K1.out.mono HB.out.size))
 replace HMQ:=Lib.hid (show Row w1 w.heap.size 31 MV from HMQ.out.below K1.out HMQ.out.lt)
 clear K1
 go_wp2_with ((with_reducible refine load_all ?_ 31 (.tmp 1) ?_ w.heap.size 0 MV MV.toArray ?_ _ ?_ Tryz.underlying31 ?_ ?_ ?_ ?_);rfl;rfl;go_must (rfl;exact rangeAt_row HMQ.out;rfl;(rw [HML.out];exact mt_sizeM);rfl))
 refine (HFW.out w1 HB.out).mono ?_
 rintro e w2 ⟨rfl,K2⟩
 replace HB:=Lib.hid (HB.out.trans (K2.out.mono HB.out.size))
 replace HMQ:=Lib.hid (show Row w2 w.heap.size 31 MV from HMQ.out.below K2.out HMQ.out.lt)
 clear K2 HFW
 cases hfw:fewM m with
 | false=>
  go_wp2_with fail
  go_ret
  exact ⟨rfl,HB⟩
 | true=>
 obtain ⟨T,hp,hq⟩:=HPS.out hfw (HN2.out hfw)
 have HP:=Lib.hid hp
 have HQ:=Lib.hid hq
 have HRM2:=Lib.hid (HRM.out hfw)
 have HRR2:=Lib.hid (HRR.out hfw (HN2.out hfw))
 clear hp hq HPS HRM HRR HN2 hfw
 generalize rightM m=rm at*
 go_wp2_with ((with_reducible refine load_all ?_ 31 (.tmp 1) ?_ w.heap.size 0 MV MV.toArray ?_ _ ?_ Tryz.underlying31 ?_ ?_ ?_ ?_);rfl;rfl;go_must (rfl;exact rangeAt_row HMQ.out;rfl;(rw [HML.out];exact mt_sizeM);rfl))
 refine (HP.out w2 HB.out).mono ?_
 rintro e w3 ⟨A3,k3,rfl,K3⟩
 replace HB:=Lib.hid (HB.out.trans (K3.out.2.mono HB.out.size))
 replace HMQ:=Lib.hid (show Row w3 w.heap.size 31 MV from HMQ.out.below K3.out.2 HMQ.out.lt)
 have HBT:=Lib.hid K3.out.1
 clear K3 HP
 go_wp2_with ((with_reducible refine load_all ?_ 31 (.tmp 1) ?_ w.heap.size 0 MV MV.toArray ?_ _ ?_ Tryz.underlying31 ?_ ?_ ?_ ?_);rfl;rfl;go_must (rfl;exact rangeAt_row HMQ.out;rfl;(rw [HML.out];exact mt_sizeM);rfl))
 refine (HQ.out w3 HB.out).mono ?_
 rintro e w4 ⟨A4,k4,rfl,K4⟩
 replace HB:=Lib.hid (HB.out.trans (K4.out.2.mono HB.out.size))
 replace HMQ:=Lib.hid (show Row w4 w.heap.size 31 MV from HMQ.out.below K4.out.2 HMQ.out.lt)
 replace HBT:=Lib.hid (And.intro (HBT.out.below K4.out.2) K4.out.1)
 clear K4 HQ
 have HCV:=Lib.hid (fun (x:World) (A:Option Addr) (c:Nat) (h:BytesAt x A T.length c T)=> conv_bytes x A T.length c T h)
 generalize (⟨T.toArray⟩:ByteArray)=ST at*
 generalize T.length=tl at*
 have hu:=Tryz.underlying31
 have hi:(Tryz.prog.info? 31).map (·.size)=some MV.length:=by rw [HML.out];exact mt_sizeM
 go_upto_region 7 with fail
 replace HB:=Lib.hid (show Below w.heap.size w w4.drew from below_drewN HB.out 1)
 replace HMQ:=Lib.hid (show Row w4.drew w.heap.size 31 MV from HMQ.out)
 replace HBT:=Lib.hid (show BytesAt w4.drew A3 tl k3 T∧BytesAt w4.drew A4 tl k4 T from ⟨HBT.out.1.below (below_drewN (Below.refl _ _) 1),HBT.out.2.below (below_drewN (Below.refl _ _) 1)⟩)
 refine wp_region_noPanic ?_
 refine wp_region_held_drew (S:=fun x=> x.rangeAt w.heap.size 0 MV∧BytesAt x A3 tl k3 T∧BytesAt x A4 tl k4 T∧Below w.heap.size w x) (by kernel_rfl) ⟨rangeAt_row HMQ.out,HBT.out.1,HBT.out.2,HB.out⟩ (fun hHeld=> ?_)
 refine wpAnyH_take (i:=0) (v:= .bool true) rfl (by kernel_rfl) (by kernel_rfl) (by kernel_rfl) (fun _ _ _ h=> h) (Or.inl ⟨by rfl,fun _ _=> rfl⟩) hHeld ?_
 simp only [List.getElem_toArray,List.getElem_cons_zero,Act.put,List.setIfInBounds_toArray,List.set_cons_zero,List.set_cons_succ]
 refine wpAnyH_take (i:=1) (v:= .bool true) rfl (by kernel_rfl) (by kernel_rfl) (by kernel_rfl) (fun _ _ _ h=> h) (Or.inl ⟨by rfl,fun _ _=> rfl⟩) hHeld ?_
 simp only [List.getElem_toArray,List.getElem_cons_succ,List.getElem_cons_zero,Act.put,List.setIfInBounds_toArray,List.set_cons_zero,List.set_cons_succ]
 refine wpAnyH_take (i:=2) (v:= .agg MV.toArray) rfl (by kernel_rfl) (by kernel_rfl) (by kernel_rfl) (fun _ _ _ h=> h) (yieldsIf_load_mid (by rfl) _ _ rfl _ _ rfl _ _ (fun x hx=> hx.1) hu rfl hi) hHeld ?_
 simp only [List.getElem_toArray,List.getElem_cons_succ,List.getElem_cons_zero,Act.put,List.setIfInBounds_toArray,List.set_cons_zero,List.set_cons_succ]
 refine wpAnyH_take (i:=4) (v:= .agg MV.toArray) rfl (by kernel_rfl) (by kernel_rfl) (by kernel_rfl) (fun _ _ _ h=> h) (yieldsIf_load_mid (by rfl) _ _ rfl _ _ rfl _ _ (fun x hx=> hx.1) hu rfl hi) hHeld ?_
 simp only [List.getElem_toArray,List.getElem_cons_succ,List.getElem_cons_zero,Act.put,List.setIfInBounds_toArray,List.set_cons_zero,List.set_cons_succ]
 refine wpAnyH_ready (rs:=[3]) (by kernel_rfl) (by simp) ?_
 refine AllReadyH.cons rfl (fun K hK=> ?_) AllReadyH.nil
 rw [if_pos (by rfl)]
 refine js_enterP 15 #[.agg MV.toArray] (by first | rfl | kernel_rfl) (HRM2.out _ HB.out) ?_
 rintro e wn ⟨rfl,HH⟩
 replace HB:=Lib.hid (HB.out.trans (HH.out.mono HB.out.size))
 replace HMQ:=Lib.hid (show Row wn w.heap.size 31 MV from HMQ.out.below HH.out HMQ.out.lt)
 replace HBT:=Lib.hid (And.intro (HBT.out.1.below HH.out) (HBT.out.2.below HH.out))
 refine ⟨_,rfl, ?_⟩
 refine hK.out _ _ ⟨rangeAt_row HMQ.out,HBT.out.1,HBT.out.2,HB.out⟩ (fun hHeld=> ?_)
 clear hK K HH
 simp only [List.getElem_toArray,List.getElem_cons_succ,List.getElem_cons_zero,Act.put,List.setIfInBounds_toArray,List.set_cons_zero,List.set_cons_succ]
 refine wpAnyH_ready (rs:=[5]) (by kernel_rfl) (by simp) ?_
 refine AllReadyH.cons rfl (fun K hK=> ?_) AllReadyH.nil
 rw [if_pos (by rfl)]
 refine js_enterP 16 #[.agg MV.toArray] (by first | rfl | kernel_rfl) (HRR2.out _ HB.out) ?_
 rintro e wn ⟨rfl,HH⟩
 replace HB:=Lib.hid (HB.out.trans (HH.out.mono HB.out.size))
 replace HMQ:=Lib.hid (show Row wn w.heap.size 31 MV from HMQ.out.below HH.out HMQ.out.lt)
 replace HBT:=Lib.hid (And.intro (HBT.out.1.below HH.out) (HBT.out.2.below HH.out))
 refine ⟨_,rfl, ?_⟩
 refine hK.out _ _ ⟨rangeAt_row HMQ.out,HBT.out.1,HBT.out.2,HB.out⟩ (fun hHeld=> ?_)
 clear hK K HH
 simp only [List.getElem_toArray,List.getElem_cons_succ,List.getElem_cons_zero,Act.put,List.setIfInBounds_toArray,List.set_cons_zero,List.set_cons_succ]
 refine wpAnyH_take (i:=6) (v:= .bool true) rfl (by kernel_rfl) (by kernel_rfl) (by kernel_rfl) (fun _ _ _ h=> h) (Or.inl ⟨by rfl, ?_⟩) hHeld ?_
 ·intro x hx;go_simp
 simp only [List.getElem_toArray,List.getElem_cons_succ,List.getElem_cons_zero,Act.put,List.setIfInBounds_toArray,List.set_cons_zero,List.set_cons_succ]
 refine wpAnyH_take (i:=7) (v:= .bool true) rfl (by kernel_rfl) (by kernel_rfl) (by kernel_rfl) (fun _ _ _ h=> h) (Or.inl ⟨by rfl,fun _ _=> rfl⟩) hHeld ?_
 simp only [List.getElem_toArray,List.getElem_cons_succ,List.getElem_cons_zero,Act.put,List.setIfInBounds_toArray,List.set_cons_zero,List.set_cons_succ]
 refine wpAnyH_take (i:=8) (v:= .bool true) rfl (by kernel_rfl) (by kernel_rfl) (by kernel_rfl) (fun _ _ _ h=> h) (Or.inl ⟨by rfl,fun _ _=> rfl⟩) hHeld ?_
 simp only [List.getElem_toArray,List.getElem_cons_succ,List.getElem_cons_zero,Act.put,List.setIfInBounds_toArray,List.set_cons_zero,List.set_cons_succ]
 refine wpAnyH_take (i:=9) (v:= .slice A3 tl k3) rfl (by kernel_rfl) (by kernel_rfl) (by kernel_rfl) (fun _ _ _ h=> h) (Or.inl ⟨by rfl,fun _ _=> rfl⟩) hHeld ?_
 simp only [List.getElem_toArray,List.getElem_cons_succ,List.getElem_cons_zero,Act.put,List.setIfInBounds_toArray,List.set_cons_zero,List.set_cons_succ]
 refine wpAnyH_take (i:=11) (v:= .slice A4 tl k4) rfl (by kernel_rfl) (by kernel_rfl) (by kernel_rfl) (fun _ _ _ h=> h) (Or.inl ⟨by rfl,fun _ _=> rfl⟩) hHeld ?_
 simp only [List.getElem_toArray,List.getElem_cons_succ,List.getElem_cons_zero,Act.put,List.setIfInBounds_toArray,List.set_cons_zero,List.set_cons_succ]
 refine wpAnyH_take (i:=10) (v:= .string ST) rfl (by kernel_rfl) (by kernel_rfl) (by kernel_rfl) (fun _ _ _ h=> h) (Or.inl ⟨by rfl,fun x hx=> rd_runP (HCV.out x A3 k3 (hx.2.1))⟩) hHeld ?_
 simp only [List.getElem_toArray,List.getElem_cons_succ,List.getElem_cons_zero,Act.put,List.setIfInBounds_toArray,List.set_cons_zero,List.set_cons_succ]
 refine wpAnyH_take (i:=12) (v:= .string ST) rfl (by kernel_rfl) (by kernel_rfl) (by kernel_rfl) (fun _ _ _ h=> h) (Or.inl ⟨by rfl,fun x hx=> rd_runP (HCV.out x A4 k4 (hx.2.2.1))⟩) hHeld ?_
 simp only [List.getElem_toArray,List.getElem_cons_succ,List.getElem_cons_zero,Act.put,List.setIfInBounds_toArray,List.set_cons_zero,List.set_cons_succ]
 refine wpAnyH_take (i:=13) (v:= .bool true) rfl (by kernel_rfl) (by kernel_rfl) (by kernel_rfl) (fun _ _ _ h=> h) (Or.inl ⟨by rfl, ?_⟩) hHeld ?_
 ·intro x hx;go_simp
 simp only [List.getElem_toArray,List.getElem_cons_succ,List.getElem_cons_zero,Act.put,List.setIfInBounds_toArray,List.set_cons_zero,List.set_cons_succ]
 refine wpAnyH_take (i:=14) (v:= .bool true) rfl (by kernel_rfl) (by kernel_rfl) (by kernel_rfl) (fun _ _ _ h=> h) (Or.inl ⟨by rfl,fun _ _=> rfl⟩) hHeld ?_
 simp only [List.getElem_toArray,List.getElem_cons_succ,List.getElem_cons_zero,Act.put,List.setIfInBounds_toArray,List.set_cons_zero,List.set_cons_succ]
 refine wpAnyH_take (i:=15) (v:= .bool true) rfl (by kernel_rfl) (by kernel_rfl) (by kernel_rfl) (fun _ _ _ h=> h) (Or.inl ⟨by rfl,fun _ _=> rfl⟩) hHeld ?_
 simp only [List.getElem_toArray,List.getElem_cons_succ,List.getElem_cons_zero,Act.put,List.setIfInBounds_toArray,List.set_cons_zero,List.set_cons_succ]
 refine wpAnyH_take (i:=16) (v:= .bool rm) rfl (by kernel_rfl) (by kernel_rfl) (by kernel_rfl) (fun _ _ _ h=> h) (Or.inl ⟨by rfl,fun _ _=> rfl⟩) hHeld ?_
 simp only [List.getElem_toArray,List.getElem_cons_succ,List.getElem_cons_zero,Act.put,List.setIfInBounds_toArray,List.set_cons_zero,List.set_cons_succ]
 refine wpAnyH_take (i:=17) (v:= .bool rm) rfl (by kernel_rfl) (by kernel_rfl) (by kernel_rfl) (fun _ _ _ h=> h) (Or.inl ⟨by rfl,fun _ _=> rfl⟩) hHeld ?_
 simp only [List.getElem_toArray,List.getElem_cons_succ,List.getElem_cons_zero,Act.put,List.setIfInBounds_toArray,List.set_cons_zero,List.set_cons_succ]
 refine wpAnyH_take (i:=18) (v:= .bool true) rfl (by kernel_rfl) (by kernel_rfl) (by kernel_rfl) (fun _ _ _ h=> h) (Or.inl ⟨by rfl, ?_⟩) hHeld ?_
 ·intro x hx;go_simp
 simp only [List.getElem_toArray,List.getElem_cons_succ,List.getElem_cons_zero,Act.put,List.setIfInBounds_toArray,List.set_cons_zero,List.set_cons_succ]
 refine wpAnyH_take (i:=19) (v:= .bool true) rfl (by kernel_rfl) (by kernel_rfl) (by kernel_rfl) (fun _ _ _ h=> h) (Or.inl ⟨by rfl,fun _ _=> rfl⟩) hHeld ?_
 simp only [List.getElem_toArray,List.getElem_cons_succ,List.getElem_cons_zero,Act.put,List.setIfInBounds_toArray,List.set_cons_zero,List.set_cons_succ]
 refine wpAnyH_take (i:=20) (v:= .bool true) rfl (by kernel_rfl) (by kernel_rfl) (by kernel_rfl) (fun _ _ _ h=> h) (Or.inl ⟨by rfl,fun _ _=> rfl⟩) hHeld ?_
 simp only [List.getElem_toArray,List.getElem_cons_succ,List.getElem_cons_zero,Act.put,List.setIfInBounds_toArray,List.set_cons_zero,List.set_cons_succ]
 refine wpAnyH_done (by kernel_rfl) ?_ _
 refine NoPanic.normal ?_
 go_wp2_with fail
 go_ret
 exact ⟨rfl,HB⟩
end Go.Proofs.YtmkjcleecjjchaaGreatDoor
