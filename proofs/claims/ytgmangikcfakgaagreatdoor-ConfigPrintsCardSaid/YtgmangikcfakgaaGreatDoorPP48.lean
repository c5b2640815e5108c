import Derived.Test.YtgmangikcfakgaaGreatDoorPP47
import Derived.Test.YtgmangikcfakgaaGreatDoorPP34
namespace Go.Proofs.YtgmangikcfakgaaGreatDoor
open Go.RowKit Sh Jt Js Jo
set_option maxRecDepth 100000
theorem rd_runP14 {s:Sem Value} {w w':World} {v:Value} (h:s.run Tryz.prog w= .ok v w'):(do let x ←s;pure (Next.value x):Sem Next).run Tryz.prog w= .ok (.value v) w':=by
 rw [Sem.run_bind,h]
 rfl
theorem cf_prints (w:World) (c:Cfg) (P:List Pe) (A1:Option Addr) (n1 c1:Nat) (A2:Option Addr) (n2 c2:Nat) (A3:Option Addr) (n3 c3:Nat) (hC:ConfIn w c P A1 n1 c1 A2 n2 c2 A3 n3 c3) (_hn1:n1≤140737488355328) (hn2:n2≤140737488355328) (_hn3:n3≤140737488351232) (_hH:HoldsC c) (hf:fewC c=true) (hE:CEnv w):∃T,
  (∀W,Below w.heap.size w W→Calls Tryz.prog 13 #[.agg #[.slice A1 n1 c1, .slice A2 n2 c2, .slice A3 n3 c3]] W (PForm W T (rightC c)))∧(∀W,Below w.heap.size w W→Calls Tryz.prog 14 #[.agg #[.slice A1 n1 c1, .slice A2 n2 c2, .slice A3 n3 c3]] W (PForm W T (rightC c))):=by
 obtain ⟨f1,f2,f3,f4⟩:=few_walk hf
 have hl3:=hC.rest.len
 by_cases hr:rowC c=[]
 ·rw [rightC_no hr]
  exact ⟨[],fun W q=> cf_printN W c P A1 n1 c1 A2 n2 c2 A3 n3 c3 (hC.below q) f1 hn2 (by omega) f3 f4 (hE.below q).tab hr,
   fun W q=> cf_rprintN W c P A1 n1 c1 A2 n2 c2 A3 n3 c3 (hC.below q) f1 hn2 (by omega) f3 f4 hr⟩
 ·rw [rightC_yes hr]
  obtain ⟨t,ht⟩:=few_printsC hf hr hC.ids.dig
  have hs:Short 1048576 (rowC c):=short_rowC (by decide) hC.ids.dig f1.rest (fun h hm=> ⟨(f1.hist h hm).who,(f1.hist h hm).rest⟩)
  exact ⟨t,fun W q=> cf_printY W c P A1 n1 c1 A2 n2 c2 A3 n3 c3 (hC.below q) f1 hn2 (by omega) f3 f4 (hE.below q).tab (hE.below q).js ht.row,
   fun W q=> cf_rprintY W c P A1 n1 c1 A2 n2 c2 A3 n3 c3 (hC.below q) f1 (by omega) f3 f4 ht.row (short_more hs (by decide)) (by have:=ht.len;omega)⟩
set_option maxHeartbeats 20000000 in
theorem configPrints_all (w:World) (c:Cfg) (P:List Pe) (A1:Option Addr) (n1 c1:Nat) (A2:Option Addr) (n2 c2:Nat) (A3:Option Addr) (n3 c3:Nat) (hC:ConfIn w c P A1 n1 c1 A2 n2 c2 A3 n3 c3) (hn1:n1≤140737488355328) (hn2:n2≤140737488355328) (hn3:n3≤140737488351232) (hH:HoldsC c) (hE:CEnv w):
  Calls Tryz.prog 4 #[.agg #[.slice A1 n1 c1, .slice A2 n2 c2, .slice A3 n3 c3]] w fun e w'=> e= .returned (.bool true)∧Hid (Below w.heap.size w w'):=by
 have HE:=Lib.hid (fun W (q:Below w.heap.size w W)=> hE.below q)
 have HFW:=Lib.hid (fun W (q:Below w.heap.size w W)=> cf_few W c P A1 n1 c1 A2 n2 c2 A3 n3 c3 (hC.below q) hn1 hn2 hn3 hH)
 have HPS:=Lib.hid (fun (hf:fewC c=true)=> cf_prints w c P A1 n1 c1 A2 n2 c2 A3 n3 c3 hC hn1 hn2 hn3 hH hf hE)
 have hl3:=hC.rest.len
 have HRM:=Lib.hid (fun (hf:fewC c=true) W (q:Below w.heap.size w W)=> cf_right W c P A1 n1 c1 A2 n2 c2 A3 n3 c3 (hC.below q) (few_walk hf).1 hn2 (by have:=(few_walk hf).2.1;omega) (few_walk hf).2.2.1 (few_walk hf).2.2.2 (hE.below q).tab)
 have HRR:=Lib.hid (fun (hf:fewC c=true) W (q:Below w.heap.size w W)=> cf_rright W c P A1 n1 c1 A2 n2 c2 A3 n3 c3 (hC.below q) (few_walk hf).1 hn2 (by have:=(few_walk hf).2.1;omega) (few_walk hf).2.2.1 (few_walk hf).2.2.2)
 have HLM:=Lib.hid (fun W (q:Below w.heap.size w W)=> cf_layers W A2 n2 c2 P (hC.below q).hist hn2)
 have HLR:=Lib.hid (fun W (q:Below w.heap.size w W)=> (cf_rlayers W A2 n2 c2 P (hC.below q).hist hn2).mono fun e w' h=> show e=_∧Hid (Below W.heap.size W w')from ⟨h.1,Lib.hid (h.2▸Below.refl _ _)⟩)
 have HB:=Lib.hid (below_alloc' w (.cells #[.slice A1 n1 c1, .slice A2 n2 c2, .slice A3 n3 c3] 28))
 have HMQ:=Lib.hid (show Row (w.alloc (.cells #[.slice A1 n1 c1, .slice A2 n2 c2, .slice A3 n3 c3] 28)) w.heap.size 28 [.slice A1 n1 c1, .slice A2 n2 c2, .slice A3 n3 c3]from Row.new _ _ _)
 clear hC hH hE
 generalize layersN (histsOf P)=ly at*
 go_enter Tryz.func4,Tryz.ntmps4
 go_upto_region 1 with fail
 generalize hW0:w.alloc (Obj.cells #[.slice A1 n1 c1, .slice A2 n2 c2, .slice A3 n3 c3] 28)=w0 at HMQ HB
 generalize hW:World.alloc _ _=W'
 obtain rfl:w0=W':=hW0.symm.trans hW
 clear hW hW0
 go_wp2_with fail
 refine (cf_small _ (HE.out _ HB.out)).mono ?_
 rintro e w1 ⟨rfl,K1⟩
 replace HB:=Lib.hid (HB.out.trans (K1.out.mono HB.out.size))
 replace HMQ:=Lib.hid (HMQ.out.below K1.out HMQ.out.lt)
 clear K1 HE
 go_wp2_with ((with_reducible refine load_all ?_ 28 (.tmp 1) ?_ w.heap.size 0 [.slice A1 n1 c1, .slice A2 n2 c2, .slice A3 n3 c3] #[.slice A1 n1 c1, .slice A2 n2 c2, .slice A3 n3 c3] ?_ _ ?_ Tryz.underlying28 ?_ ?_ ?_ ?_);rfl;rfl;go_must (rfl;exact rangeAt_row HMQ.out;rfl;exact cf_sizeC;rfl))
 refine (HFW.out w1 HB.out).mono ?_
 rintro e w2 ⟨rfl,K2⟩
 replace HB:=Lib.hid (HB.out.trans (K2.out.mono HB.out.size))
 replace HMQ:=Lib.hid (HMQ.out.below K2.out HMQ.out.lt)
 clear K2 HFW
 cases hfw:fewC c with
 | false=>
  go_wp2_with fail
  go_ret
  exact ⟨rfl,HB⟩
 | true=>
 obtain ⟨T,hp,hq⟩:=HPS.out hfw
 have HP:=Lib.hid hp
 have HQ:=Lib.hid hq
 have HRM2:=Lib.hid (HRM.out hfw)
 have HRR2:=Lib.hid (HRR.out hfw)
 clear hp hq HPS HRM HRR hfw
 generalize rightC c=rm at*
 go_wp2_with ((with_reducible refine load_all ?_ 28 (.tmp 1) ?_ w.heap.size 0 [.slice A1 n1 c1, .slice A2 n2 c2, .slice A3 n3 c3] #[.slice A1 n1 c1, .slice A2 n2 c2, .slice A3 n3 c3] ?_ _ ?_ Tryz.underlying28 ?_ ?_ ?_ ?_);rfl;rfl;go_must (rfl;exact rangeAt_row HMQ.out;rfl;exact cf_sizeC;rfl))
 refine (HP.out w2 HB.out).mono ?_
 rintro e w3 ⟨A4,k4,rfl,K3⟩
 replace HB:=Lib.hid (HB.out.trans (K3.out.2.mono HB.out.size))
 replace HMQ:=Lib.hid (HMQ.out.below K3.out.2 HMQ.out.lt)
 have HBT:=Lib.hid K3.out.1
 clear K3 HP
 go_wp2_with ((with_reducible refine load_all ?_ 28 (.tmp 1) ?_ w.heap.size 0 [.slice A1 n1 c1, .slice A2 n2 c2, .slice A3 n3 c3] #[.slice A1 n1 c1, .slice A2 n2 c2, .slice A3 n3 c3] ?_ _ ?_ Tryz.underlying28 ?_ ?_ ?_ ?_);rfl;rfl;go_must (rfl;exact rangeAt_row HMQ.out;rfl;exact cf_sizeC;rfl))
 refine (HQ.out w3 HB.out).mono ?_
 rintro e w4 ⟨A5,k5,rfl,K4⟩
 replace HB:=Lib.hid (HB.out.trans (K4.out.2.mono HB.out.size))
 replace HMQ:=Lib.hid (HMQ.out.below K4.out.2 HMQ.out.lt)
 replace HBT:=Lib.hid (And.intro (HBT.out.below K4.out.2) K4.out.1)
 clear K4 HQ
 have HCV:=Lib.hid (fun (x:World) (A:Option Addr) (c:Nat) (h:BytesAt x A T.length c T)=> conv_bytes x A T.length c T h)
 generalize (⟨T.toArray⟩:ByteArray)=ST at*
 generalize T.length=tl at*
 have hu:=Tryz.underlying28
 have hi:(Tryz.prog.info? 28).map (·.size)=some ([.slice A1 n1 c1, .slice A2 n2 c2, .slice A3 n3 c3]:List Value).length:=cf_sizeC
 go_upto_region 7 with fail
 replace HB:=Lib.hid (show Below w.heap.size w w4.drew from below_drewN HB.out 1)
 replace HMQ:=Lib.hid (show Row w4.drew w.heap.size 28 [.slice A1 n1 c1, .slice A2 n2 c2, .slice A3 n3 c3]from HMQ.out)
 replace HBT:=Lib.hid (show BytesAt w4.drew A4 tl k4 T∧BytesAt w4.drew A5 tl k5 T from ⟨HBT.out.1.below (below_drewN (Below.refl _ _) 1),HBT.out.2.below (below_drewN (Below.refl _ _) 1)⟩)
 refine wp_region_noPanic ?_
 refine wp_region_held_drew (S:=fun x=> x.rangeAt w.heap.size 0 [.slice A1 n1 c1, .slice A2 n2 c2, .slice A3 n3 c3]∧BytesAt x A4 tl k4 T∧BytesAt x A5 tl k5 T∧x.cell? ⟨w.heap.size,1,none⟩=some (.slice A2 n2 c2)∧Below w.heap.size w x) (by kernel_rfl) ⟨rangeAt_row HMQ.out,HBT.out.1,HBT.out.2,HMQ.out.cell (i:=1) rfl,HB.out⟩ (fun hHeld=> ?_)
 refine wpAnyH_take (i:=0) (v:= .bool true) rfl (by kernel_rfl) (by kernel_rfl) (by kernel_rfl) (fun _ _ _ h=> h) (Or.inl ⟨by rfl,fun _ _=> rfl⟩) hHeld ?_
 simp only [List.getElem_toArray,List.getElem_cons_zero,Act.put,List.setIfInBounds_toArray,List.set_cons_zero,List.set_cons_succ]
 refine wpAnyH_take (i:=1) (v:= .bool true) rfl (by kernel_rfl) (by kernel_rfl) (by kernel_rfl) (fun _ _ _ h=> h) (Or.inl ⟨by rfl,fun _ _=> rfl⟩) hHeld ?_
 simp only [List.getElem_toArray,List.getElem_cons_succ,List.getElem_cons_zero,Act.put,List.setIfInBounds_toArray,List.set_cons_zero,List.set_cons_succ]
 refine wpAnyH_take (i:=2) (v:= .agg #[.slice A1 n1 c1, .slice A2 n2 c2, .slice A3 n3 c3]) rfl (by kernel_rfl) (by kernel_rfl) (by kernel_rfl) (fun _ _ _ h=> h) (yieldsIf_load_mid (by rfl) _ _ rfl _ _ rfl _ _ (fun x hx=> hx.1) hu rfl hi) hHeld ?_
 simp only [List.getElem_toArray,List.getElem_cons_succ,List.getElem_cons_zero,Act.put,List.setIfInBounds_toArray,List.set_cons_zero,List.set_cons_succ]
 refine wpAnyH_take (i:=4) (v:= .agg #[.slice A1 n1 c1, .slice A2 n2 c2, .slice A3 n3 c3]) rfl (by kernel_rfl) (by kernel_rfl) (by kernel_rfl) (fun _ _ _ h=> h) (yieldsIf_load_mid (by rfl) _ _ rfl _ _ rfl _ _ (fun x hx=> hx.1) hu rfl hi) hHeld ?_
 simp only [List.getElem_toArray,List.getElem_cons_succ,List.getElem_cons_zero,Act.put,List.setIfInBounds_toArray,List.set_cons_zero,List.set_cons_succ]
 refine wpAnyH_ready (rs:=[3]) (by kernel_rfl) (by simp) ?_
 refine AllReadyH.cons rfl (fun K hK=> ?_) AllReadyH.nil
 rw [if_pos (by rfl)]
 refine js_enterP 15 #[.agg #[.slice A1 n1 c1, .slice A2 n2 c2, .slice A3 n3 c3]] (by first | rfl | kernel_rfl) (HRM2.out _ HB.out) ?_
 rintro e wn ⟨rfl,HH⟩
 replace HB:=Lib.hid (HB.out.trans (HH.out.mono HB.out.size))
 replace HMQ:=Lib.hid (HMQ.out.below HH.out HMQ.out.lt)
 replace HBT:=Lib.hid (And.intro (HBT.out.1.below HH.out) (HBT.out.2.below HH.out))
 refine ⟨_,rfl, ?_⟩
 refine hK.out _ _ ⟨rangeAt_row HMQ.out,HBT.out.1,HBT.out.2,HMQ.out.cell (i:=1) rfl,HB.out⟩ (fun hHeld=> ?_)
 clear hK K HH
 simp only [List.getElem_toArray,List.getElem_cons_succ,List.getElem_cons_zero,Act.put,List.setIfInBounds_toArray,List.set_cons_zero,List.set_cons_succ]
 refine wpAnyH_ready (rs:=[5]) (by kernel_rfl) (by simp) ?_
 refine AllReadyH.cons rfl (fun K hK=> ?_) AllReadyH.nil
 rw [if_pos (by rfl)]
 refine js_enterP 16 #[.agg #[.slice A1 n1 c1, .slice A2 n2 c2, .slice A3 n3 c3]] (by first | rfl | kernel_rfl) (HRR2.out _ HB.out) ?_
 rintro e wn ⟨rfl,HH⟩
 replace HB:=Lib.hid (HB.out.trans (HH.out.mono HB.out.size))
 replace HMQ:=Lib.hid (HMQ.out.below HH.out HMQ.out.lt)
 replace HBT:=Lib.hid (And.intro (HBT.out.1.below HH.out) (HBT.out.2.below HH.out))
 refine ⟨_,rfl, ?_⟩
 refine hK.out _ _ ⟨rangeAt_row HMQ.out,HBT.out.1,HBT.out.2,HMQ.out.cell (i:=1) rfl,HB.out⟩ (fun hHeld=> ?_)
 clear hK K HH
 simp only [List.getElem_toArray,List.getElem_cons_succ,List.getElem_cons_zero,Act.put,List.setIfInBounds_toArray,List.set_cons_zero,List.set_cons_succ]
 refine wpAnyH_take (i:=6) (v:= .bool true) rfl (by kernel_rfl) (by kernel_rfl) (by kernel_rfl) (fun _ _ _ h=> h) (Or.inl ⟨by rfl, ?_⟩) hHeld ?_
 ·intro x hx;go_simp
 simp only [List.getElem_toArray,List.getElem_cons_succ,List.getElem_cons_zero,Act.put,List.setIfInBounds_toArray,List.set_cons_zero,List.set_cons_succ]
 refine wpAnyH_take (i:=7) (v:= .bool true) rfl (by kernel_rfl) (by kernel_rfl) (by kernel_rfl) (fun _ _ _ h=> h) (Or.inl ⟨by rfl,fun _ _=> rfl⟩) hHeld ?_
 simp only [List.getElem_toArray,List.getElem_cons_succ,List.getElem_cons_zero,Act.put,List.setIfInBounds_toArray,List.set_cons_zero,List.set_cons_succ]
 refine wpAnyH_take (i:=8) (v:= .bool true) rfl (by kernel_rfl) (by kernel_rfl) (by kernel_rfl) (fun _ _ _ h=> h) (Or.inl ⟨by rfl,fun _ _=> rfl⟩) hHeld ?_
 simp only [List.getElem_toArray,List.getElem_cons_succ,List.getElem_cons_zero,Act.put,List.setIfInBounds_toArray,List.set_cons_zero,List.set_cons_succ]
 refine wpAnyH_take (i:=9) (v:= .slice A4 tl k4) rfl (by kernel_rfl) (by kernel_rfl) (by kernel_rfl) (fun _ _ _ h=> h) (Or.inl ⟨by rfl,fun _ _=> rfl⟩) hHeld ?_
 simp only [List.getElem_toArray,List.getElem_cons_succ,List.getElem_cons_zero,Act.put,List.setIfInBounds_toArray,List.set_cons_zero,List.set_cons_succ]
 refine wpAnyH_take (i:=11) (v:= .slice A5 tl k5) rfl (by kernel_rfl) (by kernel_rfl) (by kernel_rfl) (fun _ _ _ h=> h) (Or.inl ⟨by rfl,fun _ _=> rfl⟩) hHeld ?_
 simp only [List.getElem_toArray,List.getElem_cons_succ,List.getElem_cons_zero,Act.put,List.setIfInBounds_toArray,List.set_cons_zero,List.set_cons_succ]
 refine wpAnyH_take (i:=10) (v:= .string ST) rfl (by kernel_rfl) (by kernel_rfl) (by kernel_rfl) (fun _ _ _ h=> h) (Or.inl ⟨by rfl,fun x hx=> rd_runP14 (HCV.out x A4 k4 (hx.2.1))⟩) hHeld ?_
 simp only [List.getElem_toArray,List.getElem_cons_succ,List.getElem_cons_zero,Act.put,List.setIfInBounds_toArray,List.set_cons_zero,List.set_cons_succ]
 refine wpAnyH_take (i:=12) (v:= .string ST) rfl (by kernel_rfl) (by kernel_rfl) (by kernel_rfl) (fun _ _ _ h=> h) (Or.inl ⟨by rfl,fun x hx=> rd_runP14 (HCV.out x A5 k5 (hx.2.2.1))⟩) hHeld ?_
 simp only [List.getElem_toArray,List.getElem_cons_succ,List.getElem_cons_zero,Act.put,List.setIfInBounds_toArray,List.set_cons_zero,List.set_cons_succ]
 refine wpAnyH_take (i:=13) (v:= .bool true) rfl (by kernel_rfl) (by kernel_rfl) (by kernel_rfl) (fun _ _ _ h=> h) (Or.inl ⟨by rfl, ?_⟩) hHeld ?_
 ·intro x hx;go_simp
 simp only [List.getElem_toArray,List.getElem_cons_succ,List.getElem_cons_zero,Act.put,List.setIfInBounds_toArray,List.set_cons_zero,List.set_cons_succ]
 refine wpAnyH_take (i:=14) (v:= .bool true) rfl (by kernel_rfl) (by kernel_rfl) (by kernel_rfl) (fun _ _ _ h=> h) (Or.inl ⟨by rfl,fun _ _=> rfl⟩) hHeld ?_
 simp only [List.getElem_toArray,List.getElem_cons_succ,List.getElem_cons_zero,Act.put,List.setIfInBounds_toArray,List.set_cons_zero,List.set_cons_succ]
 refine wpAnyH_take (i:=15) (v:= .bool true) rfl (by kernel_rfl) (by kernel_rfl) (by kernel_rfl) (fun _ _ _ h=> h) (Or.inl ⟨by rfl,fun _ _=> rfl⟩) hHeld ?_
 simp only [List.getElem_toArray,List.getElem_cons_succ,List.getElem_cons_zero,Act.put,List.setIfInBounds_toArray,List.set_cons_zero,List.set_cons_succ]
 refine wpAnyH_take (i:=16) (v:= .bool rm) rfl (by kernel_rfl) (by kernel_rfl) (by kernel_rfl) (fun _ _ _ h=> h) (Or.inl ⟨by rfl,fun _ _=> rfl⟩) hHeld ?_
 simp only [List.getElem_toArray,List.getElem_cons_succ,List.getElem_cons_zero,Act.put,List.setIfInBounds_toArray,List.set_cons_zero,List.set_cons_succ]
 refine wpAnyH_take (i:=17) (v:= .bool rm) rfl (by kernel_rfl) (by kernel_rfl) (by kernel_rfl) (fun _ _ _ h=> h) (Or.inl ⟨by rfl,fun _ _=> rfl⟩) hHeld ?_
 simp only [List.getElem_toArray,List.getElem_cons_succ,List.getElem_cons_zero,Act.put,List.setIfInBounds_toArray,List.set_cons_zero,List.set_cons_succ]
 refine wpAnyH_take (i:=18) (v:= .bool true) rfl (by kernel_rfl) (by kernel_rfl) (by kernel_rfl) (fun _ _ _ h=> h) (Or.inl ⟨by rfl, ?_⟩) hHeld ?_
 ·intro x hx;go_simp
 simp only [List.getElem_toArray,List.getElem_cons_succ,List.getElem_cons_zero,Act.put,List.setIfInBounds_toArray,List.set_cons_zero,List.set_cons_succ]
 refine wpAnyH_take (i:=19) (v:= .bool true) rfl (by kernel_rfl) (by kernel_rfl) (by kernel_rfl) (fun _ _ _ h=> h) (Or.inl ⟨by rfl,fun _ _=> rfl⟩) hHeld ?_
 simp only [List.getElem_toArray,List.getElem_cons_succ,List.getElem_cons_zero,Act.put,List.setIfInBounds_toArray,List.set_cons_zero,List.set_cons_succ]
 refine wpAnyH_take (i:=20) (v:= .bool true) rfl (by kernel_rfl) (by kernel_rfl) (by kernel_rfl) (fun _ _ _ h=> h) (Or.inl ⟨by rfl,fun _ _=> rfl⟩) hHeld ?_
 simp only [List.getElem_toArray,List.getElem_cons_succ,List.getElem_cons_zero,Act.put,List.setIfInBounds_toArray,List.set_cons_zero,List.set_cons_succ]
 refine wpAnyH_take (i:=21) (v:= .pointer (some ⟨w.heap.size,1,none⟩)) rfl (by kernel_rfl) (by kernel_rfl) (by kernel_rfl) (fun _ _ _ h=> h) (Or.inl ⟨by rfl,fun _ _=> rfl⟩) hHeld ?_
 simp only [List.getElem_toArray,List.getElem_cons_succ,List.getElem_cons_zero,Act.put,List.setIfInBounds_toArray,List.set_cons_zero,List.set_cons_succ]
 refine wpAnyH_take (i:=24) (v:= .pointer (some ⟨w.heap.size,1,none⟩)) rfl (by kernel_rfl) (by kernel_rfl) (by kernel_rfl) (fun _ _ _ h=> h) (Or.inl ⟨by rfl,fun _ _=> rfl⟩) hHeld ?_
 simp only [List.getElem_toArray,List.getElem_cons_succ,List.getElem_cons_zero,Act.put,List.setIfInBounds_toArray,List.set_cons_zero,List.set_cons_succ]
 refine wpAnyH_take (i:=22) (v:= .slice A2 n2 c2) rfl (by kernel_rfl) (by kernel_rfl) (by kernel_rfl) (fun _ _ _ h=> h) (Or.inl ⟨by rfl, ?_⟩) hHeld ?_
 ·intro x hx;have hx1:=hx.2.2.2.1;go_simp
 simp only [List.getElem_toArray,List.getElem_cons_succ,List.getElem_cons_zero,Act.put,List.setIfInBounds_toArray,List.set_cons_zero,List.set_cons_succ]
 refine wpAnyH_take (i:=25) (v:= .slice A2 n2 c2) rfl (by kernel_rfl) (by kernel_rfl) (by kernel_rfl) (fun _ _ _ h=> h) (Or.inl ⟨by rfl, ?_⟩) hHeld ?_
 ·intro x hx;have hx1:=hx.2.2.2.1;go_simp
 simp only [List.getElem_toArray,List.getElem_cons_succ,List.getElem_cons_zero,Act.put,List.setIfInBounds_toArray,List.set_cons_zero,List.set_cons_succ]
 refine wpAnyH_ready (rs:=[23]) (by kernel_rfl) (by simp) ?_
 refine AllReadyH.cons rfl (fun K hK=> ?_) AllReadyH.nil
 rw [if_pos (by rfl)]
 refine js_enterP 17 #[.slice A2 n2 c2] (by first | rfl | kernel_rfl) (HLM.out _ HB.out) ?_
 rintro e wn ⟨rfl,HH⟩
 replace HB:=Lib.hid (HB.out.trans (HH.out.mono HB.out.size))
 replace HMQ:=Lib.hid (HMQ.out.below HH.out HMQ.out.lt)
 replace HBT:=Lib.hid (And.intro (HBT.out.1.below HH.out) (HBT.out.2.below HH.out))
 refine ⟨_,rfl, ?_⟩
 refine hK.out _ _ ⟨rangeAt_row HMQ.out,HBT.out.1,HBT.out.2,HMQ.out.cell (i:=1) rfl,HB.out⟩ (fun hHeld=> ?_)
 clear hK K HH
 simp only [List.getElem_toArray,List.getElem_cons_succ,List.getElem_cons_zero,Act.put,List.setIfInBounds_toArray,List.set_cons_zero,List.set_cons_succ]
 refine wpAnyH_ready (rs:=[26]) (by kernel_rfl) (by simp) ?_
 refine AllReadyH.cons rfl (fun K hK=> ?_) AllReadyH.nil
 rw [if_pos (by rfl)]
 refine js_enterP 18 #[.slice A2 n2 c2] (by first | rfl | kernel_rfl) (HLR.out _ HB.out) ?_
 rintro e wn ⟨rfl,HH⟩
 replace HB:=Lib.hid (HB.out.trans (HH.out.mono HB.out.size))
 replace HMQ:=Lib.hid (HMQ.out.below HH.out HMQ.out.lt)
 replace HBT:=Lib.hid (And.intro (HBT.out.1.below HH.out) (HBT.out.2.below HH.out))
 refine ⟨_,rfl, ?_⟩
 refine hK.out _ _ ⟨rangeAt_row HMQ.out,HBT.out.1,HBT.out.2,HMQ.out.cell (i:=1) rfl,HB.out⟩ (fun hHeld=> ?_)
 clear hK K HH
 simp only [List.getElem_toArray,List.getElem_cons_succ,List.getElem_cons_zero,Act.put,List.setIfInBounds_toArray,List.set_cons_zero,List.set_cons_succ]
 refine wpAnyH_take (i:=27) (v:= .bool true) rfl (by kernel_rfl) (by kernel_rfl) (by kernel_rfl) (fun _ _ _ h=> h) (Or.inl ⟨by rfl, ?_⟩) hHeld ?_
 ·intro x hx;go_simp
 simp only [List.getElem_toArray,List.getElem_cons_succ,List.getElem_cons_zero,Act.put,List.setIfInBounds_toArray,List.set_cons_zero,List.set_cons_succ]
 refine wpAnyH_take (i:=28) (v:= .bool true) rfl (by kernel_rfl) (by kernel_rfl) (by kernel_rfl) (fun _ _ _ h=> h) (Or.inl ⟨by rfl,fun _ _=> rfl⟩) hHeld ?_
 simp only [List.getElem_toArray,List.getElem_cons_succ,List.getElem_cons_zero,Act.put,List.setIfInBounds_toArray,List.set_cons_zero,List.set_cons_succ]
 refine wpAnyH_take (i:=29) (v:= .bool true) rfl (by kernel_rfl) (by kernel_rfl) (by kernel_rfl) (fun _ _ _ h=> h) (Or.inl ⟨by rfl,fun _ _=> rfl⟩) hHeld ?_
 simp only [List.getElem_toArray,List.getElem_cons_succ,List.getElem_cons_zero,Act.put,List.setIfInBounds_toArray,List.set_cons_zero,List.set_cons_succ]
 refine wpAnyH_done (by kernel_rfl) ?_ _
 refine NoPanic.normal ?_
 go_wp2_with fail
 go_ret
 exact ⟨rfl,HB⟩
end Go.Proofs.YtgmangikcfakgaaGreatDoor
