import Derived.Test.YtgmangikcfakgaaGreatDoorPR47
import Derived.Test.YtgmangikcfakgaaGreatDoorPR34
namespace Go.Proofs.YtgmangikcfakgaaGreatDoor
open Go.RowKit Sh Jt Js Jo
set_option maxRecDepth 100000
theorem same_one14 {W:World} {A E:Option Addr} {n c d:Nat} {L:List V} (h1:ValsAt W A n c L) (h2:ValsAt W E n d L) (hn:n≤1000):Calls Tryz.prog 23 #[.slice A n c, .slice E n d] W fun e w'=> e= .returned (.bool true)∧Hid (Below W.heap.size W w'):=by
 refine (js_same W A E n c n d L L h1 h2 (by omega) (by omega)).mono ?_
 rintro e w' ⟨rfl,m,rfl⟩
 exact ⟨by rw [decide_eq_true rfl],Lib.hid (below_drewN (Below.refl _ _) m)⟩
theorem built_rest14 (A:Option Addr) (n c:Nat):Tryz.prog.built 28 [(2, .slice A n c)]=some #[.slice none 0 0, .slice none 0 0, .slice A n c]:=by kernel_rfl
set_option maxHeartbeats 20000000 in
theorem configRest_all (w:World) (A:Option Addr) (n c:Nat) (L:List V) (hL:ValsAt w A n c L) (hn:n≤140737488351232) (hF:Fits L) (key:List UInt8) (hE:CEnv w):
  Calls Tryz.prog 7 #[.slice A n c, .string (sb key)] w fun e w'=> e= .returned (.bool true)∧Hid (Below w.heap.size w w'):=by
 have HE:=Lib.hid (fun W (q:Below w.heap.size w W)=> hE.below q)
 have HL:=Lib.hid (fun W (q:Below w.heap.size w W)=> hL.below q)
 have hlen:=hL.len
 have HFI:=Lib.hid hF
 clear hL hE hF
 generalize hks:sb key=KS at*
 have HKS:=Lib.hid hks
 have hkz:KS.size=key.length:=by rw [←hks];rfl
 clear hks
 go_enter Tryz.func7,Tryz.ntmps7
 go_wp2_with fail
 refine (cf_small _ (HE.out _ (Below.refl _ _))).mono ?_
 rintro e w1 ⟨rfl,HB⟩
 go_wp2_with fail
 refine (js_few w1 A n c L (HL.out w1 HB.out) hn HFI.out).mono ?_
 rintro e w2 ⟨rfl,m2,rfl⟩
 replace HB:=Lib.hid (below_drewN HB.out m2)
 generalize w1.drewN m2=w2 at*
 cases hfw:fewF L with
 | false=>
  go_wp2_with fail
  go_ret
  exact ⟨rfl,HB⟩
 | true=>
 by_cases h3:300 < key.length
 ·have hg:(300:Int) < (KS.size:Int):=by omega
  clear hkz
  go_wp2_with fail
  go_ret
  exact ⟨rfl,HB⟩
 have hg:¬(300:Int) < (KS.size:Int):=by omega
 have hgd:decide ((300:Int) < (KS.size:Int))=false:=decide_eq_false hg
 clear hkz
 obtain ⟨hl80,hs⟩:=few_short hfw
 have hs1:=short_dropA hs (key:=rootK)
 have hs2:=short_dropA hs1 (key:=histK)
 have hs3:=short_sortC hs2
 have hd1:=drop_few (L:=L) rootK
 have hd2:=drop_few (L:=dropA L rootK) histK
 have hd3:(sortA (dropA (dropA L rootK) histK)).length≤80:=by
  unfold sortA
  split
  next hr=>
   rw [(srt_srt hr).2.2]
   omega
  next=> exact Nat.zero_le _
 have HD1:=Lib.hid (own_any (L:=dropA L rootK) rfl (jo_drop w2 A n c L (HL.out w2 HB.out) (by omega) (short_more hs (by decide)) (HE.out _ HB.out).tab rootK))
 change Hid (Calls _ _ #[_, .string ⟨#[114,111,111,116,102,115]⟩] _ _)at HD1
 have HH1:=Lib.hid (short_more hs1 (show 3000≤1000000000 by decide))
 have HH2:=Lib.hid (short_more hs2 (show 3000≤1000000000 by decide))
 have HH3:=Lib.hid hs3
 clear hs hs1 hs2 hs3 hfw
 generalize dropA L rootK=X1 at*
 have HX2:=Lib.hid (fun W A1 k1 (h:ValsAt W A1 X1.length k1 X1) (q:Below w.heap.size w W)=> show Calls _ _ #[_, .string ⟨#[104,105,115,116,111,114,121]⟩] _ _ from own_any (L:=dropA X1 histK) rfl (jo_drop W A1 X1.length k1 X1 h (by omega) HH1.out (HE.out W q).tab histK))
 generalize dropA X1 histK=X2 at*
 have HX3:=Lib.hid (fun W A1 k1 (h:ValsAt W A1 X2.length k1 X2) (q:Below w.heap.size w W)=> own_any (L:=sortA X2) rfl (js_sortRow W A1 X2.length k1 X2 h (by omega) HH2.out (HE.out W q).tab))
 generalize sortA X2=S at*
 go_wp2_with fail
 refine HD1.out.mono ?_
 rintro e w3 ⟨A3,k3,rfl,K3⟩
 replace HB:=Lib.hid (HB.out.trans (K3.out.2.2.mono HB.out.size))
 have HC2:=Lib.hid (HX2.out w3 A3 k3 K3.out.2.1 HB.out)
 clear K3 HD1 HX2
 go_wp2_with fail
 refine HC2.out.mono ?_
 rintro e w4 ⟨A4,k4,rfl,K4⟩
 replace HB:=Lib.hid (HB.out.trans (K4.out.2.2.mono HB.out.size))
 have HC3:=Lib.hid (HX3.out w4 A4 k4 K4.out.2.1 HB.out)
 clear K4 HC2 HX3 HH1 HH2 HL HFI
 go_wp2_with fail
 refine HC3.out.mono ?_
 rintro e w5 ⟨A5,k5,rfl,K5⟩
 replace HB:=Lib.hid (HB.out.trans (K5.out.2.2.mono HB.out.size))
 have HVS:=Lib.hid K5.out.2.1
 clear K5 HC3 hd1 hd2
 obtain ⟨sn,hsn⟩:∃sn,sn=S.length:=⟨_,rfl⟩
 rw [←hsn]at HVS hd3 ⊢
 have HSN:=Lib.hid hsn
 clear hsn
 by_cases h0:sn=0
 ·have hg0:((sn:Int)==0)=true:=by rw [h0];rfl
  clear h0
  go_wp2_with fail
  go_ret
  exact ⟨rfl,HB⟩
 have hg0:((sn:Int)==0)=false:=beq_eq_false_iff_ne.2 (by omega)
 have HCI:=Lib.hid (fun W (h:ValsAt W A5 sn k5 S)=> show ConfIn W ⟨[],[],S⟩ [] none 0 0 none 0 0 A5 sn k5 from ⟨GsAt.nil _ _ _,HistsAt.nil _ _ _,rfl,h⟩)
 have HFC:=Lib.hid (show FitC ⟨[],[],S⟩from ⟨short_more HH3.out (by decide),(by show S.length≤250000;have:=HSN.out;omega),fun h hm=> by cases hm⟩)
 by_cases hr:rowC ⟨[],[],S⟩=[]
 case pos=>
  have HPN:=Lib.hid (cf_printN w5 ⟨[],[],S⟩ [] none 0 0 none 0 0 A5 sn k5 (HCI.out w5 HVS.out) HFC.out (by decide) (by omega) (fun h hm=> by cases hm) (Nat.zero_le _) (HE.out _ HB.out).tab hr)
  clear hr
  go_wp2_with ((with_reducible refine build_all ?_ 28 #[(2, .tmp 32)] ?_ #[.slice none 0 0, .slice none 0 0, .slice A5 sn k5] ?_ ?_);rfl;rfl;go_must (refine Eq.trans ?_ (built_rest14 A5 sn k5);kernel_rfl))
  refine HPN.out.mono ?_
  rintro e w6 ⟨A6,k6,rfl,K6⟩
  replace HVS:=Lib.hid (HVS.out.below K6.out.2)
  replace HB:=Lib.hid (HB.out.trans ((K6.out.2).mono HB.out.size))
  have HPE:=Lib.hid (cf_parse w6 A6 0 k6 [] K6.out.1 (by decide) (HE.out _ HB.out))
  rw [show parseC []= .err 3 from rfl]at HPE
  clear K6 HPN
  go_wp2_with fail
  refine HPE.out.mono ?_
  rintro e w7 ⟨rfl, -,K7⟩
  replace HVS:=Lib.hid (HVS.out.below K7.out)
  replace HB:=Lib.hid (HB.out.trans ((K7.out).mono HB.out.size))
  clear K7 HPE
  go_upto_region 10 with ((with_reducible refine store_all ?_ 28 (.tmp 10) (.tmp 40) ?_ w7.heap.size cz ?_ ?_ cz ?_ ?_ ?_ ?_ ?_);rfl;rfl;go_must (rfl;rfl;rfl;exact Row.at_ _ _ _ rfl rfl;exact cf_sizeC;exact conf_one _ _ _ _ _ _ _ _ _;intro w8 Rw8 Kw8 Ew8))
  have KX:=Lib.hid (show Below w7.heap.size w7 w8 from (kept_stored Kw8.out).below (Nat.le_refl _) (fun _ _ h=> h))
  replace HVS:=Lib.hid (HVS.out.below KX.out)
  replace HB:=Lib.hid (HB.out.trans ((KX.out).mono HB.out.size))
  have R10:=Rw8
  clear KX Kw8 Ew8 Rw8
  generalize w7.heap.size=b10 at*
  go_quiet (fail)
  go_wp2_with fail
  go_ret
  exact ⟨rfl,Lib.hid (below_drewN HB.out nq)⟩
 obtain ⟨t,hpt⟩:=prints_C hr (fun d hd=> by cases hd) (short_more HH3.out (show 3000≤12000 by decide)) (fun h hm=> by cases hm)
 have HP:=Lib.hid hpt
 have HPN:=Lib.hid (cf_printY w5 ⟨[],[],S⟩ [] none 0 0 none 0 0 A5 sn k5 (HCI.out w5 HVS.out) HFC.out (by decide) (by omega) (fun h hm=> by cases hm) (Nat.zero_le _) (HE.out _ HB.out).tab (HE.out _ HB.out).js hpt.row)
 clear hr hpt
 go_wp2_with ((with_reducible refine build_all ?_ 28 #[(2, .tmp 32)] ?_ #[.slice none 0 0, .slice none 0 0, .slice A5 sn k5] ?_ ?_);rfl;rfl;go_must (refine Eq.trans ?_ (built_rest14 A5 sn k5);kernel_rfl))
 refine HPN.out.mono ?_
 rintro e w6 ⟨A6,k6,rfl,K6⟩
 replace HVS:=Lib.hid (HVS.out.below K6.out.2)
 replace HB:=Lib.hid (HB.out.trans ((K6.out.2).mono HB.out.size))
 have HPE:=Lib.hid (cf_parseS w6 A6 t.length k6 t K6.out.1 HP.out.len HP.out.short (HE.out _ HB.out))
 rw [HP.out.back]at HPE
 clear K6 HPN
 go_wp2_with fail
 refine HPE.out.mono ?_
 rintro e w7 ⟨Q,X1,d1,X2,d2,X3,d3,rfl,K7⟩
 have hq0:Q.length=0:=by
  have:=congrArg List.length K7.out.1.same
  unfold histsOf at this
  rwa [List.length_map]at this
 rw [hq0]
 change Hid (ConfIn w7 ⟨[],[],S⟩ Q X1 0 d1 X2 Q.length d2 X3 S.length d3∧_)at K7
 replace HVS:=Lib.hid (HVS.out.below K7.out.2)
 replace HB:=Lib.hid (HB.out.trans ((K7.out.2).mono HB.out.size))
 have HVX:=Lib.hid K7.out.1.rest
 rw [←HSN.out]at HVX
 clear K7 HPE hq0
 rw [show (Cfg.rest ⟨[],[],S⟩).length=sn from HSN.out.symm,show (Cfg.ids ⟨[],[],S⟩).length=0 from rfl]
 go_upto_region 10 with ((with_reducible refine store_all ?_ 28 (.tmp 10) (.tmp 40) ?_ w7.heap.size [.slice X1 0 d1, .slice X2 0 d2, .slice X3 sn d3] ?_ ?_ cz ?_ ?_ ?_ ?_ ?_);rfl;rfl;go_must (rfl;rfl;rfl;exact Row.at_ _ _ _ rfl rfl;exact cf_sizeC;exact conf_one _ _ _ _ _ _ _ _ _;intro w8 Rw8 Kw8 Ew8))
 have KX:=Lib.hid (show Below w7.heap.size w7 w8 from (kept_stored Kw8.out).below (Nat.le_refl _) (fun _ _ h=> h))
 replace HVS:=Lib.hid (HVS.out.below KX.out)
 replace HVX:=Lib.hid (HVX.out.below KX.out)
 replace HB:=Lib.hid (HB.out.trans ((KX.out).mono HB.out.size))
 have R10:=Rw8
 clear KX Kw8 Ew8 Rw8
 generalize w7.heap.size=b10 at*
 have HG:=Lib.hid (fun W A k (h:ValsAt W A sn k S) (q:Below w.heap.size w W)=> show Calls _ _ #[_,_, .string KS] _ _ from by rw [←HKS.out];exact jo_get W A sn k S h (by omega) (short_more HH3.out (by decide)) (HE.out W q).tab 0 key)
 have HCT:=Lib.hid (fun W A k (h:ValsAt W A sn k S) (q:Below w.heap.size w W)=> own_any (L:=cutA S (plc (getA S 0 key))) rfl (jo_cut W A sn k S h (by omega) (short_more HH3.out (by decide)) (HE.out W q).tab (plc (getA S 0 key))))
 have hcl:=cutA_len S (plc (getA S 0 key))
 have hcl2:(cutA S (plc (getA S 0 key))).length≤80:=by have:=HSN.out;omega
 generalize plc (getA S 0 key)=zc at*
 generalize cutA S zc=M at*
 obtain ⟨mn,hmn⟩:∃mn,mn=M.length:=⟨_,rfl⟩
 rw [←hmn]at HCT hcl2
 clear hcl hmn HP HFC HCI HH3 HSN
 replace HB:=Lib.hid (show Below w.heap.size w w8.drew from below_drewN HB.out 1)
 replace HVX:=Lib.hid (show ValsAt w8.drew X3 sn d3 S from HVX.out.below (below_drewN (Below.refl _ _) 1))
 replace HVS:=Lib.hid (show ValsAt w8.drew A5 sn k5 S from HVS.out.below (below_drewN (Below.refl _ _) 1))
 replace R10:=Lib.hid (show Row w8.drew b10 28 [.slice X1 0 d1, .slice X2 0 d2, .slice X3 sn d3]from R10.out)
 refine wp_region_noPanic ?_
 refine wp_region_held_drew (S:=fun x=> x.cell? ⟨b10,2,none⟩=some (.slice X3 sn d3)∧Below w.heap.size w x) (by kernel_rfl) ⟨R10.out.cell (i:=2) rfl,HB.out⟩ (fun hHeld=> ?_)
 refine wpAnyH_take (i:=0) (v:= .bool true) rfl (by kernel_rfl) (by kernel_rfl) (by kernel_rfl) (fun _ _ _ h=> h) (Or.inl ⟨by rfl,fun _ _=> rfl⟩) hHeld ?_
 simp only [List.getElem_toArray,List.getElem_cons_zero,Act.put,List.setIfInBounds_toArray,List.set_cons_zero,List.set_cons_succ]
 refine wpAnyH_take (i:=1) (v:= .bool true) rfl (by kernel_rfl) (by kernel_rfl) (by kernel_rfl) (fun _ _ _ h=> h) (Or.inl ⟨by rfl,fun _ _=> rfl⟩) hHeld ?_
 simp only [List.getElem_toArray,List.getElem_cons_succ,List.getElem_cons_zero,Act.put,List.setIfInBounds_toArray,List.set_cons_zero,List.set_cons_succ]
 refine wpAnyH_take (i:=2) (v:= .bool true) rfl (by kernel_rfl) (by kernel_rfl) (by kernel_rfl) (fun _ _ _ h=> h) (Or.inl ⟨by rfl,fun _ _=> rfl⟩) hHeld ?_
 simp only [List.getElem_toArray,List.getElem_cons_succ,List.getElem_cons_zero,Act.put,List.setIfInBounds_toArray,List.set_cons_zero,List.set_cons_succ]
 refine wpAnyH_take (i:=3) (v:= .bool false) rfl (by kernel_rfl) (by kernel_rfl) (by kernel_rfl) (fun _ _ _ h=> h) (Or.inl ⟨by rfl,fun _ _=> rfl⟩) hHeld ?_
 simp only [List.getElem_toArray,List.getElem_cons_succ,List.getElem_cons_zero,Act.put,List.setIfInBounds_toArray,List.set_cons_zero,List.set_cons_succ]
 refine wpAnyH_take (i:=4) (v:= .bool false) rfl (by kernel_rfl) (by kernel_rfl) (by kernel_rfl) (fun _ _ _ h=> h) (Or.inl ⟨by rfl,fun _ _=> rfl⟩) hHeld ?_
 simp only [List.getElem_toArray,List.getElem_cons_succ,List.getElem_cons_zero,Act.put,List.setIfInBounds_toArray,List.set_cons_zero,List.set_cons_succ]
 refine wpAnyH_take (i:=5) (v:= .int .i64 0) rfl (by kernel_rfl) (by kernel_rfl) (by kernel_rfl) (fun _ _ _ h=> h) (Or.inl ⟨by rfl,fun _ _=> rfl⟩) hHeld ?_
 simp only [List.getElem_toArray,List.getElem_cons_succ,List.getElem_cons_zero,Act.put,List.setIfInBounds_toArray,List.set_cons_zero,List.set_cons_succ]
 refine wpAnyH_take (i:=6) (v:= .bool true) rfl (by kernel_rfl) (by kernel_rfl) (by kernel_rfl) (fun _ _ _ h=> h) (Or.inl ⟨by rfl, ?_⟩) hHeld ?_
 ·intro x hx;go_simp
 simp only [List.getElem_toArray,List.getElem_cons_succ,List.getElem_cons_zero,Act.put,List.setIfInBounds_toArray,List.set_cons_zero,List.set_cons_succ]
 refine wpAnyH_take (i:=7) (v:= .bool true) rfl (by kernel_rfl) (by kernel_rfl) (by kernel_rfl) (fun _ _ _ h=> h) (Or.inl ⟨by rfl,fun _ _=> rfl⟩) hHeld ?_
 simp only [List.getElem_toArray,List.getElem_cons_succ,List.getElem_cons_zero,Act.put,List.setIfInBounds_toArray,List.set_cons_zero,List.set_cons_succ]
 refine wpAnyH_take (i:=8) (v:= .pointer (some ⟨b10,2,none⟩)) rfl (by kernel_rfl) (by kernel_rfl) (by kernel_rfl) (fun _ _ _ h=> h) (Or.inl ⟨by rfl,fun _ _=> rfl⟩) hHeld ?_
 simp only [List.getElem_toArray,List.getElem_cons_succ,List.getElem_cons_zero,Act.put,List.setIfInBounds_toArray,List.set_cons_zero,List.set_cons_succ]
 refine wpAnyH_take (i:=10) (v:= .pointer (some ⟨b10,2,none⟩)) rfl (by kernel_rfl) (by kernel_rfl) (by kernel_rfl) (fun _ _ _ h=> h) (Or.inl ⟨by rfl,fun _ _=> rfl⟩) hHeld ?_
 simp only [List.getElem_toArray,List.getElem_cons_succ,List.getElem_cons_zero,Act.put,List.setIfInBounds_toArray,List.set_cons_zero,List.set_cons_succ]
 refine wpAnyH_take (i:=9) (v:= .slice X3 sn d3) rfl (by kernel_rfl) (by kernel_rfl) (by kernel_rfl) (fun _ _ _ h=> h) (Or.inl ⟨by rfl, ?_⟩) hHeld ?_
 ·intro x hx;obtain ⟨hx1,_⟩:=hx;go_simp
 simp only [List.getElem_toArray,List.getElem_cons_succ,List.getElem_cons_zero,Act.put,List.setIfInBounds_toArray,List.set_cons_zero,List.set_cons_succ]
 refine wpAnyH_take (i:=11) (v:= .slice X3 sn d3) rfl (by kernel_rfl) (by kernel_rfl) (by kernel_rfl) (fun _ _ _ h=> h) (Or.inl ⟨by rfl, ?_⟩) hHeld ?_
 ·intro x hx;obtain ⟨hx1,_⟩:=hx;go_simp
 simp only [List.getElem_toArray,List.getElem_cons_succ,List.getElem_cons_zero,Act.put,List.setIfInBounds_toArray,List.set_cons_zero,List.set_cons_succ]
 refine wpAnyH_take (i:=12) (v:= .string KS) rfl (by kernel_rfl) (by kernel_rfl) (by kernel_rfl) (fun _ _ _ h=> h) (Or.inl ⟨by rfl,fun _ _=> rfl⟩) hHeld ?_
 simp only [List.getElem_toArray,List.getElem_cons_succ,List.getElem_cons_zero,Act.put,List.setIfInBounds_toArray,List.set_cons_zero,List.set_cons_succ]
 refine wpAnyH_take (i:=15) (v:= .slice A5 sn k5) rfl (by kernel_rfl) (by kernel_rfl) (by kernel_rfl) (fun _ _ _ h=> h) (Or.inl ⟨by rfl,fun _ _=> rfl⟩) hHeld ?_
 simp only [List.getElem_toArray,List.getElem_cons_succ,List.getElem_cons_zero,Act.put,List.setIfInBounds_toArray,List.set_cons_zero,List.set_cons_succ]
 refine wpAnyH_take (i:=16) (v:= .slice A5 sn k5) rfl (by kernel_rfl) (by kernel_rfl) (by kernel_rfl) (fun _ _ _ h=> h) (Or.inl ⟨by rfl,fun _ _=> rfl⟩) hHeld ?_
 simp only [List.getElem_toArray,List.getElem_cons_succ,List.getElem_cons_zero,Act.put,List.setIfInBounds_toArray,List.set_cons_zero,List.set_cons_succ]
 refine wpAnyH_take (i:=17) (v:= .string KS) rfl (by kernel_rfl) (by kernel_rfl) (by kernel_rfl) (fun _ _ _ h=> h) (Or.inl ⟨by rfl,fun _ _=> rfl⟩) hHeld ?_
 simp only [List.getElem_toArray,List.getElem_cons_succ,List.getElem_cons_zero,Act.put,List.setIfInBounds_toArray,List.set_cons_zero,List.set_cons_succ]
 refine wpAnyH_ready (rs:=[13]) (by kernel_rfl) (by simp) ?_
 refine AllReadyH.cons rfl (fun K hK=> ?_) AllReadyH.nil
 rw [if_pos (by rfl)]
 refine js_enterP 25 #[.slice X3 sn d3, .int .i64 0, .string KS] (by first | rfl | kernel_rfl) (HG.out _ X3 d3 HVX.out HB.out) ?_
 rintro e wn ⟨rfl,HH⟩
 replace HB:=Lib.hid (HB.out.trans (HH.out.mono HB.out.size))
 replace R10:=Lib.hid (R10.out.below HH.out R10.out.lt)
 replace HVX:=Lib.hid (HVX.out.below HH.out)
 replace HVS:=Lib.hid (HVS.out.below HH.out)
 refine ⟨_,rfl, ?_⟩
 refine hK.out _ _ ⟨R10.out.cell (i:=2) rfl,HB.out⟩ (fun hHeld=> ?_)
 clear hK K HH
 simp only [List.getElem_toArray,List.getElem_cons_succ,List.getElem_cons_zero,Act.put,List.setIfInBounds_toArray,List.set_cons_zero,List.set_cons_succ]
 refine wpAnyH_ready (rs:=[14]) (by kernel_rfl) (by simp) ?_
 refine AllReadyH.cons rfl (fun K hK=> ?_) AllReadyH.nil
 rw [if_pos (by rfl)]
 refine js_enterP 24 #[.slice X3 sn d3, .int .i64 zc] (by first | rfl | kernel_rfl) (HCT.out _ X3 d3 HVX.out HB.out) ?_
 rintro e wn ⟨M1,j1,rfl,HH⟩
 replace HB:=Lib.hid (HB.out.trans (HH.out.2.2.mono HB.out.size))
 replace R10:=Lib.hid (R10.out.below HH.out.2.2 R10.out.lt)
 replace HVX:=Lib.hid (HVX.out.below HH.out.2.2)
 replace HVS:=Lib.hid (HVS.out.below HH.out.2.2)
 have HM1:=Lib.hid HH.out.2.1
 refine ⟨_,rfl, ?_⟩
 refine hK.out _ _ ⟨R10.out.cell (i:=2) rfl,HB.out⟩ (fun hHeld=> ?_)
 clear hK K HH
 simp only [List.getElem_toArray,List.getElem_cons_succ,List.getElem_cons_zero,Act.put,List.setIfInBounds_toArray,List.set_cons_zero,List.set_cons_succ]
 refine wpAnyH_ready (rs:=[18]) (by kernel_rfl) (by simp) ?_
 refine AllReadyH.cons rfl (fun K hK=> ?_) AllReadyH.nil
 rw [if_pos (by rfl)]
 refine js_enterP 25 #[.slice A5 sn k5, .int .i64 0, .string KS] (by first | rfl | kernel_rfl) (HG.out _ A5 k5 HVS.out HB.out) ?_
 rintro e wn ⟨rfl,HH⟩
 replace HB:=Lib.hid (HB.out.trans (HH.out.mono HB.out.size))
 replace R10:=Lib.hid (R10.out.below HH.out R10.out.lt)
 replace HVX:=Lib.hid (HVX.out.below HH.out)
 replace HVS:=Lib.hid (HVS.out.below HH.out)
 replace HM1:=Lib.hid (HM1.out.below HH.out)
 refine ⟨_,rfl, ?_⟩
 refine hK.out _ _ ⟨R10.out.cell (i:=2) rfl,HB.out⟩ (fun hHeld=> ?_)
 clear hK K HH
 simp only [List.getElem_toArray,List.getElem_cons_succ,List.getElem_cons_zero,Act.put,List.setIfInBounds_toArray,List.set_cons_zero,List.set_cons_succ]
 refine wpAnyH_ready (rs:=[19]) (by kernel_rfl) (by simp) ?_
 refine AllReadyH.cons rfl (fun K hK=> ?_) AllReadyH.nil
 rw [if_pos (by rfl)]
 refine js_enterP 24 #[.slice A5 sn k5, .int .i64 zc] (by first | rfl | kernel_rfl) (HCT.out _ A5 k5 HVS.out HB.out) ?_
 rintro e wn ⟨M2,j2,rfl,HH⟩
 replace HB:=Lib.hid (HB.out.trans (HH.out.2.2.mono HB.out.size))
 replace R10:=Lib.hid (R10.out.below HH.out.2.2 R10.out.lt)
 replace HVX:=Lib.hid (HVX.out.below HH.out.2.2)
 replace HVS:=Lib.hid (HVS.out.below HH.out.2.2)
 replace HM1:=Lib.hid (HM1.out.below HH.out.2.2)
 have HM2:=Lib.hid HH.out.2.1
 refine ⟨_,rfl, ?_⟩
 refine hK.out _ _ ⟨R10.out.cell (i:=2) rfl,HB.out⟩ (fun hHeld=> ?_)
 clear hK K HH
 simp only [List.getElem_toArray,List.getElem_cons_succ,List.getElem_cons_zero,Act.put,List.setIfInBounds_toArray,List.set_cons_zero,List.set_cons_succ]
 refine wpAnyH_ready (rs:=[20]) (by kernel_rfl) (by simp) ?_
 refine AllReadyH.cons rfl (fun K hK=> ?_) AllReadyH.nil
 rw [if_pos (by rfl)]
 refine js_enterP 23 #[.slice M1 mn j1, .slice M2 mn j2] (by first | rfl | kernel_rfl) (same_one14 HM1.out HM2.out (by omega)) ?_
 rintro e wn ⟨rfl,HH⟩
 replace HB:=Lib.hid (HB.out.trans (HH.out.mono HB.out.size))
 replace R10:=Lib.hid (R10.out.below HH.out R10.out.lt)
 replace HVX:=Lib.hid (HVX.out.below HH.out)
 replace HVS:=Lib.hid (HVS.out.below HH.out)
 replace HM1:=Lib.hid (HM1.out.below HH.out)
 replace HM2:=Lib.hid (HM2.out.below HH.out)
 refine ⟨_,rfl, ?_⟩
 refine hK.out _ _ ⟨R10.out.cell (i:=2) rfl,HB.out⟩ (fun hHeld=> ?_)
 clear hK K HH
 simp only [List.getElem_toArray,List.getElem_cons_succ,List.getElem_cons_zero,Act.put,List.setIfInBounds_toArray,List.set_cons_zero,List.set_cons_succ]
 refine wpAnyH_take (i:=21) (v:= .bool true) rfl (by kernel_rfl) (by kernel_rfl) (by kernel_rfl) (fun _ _ _ h=> h) (Or.inl ⟨by rfl,fun _ _=> rfl⟩) hHeld ?_
 simp only [List.getElem_toArray,List.getElem_cons_succ,List.getElem_cons_zero,Act.put,List.setIfInBounds_toArray,List.set_cons_zero,List.set_cons_succ]
 refine wpAnyH_take (i:=22) (v:= .bool true) rfl (by kernel_rfl) (by kernel_rfl) (by kernel_rfl) (fun _ _ _ h=> h) (Or.inl ⟨by rfl,fun _ _=> rfl⟩) hHeld ?_
 simp only [List.getElem_toArray,List.getElem_cons_succ,List.getElem_cons_zero,Act.put,List.setIfInBounds_toArray,List.set_cons_zero,List.set_cons_succ]
 refine wpAnyH_take (i:=23) (v:= .pointer (some ⟨b10,2,none⟩)) rfl (by kernel_rfl) (by kernel_rfl) (by kernel_rfl) (fun _ _ _ h=> h) (Or.inl ⟨by rfl,fun _ _=> rfl⟩) hHeld ?_
 simp only [List.getElem_toArray,List.getElem_cons_succ,List.getElem_cons_zero,Act.put,List.setIfInBounds_toArray,List.set_cons_zero,List.set_cons_succ]
 refine wpAnyH_take (i:=24) (v:= .slice X3 sn d3) rfl (by kernel_rfl) (by kernel_rfl) (by kernel_rfl) (fun _ _ _ h=> h) (Or.inl ⟨by rfl, ?_⟩) hHeld ?_
 ·intro x hx;obtain ⟨hx1,_⟩:=hx;go_simp
 simp only [List.getElem_toArray,List.getElem_cons_succ,List.getElem_cons_zero,Act.put,List.setIfInBounds_toArray,List.set_cons_zero,List.set_cons_succ]
 refine wpAnyH_take (i:=25) (v:= .slice A5 sn k5) rfl (by kernel_rfl) (by kernel_rfl) (by kernel_rfl) (fun _ _ _ h=> h) (Or.inl ⟨by rfl,fun _ _=> rfl⟩) hHeld ?_
 simp only [List.getElem_toArray,List.getElem_cons_succ,List.getElem_cons_zero,Act.put,List.setIfInBounds_toArray,List.set_cons_zero,List.set_cons_succ]
 refine wpAnyH_ready (rs:=[26]) (by kernel_rfl) (by simp) ?_
 refine AllReadyH.cons rfl (fun K hK=> ?_) AllReadyH.nil
 rw [if_pos (by rfl)]
 refine js_enterP 23 #[.slice X3 sn d3, .slice A5 sn k5] (by first | rfl | kernel_rfl) (same_one14 HVX.out HVS.out (by omega)) ?_
 rintro e wn ⟨rfl,HH⟩
 replace HB:=Lib.hid (HB.out.trans (HH.out.mono HB.out.size))
 replace R10:=Lib.hid (R10.out.below HH.out R10.out.lt)
 replace HVX:=Lib.hid (HVX.out.below HH.out)
 replace HVS:=Lib.hid (HVS.out.below HH.out)
 replace HM1:=Lib.hid (HM1.out.below HH.out)
 replace HM2:=Lib.hid (HM2.out.below HH.out)
 refine ⟨_,rfl, ?_⟩
 refine hK.out _ _ ⟨R10.out.cell (i:=2) rfl,HB.out⟩ (fun hHeld=> ?_)
 clear hK K HH
 simp only [List.getElem_toArray,List.getElem_cons_succ,List.getElem_cons_zero,Act.put,List.setIfInBounds_toArray,List.set_cons_zero,List.set_cons_succ]
 refine wpAnyH_take (i:=27) (v:= .bool true) rfl (by kernel_rfl) (by kernel_rfl) (by kernel_rfl) (fun _ _ _ h=> h) (Or.inl ⟨by rfl,fun _ _=> rfl⟩) hHeld ?_
 simp only [List.getElem_toArray,List.getElem_cons_succ,List.getElem_cons_zero,Act.put,List.setIfInBounds_toArray,List.set_cons_zero,List.set_cons_succ]
 refine wpAnyH_take (i:=28) (v:= .bool true) rfl (by kernel_rfl) (by kernel_rfl) (by kernel_rfl) (fun _ _ _ h=> h) (Or.inl ⟨by rfl,fun _ _=> rfl⟩) hHeld ?_
 simp only [List.getElem_toArray,List.getElem_cons_succ,List.getElem_cons_zero,Act.put,List.setIfInBounds_toArray,List.set_cons_zero,List.set_cons_succ]
 refine wpAnyH_take (i:=29) (v:= .bool true) rfl (by kernel_rfl) (by kernel_rfl) (by kernel_rfl) (fun _ _ _ h=> h) (Or.inl ⟨by rfl,fun _ _=> rfl⟩) hHeld ?_
 simp only [List.getElem_toArray,List.getElem_cons_succ,List.getElem_cons_zero,Act.put,List.setIfInBounds_toArray,List.set_cons_zero,List.set_cons_succ]
 refine wpAnyH_take (i:=30) (v:= .bool true) rfl (by kernel_rfl) (by kernel_rfl) (by kernel_rfl) (fun _ _ _ h=> h) (Or.inl ⟨by rfl,fun _ _=> rfl⟩) hHeld ?_
 simp only [List.getElem_toArray,List.getElem_cons_succ,List.getElem_cons_zero,Act.put,List.setIfInBounds_toArray,List.set_cons_zero,List.set_cons_succ]
 refine wpAnyH_done (by kernel_rfl) ?_ _
 refine NoPanic.normal ?_
 go_wp2_with fail
 go_ret
 exact ⟨rfl,HB⟩
end Go.Proofs.YtgmangikcfakgaaGreatDoor
