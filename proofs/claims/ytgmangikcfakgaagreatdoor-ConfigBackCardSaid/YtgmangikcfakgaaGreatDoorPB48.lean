import Derived.Test.YtgmangikcfakgaaGreatDoorPB46
import Derived.Test.YtgmangikcfakgaaGreatDoorPB47
import Derived.Test.YtgmangikcfakgaaGreatDoorPB33
namespace Go.Proofs.YtgmangikcfakgaaGreatDoor
open Go.RowKit Sh Jt Js Jo
set_option maxRecDepth 100000
set_option maxHeartbeats 40000000 in
theorem configBack_all (w:World) (c:Cfg) (P:List Pe) (A1:Option Addr) (n1 c1:Nat) (A2:Option Addr) (n2 c2:Nat) (A3:Option Addr) (n3 c3:Nat) (hC:ConfIn w c P A1 n1 c1 A2 n2 c2 A3 n3 c3) (hn1:n1≤140737488355328) (hn2:n2≤140737488355328) (hn3:n3≤140737488351232) (hH:HoldsC c) (A4:Option Addr) (n4 c4:Nat) (bs:List UInt8) (hB:BytesAt w A4 n4 c4 bs) (hE:CEnv w):
  Calls Tryz.prog 5 #[.agg #[.slice A1 n1 c1, .slice A2 n2 c2, .slice A3 n3 c3], .slice A4 n4 c4] w fun e w'=> e= .returned (.bool true)∧Hid (Below w.heap.size w w'):=by
 have HE:=Lib.hid (fun W (q:Below w.heap.size w W)=> hE.below q)
 have hlenb:=hB.len
 have hl3:=hC.rest.len
 have HHO:=Lib.hid hH
 have HDG:=Lib.hid hC.ids.dig
 have HB:=Lib.hid (below_alloc' w (.cells #[.slice A1 n1 c1, .slice A2 n2 c2, .slice A3 n3 c3] 28))
 have HIN:=Lib.hid (hC.below HB.out)
 have HBY:=Lib.hid (hB.below HB.out)
 have HQ:=Lib.hid (show Row (w.alloc (.cells #[.slice A1 n1 c1, .slice A2 n2 c2, .slice A3 n3 c3] 28)) w.heap.size 28 [.slice A1 n1 c1, .slice A2 n2 c2, .slice A3 n3 c3]from Row.new _ _ _)
 clear hC hH hE hB
 go_enter Tryz.func5,Tryz.ntmps5
 go_upto_region 1 with fail
 generalize hW0:w.alloc (Obj.cells #[.slice A1 n1 c1, .slice A2 n2 c2, .slice A3 n3 c3] 28)=w0 at HB HIN HBY HQ
 generalize hW:World.alloc _ _=W'
 obtain rfl:w0=W':=hW0.symm.trans hW
 clear hW hW0
 obtain ⟨b2,hb2⟩:∃b2,b2=w.heap.size:=⟨_,rfl⟩
 rw [←hb2]at HQ ⊢
 have HBB:=Lib.hid hb2
 clear hb2
 go_wp2_with fail
 refine (cf_small _ (HE.out _ HB.out)).mono ?_
 rintro e w1 ⟨rfl,K1⟩
 replace HIN:=Lib.hid (HIN.out.below K1.out)
 replace HBY:=Lib.hid (HBY.out.below K1.out)
 replace HQ:=Lib.hid (HQ.out.below K1.out HQ.out.lt)
 replace HB:=Lib.hid (HB.out.trans ((K1.out).mono HB.out.size))
 clear K1
 have HFW:=Lib.hid (cf_few w1 c P A1 n1 c1 A2 n2 c2 A3 n3 c3 HIN.out hn1 hn2 hn3 HHO.out)
 go_wp2_with ((with_reducible refine load_all ?_ 28 (.tmp 2) ?_ b2 0 [.slice A1 n1 c1, .slice A2 n2 c2, .slice A3 n3 c3] #[.slice A1 n1 c1, .slice A2 n2 c2, .slice A3 n3 c3] ?_ _ ?_ Tryz.underlying28 ?_ ?_ ?_ ?_);rfl;rfl;go_must (rfl;exact rangeAt_row HQ.out;rfl;exact cf_sizeC;rfl))
 refine HFW.out.mono ?_
 rintro e w2 ⟨rfl,K2⟩
 replace HIN:=Lib.hid (HIN.out.below K2.out)
 replace HBY:=Lib.hid (HBY.out.below K2.out)
 replace HQ:=Lib.hid (HQ.out.below K2.out HQ.out.lt)
 replace HB:=Lib.hid (HB.out.trans ((K2.out).mono HB.out.size))
 clear K2 HFW HHO
 cases hfw:fewC c with
 | false=>
  go_wp2_with fail
  go_ret
  exact ⟨rfl,HB⟩
 | true=>
  obtain ⟨f1,f2,f3,f4⟩:=few_walk hfw
  have HF1:=Lib.hid f1
  have HF3:=Lib.hid f3
  have HF4:=Lib.hid f4
  have HFP:=Lib.hid (fun (h:rowC c≠[])=> few_printsC hfw h HDG.out)
  clear f1 f3 f4 hfw
  have hn35:n3≤5000:=by omega
  by_cases h3:2500 < n4
  ·have hg:(2500:Int) < (n4:Int):=by omega
   go_wp2_with fail
   go_ret
   exact ⟨rfl,HB⟩
  have hg:¬(2500:Int) < (n4:Int):=by omega
  have hgd:decide ((2500:Int) < (n4:Int))=false:=decide_eq_false hg
  have HPD:=Lib.hid (fun y (h:parseC bs= .ok y)=> And.intro (parsed_C (by omega) h) (parsed_walk (by omega) h))
  by_cases hr:rowC c=[]
  case pos=>
   have HRM:=Lib.hid (rightC_no hr)
   have HPN:=Lib.hid (cf_printN w2 c P A1 n1 c1 A2 n2 c2 A3 n3 c3 HIN.out HF1.out hn2 hn35 HF3.out HF4.out (HE.out _ HB.out).tab hr)
   clear hr HFP
   go_wp2_with ((with_reducible refine load_all ?_ 28 (.tmp 2) ?_ b2 0 [.slice A1 n1 c1, .slice A2 n2 c2, .slice A3 n3 c3] #[.slice A1 n1 c1, .slice A2 n2 c2, .slice A3 n3 c3] ?_ _ ?_ Tryz.underlying28 ?_ ?_ ?_ ?_);rfl;rfl;go_must (rfl;exact rangeAt_row HQ.out;rfl;exact cf_sizeC;rfl))
   refine HPN.out.mono ?_
   rintro e w3 ⟨A9,k9,rfl,K3⟩
   replace HIN:=Lib.hid (HIN.out.below K3.out.2)
   replace HBY:=Lib.hid (HBY.out.below K3.out.2)
   replace HQ:=Lib.hid (HQ.out.below K3.out.2 HQ.out.lt)
   replace HB:=Lib.hid (HB.out.trans ((K3.out.2).mono HB.out.size))
   clear K3 HPN
   have HPB:=Lib.hid (cf_parse _ A4 n4 c4 bs HBY.out (by omega) (HE.out _ HB.out))
   go_wp2_with fail
   refine HPB.out.mono ?_
   intro e wp hp
   clear HPB
   generalize parseC bs=Y at*
   cases Y with
   | err k=>
    obtain ⟨rfl,hk,KP⟩:=hp
    have hkn:((k:Int) !=0)=true:=by rw [bne_iff_ne];omega
    replace HIN:=Lib.hid (HIN.out.below KP.out)
    replace HBY:=Lib.hid (HBY.out.below KP.out)
    replace HQ:=Lib.hid (HQ.out.below KP.out HQ.out.lt)
    replace HB:=Lib.hid (HB.out.trans ((KP.out).mono HB.out.size))
    clear KP HPD hk
    go_upto_region 11 with ((with_reducible refine store_all ?_ 28 (.tmp 11) (.tmp 50) ?_ wp.heap.size cz ?_ ?_ cz ?_ ?_ ?_ ?_ ?_);rfl;rfl;go_must (rfl;rfl;rfl;exact Row.at_ _ _ _ rfl rfl;exact cf_sizeC;exact conf_one _ _ _ _ _ _ _ _ _;intro wq Rwq Kwq Ewq))
    have KX:=Lib.hid (show Below wp.heap.size wp wq from (kept_stored Kwq.out).below (Nat.le_refl _) (fun _ _ h=> h))
    replace HIN:=Lib.hid (HIN.out.below KX.out)
    replace HBY:=Lib.hid (HBY.out.below KX.out)
    replace HQ:=Lib.hid (HQ.out.below KX.out HQ.out.lt)
    replace HB:=Lib.hid (HB.out.trans ((KX.out).mono HB.out.size))
    have R11:=Rwq
    clear KX Kwq Ewq Rwq
    generalize wp.heap.size=b11 at*
    have z0:wq.cell? ⟨b11,0,none⟩=some (.slice none 0 0):=R11.out.cell (i:=0) rfl
    have z2:wq.cell? ⟨b11,2,none⟩=some (.slice none 0 0):=R11.out.cell (i:=2) rfl
    have HRI:=Lib.hid (cf_right wq c P A1 n1 c1 A2 n2 c2 A3 n3 c3 HIN.out HF1.out hn2 hn35 HF3.out HF4.out (HE.out _ HB.out).tab)
    rw [HRM.out]at HRI
    go_wp2_with ((with_reducible refine load_all ?_ 28 (.tmp 2) ?_ b2 0 [.slice A1 n1 c1, .slice A2 n2 c2, .slice A3 n3 c3] #[.slice A1 n1 c1, .slice A2 n2 c2, .slice A3 n3 c3] ?_ _ ?_ Tryz.underlying28 ?_ ?_ ?_ ?_);rfl;rfl;go_must (rfl;exact rangeAt_row HQ.out;rfl;exact cf_sizeC;rfl))
    refine HRI.out.mono ?_
    rintro e wr ⟨rfl,KR⟩
    replace HB:=Lib.hid (HB.out.trans (KR.out.mono HB.out.size))
    go_wp2_with fail
    go_ret
    exact ⟨rfl,HB⟩
   | ok y=>
    obtain ⟨hyp,hyw⟩:=HPD.out y rfl
    obtain ⟨-,p2,p3, -, -⟩:=ok_parts hyp.ok
    clear HPD
    obtain ⟨Q,Y1,d1,Y2,d2,Y3,d3,rfl,KQ⟩:=hp
    have hqy:Q.length=y.hist.length:=by
     have:=congrArg List.length KQ.out.1.same
     unfold histsOf at this
     rwa [List.length_map]at this
    have hql:Q.length≤200:=by omega
    have HQY:=Lib.hid hqy
    have HYP:=Lib.hid hyp
    have HYW:=Lib.hid hyw
    have hyr:=hyw.1
    have HIY:=Lib.hid KQ.out.1
    have KP:=Lib.hid KQ.out.2
    clear KQ hyp hyw hqy
    replace HIN:=Lib.hid (HIN.out.below KP.out)
    replace HBY:=Lib.hid (HBY.out.below KP.out)
    replace HQ:=Lib.hid (HQ.out.below KP.out HQ.out.lt)
    replace HB:=Lib.hid (HB.out.trans ((KP.out).mono HB.out.size))
    clear KP
    go_upto_region 11 with ((with_reducible refine store_all ?_ 28 (.tmp 11) (.tmp 50) ?_ wp.heap.size [.slice Y1 y.ids.length d1, .slice Y2 Q.length d2, .slice Y3 y.rest.length d3] ?_ ?_ cz ?_ ?_ ?_ ?_ ?_);rfl;rfl;go_must (rfl;rfl;rfl;exact Row.at_ _ _ _ rfl rfl;exact cf_sizeC;exact conf_one _ _ _ _ _ _ _ _ _;intro wq Rwq Kwq Ewq))
    have KX:=Lib.hid (show Below wp.heap.size wp wq from (kept_stored Kwq.out).below (Nat.le_refl _) (fun _ _ h=> h))
    replace HIN:=Lib.hid (HIN.out.below KX.out)
    replace HBY:=Lib.hid (HBY.out.below KX.out)
    replace HQ:=Lib.hid (HQ.out.below KX.out HQ.out.lt)
    replace HIY:=Lib.hid (HIY.out.below KX.out)
    replace HB:=Lib.hid (HB.out.trans ((KX.out).mono HB.out.size))
    have R11:=Rwq
    clear KX Kwq Ewq Rwq
    generalize wp.heap.size=b11 at*
    obtain ⟨t2,hpr⟩:=HYP.out.prints
    have HPY:=Lib.hid hpr
    clear hpr
    have HPT:=Lib.hid (cf_printY wq y Q Y1 y.ids.length d1 Y2 Q.length d2 Y3 y.rest.length d3 HIY.out HYP.out.fit (by omega) hyr HYW.out.2.1 HYW.out.2.2 (HE.out _ HB.out).tab (HE.out _ HB.out).js HPY.out.row)
    go_wp2_with ((with_reducible refine load_all ?_ 28 (.tmp 11) ?_ b11 0 [.slice Y1 y.ids.length d1, .slice Y2 Q.length d2, .slice Y3 y.rest.length d3] #[.slice Y1 y.ids.length d1, .slice Y2 Q.length d2, .slice Y3 y.rest.length d3] ?_ _ ?_ Tryz.underlying28 ?_ ?_ ?_ ?_);rfl;rfl;go_must (rfl;exact rangeAt_row R11.out;rfl;exact cf_sizeC;rfl))
    refine HPT.out.mono ?_
    rintro e ws ⟨A6,c6,rfl,KS⟩
    replace HIN:=Lib.hid (HIN.out.below KS.out.2)
    replace HBY:=Lib.hid (HBY.out.below KS.out.2)
    replace HQ:=Lib.hid (HQ.out.below KS.out.2 HQ.out.lt)
    replace HIY:=Lib.hid (HIY.out.below KS.out.2)
    replace R11:=Lib.hid (R11.out.below KS.out.2 R11.out.lt)
    replace HB:=Lib.hid (HB.out.trans ((KS.out.2).mono HB.out.size))
    have HBS:=Lib.hid KS.out.1
    clear KS HPT
    have HPZ:=Lib.hid (cf_parseS ws A6 t2.length c6 t2 HBS.out HPY.out.len HPY.out.short (HE.out _ HB.out))
    rw [HPY.out.back]at HPZ
    go_wp2_with fail
    refine HPZ.out.mono ?_
    rintro e wt ⟨Q2,Z1,e1,Z2,e2,Z3,e3,rfl,KQ⟩
    have hq2:Q2.length=Q.length:=by
     have:=congrArg List.length KQ.out.1.same
     unfold histsOf at this
     rw [List.length_map]at this
     exact this.trans HQY.out.symm
    have HIZ:=Lib.hid KQ.out.1
    have KT:=Lib.hid KQ.out.2
    rw [hq2]at HIZ ⊢
    clear KQ hq2 HPZ
    replace HIN:=Lib.hid (HIN.out.below KT.out)
    replace HBY:=Lib.hid (HBY.out.below KT.out)
    replace HQ:=Lib.hid (HQ.out.below KT.out HQ.out.lt)
    replace HIY:=Lib.hid (HIY.out.below KT.out)
    replace R11:=Lib.hid (R11.out.below KT.out R11.out.lt)
    replace HBS:=Lib.hid (HBS.out.below KT.out)
    replace HB:=Lib.hid (HB.out.trans ((KT.out).mono HB.out.size))
    clear KT
    go_upto_region 15 with ((with_reducible refine store_all ?_ 28 (.tmp 15) (.tmp 81) ?_ wt.heap.size [.slice Z1 y.ids.length e1, .slice Z2 Q.length e2, .slice Z3 y.rest.length e3] ?_ ?_ cz ?_ ?_ ?_ ?_ ?_);rfl;rfl;go_must (rfl;rfl;rfl;exact Row.at_ _ _ _ rfl rfl;exact cf_sizeC;exact conf_one _ _ _ _ _ _ _ _ _;intro wu Rwu Kwu Ewu))
    have KX:=Lib.hid (show Below wt.heap.size wt wu from (kept_stored Kwu.out).below (Nat.le_refl _) (fun _ _ h=> h))
    replace HIN:=Lib.hid (HIN.out.below KX.out)
    replace HBY:=Lib.hid (HBY.out.below KX.out)
    replace HQ:=Lib.hid (HQ.out.below KX.out HQ.out.lt)
    replace HIY:=Lib.hid (HIY.out.below KX.out)
    replace R11:=Lib.hid (R11.out.below KX.out R11.out.lt)
    replace HBS:=Lib.hid (HBS.out.below KX.out)
    replace HIZ:=Lib.hid (HIZ.out.below KX.out)
    replace HB:=Lib.hid (HB.out.trans ((KX.out).mono HB.out.size))
    have R15:=Rwu
    clear KX Kwu Ewu Rwu
    generalize wt.heap.size=b15 at*
    have HRI:=Lib.hid (cf_right wu y Q Y1 y.ids.length d1 Y2 Q.length d2 Y3 y.rest.length d3 HIY.out HYP.out.fit (by omega) hyr HYW.out.2.1 HYW.out.2.2 (HE.out _ HB.out).tab)
    rw [rightC_yes HYP.out.row]at HRI
    go_wp2_with ((with_reducible refine load_all ?_ 28 (.tmp 11) ?_ b11 0 [.slice Y1 y.ids.length d1, .slice Y2 Q.length d2, .slice Y3 y.rest.length d3] #[.slice Y1 y.ids.length d1, .slice Y2 Q.length d2, .slice Y3 y.rest.length d3] ?_ _ ?_ Tryz.underlying28 ?_ ?_ ?_ ?_);rfl;rfl;go_must (rfl;exact rangeAt_row R11.out;rfl;exact cf_sizeC;rfl))
    refine HRI.out.mono ?_
    rintro e wv ⟨rfl,KV⟩
    replace HIN:=Lib.hid (HIN.out.below KV.out)
    replace HBY:=Lib.hid (HBY.out.below KV.out)
    replace HQ:=Lib.hid (HQ.out.below KV.out HQ.out.lt)
    replace HIY:=Lib.hid (HIY.out.below KV.out)
    replace R11:=Lib.hid (R11.out.below KV.out R11.out.lt)
    replace HBS:=Lib.hid (HBS.out.below KV.out)
    replace HIZ:=Lib.hid (HIZ.out.below KV.out)
    replace R15:=Lib.hid (R15.out.below KV.out R15.out.lt)
    replace HB:=Lib.hid (HB.out.trans ((KV.out).mono HB.out.size))
    clear KV HRI
    have HSA:=Lib.hid (cf_same wv y Q Q2 Y1 y.ids.length d1 Y2 Q.length d2 Y3 y.rest.length d3 Z1 e1 Z2 e2 Z3 e3 HIY.out HIZ.out (by omega) (by omega) (by omega) (fun h hm=> Nat.le_trans (HYW.out.2.1 h hm).2 (by decide)))
    go_wp2_with (first
     | ((with_reducible refine load_all ?_ 28 (.tmp 11) ?_ b11 0 [.slice Y1 y.ids.length d1, .slice Y2 Q.length d2, .slice Y3 y.rest.length d3] #[.slice Y1 y.ids.length d1, .slice Y2 Q.length d2, .slice Y3 y.rest.length d3] ?_ _ ?_ Tryz.underlying28 ?_ ?_ ?_ ?_);rfl;rfl;go_must (rfl;exact rangeAt_row R11.out;rfl;exact cf_sizeC;rfl))
     | ((with_reducible refine load_all ?_ 28 (.tmp 15) ?_ b15 0 [.slice Z1 y.ids.length e1, .slice Z2 Q.length e2, .slice Z3 y.rest.length e3] #[.slice Z1 y.ids.length e1, .slice Z2 Q.length e2, .slice Z3 y.rest.length e3] ?_ _ ?_ Tryz.underlying28 ?_ ?_ ?_ ?_);rfl;rfl;go_must (rfl;exact rangeAt_row R15.out;rfl;exact cf_sizeC;rfl)))
    refine HSA.out.mono ?_
    rintro e wx ⟨rfl,KX⟩
    replace HB:=Lib.hid (HB.out.trans (KX.out.mono HB.out.size))
    go_wp2_with fail
    go_ret
    exact ⟨rfl,HB⟩
  have HRM:=Lib.hid (rightC_yes hr)
  obtain ⟨t,hpr⟩:=HFP.out hr
  have HPM:=Lib.hid hpr
  have HPN:=Lib.hid (cf_printY w2 c P A1 n1 c1 A2 n2 c2 A3 n3 c3 HIN.out HF1.out hn2 hn35 HF3.out HF4.out (HE.out _ HB.out).tab (HE.out _ HB.out).js hpr.row)
  clear hr HFP hpr
  go_wp2_with ((with_reducible refine load_all ?_ 28 (.tmp 2) ?_ b2 0 [.slice A1 n1 c1, .slice A2 n2 c2, .slice A3 n3 c3] #[.slice A1 n1 c1, .slice A2 n2 c2, .slice A3 n3 c3] ?_ _ ?_ Tryz.underlying28 ?_ ?_ ?_ ?_);rfl;rfl;go_must (rfl;exact rangeAt_row HQ.out;rfl;exact cf_sizeC;rfl))
  refine HPN.out.mono ?_
  rintro e w3 ⟨A9,c9,rfl,K3⟩
  replace HIN:=Lib.hid (HIN.out.below K3.out.2)
  replace HBY:=Lib.hid (HBY.out.below K3.out.2)
  replace HQ:=Lib.hid (HQ.out.below K3.out.2 HQ.out.lt)
  replace HB:=Lib.hid (HB.out.trans ((K3.out.2).mono HB.out.size))
  have HBT:=Lib.hid K3.out.1
  clear K3 HPN
  have HPX:=Lib.hid (cf_parseS w3 A9 t.length c9 t HBT.out HPM.out.len HPM.out.short (HE.out _ HB.out))
  rw [HPM.out.back]at HPX
  go_wp2_with fail
  refine HPX.out.mono ?_
  rintro e w4 ⟨QX,X1,x1,X2,x2,X3,x3,rfl,KQ⟩
  have hq2:QX.length=n2∧c.ids.length=n1∧c.rest.length=n3:=by
   have h1:=congrArg List.length KQ.out.1.same
   have h2:=congrArg List.length HIN.out.same
   unfold histsOf at h1 h2
   rw [List.length_map]at h1 h2
   exact ⟨(h1.trans h2.symm).trans HIN.out.hist.len,HIN.out.ids.len,HIN.out.rest.len⟩
  obtain ⟨hq2,hq1,hq3⟩:=hq2
  have HIX:=Lib.hid KQ.out.1
  have K4:=Lib.hid KQ.out.2
  rw [hq2,hq1,hq3]at HIX ⊢
  clear KQ hq2 hq1 hq3 HPX
  replace HIN:=Lib.hid (HIN.out.below K4.out)
  replace HBY:=Lib.hid (HBY.out.below K4.out)
  replace HQ:=Lib.hid (HQ.out.below K4.out HQ.out.lt)
  replace HBT:=Lib.hid (HBT.out.below K4.out)
  replace HB:=Lib.hid (HB.out.trans ((K4.out).mono HB.out.size))
  clear K4
  go_upto_region 8 with ((with_reducible refine store_all ?_ 28 (.tmp 9) (.tmp 37) ?_ w4.heap.size [.slice X1 n1 x1, .slice X2 n2 x2, .slice X3 n3 x3] ?_ ?_ cz ?_ ?_ ?_ ?_ ?_);rfl;rfl;go_must (rfl;rfl;rfl;exact Row.at_ _ _ _ rfl rfl;exact cf_sizeC;exact conf_one _ _ _ _ _ _ _ _ _;intro w5 Rw5 Kw5 Ew5))
  have KX:=Lib.hid (show Below w4.heap.size w4 w5 from (kept_stored Kw5.out).below (Nat.le_refl _) (fun _ _ h=> h))
  replace HIN:=Lib.hid (HIN.out.below KX.out)
  replace HBY:=Lib.hid (HBY.out.below KX.out)
  replace HQ:=Lib.hid (HQ.out.below KX.out HQ.out.lt)
  replace HBT:=Lib.hid (HBT.out.below KX.out)
  replace HIX:=Lib.hid (HIX.out.below KX.out)
  replace HB:=Lib.hid (HB.out.trans ((KX.out).mono HB.out.size))
  have R9:=Rw5
  clear KX Kw5 Ew5 Rw5
  generalize w4.heap.size=b9 at*
  have HSA:=Lib.hid (cf_same w5 c QX P X1 n1 x1 X2 n2 x2 X3 n3 x3 A1 c1 A2 c2 A3 c3 HIX.out HIN.out hn1 hn2 hn3 (fun h hm=> Nat.le_trans (HF3.out h hm).2 (by decide)))
  go_wp2_with (first
   | ((with_reducible refine load_all ?_ 28 (.tmp 9) ?_ b9 0 [.slice X1 n1 x1, .slice X2 n2 x2, .slice X3 n3 x3] #[.slice X1 n1 x1, .slice X2 n2 x2, .slice X3 n3 x3] ?_ _ ?_ Tryz.underlying28 ?_ ?_ ?_ ?_);rfl;rfl;go_must (rfl;exact rangeAt_row R9.out;rfl;exact cf_sizeC;rfl))
   | ((with_reducible refine load_all ?_ 28 (.tmp 2) ?_ b2 0 [.slice A1 n1 c1, .slice A2 n2 c2, .slice A3 n3 c3] #[.slice A1 n1 c1, .slice A2 n2 c2, .slice A3 n3 c3] ?_ _ ?_ Tryz.underlying28 ?_ ?_ ?_ ?_);rfl;rfl;go_must (rfl;exact rangeAt_row HQ.out;rfl;exact cf_sizeC;rfl)))
  refine HSA.out.mono ?_
  rintro e w6 ⟨rfl,K6⟩
  replace HIN:=Lib.hid (HIN.out.below K6.out)
  replace HBY:=Lib.hid (HBY.out.below K6.out)
  replace HQ:=Lib.hid (HQ.out.below K6.out HQ.out.lt)
  replace HBT:=Lib.hid (HBT.out.below K6.out)
  replace HIX:=Lib.hid (HIX.out.below K6.out)
  replace R9:=Lib.hid (R9.out.below K6.out R9.out.lt)
  replace HB:=Lib.hid (HB.out.trans ((K6.out).mono HB.out.size))
  clear K6 HSA
  clear HIX R9 HBT HPM
  have HPB:=Lib.hid (cf_parse _ A4 n4 c4 bs HBY.out (by omega) (HE.out _ HB.out))
  go_wp2_with fail
  refine HPB.out.mono ?_
  intro e wp hp
  clear HPB
  generalize parseC bs=Y at*
  cases Y with
  | err k=>
   obtain ⟨rfl,hk,KP⟩:=hp
   have hkn:((k:Int) !=0)=true:=by rw [bne_iff_ne];omega
   replace HIN:=Lib.hid (HIN.out.below KP.out)
   replace HBY:=Lib.hid (HBY.out.below KP.out)
   replace HQ:=Lib.hid (HQ.out.below KP.out HQ.out.lt)
   replace HB:=Lib.hid (HB.out.trans ((KP.out).mono HB.out.size))
   clear KP HPD hk
   go_upto_region 11 with ((with_reducible refine store_all ?_ 28 (.tmp 11) (.tmp 50) ?_ wp.heap.size cz ?_ ?_ cz ?_ ?_ ?_ ?_ ?_);rfl;rfl;go_must (rfl;rfl;rfl;exact Row.at_ _ _ _ rfl rfl;exact cf_sizeC;exact conf_one _ _ _ _ _ _ _ _ _;intro wq Rwq Kwq Ewq))
   have KX:=Lib.hid (show Below wp.heap.size wp wq from (kept_stored Kwq.out).below (Nat.le_refl _) (fun _ _ h=> h))
   replace HIN:=Lib.hid (HIN.out.below KX.out)
   replace HBY:=Lib.hid (HBY.out.below KX.out)
   replace HQ:=Lib.hid (HQ.out.below KX.out HQ.out.lt)
   replace HB:=Lib.hid (HB.out.trans ((KX.out).mono HB.out.size))
   have R11:=Rwq
   clear KX Kwq Ewq Rwq
   generalize wp.heap.size=b11 at*
   have z0:wq.cell? ⟨b11,0,none⟩=some (.slice none 0 0):=R11.out.cell (i:=0) rfl
   have z2:wq.cell? ⟨b11,2,none⟩=some (.slice none 0 0):=R11.out.cell (i:=2) rfl
   have HRI:=Lib.hid (cf_right wq c P A1 n1 c1 A2 n2 c2 A3 n3 c3 HIN.out HF1.out hn2 hn35 HF3.out HF4.out (HE.out _ HB.out).tab)
   rw [HRM.out]at HRI
   go_wp2_with ((with_reducible refine load_all ?_ 28 (.tmp 2) ?_ b2 0 [.slice A1 n1 c1, .slice A2 n2 c2, .slice A3 n3 c3] #[.slice A1 n1 c1, .slice A2 n2 c2, .slice A3 n3 c3] ?_ _ ?_ Tryz.underlying28 ?_ ?_ ?_ ?_);rfl;rfl;go_must (rfl;exact rangeAt_row HQ.out;rfl;exact cf_sizeC;rfl))
   refine HRI.out.mono ?_
   rintro e wr ⟨rfl,KR⟩
   replace HB:=Lib.hid (HB.out.trans (KR.out.mono HB.out.size))
   go_wp2_with fail
   go_ret
   exact ⟨rfl,HB⟩
  | ok y=>
   obtain ⟨hyp,hyw⟩:=HPD.out y rfl
   obtain ⟨-,p2,p3, -, -⟩:=ok_parts hyp.ok
   clear HPD
   obtain ⟨Q,Y1,d1,Y2,d2,Y3,d3,rfl,KQ⟩:=hp
   have hqy:Q.length=y.hist.length:=by
    have:=congrArg List.length KQ.out.1.same
    unfold histsOf at this
    rwa [List.length_map]at this
   have hql:Q.length≤200:=by omega
   have HQY:=Lib.hid hqy
   have HYP:=Lib.hid hyp
   have HYW:=Lib.hid hyw
   have hyr:=hyw.1
   have HIY:=Lib.hid KQ.out.1
   have KP:=Lib.hid KQ.out.2
   clear KQ hyp hyw hqy
   replace HIN:=Lib.hid (HIN.out.below KP.out)
   replace HBY:=Lib.hid (HBY.out.below KP.out)
   replace HQ:=Lib.hid (HQ.out.below KP.out HQ.out.lt)
   replace HB:=Lib.hid (HB.out.trans ((KP.out).mono HB.out.size))
   clear KP
   go_upto_region 11 with ((with_reducible refine store_all ?_ 28 (.tmp 11) (.tmp 50) ?_ wp.heap.size [.slice Y1 y.ids.length d1, .slice Y2 Q.length d2, .slice Y3 y.rest.length d3] ?_ ?_ cz ?_ ?_ ?_ ?_ ?_);rfl;rfl;go_must (rfl;rfl;rfl;exact Row.at_ _ _ _ rfl rfl;exact cf_sizeC;exact conf_one _ _ _ _ _ _ _ _ _;intro wq Rwq Kwq Ewq))
   have KX:=Lib.hid (show Below wp.heap.size wp wq from (kept_stored Kwq.out).below (Nat.le_refl _) (fun _ _ h=> h))
   replace HIN:=Lib.hid (HIN.out.below KX.out)
   replace HBY:=Lib.hid (HBY.out.below KX.out)
   replace HQ:=Lib.hid (HQ.out.below KX.out HQ.out.lt)
   replace HIY:=Lib.hid (HIY.out.below KX.out)
   replace HB:=Lib.hid (HB.out.trans ((KX.out).mono HB.out.size))
   have R11:=Rwq
   clear KX Kwq Ewq Rwq
   generalize wp.heap.size=b11 at*
   obtain ⟨t2,hpr⟩:=HYP.out.prints
   have HPY:=Lib.hid hpr
   clear hpr
   have HPT:=Lib.hid (cf_printY wq y Q Y1 y.ids.length d1 Y2 Q.length d2 Y3 y.rest.length d3 HIY.out HYP.out.fit (by omega) hyr HYW.out.2.1 HYW.out.2.2 (HE.out _ HB.out).tab (HE.out _ HB.out).js HPY.out.row)
   go_wp2_with ((with_reducible refine load_all ?_ 28 (.tmp 11) ?_ b11 0 [.slice Y1 y.ids.length d1, .slice Y2 Q.length d2, .slice Y3 y.rest.length d3] #[.slice Y1 y.ids.length d1, .slice Y2 Q.length d2, .slice Y3 y.rest.length d3] ?_ _ ?_ Tryz.underlying28 ?_ ?_ ?_ ?_);rfl;rfl;go_must (rfl;exact rangeAt_row R11.out;rfl;exact cf_sizeC;rfl))
   refine HPT.out.mono ?_
   rintro e ws ⟨A6,c6,rfl,KS⟩
   replace HIN:=Lib.hid (HIN.out.below KS.out.2)
   replace HBY:=Lib.hid (HBY.out.below KS.out.2)
   replace HQ:=Lib.hid (HQ.out.below KS.out.2 HQ.out.lt)
   replace HIY:=Lib.hid (HIY.out.below KS.out.2)
   replace R11:=Lib.hid (R11.out.below KS.out.2 R11.out.lt)
   replace HB:=Lib.hid (HB.out.trans ((KS.out.2).mono HB.out.size))
   have HBS:=Lib.hid KS.out.1
   clear KS HPT
   have HPZ:=Lib.hid (cf_parseS ws A6 t2.length c6 t2 HBS.out HPY.out.len HPY.out.short (HE.out _ HB.out))
   rw [HPY.out.back]at HPZ
   go_wp2_with fail
   refine HPZ.out.mono ?_
   rintro e wt ⟨Q2,Z1,e1,Z2,e2,Z3,e3,rfl,KQ⟩
   have hq2:Q2.length=Q.length:=by
    have:=congrArg List.length KQ.out.1.same
    unfold histsOf at this
    rw [List.length_map]at this
    exact this.trans HQY.out.symm
   have HIZ:=Lib.hid KQ.out.1
   have KT:=Lib.hid KQ.out.2
   rw [hq2]at HIZ ⊢
   clear KQ hq2 HPZ
   replace HIN:=Lib.hid (HIN.out.below KT.out)
   replace HBY:=Lib.hid (HBY.out.below KT.out)
   replace HQ:=Lib.hid (HQ.out.below KT.out HQ.out.lt)
   replace HIY:=Lib.hid (HIY.out.below KT.out)
   replace R11:=Lib.hid (R11.out.below KT.out R11.out.lt)
   replace HBS:=Lib.hid (HBS.out.below KT.out)
   replace HB:=Lib.hid (HB.out.trans ((KT.out).mono HB.out.size))
   clear KT
   go_upto_region 15 with ((with_reducible refine store_all ?_ 28 (.tmp 15) (.tmp 81) ?_ wt.heap.size [.slice Z1 y.ids.length e1, .slice Z2 Q.length e2, .slice Z3 y.rest.length e3] ?_ ?_ cz ?_ ?_ ?_ ?_ ?_);rfl;rfl;go_must (rfl;rfl;rfl;exact Row.at_ _ _ _ rfl rfl;exact cf_sizeC;exact conf_one _ _ _ _ _ _ _ _ _;intro wu Rwu Kwu Ewu))
   have KX:=Lib.hid (show Below wt.heap.size wt wu from (kept_stored Kwu.out).below (Nat.le_refl _) (fun _ _ h=> h))
   replace HIN:=Lib.hid (HIN.out.below KX.out)
   replace HBY:=Lib.hid (HBY.out.below KX.out)
   replace HQ:=Lib.hid (HQ.out.below KX.out HQ.out.lt)
   replace HIY:=Lib.hid (HIY.out.below KX.out)
   replace R11:=Lib.hid (R11.out.below KX.out R11.out.lt)
   replace HBS:=Lib.hid (HBS.out.below KX.out)
   replace HIZ:=Lib.hid (HIZ.out.below KX.out)
   replace HB:=Lib.hid (HB.out.trans ((KX.out).mono HB.out.size))
   have R15:=Rwu
   clear KX Kwu Ewu Rwu
   generalize wt.heap.size=b15 at*
   have HRI:=Lib.hid (cf_right wu y Q Y1 y.ids.length d1 Y2 Q.length d2 Y3 y.rest.length d3 HIY.out HYP.out.fit (by omega) hyr HYW.out.2.1 HYW.out.2.2 (HE.out _ HB.out).tab)
   rw [rightC_yes HYP.out.row]at HRI
   go_wp2_with ((with_reducible refine load_all ?_ 28 (.tmp 11) ?_ b11 0 [.slice Y1 y.ids.length d1, .slice Y2 Q.length d2, .slice Y3 y.rest.length d3] #[.slice Y1 y.ids.length d1, .slice Y2 Q.length d2, .slice Y3 y.rest.length d3] ?_ _ ?_ Tryz.underlying28 ?_ ?_ ?_ ?_);rfl;rfl;go_must (rfl;exact rangeAt_row R11.out;rfl;exact cf_sizeC;rfl))
   refine HRI.out.mono ?_
   rintro e wv ⟨rfl,KV⟩
   replace HIN:=Lib.hid (HIN.out.below KV.out)
   replace HBY:=Lib.hid (HBY.out.below KV.out)
   replace HQ:=Lib.hid (HQ.out.below KV.out HQ.out.lt)
   replace HIY:=Lib.hid (HIY.out.below KV.out)
   replace R11:=Lib.hid (R11.out.below KV.out R11.out.lt)
   replace HBS:=Lib.hid (HBS.out.below KV.out)
   replace HIZ:=Lib.hid (HIZ.out.below KV.out)
   replace R15:=Lib.hid (R15.out.below KV.out R15.out.lt)
   replace HB:=Lib.hid (HB.out.trans ((KV.out).mono HB.out.size))
   clear KV HRI
   have HSA:=Lib.hid (cf_same wv y Q Q2 Y1 y.ids.length d1 Y2 Q.length d2 Y3 y.rest.length d3 Z1 e1 Z2 e2 Z3 e3 HIY.out HIZ.out (by omega) (by omega) (by omega) (fun h hm=> Nat.le_trans (HYW.out.2.1 h hm).2 (by decide)))
   go_wp2_with (first
    | ((with_reducible refine load_all ?_ 28 (.tmp 11) ?_ b11 0 [.slice Y1 y.ids.length d1, .slice Y2 Q.length d2, .slice Y3 y.rest.length d3] #[.slice Y1 y.ids.length d1, .slice Y2 Q.length d2, .slice Y3 y.rest.length d3] ?_ _ ?_ Tryz.underlying28 ?_ ?_ ?_ ?_);rfl;rfl;go_must (rfl;exact rangeAt_row R11.out;rfl;exact cf_sizeC;rfl))
    | ((with_reducible refine load_all ?_ 28 (.tmp 15) ?_ b15 0 [.slice Z1 y.ids.length e1, .slice Z2 Q.length e2, .slice Z3 y.rest.length e3] #[.slice Z1 y.ids.length e1, .slice Z2 Q.length e2, .slice Z3 y.rest.length e3] ?_ _ ?_ Tryz.underlying28 ?_ ?_ ?_ ?_);rfl;rfl;go_must (rfl;exact rangeAt_row R15.out;rfl;exact cf_sizeC;rfl)))
   refine HSA.out.mono ?_
   rintro e wx ⟨rfl,KX⟩
   replace HB:=Lib.hid (HB.out.trans (KX.out.mono HB.out.size))
   go_wp2_with fail
   go_ret
   exact ⟨rfl,HB⟩
end Go.Proofs.YtgmangikcfakgaaGreatDoor
