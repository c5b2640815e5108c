import Derived.Test.YtgmangikcfakgaaGreatDoorPP38
import Derived.Test.YtgmangikcfakgaaGreatDoorPP39
import Derived.Test.YtgmangikcfakgaaGreatDoorPP11
import Derived.Test.YtgmangikcfakgaaGreatDoorPP22
import Derived.Test.YtgmangikcfakgaaGreatDoorPP29
import Derived.Test.YtgmangikcfakgaaGreatDoorPP31
import Derived.Deep.RegionLaw
namespace Go.Proofs.YtgmangikcfakgaaGreatDoor
open Go.RowKit Sh Jt Js Jo
set_option maxRecDepth 100000
set_option maxHeartbeats 40000000 in
theorem cf_parseS (w:World) (A:Option Addr) (n c:Nat) (bs:List UInt8) (hB:BytesAt w A n c bs) (hn:n≤1000000000) (hSH:∀k l r,parseF bs= .ok k l r→Short 1000000000 l) (hE:CEnv w):
  Calls Tryz.prog 9 #[.slice A n c] w (ConfPost w (parseC bs)):=by
 obtain ⟨R,hR⟩:∃R,parseC bs=R:=⟨_,rfl⟩
 rw [hR]
 have HR:=Lib.hid hR
 have HE:=Lib.hid (fun W (q:Below w.heap.size w W)=> hE.below q)
 have HPA:=Lib.hid (fun W (q:Below w.heap.size w W)=> js_parse W A n c bs (hB.below q) (by omega) (hE.below q).js)
 have HSH:=Lib.hid hSH
 clear hR hB hE hSH
 unfold parseC at HR
 generalize hQ:parseF bs=Q at*
 have HQ:=Lib.hid hQ
 clear hQ
 go_enter Tryz.func9,Tryz.ntmps9
 go_upto_region 1 with fail
 have P0:Hid (RcAt w (w.alloc (Obj.cells cz.toArray 28))):=Lib.hid (RcAt.new w rfl)
 generalize hW0:w.alloc (Obj.cells cz.toArray 28)=w0 at P0
 generalize hW:World.alloc _ _=W'
 obtain rfl:w0=W':=hW0.symm.trans hW
 clear hW hW0
 go_wp2_with fail
 refine (HPA.out w0 P0.out.below).mono ?_
 intro e w1 hp
 cases Q with
 | err k=>
  obtain ⟨rfl,hk,K1⟩:=hp
  have P1:=Lib.hid (P0.out.next K1)
  have HRR:Hid (R= .err k):=Lib.hid HR.out.symm
  have hb:((k:Int) !=0)=true:=by rw [bne_iff_ne];omega
  clear P0 K1 HPA HR
  have HK:=Lib.hid hk
  clear hk
  go_wp2_with (first
   | ((with_reducible refine build_all ?_ 28 #[] ?_ cz.toArray ?_ ?_);rfl;rfl;go_must (refine Eq.trans ?_ built_confZ;kernel_rfl))
   | ((with_reducible refine store_all ?_ 28 (.tmp 2) (.tmp 17) ?_ w.heap.size cz ?_ ?_ cz ?_ ?_ ?_ ?_ ?_);rfl;rfl;go_must (rfl;rfl;rfl;exact P1.out.res;exact cf_sizeC;exact conf_one _ _ _ _ _ _ _ _ _;intro wz Rz Kz Ez)))
  refine bodyPost_ret (v:= .tuple #[.agg cz.toArray, .int .i64 (k:Nat)]) (results_row_tmp (fn:=Tryz.f9) (p:=2) (u:=3) rfl _ _ w.heap.size _ cz.toArray _ _ rfl Rz.out Tryz.underlying28 rfl cf_sizeC) rfl ?_
  rw [HRR.out]
  exact ⟨rfl,HK.out,Lib.hid (own_rowH P1.out.below Kz.out)⟩
 | ok k L r=>
  obtain ⟨v1,rfl,O1,K1⟩:=hp
  have P1:=Lib.hid (P0.out.next K1)
  obtain ⟨A1,c1,rfl,hv1,_⟩:=O1.vals
  have HV1:=Lib.hid hv1
  have hpar:=parse_right HQ.out
  obtain ⟨t,ht⟩:=hpar.2.2
  have hl5:L.length≤5000:=ht.1
  have HS:=Lib.hid (show Short 1000000000 L from HSH.out k L r rfl)
  have HMN:Hid (R=confF L):=Lib.hid HR.out.symm
  clear P0 K1 HPA HR O1 hv1 hpar ht HQ HSH
  have HT1:=Lib.hid (fun W (q:Below w1.heap.size w1 W)=> (HE.out W (P1.out.below.trans (q.mono P1.out.below.size))).tab)
  clear HE
  have HGC:=Lib.hid (fun W (q:Below w1.heap.size w1 W)=> jo_get W A1 L.length c1 L (HV1.out.below q) (by omega) HS.out (HT1.out W q) 0 rootK)
  have HCC:=Lib.hid (fun W (q:Below w1.heap.size w1 W)=> own_any (L:=ofKey L rootK) rfl (jo_cut W A1 L.length c1 L (HV1.out.below q) (by omega) HS.out (HT1.out W q) (plc (getA L 0 rootK))))
  have HGH:=Lib.hid (fun W (q:Below w1.heap.size w1 W)=> jo_get W A1 L.length c1 L (HV1.out.below q) (by omega) HS.out (HT1.out W q) 0 histK)
  have HCH:=Lib.hid (fun W (q:Below w1.heap.size w1 W)=> own_any (L:=ofKey L histK) rfl (jo_cut W A1 L.length c1 L (HV1.out.below q) (by omega) HS.out (HT1.out W q) (plc (getA L 0 histK))))
  have HWO:=Lib.hid (fun W (q:Below w1.heap.size w1 W)=> own_any (L:=sortA (dropA (dropA L rootK) histK)) rfl (cf_without W A1 L.length c1 L (HV1.out.below q) (by omega) HS.out (HT1.out W q) rootK histK))
  have hkor:∀key,ofKey L key=[]∨rightPF (ofKey L key)=true:=fun key=> by
   by_cases h:ofKey L key=[]
   ·exact .inl h
   ·obtain ⟨P,hP⟩:=obj_is (key_isO h)
    exact .inr (key_right hP h)
  have HRR':=Lib.hid (fun W A4 c4 (q:Below w1.heap.size w1 W) (h:ValsAt W A4 (ofKey L rootK).length c4 (ofKey L rootK))=> cf_readRoot W A4 _ c4 (ofKey L rootK) h (by have:=cutA_len L (plc (getA L 0 rootK));show (cutA L (plc (getA L 0 rootK))).length≤5000;omega) (short_cutC HS.out _) (HT1.out W q) (hkor rootK))
  have HRH:=Lib.hid (fun W A4 c4 (q:Below w1.heap.size w1 W) (h:ValsAt W A4 (ofKey L histK).length c4 (ofKey L histK))=> show Calls _ _ _ _ (HistPost W (histF L))from cf_readHistory W A4 _ c4 (ofKey L histK) h (by have:=cutA_len L (plc (getA L 0 histK));show (cutA L (plc (getA L 0 histK))).length≤5000;omega) (short_cutC HS.out _) (HT1.out W q) (hkor histK))
  have HX3:=Lib.hid (fun (h:idsF (ofKey L rootK)≠none)=> conf_sort (L:=L) h)
  change Hid (∀W,_→Calls _ _ #[_,_, .string ⟨#[114,111,111,116,102,115]⟩] _ _)at HGC
  change Hid (∀W,_→Calls _ _ #[_,_, .string ⟨#[104,105,115,116,111,114,121]⟩] _ _)at HGH
  change Hid (∀W,_→Calls _ _ #[_, .string ⟨#[114,111,111,116,102,115]⟩, .string ⟨#[104,105,115,116,111,114,121]⟩] _ _)at HWO
  have HMO:Hid (R=match idsF (ofKey L rootK),histF L with
   | some d,some h=> if 60 < d.length∨200 < h.length then .err 2 else if 0 < h.length∧layersN h≠d.length then .err 3 else .ok ⟨d,h,srt (dropA (dropA L rootK) histK)⟩
   | _,_=> .err 3):=HMN
  clear HS HV1 hkor HMN
  have B1:=Lib.hid (Below.refl w1.heap.size w1)
  go_wp2_with fail
  refine (HGC.out w1 B1.out).mono ?_
  rintro e w3 ⟨rfl,K3⟩
  have P3:=Lib.hid (P1.out.next K3.out)
  have B3:=Lib.hid (B1.out.trans (K3.out.mono B1.out.size))
  clear P1 K3 HGC B1
  go_wp2_with fail
  refine (HCC.out w3 B3.out).mono ?_
  rintro e w4 ⟨A4,c4,rfl,K4⟩
  have P4:=Lib.hid (P3.out.next K4.out.2.2)
  have B4:=Lib.hid (B3.out.trans (K4.out.2.2.mono B3.out.size))
  have HRX:=Lib.hid (HRR'.out w4 A4 c4 B4.out K4.out.2.1)
  clear P3 K4 HCC B3 HRR'
  generalize plc (getA L 0 rootK)=zc at*
  generalize (ofKey L rootK).length=xk at*
  generalize idsF (ofKey L rootK)=o1 at*
  go_wp2_with fail
  refine HRX.out.mono ?_
  rintro e w5 ⟨v6,rfl,K5⟩
  have P5:=Lib.hid (P4.out.next K5.out.2)
  have B5:=Lib.hid (B4.out.trans (K5.out.2.mono B4.out.size))
  have O5:=Lib.hid K5.out.1
  have hq4:w.heap.size < w4.heap.size:=P4.out.res.lt
  clear P4 K5 HRX B4
  go_wp2_with fail
  refine (HGH.out w5 B5.out).mono ?_
  rintro e w5b ⟨rfl,K5b⟩
  have P5b:=Lib.hid (P5.out.next K5b.out)
  have B5b:=Lib.hid (B5.out.trans (K5b.out.mono B5.out.size))
  have O5b:=Lib.hid (O5.out.below K5b.out)
  clear P5 K5b HGH B5 O5
  go_wp2_with fail
  refine (HCH.out w5b B5b.out).mono ?_
  rintro e w5c ⟨A5c,c5c,rfl,K5c⟩
  have P5c:=Lib.hid (P5b.out.next K5c.out.2.2)
  have B5c:=Lib.hid (B5b.out.trans (K5c.out.2.2.mono B5b.out.size))
  have O5c:=Lib.hid (O5b.out.below K5c.out.2.2)
  have HHX:=Lib.hid (HRH.out w5c A5c c5c B5c.out K5c.out.2.1)
  clear P5b K5c HCH B5b O5b HRH
  generalize plc (getA L 0 histK)=zh at*
  generalize (ofKey L histK).length=xh at*
  go_wp2_with fail
  refine HHX.out.mono ?_
  rintro e w6 ⟨v8,Q8,rfl,HQ8,K6⟩
  have P6:=Lib.hid (P5c.out.next K6.out.2)
  have B6:=Lib.hid (B5c.out.trans (K6.out.2.mono B5c.out.size))
  have O6:=Lib.hid (O5c.out.below K6.out.2)
  have OH6:=Lib.hid K6.out.1
  have hq5:w.heap.size < w5c.heap.size:=P5c.out.res.lt
  clear P5c K6 HHX B5c O5c
  generalize histF L=o2 at*
  cases o1 with
  | none=>
   have HRR:Hid (R= .err 3):=HMO
   simp only [Option.isSome_none]
   generalize o2.isSome=b2
   clear HMO HX3 O6 OH6 HWO
   go_wp2_with (first
    | ((with_reducible refine build_all ?_ 28 #[] ?_ cz.toArray ?_ ?_);rfl;rfl;go_must (refine Eq.trans ?_ built_confZ;kernel_rfl))
    | ((with_reducible refine store_all ?_ 28 (.tmp 2) (.tmp 41) ?_ w.heap.size cz ?_ ?_ cz ?_ ?_ ?_ ?_ ?_);rfl;rfl;go_must (rfl;rfl;rfl;exact P6.out.res;exact cf_sizeC;exact conf_one _ _ _ _ _ _ _ _ _;intro wz Rz Kz Ez)))
   refine bodyPost_ret (v:= .tuple #[.agg cz.toArray, .int .i64 (3:Int)]) (results_row_tmp (fn:=Tryz.f9) (p:=2) (u:=3) rfl _ _ w.heap.size _ cz.toArray _ _ rfl Rz.out Tryz.underlying28 rfl cf_sizeC) rfl ?_
   rw [HRR.out]
   exact ⟨rfl,by decide,Lib.hid (own_rowH P6.out.below Kz.out)⟩
  | some d=>
   simp only [Option.isSome_some]
   cases o2 with
   | none=>
    have HRR:Hid (R= .err 3):=HMO
    simp only [Option.isSome_none]
    clear HMO HX3 O6 OH6 HWO
    go_wp2_with (first
     | ((with_reducible refine build_all ?_ 28 #[] ?_ cz.toArray ?_ ?_);rfl;rfl;go_must (refine Eq.trans ?_ built_confZ;kernel_rfl))
     | ((with_reducible refine store_all ?_ 28 (.tmp 2) (.tmp 41) ?_ w.heap.size cz ?_ ?_ cz ?_ ?_ ?_ ?_ ?_);rfl;rfl;go_must (rfl;rfl;rfl;exact P6.out.res;exact cf_sizeC;exact conf_one _ _ _ _ _ _ _ _ _;intro wz Rz Kz Ez)))
    refine bodyPost_ret (v:= .tuple #[.agg cz.toArray, .int .i64 (3:Int)]) (results_row_tmp (fn:=Tryz.f9) (p:=2) (u:=3) rfl _ _ w.heap.size _ cz.toArray _ _ rfl Rz.out Tryz.underlying28 rfl cf_sizeC) rfl ?_
    rw [HRR.out]
    exact ⟨rfl,by decide,Lib.hid (own_rowH P6.out.below Kz.out)⟩
   | some h=>
    simp only [Option.isSome_some]
    have HMO2:Hid (R=if 60 < d.length∨200 < h.length then .err 2 else if 0 < h.length∧layersN h≠d.length then .err 3 else .ok ⟨d,h,srt (dropA (dropA L rootK) histK)⟩):=HMO
    have HQH:Hid (histsOf Q8=h):=HQ8
    have hqh:h.length=Q8.length:=by rw [←HQH.out];exact List.length_map _
    have HX4:=Lib.hid (HX3.out (fun e=> by cases e))
    clear HMO HQ8 HX3
    obtain ⟨A6,c6,rfl,hg6, -,ha6, -⟩:=(show OwnGs w6 w4.heap.size v6 d from O6.out).gs
    have HA6:=Lib.hid (fun b o (e:A6=some ⟨b,o,none⟩)=> show w.heap.size < b from by
     obtain ⟨g,e2,h1,_⟩:=ha6 _ e
     cases e2
     omega)
    obtain ⟨A8,c8,rfl,hh8,ha8⟩:=OH6.out.hists
    have HA8:=Lib.hid (fun b o (e:A8=some ⟨b,o,none⟩)=> show w.heap.size < b from by have:=ha8 b o e;omega)
    have HB8:=Lib.hid (fun q (hq:q∈Q8) b o (e:q.rest.at_=some ⟨b,o,none⟩)=> show w.heap.size < b from by have:=OH6.out.base q hq b o e;omega)
    clear ha6 ha8
    have HG6:=Lib.hid hg6
    have HH6:=Lib.hid hh8
    clear O6 OH6 hg6 hh8
    go_wp2_with fail
    refine (cf_areFew w6 A6 d.length c6 A8 Q8.length c8).mono ?_
    rintro e w7 ⟨rfl,K7⟩
    have P7:=Lib.hid (P6.out.next K7.out)
    have B7:=Lib.hid (B6.out.trans (K7.out.mono B6.out.size))
    have HG7:=Lib.hid (HG6.out.below K7.out)
    have HH7:=Lib.hid (HH6.out.below K7.out)
    clear P6 B6 HG6 HH6 K7
    by_cases gfew:d.length≤60∧Q8.length≤200
    case neg=>
     have HRR:Hid (R= .err 2):=Lib.hid (by rw [HMO2.out,if_pos (by omega)])
     rw [decide_eq_false gfew]
     clear HMO2 HX4 gfew
     go_wp2_with (first
      | ((with_reducible refine build_all ?_ 28 #[] ?_ cz.toArray ?_ ?_);rfl;rfl;go_must (refine Eq.trans ?_ built_confZ;kernel_rfl))
      | ((with_reducible refine store_all ?_ 28 (.tmp 2) (.tmp 46) ?_ w.heap.size cz ?_ ?_ cz ?_ ?_ ?_ ?_ ?_);rfl;rfl;go_must (rfl;rfl;rfl;exact P7.out.res;exact cf_sizeC;exact conf_one _ _ _ _ _ _ _ _ _;intro wz Rz Kz Ez)))
     refine bodyPost_ret (v:= .tuple #[.agg cz.toArray, .int .i64 (2:Int)]) (results_row_tmp (fn:=Tryz.f9) (p:=2) (u:=3) rfl _ _ w.heap.size _ cz.toArray _ _ rfl Rz.out Tryz.underlying28 rfl cf_sizeC) rfl ?_
     rw [HRR.out]
     exact ⟨rfl,by decide,Lib.hid (own_rowH P7.out.below Kz.out)⟩
    rw [decide_eq_true gfew]
    have HM3:Hid (R=if 0 < h.length∧layersN h≠d.length then .err 3 else .ok ⟨d,h,srt (dropA (dropA L rootK) histK)⟩):=Lib.hid (by rw [HMO2.out,if_neg (by omega)])
    clear HMO2
    have HAM:=Lib.hid (cf_areMatched w7 A6 d.length c6 A8 Q8.length c8 Q8 HH7.out (by omega))
    rw [HQH.out]at HAM
    go_wp2_with fail
    refine HAM.out.mono ?_
    rintro e w8 ⟨rfl,K8⟩
    have P8:=Lib.hid (P7.out.next K8.out)
    have B8:=Lib.hid (B7.out.trans (K8.out.mono B7.out.size))
    have HG8:=Lib.hid (HG7.out.below K8.out)
    have HH8:=Lib.hid (HH7.out.below K8.out)
    clear P7 B7 HG7 HH7 K8 HAM
    by_cases gma:0 < Q8.length→layersN h=d.length
    case neg=>
     have HRR:Hid (R= .err 3):=Lib.hid (by rw [HM3.out,if_pos (by rw [hqh];exact Classical.not_imp.1 gma)])
     rw [decide_eq_false gma]
     clear HM3 HX4 gma
     go_wp2_with (first
      | ((with_reducible refine build_all ?_ 28 #[] ?_ cz.toArray ?_ ?_);rfl;rfl;go_must (refine Eq.trans ?_ built_confZ;kernel_rfl))
      | ((with_reducible refine store_all ?_ 28 (.tmp 2) (.tmp 51) ?_ w.heap.size cz ?_ ?_ cz ?_ ?_ ?_ ?_ ?_);rfl;rfl;go_must (rfl;rfl;rfl;exact P8.out.res;exact cf_sizeC;exact conf_one _ _ _ _ _ _ _ _ _;intro wz Rz Kz Ez)))
     refine bodyPost_ret (v:= .tuple #[.agg cz.toArray, .int .i64 (3:Int)]) (results_row_tmp (fn:=Tryz.f9) (p:=2) (u:=3) rfl _ _ w.heap.size _ cz.toArray _ _ rfl Rz.out Tryz.underlying28 rfl cf_sizeC) rfl ?_
     rw [HRR.out]
     exact ⟨rfl,by decide,Lib.hid (own_rowH P8.out.below Kz.out)⟩
    rw [decide_eq_true gma]
    have HRR:Hid (R= .ok ⟨d,h,srt (dropA (dropA L rootK) histK)⟩):=Lib.hid (by rw [HM3.out,if_neg (by rw [hqh];exact fun e=> e.2 (gma e.1))])
    clear HM3 gma
    generalize dropA (dropA L rootK) histK=X2 at*
    go_wp2_with fail
    refine (HWO.out w8 B8.out).mono ?_
    rintro e w12 ⟨A12,c12,rfl,K12⟩
    have P12:=Lib.hid (P8.out.next K12.out.2.2)
    have HG12:=Lib.hid (HG8.out.below K12.out.2.2)
    have HH12:=Lib.hid (HH8.out.below K12.out.2.2)
    have HR12:=Lib.hid K12.out.2.1
    have hq11:w.heap.size < w8.heap.size:=P8.out.res.lt
    have HA12:=Lib.hid (fun b o (e:A12=some ⟨b,o,none⟩)=> show w.heap.size < b from by have:=(K12.out.1.block (show (Value.slice A12 (sortA X2).length c12).ownBlock=some b from by rw [e];rfl)).1;omega)
    clear P8 K12 HG8 HH8 B8 HWO
    generalize hsx:(sortA X2).length=sx at*
    have HSX:=Lib.hid hsx
    clear hsx
    generalize hsq:Q8.length=nq at*
    have HSQ:=Lib.hid hsq
    clear hsq
    generalize hsd:d.length=nd at*
    have HSDD:=Lib.hid hsd
    clear hsd
    go_wp2_with (first
     | ((with_reducible refine build_all ?_ 28 #[(0, .tmp 52),(1, .tmp 53),(2, .tmp 55)] ?_ #[.slice A6 nd c6, .slice A8 nq c8, .slice A12 sx c12] ?_ ?_);rfl;rfl;go_must (refine Eq.trans ?_ (built_conf A6 nd c6 A8 nq c8 A12 sx c12);kernel_rfl))
     | ((with_reducible refine store_all ?_ 28 (.tmp 2) (.tmp 56) ?_ w.heap.size [.slice A6 nd c6, .slice A8 nq c8, .slice A12 sx c12] ?_ ?_ cz ?_ ?_ ?_ ?_ ?_);rfl;rfl;go_must (rfl;rfl;rfl;exact P12.out.res;exact cf_sizeC;exact conf_one _ _ _ _ _ _ _ _ _;intro wz Rz Kz Ez)))
    refine bodyPost_ret (v:= .tuple #[.agg #[.slice A6 nd c6, .slice A8 nq c8, .slice A12 sx c12], .int .i64 0]) (results_row_tmp (fn:=Tryz.f9) (p:=2) (u:=3) rfl _ _ w.heap.size _ #[.slice A6 nd c6, .slice A8 nq c8, .slice A12 sx c12] _ _ rfl Rz.out Tryz.underlying28 rfl cf_sizeC) rfl ?_
    rw [HRR.out]
    refine ⟨Q8,A6,c6,A8,c8,A12,c12, ?_,Lib.hid ⟨?_,own_rowH P12.out.below Kz.out⟩⟩
    ·show _=Ending.returned (.tuple #[.agg #[.slice A6 d.length c6, .slice A8 Q8.length c8, .slice A12 (srt X2).length c12], .int .i64 0])
     rw [HSDD.out,HSQ.out,←HX4.out,HSX.out]
    ·show ConfIn wz ⟨d,h,srt X2⟩ Q8 A6 d.length c6 A8 Q8.length c8 A12 (srt X2).length c12
     rw [HSDD.out,HSQ.out,←HX4.out,HSX.out]
     refine ⟨HG12.out.kept Kz.out (fun b o e _ h=> ?_),HH12.out.kept Kz.out (fun b o e _ h=> ?_) (fun q hq b o e _ h=> ?_),HQH.out,HR12.out.kept Kz.out (fun b o e _ h=> ?_)⟩
     ·have:=HA6.out b o e;omega
     ·have:=HA8.out b o e;omega
     ·have:=HB8.out q hq b o e;omega
     ·have:=HA12.out b o e;omega
theorem cf_parse (w:World) (A:Option Addr) (n c:Nat) (bs:List UInt8) (hB:BytesAt w A n c bs) (hn:n≤250000000) (hE:CEnv w):
  Calls Tryz.prog 9 #[.slice A n c] w (ConfPost w (parseC bs)):=
 cf_parseS w A n c bs hB (by omega) (fun _ _ _ h=> short_more (parse_short h) (by have:=hB.len;omega)) hE
end Go.Proofs.YtgmangikcfakgaaGreatDoor
namespace Go.Proofs.YtgmangikcfakgaaGreatDoor
open Go.RowKit Sh
namespace Jt
end Jt
open Jt
end Go.Proofs.YtgmangikcfakgaaGreatDoor
namespace Go.Proofs.YtgmangikcfakgaaGreatDoor
open Go.RowKit Sh Jt Js Jo
namespace Jo
end Jo
end Go.Proofs.YtgmangikcfakgaaGreatDoor
namespace Go.Proofs.YtgmangikcfakgaaGreatDoor
open Go.RowKit Sh Jt Js Jo
theorem step_append_valsM {w:World} {ops:Array Oper} {o:Oper} {a:Act} {K:Act→World→Prop} {Q:Exit→Act→World→Prop} {E:Prop} (hg:o.guard=none) (s x:Operand)
  (ho:o.op= .call {callee:= .builtin .append,args:=#[s,x],argTypes:=#[26,26]}) (B:Nat) (v:Value) (L:List V) (hs:a.eval s=v) (hown:OwnVals w B v L)
  (ad:Addr) (n c:Nat) (M:List V) (hx:a.eval x= .slice (some ad) n c) (hsrc:ValsAt w (some ad) n c M) (hb:L.length+n≤1000000000000) (hB:B≤w.heap.size)
  (h:∀v' w',Hid (OwnVals w' B v' (L++M))→Hid (Kept w w' (fun k=> B≤k∧v.ownBlock=some k))→Hid (∀k,v'.ownBlock=some k→v.ownBlock=some k∨w.heap.size≤k)→K (a.put o.dst v') w'):
  if Region.wanted o (yielded ops a.tmps)=true then Oper.wp Tryz.prog o a w K Q else E:=by
 rw [if_pos (by simp [Region.wanted,hg])]
 obtain ⟨i,hi,hz,hsz,hby⟩:=js_infoZ
 have hlen:=hsrc.len
 have hnews:∀j u,(cellsV M)[j]? =some u→w.cell? (ad.add j)=some u:=by
  intro j u hj
  have hjl:=(List.getElem?_eq_some_iff.1 hj).1
  rw [cellsV_len]at hjl
  obtain ⟨b,off,e,_,hr⟩:=hsrc.at_ (by omega)
  simp only [Option.some.injEq]at e
  subst e
  rw [Addr.add_mid]
  exact hr j u hj
 obtain ⟨v',w',hr,h2,h3,h4,h5⟩:=run_append_own_at (P:=Tryz.prog) w B 26 o.type 72 i (.agg #[.int .i64 0, .string ⟨#[]⟩, .string ⟨#[]⟩, .int .i64 0]) 4 48 Tryz.underlying26 hi hz hsz hby rfl (by decide) v L.length (cellsV L) hown ad n c (cellsV M)
  (by rw [cellsV_len,hlen]) hnews (cellsV_one M) (by unfold maxLen;omega) (by omega) hB
 unfold Oper.wp execOp
 simp only [ho,resolve,invoke,builtin,Sem.run_bind,Sem.run_pure,Result.andThen_ok,List.map_toArray,List.map_cons,List.map_nil,hs,hx,hr]
 refine h v' w' ?_ ?_ ?_
 ·show w'.ownsRow B _ 4 v' (L++M).length (cellsV (L++M))
  rw [List.length_append,hlen,cellsV_app]
  exact h2
 ·refine ⟨h3.os,h3.tape,h3.output,h3.size,fun k hk hn=> h3.block k hk (fun e=> hn ?_)⟩
  obtain ⟨_,⟨rfl,_⟩ | ⟨g,cap,cur,rfl,hg,_⟩⟩:=hown
  ·cases e
  ·have e':g=k:=by simpa [Value.ownBlock] using e.symm
   subst e'
   exact ⟨hg,rfl⟩
 ·intro k hk
  rcases h5 with h5 | h5
  ·exact .inl (h5▸hk)
  ·rw [h5]at hk
   exact .inr (Nat.le_of_eq (Option.some.inj hk))
theorem step_callM {w:World} {ops:Array Oper} {o:Oper} {a:Act} {K:Act→World→Prop} {Q:Exit→Act→World→Prop} {E:Prop} (hg:o.guard=none) (f:FuncId) (args:Array Value) (hrun:(execOp a.eval o).run Tryz.prog w= .ok (.enter f args) w) {R:Ending→World→Prop}
  (hc:Calls Tryz.prog f args w R) (h:∀e w',R e w'→∃v,e= .returned v∧K (a.put o.dst v) w'):if Region.wanted o (yielded ops a.tmps)=true then Oper.wp Tryz.prog o a w K Q else E:=by
 rw [if_pos (by simp [Region.wanted,hg])]
 exact js_enterP f args hrun hc h
namespace Jo
def madeF (kind:Int) (ks:List (List UInt8)) (P:List (List V)):List V:=if P.all rightPF=true then fineF (⟨kind,[],[],P.length⟩::(List.zipWith named ks P).flatten) else []
def zipN (ks:List (List UInt8)) (Q:List Pc) (j:Nat):List V:=(List.zipWith named (ks.take j) (rowsOf (Q.take j))).flatten
theorem rowsOf_len (Q:List Pc):(rowsOf Q).length=Q.length:=List.length_map _
theorem zipN_len {ks:List (List UInt8)} {Q:List Pc} (h:ks.length=Q.length) (j:Nat):(zipN ks Q j).length=(rowsOf (Q.take j)).flatten.length:=by
 unfold zipN
 rw [zip_flat (by rw [rowsOf_len,List.length_take,List.length_take,h])]
theorem zipN_next {ks:List (List UInt8)} {Q:List Pc} (h:ks.length=Q.length) {j:Nat} (hj:j < Q.length):zipN ks Q (j+1)=zipN ks Q j++named (ks[j]'(by omega)) Q[j].row:=by
 unfold zipN
 have e1:(ks.take (j+1))=ks.take j++[ks[j]'(by omega)]:=List.take_succ_eq_append_getElem (by omega)
 have e2:(rowsOf (Q.take (j+1)))=rowsOf (Q.take j)++[Q[j].row]:=by
  unfold rowsOf
  rw [List.take_succ_eq_append_getElem hj,List.map_append]
  rfl
 rw [e1,e2,List.zipWith_append (by rw [rowsOf_len,List.length_take,List.length_take,h]),List.flatten_append]
 simp
theorem zipN_all {ks:List (List UInt8)} {Q:List Pc} {n:Nat} (h:ks.length=n) (h2:Q.length=n):zipN ks Q n=(List.zipWith named ks (rowsOf Q)).flatten:=by
 unfold zipN
 rw [List.take_of_length_le (by omega),List.take_of_length_le (by omega)]
theorem made_obj (ks:List (List UInt8)) (P:List (List V)) (h:ks.length=P.length):madeF 6 ks P=objA ks P:=by
 unfold madeF objA objF
 by_cases hp:P.all rightPF=true
 ·rw [if_pos hp,if_pos ⟨hp,h⟩]
 ·rw [if_neg hp,if_neg (fun e=> hp e.1)]
theorem zip_none:∀(P:List (List V)),(∀p∈P,Js.keyOf p=[])→List.zipWith named (List.replicate P.length []) P=P
 | [],_=> rfl
 | p::P,h=> by
  rw [List.length_cons,List.replicate_succ,List.zipWith_cons_cons,named_self (h p List.mem_cons_self),zip_none P (fun q hq=> h q (List.mem_cons_of_mem _ hq))]
theorem made_list (P:List (List V)):madeF 5 (List.replicate P.length []) P=listA P:=by
 unfold madeF listA listF
 by_cases hp:P.all rightPF=true
 ·rw [if_pos hp,if_pos hp,zip_none P (keys_none hp)]
 ·rw [if_neg hp,if_neg hp]
theorem zip_short {m:Nat} {kind c:Int} {ks:List (List UInt8)} {P:List (List V)} (hP:∀p∈P,Short m p) (hk:∀k∈ks,k.length≤m):Short m (⟨kind,[],[],c⟩::(List.zipWith named ks P).flatten):=by
 intro v hv
 rcases List.mem_cons.1 hv with rfl | hv
 ·exact ⟨Nat.zero_le _,Nat.zero_le _⟩
 ·obtain ⟨q,hq,hvq⟩:=List.mem_flatten.1 hv
  obtain ⟨i,hi,rfl⟩:=List.getElem_of_mem hq
  rw [List.getElem_zipWith]at hvq
  exact short_named (hP _ (List.getElem_mem _)) (hk _ (List.getElem_mem _)) v hvq
end Jo
theorem make_strs (m:Nat) (hm:m≤250000) (W:World):(Instr.makeSlice 53 (.int .i64 (m:Int)) (.int .i64 (m:Int))).run Tryz.prog W= .ok (.slice (some ⟨W.heap.size,0,none⟩) m m) (W.alloc (.cells (List.replicate m (.string ⟨#[]⟩)).toArray 9)):=by
 obtain ⟨i,hi,hz,hs,hb⟩:=jo_infoStr
 have:=run_make W 53 9 i (.string ⟨#[]⟩) Tryz.underlying53 hi hz .i64 .i64 (m:Int) (m:Int) (by omega) (by omega) (by rw [hb];omega) (by omega)
 rw [hs,Int.toNat_natCast,made_one _ rfl]at this
 exact this
theorem StrsAt.made (w:World) (n:Nat):StrsAt (w.alloc (.cells (List.replicate n (.string ⟨#[]⟩)).toArray 9)) (some ⟨w.heap.size,0,none⟩) n n (List.replicate n []):=by
 have r:=Row.new w 9 (List.replicate n (.string ⟨#[]⟩))
 refine ⟨List.length_replicate,Nat.le_refl _,fun _=> ⟨_,0,rfl,r.lt,r.range 0 _ (fun j v hj=> ?_)⟩⟩
 rw [List.map_replicate]at hj
 rw [Nat.zero_add]
 exact hj
set_option maxRecDepth 100000 in
set_option maxHeartbeats 8000000 in
theorem jo_rmade (w:World) (kind:Int) (A:Option Addr) (n c:Nat) (ks:List (List UInt8)) (hK:StrsAt w A n c ks) (hk:∀k∈ks,k.length≤1000000000) (A2:Option Addr) (c2:Nat) (Q:List Pc) (hQ:SlsAt w A2 n c2 Q) (hn:n≤4000) (hs:∀p∈Q,Short 1000000000 p.row) (hl:(rowsOf Q).flatten.length≤4000):
  Calls Tryz.prog 119 #[.int .i64 kind, .slice A n c, .slice A2 n c2] w fun e w'=> ∃v',e= .returned v'∧Hid (OwnVals w' w.heap.size v' (madeF kind ks (rowsOf Q))∧Below w.heap.size w w'):=by
 have hlen:=hQ.len
 have hklen:=hK.len
 have HQ:=Lib.hid hQ
 have HK:=Lib.hid hK
 have hkq:ks.length=Q.length:=by rw [hlen,hklen]
 have HLE:=Lib.hid (fun j=> Nat.le_trans (rows_le Q j) hl)
 obtain ⟨RV,hRV⟩:∃RV,RV=madeF kind ks (rowsOf Q):=⟨_,rfl⟩
 rw [←hRV]
 have HRV:=Lib.hid (show RV=if (rowsOf (Q.drop 0)).all rightPF=true then fineF (⟨kind,[],[],n⟩::zipN ks Q n) else []from by rw [hRV,zipN_all hklen hlen,List.drop_zero];unfold madeF;rw [rowsOf_len,hlen])
 have HLS:=Lib.hid (show Short 1000000000 (⟨kind,[],[],n⟩::zipN ks Q n)from by
  rw [zipN_all hklen hlen]
  exact zip_short (fun p hp=> by
   obtain ⟨q,hq,rfl⟩:=List.mem_map.1 hp
   exact hs q hq) hk)
 have HZL:=Lib.hid (fun j=> zipN_len hkq j)
 have HZN:=Lib.hid (fun j (h:j < Q.length)=> zipN_next hkq h)
 have HSH:=Lib.hid hs
 have HDR:=Lib.hid (fun (h:Q.length≤n)=> show Q.drop n=[]from List.drop_of_length_le h)
 have HOW:=Lib.hid (own_laid w ⟨kind,[],[],n⟩)
 have HB0:=Lib.hid (below_alloc' w (.cells #[.int .i64 kind, .string (sb []), .string (sb []), .int .i64 n] 72))
 have hn9:(n:Int)≤4000:=by omega
 clear hQ hK hRV hl hs hk
 go_enter Tryz.func119,Tryz.ntmps119
 go_wp2_with (with_reducible refine jo_build1 rfl _ rfl kind ⟨#[]⟩ ⟨#[]⟩ n rfl ?_)
 go_loopg [7,8] n (fun g v7 v8 wx=> ∃j x gb k:Nat,v7= .slice (some ⟨gb,0,none⟩) (x+1) k∧v8= .int .i64 (j:Int)∧j+g=n∧x≤4000∧Hid (x=(rowsOf (Q.take j)).flatten.length)∧Hid (RV=if (rowsOf (Q.drop j)).all rightPF=true then fineF (⟨kind,[],[],n⟩::zipN ks Q n) else [])∧Hid (OwnVals wx w.heap.size (.slice (some ⟨gb,0,none⟩) (x+1) k) (⟨kind,[],[],n⟩::zipN ks Q j)∧Below w.heap.size w wx))
 case atStart=> exact ⟨0,0,_,1,rfl,rfl,by omega,by omega,Lib.hid rfl,HRV,Lib.hid ⟨HOW.out,HB0.out⟩⟩
 case round=>
  clear HRV HOW HB0
  obtain ⟨j,x,gb,k,rfl,rfl,hjg,hx4,HX,HRV,HH⟩:=hrel
  cases gk with
  | zero=>
   have hjn:j=n:=by omega
   subst hjn
   have hge:¬(j:Int) < (j:Int):=by omega
   have HD2:=Lib.hid (HDR.out (by omega))
   rw [HD2.out]at HRV
   have HRV2:Hid (RV=fineF (⟨kind,[],[],j⟩::zipN ks Q j)):=Lib.hid (by rw [HRV.out];rfl)
   have HI:=Lib.hid (jo_rfine wr (some ⟨gb,0,none⟩) (x+1) k _ HH.out.1.at_.1 (by omega) HLS.out)
   clear HRV HX HD2
   unfold fineF at HRV2
   generalize rightPF (⟨kind,[],[],j⟩::zipN ks Q j)=RY at*
   have HLE2:=Lib.hid HH.out.2.size
   cases RY with
   | true=>
    go_wp2_with fail
    refine HI.out.mono ?_
    rintro e w7 ⟨rfl,HB8⟩
    clear HI
    go_wp2_with fail
    go_ret
    exact ⟨_,rfl,Lib.hid ⟨by rw [HRV2.out];exact HH.out.1.below HB8.out,HH.out.2.trans (HB8.out.mono HLE2.out)⟩⟩
   | false=>
    go_wp2_with fail
    refine HI.out.mono ?_
    rintro e w7 ⟨rfl,HB8⟩
    clear HI
    go_wp2_with fail
    go_ret
    exact ⟨_,rfl,Lib.hid ⟨by rw [HRV2.out];exact OwnVals.nil _ _,HH.out.2.trans (HB8.out.mono HLE2.out)⟩⟩
  | succ g=>
   have hj:j < Q.length:=by omega
   have hjk:j < ks.length:=by omega
   obtain ⟨b,o,rfl,cc⟩:=(HQ.out.below HH.out.2).cell hj
   obtain ⟨bk,ok,rfl,ck⟩:=(HK.out.below HH.out.2).cell hjk
   have HV:=Lib.hid ((HQ.out.below HH.out.2).ins _ (List.getElem_mem hj))
   have HN:=Lib.hid (rows_next Q hj)
   have HZ1:=Lib.hid (HZN.out j hj)
   have HZ0:=Lib.hid (HZL.out j)
   have hle:=HLE.out (j+1)
   rw [HN.out,List.length_append,←HX.out]at hle
   have HA:=Lib.hid (all_drop hj)
   have HS:=Lib.hid (HSH.out _ (List.getElem_mem hj))
   have hjn:(j:Int) < (n:Int):=by omega
   have hjn2:j < n:=by omega
   unfold Pc.enc at cc
   generalize Q[j]=p at*
   generalize ks[j]=key at*
   obtain ⟨pa,pc,prow⟩:=p
   dsimp only at*
   obtain ⟨pl,hpl⟩:∃pl,pl=prow.length:=⟨_,rfl⟩
   rw [←hpl]at cc hle
   have HPLN:=Lib.hid hpl
   rw [←hpl]at HV
   clear hpl
   have HR:=Lib.hid (js_rRight wr pa pl pc prow HV.out (by omega) HS.out)
   cases hr:rightPF prow with
   | false=>
    rw [hr]at HR
    have HRV2:Hid (RV=[]):=Lib.hid (by rw [HRV.out,HA.out,hr];rfl)
    have HLE2:=Lib.hid HH.out.2.size
    clear HRV HA hr HV HS HN HX HZ1 HZ0
    go_wp2_with fail
    refine HR.out.mono ?_
    rintro e w4 ⟨rfl,HB4⟩
    clear HR
    go_wp2_with fail
    go_ret
    exact ⟨_,rfl,Lib.hid ⟨by rw [HRV2.out];exact OwnVals.nil _ _,HH.out.2.trans (HB4.out.mono HLE2.out)⟩⟩
   | true=>
    rw [hr]at HR
    have HRV2:Hid (RV=if (rowsOf (Q.drop (j+1))).all rightPF=true then fineF (⟨kind,[],[],n⟩::zipN ks Q n) else []):=Lib.hid (by rw [HRV.out,HA.out,hr,Bool.true_and])
    have hp0:=(right_end hr).2.1
    have HP0:Hid (0 < pl):=Lib.hid (by rw [HPLN.out];exact hp0)
    obtain ⟨b3,o3,rfl,_,_⟩:=HV.out.at_ HP0.out
    have HX2:Hid (x+pl=(rowsOf (Q.take (j+1))).flatten.length):=Lib.hid (by rw [HN.out,List.length_append,HX.out,HPLN.out])
    have HLL:Hid ((⟨kind,[],[],n⟩::zipN ks Q j:List V).length=x+1):=Lib.hid (by rw [List.length_cons,HZ0.out,←HX.out])
    have HL5:Hid (((⟨kind,[],[],n⟩::zipN ks Q j:List V)++named key prow).length=x+pl+1):=Lib.hid (by rw [List.length_append,HLL.out,named_len,HPLN.out];omega)
    have HNL:Hid ((named key prow).length=pl):=Lib.hid (by rw [named_len,HPLN.out])
    have HL9:=Lib.hid hle
    clear HRV HA hr HS hp0 HN HX HZ0 hle
    go_wp2_with fail
    refine HR.out.mono ?_
    rintro e w4 ⟨rfl,HB4⟩
    clear HR
    go_upto_region 8 with fail
    have HBD:=Lib.hid (show Below wr.heap.size wr w4.drew from below_drewN HB4.out 1)
    have HSW:=Lib.hid HH.out.2.size
    have HBW:=Lib.hid (HH.out.2.trans (HBD.out.mono HSW.out))
    have HOD:=Lib.hid (HH.out.1.below HBD.out)
    have HVD:=Lib.hid (HV.out.below HBD.out)
    have cd:w4.drew.cell? ⟨b,o+j,none⟩=some (.slice (some ⟨b3,o3,none⟩) pl pc):=(kept_below HBD.out).cell cc (fun h=> h)
    have ce:w4.drew.cell? ⟨bk,ok+j,none⟩=some (.string (sb key)):=(kept_below HBD.out).cell ck (fun h=> h)
    have HNM:=Lib.hid (own_any HNL.out (jo_rnamed w4.drew ⟨b3,o3,none⟩ pl pc prow HVD.out (by have:=HL9.out;omega) HP0.out key))
    have HSD:=Lib.hid (show w.heap.size≤w4.drew.heap.size from HBW.out.size)
    clear HH HV HB4 HBD HVD HSW cc ck
    go_region_law (first
     | (with_reducible refine step_append_valsM rfl _ _ rfl w.heap.size (.slice (some ⟨gb,0,none⟩) (x+1) k) (⟨kind,[],[],n⟩::zipN ks Q j) rfl HO12.out ⟨g12,0,none⟩ pl k12 (named key prow) rfl HV12.out (by rw [HLL.out];have:=HL9.out;omega) HS12.out ?_;intro v5 w5 h1 h2 h3;have hg5:=h1.out.got (by rw [HL5.out];omega);rw [HL5.out]at hg5;obtain ⟨g5,k5,rfl, -⟩:=hg5;rw [List.cons_append,←HZ1.out]at h1;have HB14:=Lib.hid (HB13.out.trans (below_of_kept h2.out HS12.out (fun i hi e=> by omega)));clear h2 h3)
     | (refine step_callM rfl 68 #[.slice (some ⟨b3,o3,none⟩) pl pc, .string (sb key)] (by first | rfl | kernel_rfl) HNM.out ?_;rintro e w12 ⟨A12,k12,rfl,HH12⟩;have HB13:=Lib.hid (HBW.out.trans (HH12.out.2.2.mono HSD.out));have HO12:=Lib.hid (HOD.out.below HH12.out.2.2);have HS12:=Lib.hid (show w.heap.size≤w12.heap.size from Nat.le_trans HSD.out HH12.out.2.2.size);have hg12:=HH12.out.1.got (by rw [HNL.out];exact HP0.out);obtain ⟨g12,k13,e12, -⟩:=hg12;simp only [Value.slice.injEq]at e12;obtain ⟨rfl, -, -⟩:=e12;have HV12:=Lib.hid HH12.out.2.1;clear HH12;refine ⟨_,rfl, ?_⟩))
    all_goals
     go_wp2_with fail
     go_roundg g
     case measure=> omega
     case rel=> exact ⟨j+1,x+pl,g5,k5,rfl,by go_num,by omega,by have:=HL9.out;omega,HX2,HRV2,Lib.hid ⟨h1.out,HB14.out⟩⟩
set_option maxRecDepth 100000 in
set_option maxHeartbeats 4000000 in
theorem jo_rlist (w:World) (A:Option Addr) (n c:Nat) (Q:List Pc) (hQ:SlsAt w A n c Q) (hn:n≤4000) (hs:∀p∈Q,Short 1000000000 p.row) (hl:(rowsOf Q).flatten.length≤4000):
  Calls Tryz.prog 82 #[.slice A n c] w fun e w'=> ∃v',e= .returned v'∧Hid (OwnVals w' w.heap.size v' (listA (rowsOf Q))∧Below w.heap.size w w'):=by
 have hmk:=make_strs n (by omega)
 have HBA:=Lib.hid (below_alloc' w (.cells (List.replicate n (.string ⟨#[]⟩)).toArray 9))
 have HM:=Lib.hid (jo_rmade _ 5 _ n n _ (StrsAt.made w n) (fun k hk=> by rw [List.eq_of_mem_replicate hk];exact Nat.zero_le _) A c Q (hQ.below HBA.out) hn hs hl)
 have hr:List.replicate n ([]:List UInt8)=List.replicate (rowsOf Q).length []:=by rw [rowsOf_len,hQ.len]
 rw [hr,made_list]at HM
 have hn9:(n:Int)≤4000:=by omega
 clear hr hs hl hQ
 go_enter Tryz.func82,Tryz.ntmps82
 go_wp2_with fail
 refine HM.out.mono ?_
 rintro e w4 ⟨v4,rfl,HH⟩
 go_wp2_with fail
 go_ret
 exact ⟨_,rfl,Lib.hid ⟨HH.out.1.mono HBA.out.size,HBA.out.trans (HH.out.2.mono HBA.out.size)⟩⟩
set_option maxRecDepth 100000 in
set_option maxHeartbeats 4000000 in
theorem jo_robject (w:World) (A:Option Addr) (n c:Nat) (ks:List (List UInt8)) (hK:StrsAt w A n c ks) (hk:∀k∈ks,k.length≤1000000000) (A2:Option Addr) (n2 c2:Nat) (Q:List Pc) (hQ:SlsAt w A2 n2 c2 Q) (hn:n2≤4000) (hs:∀p∈Q,Short 1000000000 p.row) (hl:(rowsOf Q).flatten.length≤4000):
  Calls Tryz.prog 118 #[.slice A n c, .slice A2 n2 c2] w fun e w'=> ∃v',e= .returned v'∧Hid (OwnVals w' w.heap.size v' (objA ks (rowsOf Q))∧Below w.heap.size w w'):=by
 by_cases h:n=n2
 ·subst h
  have HM:=Lib.hid (jo_rmade w 6 A n c ks hK hk A2 c2 Q hQ hn hs hl)
  rw [made_obj ks _ (by rw [rowsOf_len,hK.len,hQ.len])]at HM
  have hb:((n:Int) !=(n:Int))=false:=by simp
  clear hK hk hQ hs hl
  go_enter Tryz.func118,Tryz.ntmps118
  go_wp2_with fail
  refine HM.out.mono ?_
  rintro e w4 ⟨v4,rfl,HH⟩
  clear HM
  go_wp2_with fail
  go_ret
  exact ⟨_,rfl,HH⟩
 ·have hne:objA ks (rowsOf Q)=[]:=by
   unfold objA
   rw [if_neg (fun e=> h (by have:=e.2;rw [rowsOf_len,hK.len,hQ.len]at this;exact this))]
  rw [hne]
  have hni:¬(n:Int)=(n2:Int):=by omega
  have hb:((n:Int) !=(n2:Int))=true:=bne_iff_ne.2 hni
  clear hK hk hQ hs hl hne
  go_enter Tryz.func118,Tryz.ntmps118
  go_wp2_with fail
  go_ret
  exact ⟨_,rfl,Lib.hid ⟨OwnVals.nil _ _,Below.refl _ _⟩⟩
end Go.Proofs.YtgmangikcfakgaaGreatDoor
