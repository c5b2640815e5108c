import Derived.Test.YtgmangikcfakgaaGreatDoorPL40
import Derived.Test.YtgmangikcfakgaaGreatDoorPL41
namespace Go.Proofs.YtgmangikcfakgaaGreatDoor
open Go.RowKit Sh Jt Js Jo
set_option maxRecDepth 100000
set_option maxHeartbeats 40000000 in
theorem cf_parseS (w:World) (A:Option Addr) (n c:Nat) (bs:List UInt8) (hB:BytesAt w A n c bs) (hn:n≤1000000000) (hSH:∀k l r,parseF bs= .ok k l r→Short 1000000000 l) (hE:CEnv w):
  Calls Tryz.prog 9 #[.slice A n c] w (ConfPost w (parseC bs)):=by
 obtain ⟨R,hR⟩:∃R,parseC bs=R:=⟨_,rfl⟩
 rw [hR]
 have HR:=Lib.hid hR
 have HE:=Lib.hid (fun W (q:Below w.heap.size w W)=> hE.below q)
 have HPA:=Lib.hid (fun W (q:Below w.heap.size w W)=> js_parse W A n c bs (hB.below q) (by omega) (hE.below q).js)
 have HSH:=Lib.hid hSH
 clear hR hB hE hSH
 unfold parseC at HR
 generalize hQ:parseF bs=Q at*
 have HQ:=Lib.hid hQ
 clear hQ
 go_enter Tryz.func9,Tryz.ntmps9
 go_upto_region 1 with fail
 have P0:Hid (RcAt w (w.alloc (Obj.cells cz.toArray 28))):=Lib.hid (RcAt.new w rfl)
 generalize hW0:w.alloc (Obj.cells cz.toArray 28)=w0 at P0
 generalize hW:World.alloc _ _=W'
 obtain rfl:w0=W':=hW0.symm.trans hW
 clear hW hW0
 go_wp2_with fail
 refine (HPA.out w0 P0.out.below).mono ?_
 intro e w1 hp
 cases Q with
 | err k=>
  obtain ⟨rfl,hk,K1⟩:=hp
  have P1:=Lib.hid (P0.out.next K1)
  have HRR:Hid (R= .err k):=Lib.hid HR.out.symm
  have hb:((k:Int) !=0)=true:=by rw [bne_iff_ne];omega
  clear P0 K1 HPA HR
  have HK:=Lib.hid hk
  clear hk
  go_wp2_with (first
   | ((with_reducible refine build_all ?_ 28 #[] ?_ cz.toArray ?_ ?_);rfl;rfl;go_must (refine Eq.trans ?_ built_confZ;kernel_rfl))
   | ((with_reducible refine store_all ?_ 28 (.tmp 2) (.tmp 17) ?_ w.heap.size cz ?_ ?_ cz ?_ ?_ ?_ ?_ ?_);rfl;rfl;go_must (rfl;rfl;rfl;exact P1.out.res;exact cf_sizeC;exact conf_one _ _ _ _ _ _ _ _ _;intro wz Rz Kz Ez)))
  refine bodyPost_ret (v:= .tuple #[.agg cz.toArray, .int .i64 (k:Nat)]) (results_row_tmp (fn:=Tryz.f9) (p:=2) (u:=3) rfl _ _ w.heap.size _ cz.toArray _ _ rfl Rz.out Tryz.underlying28 rfl cf_sizeC) rfl ?_
  rw [HRR.out]
  exact ⟨rfl,HK.out,Lib.hid (own_rowH P1.out.below Kz.out)⟩
 | ok k L r=>
  obtain ⟨v1,rfl,O1,K1⟩:=hp
  have P1:=Lib.hid (P0.out.next K1)
  obtain ⟨A1,c1,rfl,hv1,_⟩:=O1.vals
  have HV1:=Lib.hid hv1
  have hpar:=parse_right HQ.out
  obtain ⟨t,ht⟩:=hpar.2.2
  have hl5:L.length≤5000:=ht.1
  have HS:=Lib.hid (show Short 1000000000 L from HSH.out k L r rfl)
  have HMN:Hid (R=confF L):=Lib.hid HR.out.symm
  clear P0 K1 HPA HR O1 hv1 hpar ht HQ HSH
  have HT1:=Lib.hid (fun W (q:Below w1.heap.size w1 W)=> (HE.out W (P1.out.below.trans (q.mono P1.out.below.size))).tab)
  clear HE
  have HGC:=Lib.hid (fun W (q:Below w1.heap.size w1 W)=> jo_get W A1 L.length c1 L (HV1.out.below q) (by omega) HS.out (HT1.out W q) 0 rootK)
  have HCC:=Lib.hid (fun W (q:Below w1.heap.size w1 W)=> own_any (L:=ofKey L rootK) rfl (jo_cut W A1 L.length c1 L (HV1.out.below q) (by omega) HS.out (HT1.out W q) (plc (getA L 0 rootK))))
  have HGH:=Lib.hid (fun W (q:Below w1.heap.size w1 W)=> jo_get W A1 L.length c1 L (HV1.out.below q) (by omega) HS.out (HT1.out W q) 0 histK)
  have HCH:=Lib.hid (fun W (q:Below w1.heap.size w1 W)=> own_any (L:=ofKey L histK) rfl (jo_cut W A1 L.length c1 L (HV1.out.below q) (by omega) HS.out (HT1.out W q) (plc (getA L 0 histK))))
  have HWO:=Lib.hid (fun W (q:Below w1.heap.size w1 W)=> own_any (L:=sortA (dropA (dropA L rootK) histK)) rfl (cf_without W A1 L.length c1 L (HV1.out.below q) (by omega) HS.out (HT1.out W q) rootK histK))
  have hkor:∀key,ofKey L key=[]∨rightPF (ofKey L key)=true:=fun key=> by
   by_cases h:ofKey L key=[]
   ·exact .inl h
   ·obtain ⟨P,hP⟩:=obj_is (key_isO h)
    exact .inr (key_right hP h)
  have HRR':=Lib.hid (fun W A4 c4 (q:Below w1.heap.size w1 W) (h:ValsAt W A4 (ofKey L rootK).length c4 (ofKey L rootK))=> cf_readRoot W A4 _ c4 (ofKey L rootK) h (by have:=cutA_len L (plc (getA L 0 rootK));show (cutA L (plc (getA L 0 rootK))).length≤5000;omega) (short_cutC HS.out _) (HT1.out W q) (hkor rootK))
  have HRH:=Lib.hid (fun W A4 c4 (q:Below w1.heap.size w1 W) (h:ValsAt W A4 (ofKey L histK).length c4 (ofKey L histK))=> show Calls _ _ _ _ (HistPost W (histF L))from cf_readHistory W A4 _ c4 (ofKey L histK) h (by have:=cutA_len L (plc (getA L 0 histK));show (cutA L (plc (getA L 0 histK))).length≤5000;omega) (short_cutC HS.out _) (HT1.out W q) (hkor histK))
  have HX3:=Lib.hid (fun (h:idsF (ofKey L rootK)≠none)=> conf_sort (L:=L) h)
  change Hid (∀W,_→Calls _ _ #[_,_, .string ⟨#[114,111,111,116,102,115]⟩] _ _)at HGC
  change Hid (∀W,_→Calls _ _ #[_,_, .string ⟨#[104,105,115,116,111,114,121]⟩] _ _)at HGH
  change Hid (∀W,_→Calls _ _ #[_, .string ⟨#[114,111,111,116,102,115]⟩, .string ⟨#[104,105,115,116,111,114,121]⟩] _ _)at HWO
  have HMO:Hid (R=match idsF (ofKey L rootK),histF L with
   | some d,some h=> if 60 < d.length∨200 < h.length then .err 2 else if 0 < h.length∧layersN h≠d.length then .err 3 else .ok ⟨d,h,srt (dropA (dropA L rootK) histK)⟩
   | _,_=> .err 3):=HMN
  clear HS HV1 hkor HMN
  have B1:=Lib.hid (Below.refl w1.heap.size w1)
  go_wp2_with fail
  refine (HGC.out w1 B1.out).mono ?_
  rintro e w3 ⟨rfl,K3⟩
  have P3:=Lib.hid (P1.out.next K3.out)
  have B3:=Lib.hid (B1.out.trans (K3.out.mono B1.out.size))
  clear P1 K3 HGC B1
  go_wp2_with fail
  refine (HCC.out w3 B3.out).mono ?_
  rintro e w4 ⟨A4,c4,rfl,K4⟩
  have P4:=Lib.hid (P3.out.next K4.out.2.2)
  have B4:=Lib.hid (B3.out.trans (K4.out.2.2.mono B3.out.size))
  have HRX:=Lib.hid (HRR'.out w4 A4 c4 B4.out K4.out.2.1)
  clear P3 K4 HCC B3 HRR'
  generalize plc (getA L 0 rootK)=zc at*
  generalize (ofKey L rootK).length=xk at*
  generalize idsF (ofKey L rootK)=o1 at*
  go_wp2_with fail
  refine HRX.out.mono ?_
  rintro e w5 ⟨v6,rfl,K5⟩
  have P5:=Lib.hid (P4.out.next K5.out.2)
  have B5:=Lib.hid (B4.out.trans (K5.out.2.mono B4.out.size))
  have O5:=Lib.hid K5.out.1
  have hq4:w.heap.size < w4.heap.size:=P4.out.res.lt
  clear P4 K5 HRX B4
  go_wp2_with fail
  refine (HGH.out w5 B5.out).mono ?_
  rintro e w5b ⟨rfl,K5b⟩
  have P5b:=Lib.hid (P5.out.next K5b.out)
  have B5b:=Lib.hid (B5.out.trans (K5b.out.mono B5.out.size))
  have O5b:=Lib.hid (O5.out.below K5b.out)
  clear P5 K5b HGH B5 O5
  go_wp2_with fail
  refine (HCH.out w5b B5b.out).mono ?_
  rintro e w5c ⟨A5c,c5c,rfl,K5c⟩
  have P5c:=Lib.hid (P5b.out.next K5c.out.2.2)
  have B5c:=Lib.hid (B5b.out.trans (K5c.out.2.2.mono B5b.out.size))
  have O5c:=Lib.hid (O5b.out.below K5c.out.2.2)
  have HHX:=Lib.hid (HRH.out w5c A5c c5c B5c.out K5c.out.2.1)
  clear P5b K5c HCH B5b O5b HRH
  generalize plc (getA L 0 histK)=zh at*
  generalize (ofKey L histK).length=xh at*
  go_wp2_with fail
  refine HHX.out.mono ?_
  rintro e w6 ⟨v8,Q8,rfl,HQ8,K6⟩
  have P6:=Lib.hid (P5c.out.next K6.out.2)
  have B6:=Lib.hid (B5c.out.trans (K6.out.2.mono B5c.out.size))
  have O6:=Lib.hid (O5c.out.below K6.out.2)
  have OH6:=Lib.hid K6.out.1
  have hq5:w.heap.size < w5c.heap.size:=P5c.out.res.lt
  clear P5c K6 HHX B5c O5c
  generalize histF L=o2 at*
  cases o1 with
  | none=>
   have HRR:Hid (R= .err 3):=HMO
   simp only [Option.isSome_none]
   generalize o2.isSome=b2
   clear HMO HX3 O6 OH6 HWO
   go_wp2_with (first
    | ((with_reducible refine build_all ?_ 28 #[] ?_ cz.toArray ?_ ?_);rfl;rfl;go_must (refine Eq.trans ?_ built_confZ;kernel_rfl))
    | ((with_reducible refine store_all ?_ 28 (.tmp 2) (.tmp 41) ?_ w.heap.size cz ?_ ?_ cz ?_ ?_ ?_ ?_ ?_);rfl;rfl;go_must (rfl;rfl;rfl;exact P6.out.res;exact cf_sizeC;exact conf_one _ _ _ _ _ _ _ _ _;intro wz Rz Kz Ez)))
   refine bodyPost_ret (v:= .tuple #[.agg cz.toArray, .int .i64 (3:Int)]) (results_row_tmp (fn:=Tryz.f9) (p:=2) (u:=3) rfl _ _ w.heap.size _ cz.toArray _ _ rfl Rz.out Tryz.underlying28 rfl cf_sizeC) rfl ?_
   rw [HRR.out]
   exact ⟨rfl,by decide,Lib.hid (own_rowH P6.out.below Kz.out)⟩
  | some d=>
   simp only [Option.isSome_some]
   cases o2 with
   | none=>
    have HRR:Hid (R= .err 3):=HMO
    simp only [Option.isSome_none]
    clear HMO HX3 O6 OH6 HWO
    go_wp2_with (first
     | ((with_reducible refine build_all ?_ 28 #[] ?_ cz.toArray ?_ ?_);rfl;rfl;go_must (refine Eq.trans ?_ built_confZ;kernel_rfl))
     | ((with_reducible refine store_all ?_ 28 (.tmp 2) (.tmp 41) ?_ w.heap.size cz ?_ ?_ cz ?_ ?_ ?_ ?_ ?_);rfl;rfl;go_must (rfl;rfl;rfl;exact P6.out.res;exact cf_sizeC;exact conf_one _ _ _ _ _ _ _ _ _;intro wz Rz Kz Ez)))
    refine bodyPost_ret (v:= .tuple #[.agg cz.toArray, .int .i64 (3:Int)]) (results_row_tmp (fn:=Tryz.f9) (p:=2) (u:=3) rfl _ _ w.heap.size _ cz.toArray _ _ rfl Rz.out Tryz.underlying28 rfl cf_sizeC) rfl ?_
    rw [HRR.out]
    exact ⟨rfl,by decide,Lib.hid (own_rowH P6.out.below Kz.out)⟩
   | some h=>
    simp only [Option.isSome_some]
    have HMO2:Hid (R=if 60 < d.length∨200 < h.length then .err 2 else if 0 < h.length∧layersN h≠d.length then .err 3 else .ok ⟨d,h,srt (dropA (dropA L rootK) histK)⟩):=HMO
    have HQH:Hid (histsOf Q8=h):=HQ8
    have hqh:h.length=Q8.length:=by rw [←HQH.out];exact List.length_map _
    have HX4:=Lib.hid (HX3.out (fun e=> by cases e))
    clear HMO HQ8 HX3
    obtain ⟨A6,c6,rfl,hg6, -,ha6, -⟩:=(show OwnGs w6 w4.heap.size v6 d from O6.out).gs
    have HA6:=Lib.hid (fun b o (e:A6=some ⟨b,o,none⟩)=> show w.heap.size < b from by
     obtain ⟨g,e2,h1,_⟩:=ha6 _ e
     cases e2
     omega)
    obtain ⟨A8,c8,rfl,hh8,ha8⟩:=OH6.out.hists
    have HA8:=Lib.hid (fun b o (e:A8=some ⟨b,o,none⟩)=> show w.heap.size < b from by have:=ha8 b o e;omega)
    have HB8:=Lib.hid (fun q (hq:q∈Q8) b o (e:q.rest.at_=some ⟨b,o,none⟩)=> show w.heap.size < b from by have:=OH6.out.base q hq b o e;omega)
    clear ha6 ha8
    have HG6:=Lib.hid hg6
    have HH6:=Lib.hid hh8
    clear O6 OH6 hg6 hh8
    go_wp2_with fail
    refine (cf_areFew w6 A6 d.length c6 A8 Q8.length c8).mono ?_
    rintro e w7 ⟨rfl,K7⟩
    have P7:=Lib.hid (P6.out.next K7.out)
    have B7:=Lib.hid (B6.out.trans (K7.out.mono B6.out.size))
    have HG7:=Lib.hid (HG6.out.below K7.out)
    have HH7:=Lib.hid (HH6.out.below K7.out)
    clear P6 B6 HG6 HH6 K7
    by_cases gfew:d.length≤60∧Q8.length≤200
    case neg=>
     have HRR:Hid (R= .err 2):=Lib.hid (by rw [HMO2.out,if_pos (by omega)])
     rw [decide_eq_false gfew]
     clear HMO2 HX4 gfew
     go_wp2_with (first
      | ((with_reducible refine build_all ?_ 28 #[] ?_ cz.toArray ?_ ?_);rfl;rfl;go_must (refine Eq.trans ?_ built_confZ;kernel_rfl))
      | ((with_reducible refine store_all ?_ 28 (.tmp 2) (.tmp 46) ?_ w.heap.size cz ?_ ?_ cz ?_ ?_ ?_ ?_ ?_);rfl;rfl;go_must (rfl;rfl;rfl;exact P7.out.res;exact cf_sizeC;exact conf_one _ _ _ _ _ _ _ _ _;intro wz Rz Kz Ez)))
     refine bodyPost_ret (v:= .tuple #[.agg cz.toArray, .int .i64 (2:Int)]) (results_row_tmp (fn:=Tryz.f9) (p:=2) (u:=3) rfl _ _ w.heap.size _ cz.toArray _ _ rfl Rz.out Tryz.underlying28 rfl cf_sizeC) rfl ?_
     rw [HRR.out]
     exact ⟨rfl,by decide,Lib.hid (own_rowH P7.out.below Kz.out)⟩
    rw [decide_eq_true gfew]
    have HM3:Hid (R=if 0 < h.length∧layersN h≠d.length then .err 3 else .ok ⟨d,h,srt (dropA (dropA L rootK) histK)⟩):=Lib.hid (by rw [HMO2.out,if_neg (by omega)])
    clear HMO2
    have HAM:=Lib.hid (cf_areMatched w7 A6 d.length c6 A8 Q8.length c8 Q8 HH7.out (by omega))
    rw [HQH.out]at HAM
    go_wp2_with fail
    refine HAM.out.mono ?_
    rintro e w8 ⟨rfl,K8⟩
    have P8:=Lib.hid (P7.out.next K8.out)
    have B8:=Lib.hid (B7.out.trans (K8.out.mono B7.out.size))
    have HG8:=Lib.hid (HG7.out.below K8.out)
    have HH8:=Lib.hid (HH7.out.below K8.out)
    clear P7 B7 HG7 HH7 K8 HAM
    by_cases gma:0 < Q8.length→layersN h=d.length
    case neg=>
     have HRR:Hid (R= .err 3):=Lib.hid (by rw [HM3.out,if_pos (by rw [hqh];exact Classical.not_imp.1 gma)])
     rw [decide_eq_false gma]
     clear HM3 HX4 gma
     go_wp2_with (first
      | ((with_reducible refine build_all ?_ 28 #[] ?_ cz.toArray ?_ ?_);rfl;rfl;go_must (refine Eq.trans ?_ built_confZ;kernel_rfl))
      | ((with_reducible refine store_all ?_ 28 (.tmp 2) (.tmp 51) ?_ w.heap.size cz ?_ ?_ cz ?_ ?_ ?_ ?_ ?_);rfl;rfl;go_must (rfl;rfl;rfl;exact P8.out.res;exact cf_sizeC;exact conf_one _ _ _ _ _ _ _ _ _;intro wz Rz Kz Ez)))
     refine bodyPost_ret (v:= .tuple #[.agg cz.toArray, .int .i64 (3:Int)]) (results_row_tmp (fn:=Tryz.f9) (p:=2) (u:=3) rfl _ _ w.heap.size _ cz.toArray _ _ rfl Rz.out Tryz.underlying28 rfl cf_sizeC) rfl ?_
     rw [HRR.out]
     exact ⟨rfl,by decide,Lib.hid (own_rowH P8.out.below Kz.out)⟩
    rw [decide_eq_true gma]
    have HRR:Hid (R= .ok ⟨d,h,srt (dropA (dropA L rootK) histK)⟩):=Lib.hid (by rw [HM3.out,if_neg (by rw [hqh];exact fun e=> e.2 (gma e.1))])
    clear HM3 gma
    generalize dropA (dropA L rootK) histK=X2 at*
    go_wp2_with fail
    refine (HWO.out w8 B8.out).mono ?_
    rintro e w12 ⟨A12,c12,rfl,K12⟩
    have P12:=Lib.hid (P8.out.next K12.out.2.2)
    have HG12:=Lib.hid (HG8.out.below K12.out.2.2)
    have HH12:=Lib.hid (HH8.out.below K12.out.2.2)
    have HR12:=Lib.hid K12.out.2.1
    have hq11:w.heap.size < w8.heap.size:=P8.out.res.lt
    have HA12:=Lib.hid (fun b o (e:A12=some ⟨b,o,none⟩)=> show w.heap.size < b from by have:=(K12.out.1.block (show (Value.slice A12 (sortA X2).length c12).ownBlock=some b from by rw [e];rfl)).1;omega)
    clear P8 K12 HG8 HH8 B8 HWO
    generalize hsx:(sortA X2).length=sx at*
    have HSX:=Lib.hid hsx
    clear hsx
    generalize hsq:Q8.length=nq at*
    have HSQ:=Lib.hid hsq
    clear hsq
    generalize hsd:d.length=nd at*
    have HSDD:=Lib.hid hsd
    clear hsd
    go_wp2_with (first
     | ((with_reducible refine build_all ?_ 28 #[(0, .tmp 52),(1, .tmp 53),(2, .tmp 55)] ?_ #[.slice A6 nd c6, .slice A8 nq c8, .slice A12 sx c12] ?_ ?_);rfl;rfl;go_must (refine Eq.trans ?_ (built_conf A6 nd c6 A8 nq c8 A12 sx c12);kernel_rfl))
     | ((with_reducible refine store_all ?_ 28 (.tmp 2) (.tmp 56) ?_ w.heap.size [.slice A6 nd c6, .slice A8 nq c8, .slice A12 sx c12] ?_ ?_ cz ?_ ?_ ?_ ?_ ?_);rfl;rfl;go_must (rfl;rfl;rfl;exact P12.out.res;exact cf_sizeC;exact conf_one _ _ _ _ _ _ _ _ _;intro wz Rz Kz Ez)))
    refine bodyPost_ret (v:= .tuple #[.agg #[.slice A6 nd c6, .slice A8 nq c8, .slice A12 sx c12], .int .i64 0]) (results_row_tmp (fn:=Tryz.f9) (p:=2) (u:=3) rfl _ _ w.heap.size _ #[.slice A6 nd c6, .slice A8 nq c8, .slice A12 sx c12] _ _ rfl Rz.out Tryz.underlying28 rfl cf_sizeC) rfl ?_
    rw [HRR.out]
    refine ⟨Q8,A6,c6,A8,c8,A12,c12, ?_,Lib.hid ⟨?_,own_rowH P12.out.below Kz.out⟩⟩
    ·show _=Ending.returned (.tuple #[.agg #[.slice A6 d.length c6, .slice A8 Q8.length c8, .slice A12 (srt X2).length c12], .int .i64 0])
     rw [HSDD.out,HSQ.out,←HX4.out,HSX.out]
    ·show ConfIn wz ⟨d,h,srt X2⟩ Q8 A6 d.length c6 A8 Q8.length c8 A12 (srt X2).length c12
     rw [HSDD.out,HSQ.out,←HX4.out,HSX.out]
     refine ⟨HG12.out.kept Kz.out (fun b o e _ h=> ?_),HH12.out.kept Kz.out (fun b o e _ h=> ?_) (fun q hq b o e _ h=> ?_),HQH.out,HR12.out.kept Kz.out (fun b o e _ h=> ?_)⟩
     ·have:=HA6.out b o e;omega
     ·have:=HA8.out b o e;omega
     ·have:=HB8.out q hq b o e;omega
     ·have:=HA12.out b o e;omega
theorem cf_parse (w:World) (A:Option Addr) (n c:Nat) (bs:List UInt8) (hB:BytesAt w A n c bs) (hn:n≤250000000) (hE:CEnv w):
  Calls Tryz.prog 9 #[.slice A n c] w (ConfPost w (parseC bs)):=
 cf_parseS w A n c bs hB (by omega) (fun _ _ _ h=> short_more (parse_short h) (by have:=hB.len;omega)) hE
end Go.Proofs.YtgmangikcfakgaaGreatDoor
