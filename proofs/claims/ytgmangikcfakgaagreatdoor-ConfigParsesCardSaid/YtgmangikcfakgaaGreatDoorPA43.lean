import Derived.Test.YtgmangikcfakgaaGreatDoorPA38
import Derived.Test.YtgmangikcfakgaaGreatDoorPA39
import Derived.Test.YtgmangikcfakgaaGreatDoorPA42
set_option maxRecDepth 100000
set_option maxHeartbeats 40000000
namespace Go.Proofs.YtgmangikcfakgaaGreatDoor
open Go.RowKit Sh Jt Js Jo
theorem qm0 (w:World) (A:Option Addr) (n c:Nat) (bs:List UInt8) (hB:BytesAt w A n c bs) (hn:n≤1000000000) (hSH:∀k l r,parseF bs= .ok k l r→Short 1000000000 l) (hE:CEnv w):
  Calls Tryz.prog 9 #[.slice A n c] w (ConfPost w (parseC bs)):=by
 obtain ⟨R,hR⟩:∃R,parseC bs=R:=⟨_,rfl⟩
 rw [hR]
 have HR:=Qh hR
 have HE:=Qh (fun W (q:Below w.heap.size w W)=> hE.below q)
 have HPA:=Qh (fun W (q:Below w.heap.size w W)=> q0h W A n c bs (hB.below q) (by omega) (hE.below q).js)
 have HSH:=Qh hSH
 clear hR hB hE hSH
 unfold parseC at HR
 generalize hQ:parseF bs=Q at*
 have HQ:=Qh hQ
 clear hQ
 go_enter Tryz.func9,Tryz.ntmps9
 go_upto_region 1 with fail
 have P0:Hid (RcAt w (w.alloc (Obj.cells cz.toArray 28))):=Qh (RcAt.new w rfl)
 generalize hW0:w.alloc (Obj.cells cz.toArray 28)=w0 at P0
 generalize hW:World.alloc _ _=W'
 obtain rfl:w0=W':=hW0.symm.trans hW
 clear hW hW0
 go_wp2_with fail
 refine (HPA.out w0 P0.out.below).mono ?_
 intro e w1 hp
 cases Q with
 | err k=>
  obtain ⟨rfl,hk,K1⟩:=hp
  have P1:=Qh (P0.out.next K1)
  have HRR:Hid (R= .err k):=Qh HR.out.symm
  have hb:((k:Int) !=0)=true:=by rw [bne_iff_ne];omega
  clear P0 K1 HPA HR;have HK:=Qh hk
  clear hk;go_wp2_with (first
   | ((with_reducible refine qao ?_ 28 #[] ?_ cz.toArray ?_ ?_);rfl;rfl;go_must (refine Eq.trans ?_ qa9;kernel_rfl))
   | ((with_reducible refine qaf ?_ 28 (.tmp 2) (.tmp 17) ?_ w.heap.size cz ?_ ?_ cz ?_ ?_ ?_ ?_ ?_);rfl;rfl;go_must (rfl;rfl;rfl;exact P1.out.res;exact qah;exact qau _ _ _ _ _ _ _ _ _;intro wz Rz Kz Ez)))
  refine bodyPost_ret (v:= .tuple #[.agg cz.toArray, .int .i64 (k:Nat)]) (qae (fn:=Tryz.f9) (p:=2) (u:=3) rfl _ _ w.heap.size _ cz.toArray _ _ rfl Rz.out Tryz.underlying28 rfl qah) rfl ?_
  rw [HRR.out];exact ⟨rfl,HK.out,Qh (qap P1.out.below Kz.out)⟩
 | ok k L r=>
  obtain ⟨v1,rfl,O1,K1⟩:=hp
  have P1:=Qh (P0.out.next K1)
  obtain ⟨A1,c1,rfl,hv1,_⟩:=O1.vals
  have HV1:=Qh hv1
  have hpar:=qd7 HQ.out
  obtain ⟨t,ht⟩:=hpar.2.2
  have hl5:L.length≤5000:=ht.1
  have HS:=Qh (show Short 1000000000 L from HSH.out k L r rfl)
  have HMN:Hid (R=confF L):=Qh HR.out.symm
  clear P0 K1 HPA HR O1 hv1 hpar ht HQ HSH;have HT1:=Qh (fun W (q:Below w1.heap.size w1 W)=> (HE.out W (P1.out.below.trans (q.mono P1.out.below.size))).tab)
  clear HE;have HGC:=Qh (fun W (q:Below w1.heap.size w1 W)=> qcz W A1 L.length c1 L (HV1.out.below q) (by omega) HS.out (HT1.out W q) 0 rootK)
  have HCC:=Qh (fun W (q:Below w1.heap.size w1 W)=> qaj (L:=ofKey L rootK) rfl (qp0 W A1 L.length c1 L (HV1.out.below q) (by omega) HS.out (HT1.out W q) (plc (getA L 0 rootK))))
  have HGH:=Qh (fun W (q:Below w1.heap.size w1 W)=> qcz W A1 L.length c1 L (HV1.out.below q) (by omega) HS.out (HT1.out W q) 0 histK)
  have HCH:=Qh (fun W (q:Below w1.heap.size w1 W)=> qaj (L:=ofKey L histK) rfl (qp0 W A1 L.length c1 L (HV1.out.below q) (by omega) HS.out (HT1.out W q) (plc (getA L 0 histK))))
  have HWO:=Qh (fun W (q:Below w1.heap.size w1 W)=> qaj (L:=sortA (dropA (dropA L rootK) histK)) rfl (qk5 W A1 L.length c1 L (HV1.out.below q) (by omega) HS.out (HT1.out W q) rootK histK))
  have hkor:∀key,ofKey L key=[]∨rightPF (ofKey L key)=true:=fun key=> by
   by_cases h:ofKey L key=[]
   ·exact .inl h
   ·obtain ⟨P,hP⟩:=qbn (qcv h)
    exact .inr (qfu hP h)
  have HRR':=Qh (fun W A4 c4 (q:Below w1.heap.size w1 W) (h:ValsAt W A4 (ofKey L rootK).length c4 (ofKey L rootK))=> qrh W A4 _ c4 (ofKey L rootK) h (by have:=qc6 L (plc (getA L 0 rootK));show (cutA L (plc (getA L 0 rootK))).length≤5000;omega) (qb4 HS.out _) (HT1.out W q) (hkor rootK))
  have HRH:=Qh (fun W A4 c4 (q:Below w1.heap.size w1 W) (h:ValsAt W A4 (ofKey L histK).length c4 (ofKey L histK))=> show Calls _ _ _ _ (HistPost W (histF L))from qly W A4 _ c4 (ofKey L histK) h (by have:=qc6 L (plc (getA L 0 histK));show (cutA L (plc (getA L 0 histK))).length≤5000;omega) (qb4 HS.out _) (HT1.out W q) (hkor histK))
  have HX3:=Qh (fun (h:idsF (ofKey L rootK)≠none)=> qmn (L:=L) h)
  change Hid (∀W,_→Calls _ _ #[_,_, .string ⟨#[114,111,111,116,102,115]⟩] _ _)at HGC
  change Hid (∀W,_→Calls _ _ #[_,_, .string ⟨#[104,105,115,116,111,114,121]⟩] _ _)at HGH
  change Hid (∀W,_→Calls _ _ #[_, .string ⟨#[114,111,111,116,102,115]⟩, .string ⟨#[104,105,115,116,111,114,121]⟩] _ _)at HWO
  have HMO:Hid (R=match idsF (ofKey L rootK),histF L with
   | some d,some h=> if 60 < d.length∨200 < h.length then .err 2 else if 0 < h.length∧layersN h≠d.length then .err 3 else .ok ⟨d,h,srt (dropA (dropA L rootK) histK)⟩
   | _,_=> .err 3):=HMN
  clear HS HV1 hkor HMN;have B1:=Qh (Below.refl w1.heap.size w1)
  go_wp2_with fail;refine (HGC.out w1 B1.out).mono ?_
  rintro e w3 ⟨rfl,K3⟩;have P3:=Qh (P1.out.next K3.out)
  have B3:=Qh (B1.out.trans (K3.out.mono B1.out.size))
  clear P1 K3 HGC B1;go_wp2_with fail;refine (HCC.out w3 B3.out).mono ?_
  rintro e w4 ⟨A4,c4,rfl,K4⟩;have P4:=Qh (P3.out.next K4.out.2.2)
  have B4:=Qh (B3.out.trans (K4.out.2.2.mono B3.out.size))
  have HRX:=Qh (HRR'.out w4 A4 c4 B4.out K4.out.2.1)
  clear P3 K4 HCC B3 HRR';generalize plc (getA L 0 rootK)=zc at*;generalize (ofKey L rootK).length=xk at*;generalize idsF (ofKey L rootK)=o1 at*;go_wp2_with fail;refine HRX.out.mono ?_
  rintro e w5 ⟨v6,rfl,K5⟩;have P5:=Qh (P4.out.next K5.out.2)
  have B5:=Qh (B4.out.trans (K5.out.2.mono B4.out.size))
  have O5:=Qh K5.out.1
  have hq4:w.heap.size < w4.heap.size:=P4.out.res.lt
  clear P4 K5 HRX B4;go_wp2_with fail;refine (HGH.out w5 B5.out).mono ?_
  rintro e w5b ⟨rfl,K5b⟩;have P5b:=Qh (P5.out.next K5b.out)
  have B5b:=Qh (B5.out.trans (K5b.out.mono B5.out.size))
  have O5b:=Qh (O5.out.below K5b.out)
  clear P5 K5b HGH B5 O5;go_wp2_with fail;refine (HCH.out w5b B5b.out).mono ?_
  rintro e w5c ⟨A5c,c5c,rfl,K5c⟩;have P5c:=Qh (P5b.out.next K5c.out.2.2)
  have B5c:=Qh (B5b.out.trans (K5c.out.2.2.mono B5b.out.size))
  have O5c:=Qh (O5b.out.below K5c.out.2.2)
  have HHX:=Qh (HRH.out w5c A5c c5c B5c.out K5c.out.2.1)
  clear P5b K5c HCH B5b O5b HRH;generalize plc (getA L 0 histK)=zh at*;generalize (ofKey L histK).length=xh at*;go_wp2_with fail;refine HHX.out.mono ?_
  rintro e w6 ⟨v8,Q8,rfl,HQ8,K6⟩;have P6:=Qh (P5c.out.next K6.out.2)
  have B6:=Qh (B5c.out.trans (K6.out.2.mono B5c.out.size))
  have O6:=Qh (O5c.out.below K6.out.2)
  have OH6:=Qh K6.out.1
  have hq5:w.heap.size < w5c.heap.size:=P5c.out.res.lt
  clear P5c K6 HHX B5c O5c;generalize histF L=o2 at*;cases o1 with
  | none=>
   have HRR:Hid (R= .err 3):=HMO
   simp only [Option.isSome_none]
   generalize o2.isSome=b2;clear HMO HX3 O6 OH6 HWO;go_wp2_with (first
    | ((with_reducible refine qao ?_ 28 #[] ?_ cz.toArray ?_ ?_);rfl;rfl;go_must (refine Eq.trans ?_ qa9;kernel_rfl))
    | ((with_reducible refine qaf ?_ 28 (.tmp 2) (.tmp 41) ?_ w.heap.size cz ?_ ?_ cz ?_ ?_ ?_ ?_ ?_);rfl;rfl;go_must (rfl;rfl;rfl;exact P6.out.res;exact qah;exact qau _ _ _ _ _ _ _ _ _;intro wz Rz Kz Ez)))
   refine bodyPost_ret (v:= .tuple #[.agg cz.toArray, .int .i64 (3:Int)]) (qae (fn:=Tryz.f9) (p:=2) (u:=3) rfl _ _ w.heap.size _ cz.toArray _ _ rfl Rz.out Tryz.underlying28 rfl qah) rfl ?_
   rw [HRR.out];exact ⟨rfl,by decide,Qh (qap P6.out.below Kz.out)⟩
  | some d=>
   simp only [Option.isSome_some]
   cases o2 with
   | none=>
    have HRR:Hid (R= .err 3):=HMO
    simp only [Option.isSome_none]
    clear HMO HX3 O6 OH6 HWO;go_wp2_with (first
     | ((with_reducible refine qao ?_ 28 #[] ?_ cz.toArray ?_ ?_);rfl;rfl;go_must (refine Eq.trans ?_ qa9;kernel_rfl))
     | ((with_reducible refine qaf ?_ 28 (.tmp 2) (.tmp 41) ?_ w.heap.size cz ?_ ?_ cz ?_ ?_ ?_ ?_ ?_);rfl;rfl;go_must (rfl;rfl;rfl;exact P6.out.res;exact qah;exact qau _ _ _ _ _ _ _ _ _;intro wz Rz Kz Ez)))
    refine bodyPost_ret (v:= .tuple #[.agg cz.toArray, .int .i64 (3:Int)]) (qae (fn:=Tryz.f9) (p:=2) (u:=3) rfl _ _ w.heap.size _ cz.toArray _ _ rfl Rz.out Tryz.underlying28 rfl qah) rfl ?_
    rw [HRR.out];exact ⟨rfl,by decide,Qh (qap P6.out.below Kz.out)⟩
   | some h=>
    simp only [Option.isSome_some]
    have HMO2:Hid (R=if 60 < d.length∨200 < h.length then .err 2 else if 0 < h.length∧layersN h≠d.length then .err 3 else .ok ⟨d,h,srt (dropA (dropA L rootK) histK)⟩):=HMO
    have HQH:Hid (histsOf Q8=h):=HQ8
    have hqh:h.length=Q8.length:=by rw [←HQH.out];exact List.length_map _
    have HX4:=Qh (HX3.out (fun e=> by cases e))
    clear HMO HQ8 HX3;obtain ⟨A6,c6,rfl,hg6, -,ha6, -⟩:=(show OwnGs w6 w4.heap.size v6 d from O6.out).gs
    have HA6:=Qh (fun b o (e:A6=some ⟨b,o,none⟩)=> show w.heap.size < b from by
     obtain ⟨g,e2,h1,_⟩:=ha6 _ e
     cases e2
     omega)
    obtain ⟨A8,c8,rfl,hh8,ha8⟩:=OH6.out.hists
    have HA8:=Qh (fun b o (e:A8=some ⟨b,o,none⟩)=> show w.heap.size < b from by have:=ha8 b o e;omega)
    have HB8:=Qh (fun q (hq:q∈Q8) b o (e:q.rest.at_=some ⟨b,o,none⟩)=> show w.heap.size < b from by have:=OH6.out.base q hq b o e;omega)
    clear ha6 ha8;have HG6:=Qh hg6
    have HH6:=Qh hh8
    clear O6 OH6 hg6 hh8;go_wp2_with fail;refine (qms w6 A6 d.length c6 A8 Q8.length c8).mono ?_
    rintro e w7 ⟨rfl,K7⟩;have P7:=Qh (P6.out.next K7.out)
    have B7:=Qh (B6.out.trans (K7.out.mono B6.out.size))
    have HG7:=Qh (HG6.out.below K7.out)
    have HH7:=Qh (HH6.out.below K7.out)
    clear P6 B6 HG6 HH6 K7;by_cases gfew:d.length≤60∧Q8.length≤200
    case neg=>
     have HRR:Hid (R= .err 2):=Qh (by rw [HMO2.out,if_pos (by omega)])
     rw [decide_eq_false gfew];clear HMO2 HX4 gfew;go_wp2_with (first
      | ((with_reducible refine qao ?_ 28 #[] ?_ cz.toArray ?_ ?_);rfl;rfl;go_must (refine Eq.trans ?_ qa9;kernel_rfl))
      | ((with_reducible refine qaf ?_ 28 (.tmp 2) (.tmp 46) ?_ w.heap.size cz ?_ ?_ cz ?_ ?_ ?_ ?_ ?_);rfl;rfl;go_must (rfl;rfl;rfl;exact P7.out.res;exact qah;exact qau _ _ _ _ _ _ _ _ _;intro wz Rz Kz Ez)))
     refine bodyPost_ret (v:= .tuple #[.agg cz.toArray, .int .i64 (2:Int)]) (qae (fn:=Tryz.f9) (p:=2) (u:=3) rfl _ _ w.heap.size _ cz.toArray _ _ rfl Rz.out Tryz.underlying28 rfl qah) rfl ?_
     rw [HRR.out];exact ⟨rfl,by decide,Qh (qap P7.out.below Kz.out)⟩
    rw [decide_eq_true gfew];have HM3:Hid (R=if 0 < h.length∧layersN h≠d.length then .err 3 else .ok ⟨d,h,srt (dropA (dropA L rootK) histK)⟩):=Qh (by rw [HMO2.out,if_neg (by omega)])
    clear HMO2;have HAM:=Qh (qhm w7 A6 d.length c6 A8 Q8.length c8 Q8 HH7.out (by omega))
    rw [HQH.out]at HAM
    go_wp2_with fail;refine HAM.out.mono ?_
    rintro e w8 ⟨rfl,K8⟩;have P8:=Qh (P7.out.next K8.out)
    have B8:=Qh (B7.out.trans (K8.out.mono B7.out.size))
    have HG8:=Qh (HG7.out.below K8.out)
    have HH8:=Qh (HH7.out.below K8.out)
    clear P7 B7 HG7 HH7 K8 HAM;by_cases gma:0 < Q8.length→layersN h=d.length
    case neg=>
     have HRR:Hid (R= .err 3):=Qh (by rw [HM3.out,if_pos (by rw [hqh];exact Classical.not_imp.1 gma)])
     rw [decide_eq_false gma];clear HM3 HX4 gma;go_wp2_with (first
      | ((with_reducible refine qao ?_ 28 #[] ?_ cz.toArray ?_ ?_);rfl;rfl;go_must (refine Eq.trans ?_ qa9;kernel_rfl))
      | ((with_reducible refine qaf ?_ 28 (.tmp 2) (.tmp 51) ?_ w.heap.size cz ?_ ?_ cz ?_ ?_ ?_ ?_ ?_);rfl;rfl;go_must (rfl;rfl;rfl;exact P8.out.res;exact qah;exact qau _ _ _ _ _ _ _ _ _;intro wz Rz Kz Ez)))
     refine bodyPost_ret (v:= .tuple #[.agg cz.toArray, .int .i64 (3:Int)]) (qae (fn:=Tryz.f9) (p:=2) (u:=3) rfl _ _ w.heap.size _ cz.toArray _ _ rfl Rz.out Tryz.underlying28 rfl qah) rfl ?_
     rw [HRR.out];exact ⟨rfl,by decide,Qh (qap P8.out.below Kz.out)⟩
    rw [decide_eq_true gma];have HRR:Hid (R= .ok ⟨d,h,srt (dropA (dropA L rootK) histK)⟩):=Qh (by rw [HM3.out,if_neg (by rw [hqh];exact fun e=> e.2 (gma e.1))])
    clear HM3 gma;generalize dropA (dropA L rootK) histK=X2 at*;go_wp2_with fail;refine (HWO.out w8 B8.out).mono ?_
    rintro e w12 ⟨A12,c12,rfl,K12⟩;have P12:=Qh (P8.out.next K12.out.2.2)
    have HG12:=Qh (HG8.out.below K12.out.2.2)
    have HH12:=Qh (HH8.out.below K12.out.2.2)
    have HR12:=Qh K12.out.2.1
    have hq11:w.heap.size < w8.heap.size:=P8.out.res.lt
    have HA12:=Qh (fun b o (e:A12=some ⟨b,o,none⟩)=> show w.heap.size < b from by have:=(K12.out.1.block (show (Value.slice A12 (sortA X2).length c12).ownBlock=some b from by rw [e];rfl)).1;omega)
    clear P8 K12 HG8 HH8 B8 HWO;generalize hsx:(sortA X2).length=sx at*;have HSX:=Qh hsx
    clear hsx;generalize hsq:Q8.length=nq at*;have HSQ:=Qh hsq
    clear hsq;generalize hsd:d.length=nd at*;have HSDD:=Qh hsd
    clear hsd;go_wp2_with (first
     | ((with_reducible refine qao ?_ 28 #[(0, .tmp 52),(1, .tmp 53),(2, .tmp 55)] ?_ #[.slice A6 nd c6, .slice A8 nq c8, .slice A12 sx c12] ?_ ?_);rfl;rfl;go_must (refine Eq.trans ?_ (qep A6 nd c6 A8 nq c8 A12 sx c12);kernel_rfl))
     | ((with_reducible refine qaf ?_ 28 (.tmp 2) (.tmp 56) ?_ w.heap.size [.slice A6 nd c6, .slice A8 nq c8, .slice A12 sx c12] ?_ ?_ cz ?_ ?_ ?_ ?_ ?_);rfl;rfl;go_must (rfl;rfl;rfl;exact P12.out.res;exact qah;exact qau _ _ _ _ _ _ _ _ _;intro wz Rz Kz Ez)))
    refine bodyPost_ret (v:= .tuple #[.agg #[.slice A6 nd c6, .slice A8 nq c8, .slice A12 sx c12], .int .i64 0]) (qae (fn:=Tryz.f9) (p:=2) (u:=3) rfl _ _ w.heap.size _ #[.slice A6 nd c6, .slice A8 nq c8, .slice A12 sx c12] _ _ rfl Rz.out Tryz.underlying28 rfl qah) rfl ?_
    rw [HRR.out];refine ⟨Q8,A6,c6,A8,c8,A12,c12, ?_,Qh ⟨?_,qap P12.out.below Kz.out⟩⟩
    ·show _=Ending.returned (.tuple #[.agg #[.slice A6 d.length c6, .slice A8 Q8.length c8, .slice A12 (srt X2).length c12], .int .i64 0])
     rw [HSDD.out,HSQ.out,←HX4.out,HSX.out]
    ·show ConfIn wz ⟨d,h,srt X2⟩ Q8 A6 d.length c6 A8 Q8.length c8 A12 (srt X2).length c12
     rw [HSDD.out,HSQ.out,←HX4.out,HSX.out];refine ⟨HG12.out.kept Kz.out (fun b o e _ h=> ?_),HH12.out.kept Kz.out (fun b o e _ h=> ?_) (fun q hq b o e _ h=> ?_),HQH.out,HR12.out.kept Kz.out (fun b o e _ h=> ?_)⟩
     ·have:=HA6.out b o e;omega
     ·have:=HA8.out b o e;omega
     ·have:=HB8.out q hq b o e;omega
     ·have:=HA12.out b o e;omega
theorem qg9 (w:World) (A:Option Addr) (n c:Nat) (bs:List UInt8) (hB:BytesAt w A n c bs) (hn:n≤250000000) (hE:CEnv w):
  Calls Tryz.prog 9 #[.slice A n c] w (ConfPost w (parseC bs)):=
 qm0 w A n c bs hB (by omega) (fun _ _ _ h=> qar (qd4 h) (by have:=hB.len;omega)) hE
end Go.Proofs.YtgmangikcfakgaaGreatDoor
namespace Go.Proofs.YtgmangikcfakgaaGreatDoor
open Go.RowKit Sh
namespace Jt
end Jt
open Jt
end Go.Proofs.YtgmangikcfakgaaGreatDoor
namespace Go.Proofs.YtgmangikcfakgaaGreatDoor
open Go.RowKit Sh Jt Js Jo
namespace Jo
end Jo
namespace Jo
end Jo
theorem StrsAt.made (w:World) (n:Nat):StrsAt (w.alloc (.cells (List.replicate n (.string ⟨#[]⟩)).toArray 9)) (some ⟨w.heap.size,0,none⟩) n n (List.replicate n []):=by
 have r:=Row.new w 9 (List.replicate n (.string ⟨#[]⟩))
 refine ⟨List.length_replicate,Nat.le_refl _,fun _=> ⟨_,0,rfl,r.lt,r.range 0 _ (fun j v hj=> ?_)⟩⟩
 rw [List.map_replicate]at hj
 rw [Nat.zero_add]
 exact hj
namespace Jo
end Jo
namespace Jo
theorem qx2 (d:List UInt8):rightPF (idV d)=true:=qhs (qbp (by decide) (fun _=> rfl) qaw (qes d)) (show 1≤5000 by decide)
theorem qm8 {ids:List (List UInt8)} (hl:ids.length≤60):listA (ids.map idV)=listF (ids.map idV)∧rightPF (listF (ids.map idV))=true:=by
 have hp:=qd8 (d:=1) (by decide) ids
 obtain ⟨t,o⟩:=qe8 (d:=0) (o:=false) (key:=[]) (by decide) (fun _=> rfl) qaw hp (List.length_map _)
 have hr:rightPF (listF (ids.map idV))=true:=by
  have hf:=qfp ids
  have:=qbf o (by omega)
  unfold listF;rw [List.length_map];exact this
 refine ⟨?_,hr⟩
 unfold listA fineF
 rw [if_pos (List.all_eq_true.2 fun p hp=> by
  obtain ⟨d,_,rfl⟩:=List.mem_map.1 hp
  exact qx2 d),if_pos hr]
theorem qxk {ids:List (List UInt8)} (hl:ids.length≤60):objA [typeK,diffK] [[⟨4,[],fixF layersK,0⟩],listA (ids.map idV)]=rootV ids:=by
 obtain ⟨h1,h2⟩:=qm8 hl
 have hv:validF layersK=true:=qax _ (by decide)
 have h3:rightPF [(⟨4,[],layersK,0⟩:V)]=true:=qhs (qbp (by decide) (fun _=> rfl) qaw hv) (by decide)
 have he:objF [typeK,diffK] [[⟨4,[],layersK,0⟩],listF (ids.map idV)]=rootV ids:=by
  unfold rootV listF;rw [List.length_map];simp [objF,named]
 rw [qc2 _ hv,h1]
 unfold objA fineF
 rw [if_pos ⟨by rw [List.all_cons,List.all_cons,h3,h2];rfl,rfl⟩,he,if_pos (qew hl)]
end Jo
theorem qkk {w wr w':World} {S:Nat→Prop} (h:Below w.heap.size w wr) (k:Kept wr w' (fun k=> w.heap.size≤k∧S k)):Below w.heap.size w w':=
 h.trans (⟨k.os,k.tape,k.output,k.size,fun i hi=> k.block i (Nat.lt_of_lt_of_le hi h.size) (fun e=> by omega)⟩)
structure RowsG (w wx:World) (v:Value) (G:List (List UInt8)) (Q:List Pc):Prop where
 own:OwnSls wx w.heap.size v Q
 rows:rowsOf Q=G.map idV
 below:Below w.heap.size w wx
theorem RowsG.next {w wr w':World} {v:Value} {G:List (List UInt8)} {Q:List Pc} (h:RowsG w wr v G Q) (k:Below wr.heap.size wr w'):RowsG w w' v G Q:=⟨h.own.below k,h.rows,h.below.trans (k.mono h.below.size)⟩
namespace Jo
theorem qh6 (L X:List V) (key:List UInt8):(setA L key X).length≤5000:=by
 by_cases h:0 < (setA L key X).length
 ·obtain ⟨_,_,h2,e⟩:=qio h
  rw [e];exact qbc h2
 ·omega
end Jo
namespace Jo
end Jo
namespace Jo
theorem que (P:List (List V)):(listA P).length≤5000:=by
 unfold listA fineF
 split
 ·split
  next h=> exact qbc h
  next=> exact Nat.zero_le _
 ·exact Nat.zero_le _
end Jo
structure RowsH (w wx:World) (v:Value) (H:List Hist) (Q:List Pc):Prop where
 own:OwnSls wx w.heap.size v Q
 rows:rowsOf Q=H.map rowH
 below:Below w.heap.size w wx
theorem RowsH.next {w wr w':World} {v:Value} {G:List Hist} {Q:List Pc} (h:RowsH w wr v G Q) (k:Below wr.heap.size wr w'):RowsH w w' v G Q:=⟨h.own.below k,h.rows,h.below.trans (k.mono h.below.size)⟩
theorem OwnSls.low {w:World} {B:Nat} {v:Value} {Q:List Pc} (h:OwnSls w B v Q) {k:Nat} (hk:v.ownBlock=some k):B≤k:=by
 obtain ⟨_,⟨rfl,_⟩ | ⟨g,cap,cur,rfl,hg,hh,_⟩⟩:=h.row
 ·cases hk
 ·have e':g=k:=by simpa [Value.ownBlock] using hk
  subst e'
  exact hg
end Go.Proofs.YtgmangikcfakgaaGreatDoor
