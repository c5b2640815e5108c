import Derived.Test.YtmkjcleecjjchaaGreatDoorQ46
import Derived.Test.YtmkjcleecjjchaaGreatDoorQ47
import Derived.Test.YtmkjcleecjjchaaGreatDoorQ30
namespace Go.Proofs.YtmkjcleecjjchaaGreatDoor
open Go.RowKit Sh Jt Js Jo
set_option maxRecDepth 100000
set_option maxHeartbeats 16000000 in
theorem metaParses_all (w:World) (A3:Option Addr) (n3 c3:Nat) (bs:List UInt8) (hB:BytesAt w A3 n3 c3 bs) (hE:MEnv w):
  Calls Tryz.prog 3 #[.slice A3 n3 c3] w fun e w'=> e= .returned (.bool true)∧Hid (Below w.heap.size w w'):=by
 have HE:=Lib.hid (fun W (q:Below w.heap.size w W)=> hE.below q)
 have HBY:=Lib.hid (fun W (q:Below w.heap.size w W)=> hB.below q)
 have hlen:=hB.len
 clear hB hE
 go_enter Tryz.func3,Tryz.ntmps3
 go_wp2_with fail
 refine (mt_small _ (HE.out _ (Below.refl _ _))).mono ?_
 rintro e w1 ⟨rfl,K1⟩
 by_cases h3:3000 < n3
 ·have hg:(3000:Int) < (n3:Int):=by omega
  go_wp2_with fail
  go_ret
  exact ⟨rfl,K1⟩
 ·have hg:¬(3000:Int) < (n3:Int):=by omega
  have hgd:decide ((3000:Int) < (n3:Int))=false:=decide_eq_false hg
  have HPM:=Lib.hid (mt_parse w1 A3 n3 c3 bs (HBY.out w1 K1.out) (by omega) (HE.out _ K1.out))
  have HPR:=Lib.hid (fun W (q:Below w.heap.size w W)=> mt_rparse W A3 n3 c3 bs (HBY.out W q) (by omega))
  have HPD:=Lib.hid (fun y=> parsed (bs:=bs) (y:=y) (by omega))
  clear HBY
  go_wp2_with fail
  refine HPM.out.mono ?_
  intro e wp hp
  clear HPM
  generalize hY:parseM bs=Y at*
  have HY:=Lib.hid hY
  clear hY
  cases Y with
  | err k=>
   obtain ⟨rfl,hk,KP⟩:=hp
   have hkk:((k:Int)==(k:Int))=true:=beq_self_eq_true _
   clear HPD hk
   have HB1:=Lib.hid (K1.out.trans (KP.mono K1.out.size))
   have HIY:=Lib.hid (show ManIn wp (⟨noD,[],[]⟩:Man) none 0 0 none 0 0 from ⟨DescsAt.nil _ _ _,ValsAt.nil _ _ _,noD_len⟩)
   have HYL:=Lib.hid (mv_len (c:=noD) noD_len (.slice none 0 0) (.slice none 0 0))
   have HY1:=Lib.hid (mv_one (c:=noD) (a:= .slice none 0 0) (b:= .slice none 0 0) rfl rfl)
   obtain ⟨MY,hMY⟩:∃MY,MY=mv noD (.slice none 0 0) (.slice none 0 0):=⟨_,rfl⟩
   have HMY:=Lib.hid hMY
   rw [←hMY]at HYL HY1 ⊢
   clear hMY K1 KP
   go_upto_region 5 with ((with_reducible refine store_all ?_ 31 (.tmp 4) (.tmp 16) ?_ wp.heap.size MY ?_ ?_ (mv noD (.slice none 0 0) (.slice none 0 0)) ?_ ?_ ?_ ?_ ?_);rfl;rfl;go_must (rfl;rfl;(rw [HYL.out];rfl);exact Row.at_ _ _ _ rfl rfl;(rw [HYL.out];exact mt_sizeM);exact HY1.out;intro wq Rwq Kwq Ewq))
   have KQ:=Lib.hid (show Below wp.heap.size wp wq from (kept_stored Kwq.out).below (Nat.le_refl _) (fun _ _ h=> h))
   have HB2:=Lib.hid (HB1.out.trans (KQ.out.mono HB1.out.size))
   have HI2:=Lib.hid (HIY.out.below KQ.out)
   clear Kwq Ewq KQ HB1 HIY
   generalize wp.heap.size=by_ at*
   go_wp2_with fail
   refine (HPR.out wq HB2.out).mono ?_
   intro e wr hr
   clear HPR
   obtain ⟨rfl, -,KR⟩:=hr
   have HIR:=Lib.hid (show ManIn wr (⟨noD,[],[]⟩:Man) none 0 0 none 0 0 from ⟨DescsAt.nil _ _ _,ValsAt.nil _ _ _,noD_len⟩)
   have HB3:=Lib.hid (HB2.out.trans (KR.mono HB2.out.size))
   have HI3:=Lib.hid (HI2.out.below KR)
   have HQ3:=Lib.hid (show Row wr by_ 31 MY from Rwq.out.below KR Rwq.out.lt)
   have HZL:=Lib.hid (mv_len (c:=noD) noD_len (.slice none 0 0) (.slice none 0 0))
   have HZ1:=Lib.hid (mv_one (c:=noD) (a:= .slice none 0 0) (b:= .slice none 0 0) rfl rfl)
   obtain ⟨MZ,hMZ⟩:∃MZ,MZ=mv noD (.slice none 0 0) (.slice none 0 0):=⟨_,rfl⟩
   have HMZ:=Lib.hid hMZ
   rw [←hMZ]at HZL HZ1 ⊢
   clear hMZ HB2 HI2 Rwq KR
   go_upto_region 6 with ((with_reducible refine store_all ?_ 31 (.tmp 6) (.tmp 21) ?_ wr.heap.size MZ ?_ ?_ (mv noD (.slice none 0 0) (.slice none 0 0)) ?_ ?_ ?_ ?_ ?_);rfl;rfl;go_must (rfl;rfl;(rw [HZL.out];rfl);exact Row.at_ _ _ _ rfl rfl;(rw [HZL.out];exact mt_sizeM);exact HZ1.out;intro ws Rws Kws Ews))
   have KS:=Lib.hid (show Below wr.heap.size wr ws from (kept_stored Kws.out).below (Nat.le_refl _) (fun _ _ h=> h))
   have HB4:=Lib.hid (HB3.out.trans (KS.out.mono HB3.out.size))
   have HI4:=Lib.hid (HI3.out.below KS.out)
   have HIR4:=Lib.hid (HIR.out.below KS.out)
   have HQ4:=Lib.hid (show Row ws by_ 31 MY from HQ3.out.below KS.out HQ3.out.lt)
   clear Kws Ews KS HB3 HI3 HQ3 HIR
   generalize wr.heap.size=bz at*
   have HSA:=Lib.hid (mt_same ws (⟨noD,[],[]⟩:Man) none 0 0 none 0 0 none 0 none 0 HI4.out HIR4.out (by decide) (by decide))
   rw [show mv (⟨noD,[],[]⟩:Man).config (.slice none 0 0) (.slice none 0 0)=MY from HMY.out.symm]at HSA
   obtain rfl:MZ=MY:=HMZ.out.trans HMY.out.symm
   clear HI4 HIR4 HMY HMZ
   go_wp2_with (first
    | ((with_reducible refine load_all ?_ 31 (.tmp 4) ?_ by_ 0 MZ MZ.toArray ?_ _ ?_ Tryz.underlying31 ?_ ?_ ?_ ?_);rfl;rfl;go_must (rfl;exact rangeAt_row HQ4.out;rfl;(rw [HYL.out];exact mt_sizeM);rfl))
    | ((with_reducible refine load_all ?_ 31 (.tmp 6) ?_ bz 0 MZ MZ.toArray ?_ _ ?_ Tryz.underlying31 ?_ ?_ ?_ ?_);rfl;rfl;go_must (rfl;exact rangeAt_row Rws.out;rfl;(rw [HZL.out];exact mt_sizeM);rfl)))
   refine HSA.out.mono ?_
   rintro e wx ⟨rfl,KX⟩
   have HB5:=Lib.hid (HB4.out.trans (KX.out.mono HB4.out.size))
   clear HB4 KX HSA
   go_wp2_with fail
   go_ret
   exact ⟨rfl,HB5⟩
  | ok y=>
   obtain ⟨A4,c4,A5,c5,rfl,OD,OV,hyd,KP⟩:=hp
   have HYP:=Lib.hid (HPD.out y rfl)
   clear HPD
   have hyl:y.layers.length≤140737488351232:=by have:=HYP.out.ok.len;omega
   have hyr:y.rest.length≤140737488351232:=by have:=HYP.out.fit.few;omega
   clear HYP
   have HB1:=Lib.hid (K1.out.trans (KP.mono K1.out.size))
   obtain ⟨_,_,e1,hd4,_⟩:=OD.descs
   simp only [Value.slice.injEq]at e1
   obtain ⟨rfl,_,rfl⟩:=e1
   have HIY:=Lib.hid (show ManIn wp y A4 y.layers.length c4 A5 y.rest.length c5 from ⟨hd4,OV.at_.1,hyd⟩)
   have HYL:=Lib.hid (mv_len (c:=y.config) hyd (.slice A4 y.layers.length c4) (.slice A5 y.rest.length c5))
   have HY1:=Lib.hid (mv_one (c:=y.config) (a:= .slice A4 y.layers.length c4) (b:= .slice A5 y.rest.length c5) rfl rfl)
   obtain ⟨MY,hMY⟩:∃MY,MY=mv y.config (.slice A4 y.layers.length c4) (.slice A5 y.rest.length c5):=⟨_,rfl⟩
   have HMY:=Lib.hid hMY
   rw [←hMY]at HYL HY1 ⊢
   clear OD OV hd4 hyd hMY K1 KP
   go_upto_region 5 with ((with_reducible refine store_all ?_ 31 (.tmp 4) (.tmp 16) ?_ wp.heap.size MY ?_ ?_ (mv noD (.slice none 0 0) (.slice none 0 0)) ?_ ?_ ?_ ?_ ?_);rfl;rfl;go_must (rfl;rfl;(rw [HYL.out];rfl);exact Row.at_ _ _ _ rfl rfl;(rw [HYL.out];exact mt_sizeM);exact HY1.out;intro wq Rwq Kwq Ewq))
   have KQ:=Lib.hid (show Below wp.heap.size wp wq from (kept_stored Kwq.out).below (Nat.le_refl _) (fun _ _ h=> h))
   have HB2:=Lib.hid (HB1.out.trans (KQ.out.mono HB1.out.size))
   have HI2:=Lib.hid (HIY.out.below KQ.out)
   clear Kwq Ewq KQ HB1 HIY
   generalize wp.heap.size=by_ at*
   go_wp2_with fail
   refine (HPR.out wq HB2.out).mono ?_
   intro e wr hr
   clear HPR
   obtain ⟨A7,c7,A8,c8,rfl,OD,OV,hyd,KR⟩:=hr
   obtain ⟨_,_,e1,hd4,_⟩:=OD.descs
   simp only [Value.slice.injEq]at e1
   obtain ⟨rfl,_,rfl⟩:=e1
   have HIR:=Lib.hid (show ManIn wr y A7 y.layers.length c7 A8 y.rest.length c8 from ⟨hd4,OV.at_.1,hyd⟩)
   have HB3:=Lib.hid (HB2.out.trans (KR.mono HB2.out.size))
   have HI3:=Lib.hid (HI2.out.below KR)
   have HQ3:=Lib.hid (show Row wr by_ 31 MY from Rwq.out.below KR Rwq.out.lt)
   have HZL:=Lib.hid (mv_len (c:=y.config) hyd (.slice A7 y.layers.length c7) (.slice A8 y.rest.length c8))
   have HZ1:=Lib.hid (mv_one (c:=y.config) (a:= .slice A7 y.layers.length c7) (b:= .slice A8 y.rest.length c8) rfl rfl)
   obtain ⟨MZ,hMZ⟩:∃MZ,MZ=mv y.config (.slice A7 y.layers.length c7) (.slice A8 y.rest.length c8):=⟨_,rfl⟩
   have HMZ:=Lib.hid hMZ
   rw [←hMZ]at HZL HZ1 ⊢
   clear OD OV hd4 hyd hMZ HB2 HI2 Rwq KR
   go_upto_region 6 with ((with_reducible refine store_all ?_ 31 (.tmp 6) (.tmp 21) ?_ wr.heap.size MZ ?_ ?_ (mv noD (.slice none 0 0) (.slice none 0 0)) ?_ ?_ ?_ ?_ ?_);rfl;rfl;go_must (rfl;rfl;(rw [HZL.out];rfl);exact Row.at_ _ _ _ rfl rfl;(rw [HZL.out];exact mt_sizeM);exact HZ1.out;intro ws Rws Kws Ews))
   have KS:=Lib.hid (show Below wr.heap.size wr ws from (kept_stored Kws.out).below (Nat.le_refl _) (fun _ _ h=> h))
   have HB4:=Lib.hid (HB3.out.trans (KS.out.mono HB3.out.size))
   have HI4:=Lib.hid (HI3.out.below KS.out)
   have HIR4:=Lib.hid (HIR.out.below KS.out)
   have HQ4:=Lib.hid (show Row ws by_ 31 MY from HQ3.out.below KS.out HQ3.out.lt)
   clear Kws Ews KS HB3 HI3 HQ3 HIR
   generalize wr.heap.size=bz at*
   have HSA:=Lib.hid (mt_same ws y A4 y.layers.length c4 A5 y.rest.length c5 A7 c7 A8 c8 HI4.out HIR4.out hyl hyr)
   rw [show mv y.config (.slice A4 y.layers.length c4) (.slice A5 y.rest.length c5)=MY from HMY.out.symm,show mv y.config (.slice A7 y.layers.length c7) (.slice A8 y.rest.length c8)=MZ from HMZ.out.symm]at HSA
   clear HI4 HIR4 HMY HMZ
   go_wp2_with (first
    | ((with_reducible refine load_all ?_ 31 (.tmp 4) ?_ by_ 0 MY MY.toArray ?_ _ ?_ Tryz.underlying31 ?_ ?_ ?_ ?_);rfl;rfl;go_must (rfl;exact rangeAt_row HQ4.out;rfl;(rw [HYL.out];exact mt_sizeM);rfl))
    | ((with_reducible refine load_all ?_ 31 (.tmp 6) ?_ bz 0 MZ MZ.toArray ?_ _ ?_ Tryz.underlying31 ?_ ?_ ?_ ?_);rfl;rfl;go_must (rfl;exact rangeAt_row Rws.out;rfl;(rw [HZL.out];exact mt_sizeM);rfl)))
   refine HSA.out.mono ?_
   rintro e wx ⟨rfl,KX⟩
   have HB5:=Lib.hid (HB4.out.trans (KX.out.mono HB4.out.size))
   clear HB4 KX HSA
   go_wp2_with fail
   go_ret
   exact ⟨rfl,HB5⟩
end Go.Proofs.YtmkjcleecjjchaaGreatDoor
