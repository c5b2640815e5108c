import Derived.Test.YtmkjcleecjjchaaGreatDoorP43
import Derived.Test.YtmkjcleecjjchaaGreatDoorP36
import Derived.Test.YtmkjcleecjjchaaGreatDoorP40
import Derived.Test.YtmkjcleecjjchaaGreatDoorP41
import Derived.Test.YtmkjcleecjjchaaGreatDoorP29
import Derived.Test.YtmkjcleecjjchaaGreatDoorP24
import Derived.Test.YtmkjcleecjjchaaGreatDoorP38
namespace Go.Proofs.YtmkjcleecjjchaaGreatDoor
open Go.RowKit Sh Jt Js
set_option maxRecDepth 100000 in
set_option maxHeartbeats 4000000 in
theorem js_rsort (w:World) (A:Option Addr) (n c:Nat) (L:List V) (hL:ValsAt w A n c L) (hn:n≤250000) (hs:Short 1000000000 L):
  Calls Tryz.prog 36 #[.slice A n c] w fun e w'=> ∃v',e= .returned v'∧Hid (OwnVals w' w.heap.size v' (if rightPF L=true then sortF L.length L else [])∧Below w.heap.size w w'):=by
 have hlen:=hL.len
 have HR:=Lib.hid (js_rRight w A n c L hL (by omega) hs)
 by_cases hr:rightPF L=true
 ·rw [if_pos hr]
  rw [hr]at HR
  obtain ⟨t,ht⟩:=(prog_is L).1 hr
  have h5:=ht.1
  obtain ⟨v,r,t1,rfl,hone,rfl⟩:=row_oneS ht
  have HA:=Lib.hid (fun W (k:Below w.heap.size w W)=> js_rsorted 50 (v::r).length 0 0 c false v r [] t1 W A (v::r) rfl hone (by rw [List.append_nil];rfl) (Nat.le_refl _) h5 (by rw [hlen];exact hL.below k) (by rw [hlen];exact hn))
  rw [hlen]at HA
  rw [hlen]
  clear hL hs ht hone hr
  generalize sortF n (v::r)=SL at*
  go_enter Tryz.func36,Tryz.ntmps36
  go_wp2_with fail
  refine HR.out.mono ?_
  rintro e w2 ⟨rfl,HB⟩
  have HAA:=Lib.hid (HA.out w2 HB.out)
  clear HR HA
  go_wp2_with fail
  refine HAA.out.mono ?_
  rintro e w3 ⟨v3,rfl,H3⟩
  have HX:=Lib.hid (And.intro (H3.out.1.mono HB.out.size) (HB.out.trans (H3.out.2.mono HB.out.size)))
  clear H3 HAA
  go_wp2_with fail
  go_ret
  exact ⟨v3,rfl,HX⟩
 ·rw [if_neg hr]
  rw [Bool.not_eq_true]at hr
  rw [hr]at HR
  clear hL hs hr
  go_enter Tryz.func36,Tryz.ntmps36
  go_wp2_with fail
  refine HR.out.mono ?_
  rintro e w2 ⟨rfl,HB⟩
  clear HR
  go_wp2_with fail
  go_ret
  exact ⟨.slice none 0 0,rfl,Lib.hid ⟨OwnVals.nil _ _,HB.out⟩⟩
end Go.Proofs.YtmkjcleecjjchaaGreatDoor
namespace Go.Proofs.YtmkjcleecjjchaaGreatDoor
open Go.RowKit Sh Jt Js Jo
theorem mt_rrowD (w:World) (d:Desc) (hd:d.dig.length=32) (hok:okD d=true) (hm:d.media.length≤250000):
  Calls Tryz.prog 75 #[.agg (dv d).toArray] w fun e w'=> ∃v',e= .returned v'∧Hid (OwnVals w' w.heap.size v' (rowD d)∧Below w.heap.size w w'):=by
 obtain ⟨h1,h2⟩:=ok_valid hok
 have hz:=of_decide_eq_true h2
 rw [row_good h1 h2]
 exact mt_rrow w d hd h1 hm (by omega) (by omega)
def Jo.allM (m:Man):List V:=sortA (setA (setA m.rest configK (rowD m.config)) layersK (listA (m.layers.map rowD)))
set_option maxRecDepth 100000 in
set_option maxHeartbeats 20000000 in
theorem mt_rall (w:World) (m:Man) (A1:Option Addr) (n1 c1:Nat) (A2:Option Addr) (n2 c2:Nat) (hM:ManIn w m A1 n1 c1 A2 n2 c2) (hF:FitM m) (hO:∀d∈m.config::m.layers,okD d=true∧d.media.length≤250000) (hl60:n1≤60) (hr5:n2≤5000):
  Calls Tryz.prog 42 #[.agg (mv m.config (.slice A1 n1 c1) (.slice A2 n2 c2)).toArray] w fun e w'=> ∃v',e= .returned v'∧Hid (OwnVals w' w.heap.size v' (allM m)∧Below w.heap.size w w'):=by
 obtain ⟨X,hX⟩:∃X,X=allM m:=⟨_,rfl⟩
 rw [←hX]
 have hlen:=hM.lay.len
 have hlen2:=hM.rest.len
 have HM:=Lib.hid (fun W (q:Below w.heap.size w W)=> hM.below q)
 have HF:=Lib.hid hF
 have HOK:=Lib.hid hO
 have HX:=Lib.hid hX
 have HBX:=Lib.hid (show BoxM (w.alloc (.cells (mv m.config (.slice A1 n1 c1) (.slice A2 n2 c2)).toArray 31)) w.heap.size m.config (.slice A1 n1 c1) (.slice A2 n2 c2)from ⟨Row.new _ _ _,hM.dig⟩)
 have HB00:=Lib.hid (below_alloc' w (.cells (mv m.config (.slice A1 n1 c1) (.slice A2 n2 c2)).toArray 31))
 have hdc:=hM.dig
 clear hM hF hX hO
 go_enter Tryz.func42,Tryz.ntmps42
 go_upto_region 1 with fail
 generalize w.alloc (.cells (mv m.config (.slice A1 n1 c1) (.slice A2 n2 c2)).toArray 31)=w0 at*
 generalize (mv m.config (.slice A1 n1 c1) (.slice A2 n2 c2)).toArray=MV at*
 have HBF:=Lib.hid (fun W (q:Below w0.heap.size w0 W)=> HBX.out.below q)
 have hB0:∀W,Below w0.heap.size w0 W→Below w.heap.size w W:=fun W k=> HB00.out.trans (k.mono HB00.out.size)
 have HBB:=Lib.hid hB0
 have hg:True:=trivial
 clear hB0 HBX
 go_wp2_with fail
 go_loopg [3,4] n1 (fun g v3 v4 wx=> ∃(j:Nat) (Q:List Pc),v4= .int .i64 (j:Int)∧j+g=n1∧Hid (Q.length=j)∧Hid (RowsSo w0 wx v3 (m.layers.take j) Q))
 case atStart=> exact ⟨0,[],rfl,by omega,Lib.hid rfl,Lib.hid ⟨OwnSls.nil _ _,rfl,Below.refl _ _⟩⟩
 case round=>
  obtain ⟨j,Q,rfl,hjg,HQL,HH⟩:=hrel
  have c34:=(HBF.out wr HH.out.below).c34
  cases gk with
  | zero=>
   obtain rfl:j=n1:=by omega
   have hall:m.layers.take j=m.layers:=List.take_of_length_le (by omega)
   rw [hall]at HH
   obtain ⟨A3,k3,rfl,hsl⟩:=HH.out.own.sls
   rw [HQL.out]at hsl
   change Hid (RowsSo w0 wr (.slice A3 Q.length k3) m.layers Q)at HH
   have HSL:=Lib.hid hsl
   have HRO:=Lib.hid HH.out.rows
   have HBW:=Lib.hid HH.out.below
   clear hsl hall HH
   rw [HQL.out]
   have hge:¬(j:Int) < (j:Int):=by omega
   have HDC:=Lib.hid (fun W=> own_any rfl (mt_rrowD W m.config hdc (HOK.out _ List.mem_cons_self).1 (HOK.out _ List.mem_cons_self).2))
   have HDG:=Lib.hid (HM.out w (Below.refl _ _)).digs
   have hQs:∀p∈Q,Short 1048576 p.row:=fun p hp=> by
    have h1:p.row∈rowsOf Q:=List.mem_map.2 ⟨p,hp,rfl⟩
    rw [HRO.out]at h1
    obtain ⟨d,hd,e⟩:=List.mem_map.1 h1
    rw [←e]
    exact short_row (HF.out.layers d hd) (HDG.out.layers d hd)
   have hQf:(rowsOf Q).flatten.length≤4000:=by
    have:=rows_few m.layers
    rw [HRO.out]
    omega
   have hsc:=short_row HF.out.config hdc
   have hrf:=row_few m.config
   have HQS:=Lib.hid hQs
   have HSC:=Lib.hid hsc
   have HSA:=Lib.hid (short_setA HF.out.rest hsc (key:=configK) (by decide))
   have HSB:=Lib.hid (short_list (P:=rowsOf Q) (k:=1048576) (fun p hp=> by
    obtain ⟨q,hq,rfl⟩:=List.mem_map.1 hp
    exact hQs q hq))
   have HSR:=Lib.hid HF.out.rest
   have hu:=Tryz.underlying27
   have hi:(Tryz.prog.info? 27).map (·.size)=some (dv m.config).length:=dv_size hdc
   generalize hDV:dv m.config=DC at*
   have HDV:=Lib.hid hDV
   clear hDV hQs hsc
   go_upto_region 6 with fail
   have HBD:=Lib.hid (show Below w0.heap.size w0 wr.drew from below_drewN HBW.out 1)
   have HSL:=Lib.hid (show SlsAt wr.drew A3 j k3 Q from HSL.out.below (below_drewN (Below.refl _ _) 1))
   have HKF:=Lib.hid (fun W (q:Below w0.heap.size w0 W)=> show W.cell? ⟨w.heap.size,35,none⟩=some (.slice A2 n2 c2)∧W.rangeAt w.heap.size 0 DC∧Below w0.heap.size w0 W from by have h:=(HBF.out W q).st q;rw [HDV.out]at h;exact h)
   have HKP:=Lib.hid (HKF.out _ HBD.out)
   refine wp_region_noPanic ?_
   refine wp_region_held_drew (S:=fun x=> x.cell? ⟨w.heap.size,35,none⟩=some (.slice A2 n2 c2)∧x.rangeAt w.heap.size 0 DC∧Below w0.heap.size w0 x) (by kernel_rfl) HKP.out (fun hHeld=> ?_)
   refine wpAnyH_take (i:=0) (v:= .pointer (some ⟨w.heap.size,35,none⟩)) rfl (by kernel_rfl) (by kernel_rfl) (by kernel_rfl) (fun _ _ _ h=> h) (Or.inl ⟨by rfl, ?_⟩) hHeld ?_
   ·intro x hx;obtain ⟨hx,_,_⟩:=hx;go_simp
   simp only [Act.put,List.setIfInBounds_toArray]
   refine wpAnyH_take (i:=2) (v:= .pointer (some ⟨w.heap.size,0,none⟩)) rfl (by kernel_rfl) (by kernel_rfl) (by kernel_rfl) (fun _ _ _ h=> h) (Or.inl ⟨by rfl, ?_⟩) hHeld ?_
   ·intro x hx;obtain ⟨hx,_,_⟩:=hx;go_simp
   simp only [Act.put]
   refine wpAnyH_take (i:=1) (v:= .slice A2 n2 c2) rfl (by kernel_rfl) (by kernel_rfl) (by kernel_rfl) (fun _ _ _ h=> h) (Or.inl ⟨by rfl, ?_⟩) hHeld ?_
   ·intro x hx;obtain ⟨hx,_,_⟩:=hx;go_simp
   simp only [Act.put]
   refine wpAnyH_take (i:=3) (v:= .agg DC.toArray) rfl (by kernel_rfl) (by kernel_rfl) (by kernel_rfl) (fun _ _ _ h=> h) (yieldsIf_load_mid (by rfl) _ _ rfl _ _ rfl _ _ (fun x hx=> hx.2.1) hu rfl hi) hHeld ?_
   simp only [Act.put]
   refine wpAnyH_ready (rs:=[4]) (by kernel_rfl) (by simp) ?_
   refine AllReadyH.cons rfl (fun K hK=> ?_) AllReadyH.nil
   refine step_callN rfl 75 #[.agg DC.toArray] (by first | rfl | kernel_rfl) (HDC.out _) ?_
   rintro e wn ⟨A4,k4,rfl,HH⟩
   have HBE:=Lib.hid (HBD.out.trans (HH.out.2.2.mono HBD.out.size))
   have HSM:=Lib.hid (HSL.out.below HH.out.2.2)
   have HV4:=Lib.hid HH.out.2.1
   refine ⟨_,rfl, ?_⟩
   refine hK.out _ _ (HKF.out _ HBE.out) (fun hHeld=> ?_)
   clear hK K HH HSL HBD HKP
   simp only [Act.put]
   refine wpAnyH_ready (rs:=[5]) (by kernel_rfl) (by simp) ?_
   refine AllReadyH.cons rfl (fun K hK=> ?_) AllReadyH.nil
   refine step_callN rfl 76 #[.slice A2 n2 c2, .string (sb configK), .slice A4 (rowD m.config).length k4] (by first | rfl | kernel_rfl) (own_any rfl (jo_rset _ A2 n2 c2 m.rest (HM.out _ (HBB.out _ HBE.out)).rest (by omega) (short_more HSR.out (by decide)) A4 _ k4 (rowD m.config) HV4.out (by omega) (short_more HSC.out (by decide)) configK (by decide))) ?_
   rintro e w6 ⟨A6,k6,rfl,HH⟩
   have HBN:=Lib.hid (HBE.out.trans (HH.out.2.2.mono HBE.out.size))
   have HSLN:=Lib.hid (HSM.out.below HH.out.2.2)
   have HVN:=Lib.hid HH.out.2.1
   refine ⟨_,rfl, ?_⟩
   refine hK.out _ _ (HKF.out _ HBN.out) (fun hHeld=> ?_)
   clear hK K HH HSM HBE HV4
   simp only [Act.put]
   refine wpAnyH_take (i:=6) (v:= .slice A6 (setA m.rest configK (rowD m.config)).length k6) rfl (by kernel_rfl) (by kernel_rfl) (by kernel_rfl) (fun _ _ _ h=> h) (Or.inl ⟨by rfl, ?_⟩) hHeld ?_
   ·intro x hx;go_simp
   simp only [Act.put]
   refine wpAnyH_done (by kernel_rfl) ?_ _
   refine NoPanic.normal ?_
   have HXR:Hid (X=sortA (setA (setA m.rest configK (rowD m.config)) layersK (listA (rowsOf Q)))):=Lib.hid (by rw [HX.out,HRO.out];rfl)
   clear HX HRO
   have hA6:=setA_few m.rest (rowD m.config) configK
   generalize setA m.rest configK (rowD m.config)=SA at*
   go_wp2_with fail
   refine (own_any rfl (jo_rlist w6 A3 j k3 Q HSLN.out (by omega) (fun p hp=> short_more (HQS.out p hp) (by decide)) hQf)).mono ?_
   rintro e w7 ⟨A7,k7,rfl,H7⟩
   have HB7:=Lib.hid (HBN.out.trans (H7.out.2.2.mono HBN.out.size))
   have HV6':=Lib.hid (HVN.out.below H7.out.2.2)
   have HV7:=Lib.hid H7.out.2.1
   have hA7:=listA_few (rowsOf Q)
   clear H7 HSLN HVN HBN
   generalize listA (rowsOf Q)=LQ at*
   go_wp2_with fail
   refine (own_any rfl (jo_rset w7 A6 _ k6 SA HV6'.out (by omega) (short_more HSA.out (by decide)) A7 _ k7 LQ HV7.out (by omega) (short_more HSB.out (by decide)) layersK (by decide))).mono ?_
   rintro e w8 ⟨A8,k8,rfl,H8⟩
   have HB8:=Lib.hid (HB7.out.trans (H8.out.2.2.mono HB7.out.size))
   have HV8:=Lib.hid H8.out.2.1
   have hA8:=setA_few SA LQ layersK
   have HSZ:=Lib.hid (short_setA HSA.out HSB.out (key:=layersK) (by decide))
   clear H8 HB7 HV7 HV6'
   generalize setA SA layersK LQ=SB at*
   go_wp2_with fail
   refine (js_rsort w8 A8 _ k8 SB HV8.out (by omega) (short_more HSZ.out (by decide))).mono ?_
   rintro e w9 ⟨val,rfl,H9⟩
   go_wp2_with fail
   go_ret
   exact ⟨_,rfl,Lib.hid ⟨by rw [HXR.out];exact H9.out.1.mono (HBB.out _ HB8.out).size,HBB.out _ (HB8.out.trans (H9.out.2.mono HB8.out.size))⟩⟩
  | succ g=>
   have hj:j < m.layers.length:=by omega
   have HMW:=Lib.hid (HM.out wr (HBB.out wr HH.out.below))
   obtain ⟨b,o,rfl,hb,_⟩:=HMW.out.lay.at_ (by omega)
   have HON:=Lib.hid (HMW.out.lay.one hj)
   have HDD:=Lib.hid (HMW.out.lay.dig _ (List.getElem_mem hj))
   have HOD:=Lib.hid (HOK.out _ (List.mem_cons_of_mem _ (List.getElem_mem hj)))
   have HNX:=Lib.hid (show m.layers.take (j+1)=m.layers.take j++[m.layers[j]]from List.take_succ_eq_append_getElem hj)
   generalize m.layers[j]=d at*
   have hjn:(j:Int) < (n1:Int):=by omega
   have hjp:(0:Int)≤(j:Int):=by omega
   have HDZ:=Lib.hid (dv_size HDD.out)
   have HRD:=Lib.hid (own_any rfl (mt_rrowD wr d HDD.out HOD.out.1 HOD.out.2))
   have hb1:=run_build_sls1
   generalize hDV:dv d=DV at*
   clear hDV
   generalize hrd:rowD d=RD at*
   have HRDD:=Lib.hid hrd
   clear hrd
   go_wp2_with ((with_reducible refine load_all ?_ 27 (.tmp 17) ?_ b (o+j*34) DV DV.toArray ?_ _ ?_ Tryz.underlying27 ?_ ?_ ?_ ?_);rfl;rfl;go_must (rfl;exact HON.out;rfl;exact HDZ.out;rfl))
   refine HRD.out.mono ?_
   rintro e w5 ⟨A5,k5,rfl,H5⟩
   have HS5:=Lib.hid (HH.out.next H5.out.2.2)
   have HFA:=Lib.hid (own_far HH.out.own H5.out.1 (Nat.le_refl _) (Nat.le_refl _))
   have HV5:=Lib.hid H5.out.2.1
   clear HRD H5 HDZ HON HMW c34
   have HRL:=Lib.hid (rfl:RD.length=RD.length)
   go_wp2_with (at_builtin;go_must (with_reducible refine append_sls rfl _ _ rfl w0.heap.size u3 Q rfl (HS5.out.own.below (below_alloc _ _)) w5.heap.size ⟨A5,k5,RD⟩ rfl ((Row.new w5 29 [.slice A5 RD.length k5]).cell rfl) (HV5.out.below (below_alloc _ _)) (fun b o e=> ⟨Nat.lt_of_lt_of_le (HFA.out b o e).1 (below_alloc _ _).size,(HFA.out b o e).2⟩) (by rw [HQL.out];omega) (Nat.le_trans HS5.out.below.size (below_alloc _ _).size) ?_;intro v6 w6 h1 h2))
   go_roundg g
   case measure=> omega
   case rel=> exact ⟨j+1,Q++[⟨A5,k5,RD⟩],by go_num,by omega,Lib.hid (by rw [List.length_append,HQL.out];rfl),Lib.hid ⟨h1.out,by unfold rowsOf;rw [List.map_append,HNX.out,List.map_append,←HS5.out.rows];show rowsOf Q++[RD]=rowsOf Q++[rowD d];rw [HRDD.out],below_own (HS5.out.below.trans ((below_alloc _ _).mono HS5.out.below.size)) h2.out⟩⟩
end Go.Proofs.YtmkjcleecjjchaaGreatDoor
namespace Go.Proofs.YtmkjcleecjjchaaGreatDoor
open Go
namespace Jo
open Jt Js
set_option maxRecDepth 100000
theorem mem_at {L:List V} {key:List UInt8} {p:Nat} (h:getA L 0 key=some p) (k:Int):memF L key k=if kindOf (L.drop p)=k then some (textOf (L.drop p)) else none:=by
 obtain ⟨hp,h1,h2⟩:=get_head h
 unfold memF tellF
 rw [h1,h2,List.drop_eq_getElem_cons hp]
 rfl
theorem has_none {L:List V} (h:getA L 0 schemaK=none):hasF L=false:=by
 unfold hasF
 rw [mem_none h (by decide)]
 rfl
theorem has_at {L:List V} {p:Nat} (h:getA L 0 schemaK=some p):hasF L=decide (kindOf (L.drop p)=3∧textOf (L.drop p)=[50]):=by
 unfold hasF
 rw [mem_at h 3]
 by_cases k:kindOf (L.drop p)=3
 ·rw [if_pos k]
  simp [k]
 ·rw [if_neg k]
  simp [k]
end Jo
end Go.Proofs.YtmkjcleecjjchaaGreatDoor
namespace Go.Proofs.YtmkjcleecjjchaaGreatDoor
open Go.RowKit Sh Jt Js Jo
set_option maxRecDepth 100000
set_option maxHeartbeats 4000000 in
theorem mt_rtwo (w:World) (A:Option Addr) (n c:Nat) (L:List V) (hL:ValsAt w A n c L) (hn:n≤250000) (hs:Short 1000000000 L):
  Calls Tryz.prog 31 #[.slice A n c] w fun e w'=> e= .returned (.bool (hasF L))∧Hid (Below w.heap.size w w'):=by
 have HG:=Lib.hid (jo_rget w A n c L hL hn hs 0 schemaK)
 change Hid (Calls _ _ #[.slice A n c, .int .i64 0, .string ⟨#[115,99,104,101,109,97,86,101,114,115,105,111,110]⟩] _ _)at HG
 have hlen:=hL.len
 cases hg:getA L 0 schemaK with
 | none=>
  rw [hg]at HG
  have HF:=Lib.hid (has_none hg)
  change Hid (Calls _ _ _ _ fun e w'=> e= .returned (.int .i64 (-1))∧_)at HG
  clear hL hs hg
  generalize hasF L=R at*
  go_enter Tryz.func31,Tryz.ntmps31
  go_wp2_with fail
  refine HG.out.mono ?_
  rintro e w2 ⟨rfl,HB⟩
  clear HG
  go_wp2_with fail
  go_ret
  refine ⟨?_,HB⟩
  rw [HF.out]
  rfl
 | some p=>
  rw [hg]at HG
  obtain ⟨hp,_,_⟩:=get_head hg
  have hf:=has_at hg
  rw [List.drop_eq_getElem_cons hp]at hf
  change hasF L=decide (L[p].kind=3∧L[p].text=[50])at hf
  obtain ⟨b,o,rfl,hbl,_⟩:=hL.at_ (by omega)
  have HC:=Lib.hid (fun W (q:Below w.heap.size w W)=> (hL.below q).cells hp)
  change Hid (Calls _ _ _ _ fun e w'=> e= .returned (.int .i64 (p:Int))∧_)at HG
  have hp9:(p:Int) < (n:Int):=by omega
  have hp0:(0:Int)≤(p:Int):=by omega
  have HF:=Lib.hid hf
  clear hL hs hg hf
  generalize hasF L=R at*
  generalize L[p]=v at*
  go_enter Tryz.func31,Tryz.ntmps31
  go_wp2_with fail
  refine HG.out.mono ?_
  rintro e w2 ⟨rfl,HB⟩
  obtain ⟨x0,_,x2,_⟩:=HC.out w2 HB.out
  clear HG HC
  by_cases he:v.kind=3
  ·have hR:R=((sb v.text).toList==[50]):=by
    rw [HF.out,sb_list,he]
    cases hz:(v.text==[50])with
    | true=> rw [beq_iff_eq]at hz;rw [hz];rfl
    | false=> rw [beq_eq_false_iff_ne]at hz;exact decide_eq_false (fun h=> hz h.2)
   rw [he]at x0
   have HR:=Lib.hid hR
   clear hR HF
   generalize sb v.text=vt at*
   go_wp2_with fail
   go_ret
   refine ⟨?_,HB⟩
   rw [HR.out]
   rfl
  ·have hne:(v.kind==3)=false:=beq_eq_false_iff_ne.2 he
   have hR:R=false:=by rw [HF.out];exact decide_eq_false (fun h=> he h.1)
   have HR:=Lib.hid hR
   clear hR HF he
   generalize v.kind=vk at*
   generalize sb v.text=vt at*
   go_wp2_with fail
   go_ret
   refine ⟨?_,HB⟩
   rw [HR.out]
   rfl
end Go.Proofs.YtmkjcleecjjchaaGreatDoor
