import Derived.Test.YtmkjcleecjjchaaGreatDoorP29
import Derived.Test.YtmkjcleecjjchaaGreatDoorP25
import Derived.Test.YtmkjcleecjjchaaGreatDoorP30
import Derived.Test.YtmkjcleecjjchaaGreatDoorP5
import Derived.Test.YtmkjcleecjjchaaGreatDoorP6
namespace Go.Proofs.YtmkjcleecjjchaaGreatDoor
open Go.RowKit Sh Jt Js Jo
namespace Jo
def sumD (L:List Desc):Nat:=(L.map fun d=> d.media.length).sum
theorem sumD_take (L:List Desc) (k:Nat) (h:k < L.length):sumD (L.take (k+1))=sumD (L.take k)+L[k].media.length:=by
 unfold sumD
 rw [List.take_succ_eq_append_getElem h,List.map_append,List.sum_append]
 simp
theorem sumD_mem:∀ {L:List Desc} {d:Desc},d∈L→d.media.length≤sumD L
 | a::r,d,h=> by
  have e:sumD (a::r)=a.media.length+sumD r:=by
   unfold sumD
   rw [List.map_cons,List.sum_cons]
  rcases List.mem_cons.1 h with rfl | h
  ·omega
  ·have:=sumD_mem h
   omega
def fewM (m:Man):Bool:=fewF m.rest && decide (m.config.media.length+sumD m.layers≤2000) && decide (m.layers.length≤65)
structure Holds (m:Man):Prop where
 rest:Fits m.rest
 config:m.config.media.length≤140737488355328
 layers:∀d∈m.layers,d.media.length≤140737488355328
end Jo
theorem DescsAt.media {w:World} {b o n c:Nat} {L:List Desc} (h:DescsAt w (some ⟨b,o,none⟩) n c L) {i:Nat} (hi:i < L.length):w.cell? ⟨b,o+i*34,none⟩=some (.string (sb L[i].media)):=by
 have:=h.one hi 0 _ rfl
 exact this
set_option maxRecDepth 100000 in
set_option maxHeartbeats 8000000 in
theorem mt_few (w:World) (m:Man) (A1:Option Addr) (n1 c1:Nat) (A2:Option Addr) (n2 c2:Nat) (hM:ManIn w m A1 n1 c1 A2 n2 c2) (hn1:n1≤140737488351232) (hn2:n2≤140737488351232) (hH:Holds m):
  Calls Tryz.prog 12 #[.agg (mv m.config (.slice A1 n1 c1) (.slice A2 n2 c2)).toArray] w fun e w'=> e= .returned (.bool (fewM m))∧Hid (Below w.heap.size w w'):=by
 have hlen:=hM.lay.len
 have HX:=Lib.hid (show fewM m=(fewF m.rest && decide (m.config.media.length+sumD m.layers≤2000) && decide (m.layers.length≤65))from rfl)
 have HBX:=Lib.hid (show BoxM (w.alloc (.cells (mv m.config (.slice A1 n1 c1) (.slice A2 n2 c2)).toArray 31)) w.heap.size m.config (.slice A1 n1 c1) (.slice A2 n2 c2)from ⟨Row.new _ _ _,hM.dig⟩)
 have HB0:=Lib.hid (below_alloc' w (.cells (mv m.config (.slice A1 n1 c1) (.slice A2 n2 c2)).toArray 31))
 have HM:=Lib.hid (fun W (q:Below w.heap.size w W)=> hM.below q)
 have HFE:=Lib.hid (fun W (q:Below w.heap.size w W)=> js_few W A2 n2 c2 m.rest (hM.below q).rest hn2 hH.rest)
 have hc9:=hH.config
 have HL9:=Lib.hid hH.layers
 clear hM hH
 generalize fewM m=R at*
 go_enter Tryz.func12,Tryz.ntmps12
 go_upto_region 1 with fail
 generalize w.alloc (.cells (mv m.config (.slice A1 n1 c1) (.slice A2 n2 c2)).toArray 31)=w0 at*
 generalize (mv m.config (.slice A1 n1 c1) (.slice A2 n2 c2)).toArray=MV at*
 have c0:w0.cell? ⟨w.heap.size,0,none⟩=some (.string (sb m.config.media)):=by
  have:=HBX.out.desc 0 _ rfl
  exact this
 have c34:=HBX.out.c34
 have c35:=HBX.out.c35
 have z0:=sb_size m.config.media
 generalize sb m.config.media=S0 at*
 obtain ⟨x0,hx0⟩:∃x0,x0=m.config.media.length:=⟨_,rfl⟩
 rw [←hx0]at z0 hc9 HX
 clear hx0
 go_upto_region 3 with fail
 go_loopg [3,4] n1 (fun g v3 v4 wx=> ∃(j:Nat) (z:Int),v3= .int .i64 z∧v4= .int .i64 (j:Int)∧j+g=n1∧wx=w0∧Hid (n1≤65→z=((x0+sumD (m.layers.take j):Nat):Int)∧sumD (m.layers.take j)≤j*140737488355328))
 case atStart=> exact ⟨0,(x0:Int),rfl,rfl,by omega,rfl,Lib.hid fun _=> ⟨rfl,Nat.zero_le _⟩⟩
 case round=>
  obtain ⟨j,z,rfl,rfl,hjg,rfl,HZ⟩:=hrel
  cases gk with
  | zero=>
   obtain rfl:j=n1:=by omega
   have hall:m.layers.take j=m.layers:=List.take_of_length_le (by omega)
   rw [hall]at HZ
   have hge:¬(j:Int) < (j:Int):=by omega
   go_wp2_with fail
   refine (HFE.out _ HB0.out).mono ?_
   rintro e w2 ⟨rfl,q,rfl⟩
   have HB2:=Lib.hid (show Below w.heap.size w (wr.drewN q)from below_drewN HB0.out q)
   clear c0
   generalize fewF m.rest=b1 at*
   cases b1 with
   | false=>
    have HR:Hid (R=false):=Lib.hid (by rw [HX.out];rfl)
    clear HX
    go_wp2_with fail
    go_ret
    exact ⟨by rw [HR.out];rfl,HB2⟩
   | true=>
    by_cases h65:j≤65
    ·obtain ⟨hz,_⟩:=HZ.out h65
     subst hz
     have hl:decide (m.layers.length≤65)=true:=decide_eq_true (by omega)
     by_cases h2:x0+sumD m.layers≤2000
     ·have HR:Hid (R=true):=Lib.hid (by rw [HX.out,hl,decide_eq_true h2];rfl)
      have hg:((x0+sumD m.layers:Nat):Int)≤2000:=by omega
      have hg2:(j:Int)≤65:=by omega
      clear HX hl h2 h65
      generalize x0+sumD m.layers=sx at*
      go_wp2_with fail
      go_ret
      exact ⟨by rw [HR.out];rfl,HB2⟩
     ·have HR:Hid (R=false):=Lib.hid (by rw [HX.out,hl,decide_eq_false h2];rfl)
      have hg:¬((x0+sumD m.layers:Nat):Int)≤2000:=by omega
      clear HX hl h2 h65
      generalize x0+sumD m.layers=sx at*
      go_wp2_with fail
      go_ret
      exact ⟨by rw [HR.out];rfl,HB2⟩
    ·have HR:Hid (R=false):=Lib.hid (by rw [HX.out,decide_eq_false (show ¬m.layers.length≤65 by omega),Bool.and_false])
     have hg2:¬(j:Int)≤65:=by omega
     clear HX h65 HZ
     by_cases hz:z≤2000
     ·go_wp2_with fail
      go_ret
      refine ⟨?_,HB2⟩
      show Ending.returned (.bool (decide ((j:Int)≤65)))=_
      rw [HR.out,decide_eq_false (by omega)]
     ·go_wp2_with fail
      go_ret
      exact ⟨by rw [HR.out];rfl,HB2⟩
  | succ g=>
   have hj:j < m.layers.length:=by omega
   have HMW:=Lib.hid (HM.out wr HB0.out)
   obtain ⟨b,o,rfl,hb,_⟩:=HMW.out.lay.at_ (by omega)
   have cm:=HMW.out.lay.media hj
   have HST:=Lib.hid (sumD_take m.layers j hj)
   have hm9:=HL9.out _ (List.getElem_mem hj)
   have zm:=sb_size m.layers[j].media
   generalize sb m.layers[j].media=SM at*
   generalize m.layers[j].media.length=xm at*
   have hjn:(j:Int) < (n1:Int):=by omega
   go_wp2_with fail
   go_roundg g
   case measure=> omega
   case rel=>
    refine ⟨j+1,_,rfl,by go_num,by omega,rfl,Lib.hid fun h=> ?_⟩
    obtain ⟨h1,h2⟩:=HZ.out h
    rw [HST.out]
    refine ⟨?_,by omega⟩
    rw [few_wrap (x:=z+(xm:Int)) (by omega)]
    omega
end Go.Proofs.YtmkjcleecjjchaaGreatDoor
namespace Go.Proofs.YtmkjcleecjjchaaGreatDoor
open Go.RowKit Sh Jt Js Jo
def ManPost (w:World) (R:Out) (e:Ending) (w':World):Prop:=
 match R with
 | .ok m=> ∃A1 c1 A2 c2,e= .returned (.tuple #[.agg (mv m.config (.slice A1 m.layers.length c1) (.slice A2 m.rest.length c2)).toArray, .int .i64 0])∧OwnDescs w' w.heap.size (.slice A1 m.layers.length c1) m.layers∧OwnVals w' w.heap.size (.slice A2 m.rest.length c2) m.rest∧m.config.dig.length=32∧Below w.heap.size w w'
 | .err c=> e= .returned (.tuple #[.agg (mv noD (.slice none 0 0) (.slice none 0 0)).toArray, .int .i64 (c:Nat)])∧c≠0∧Below w.heap.size w w'
structure RmAt (w wr:World):Prop where
 res:Row wr w.heap.size 31 (mv noD (.slice none 0 0) (.slice none 0 0))
 below:Below w.heap.size w wr
theorem RmAt.next {w wr w':World} (h:RmAt w wr) (hb:Below wr.heap.size wr w'):RmAt w w':=⟨h.res.below hb h.res.lt,h.below.trans (hb.mono h.below.size)⟩
theorem RmAt.new (w:World) {C:Array Value} (hC:C=(mv noD (.slice none 0 0) (.slice none 0 0)).toArray):RmAt w (w.alloc (.cells C 31)):=by
 subst hC
 exact ⟨Row.new _ _ _,below_alloc _ _⟩
theorem mv_size {c:Desc} (h:c.dig.length=32) {a b:Value}:(Tryz.prog.info? 31).map (·.size)=some (mv c a b).length:=by rw [mv_len h];exact mt_sizeM
theorem mv_sizeA {c:Desc} (h:c.dig.length=32) {a b:Value}:(Tryz.prog.info? 31).map (·.size)=some (mv c a b).toArray.size:=by rw [List.size_toArray];exact mv_size h
theorem OwnDescs.block {w:World} {B:Nat} {v:Value} {L:List Desc} (h:OwnDescs w B v L) {b:Nat} (e:v.ownBlock=some b):B≤b:=by
 obtain ⟨_,_,⟨rfl,_⟩ | ⟨g,cap,cur,rfl,hg,_⟩⟩:=h
 ·cases e
 ·have e':g=b:=by simpa [Value.ownBlock] using e
  omega
namespace Jo
theorem key_or {L:List V} (_hr:rightPF L=true) (key:List UInt8):ofKey L key=[]∨rightPF (ofKey L key)=true:=by
 by_cases h:ofKey L key=[]
 ·exact .inl h
 ·obtain ⟨P,hP⟩:=obj_is (key_isO h)
  exact .inr (key_right hP h)
theorem short_key {k:Nat} {L:List V} (h:Short k L) (key:List UInt8):Short k (ofKey L key):=by
 unfold ofKey cutA
 split
 ·exact short_named (short_take (short_drop h _) _) (Nat.zero_le _)
 ·exact fun v hv=> by cases hv
theorem key_len (L:List V) (key:List UInt8):(ofKey L key).length≤L.length:=cutA_len _ _
theorem drop_few {L:List V} (key:List UInt8):(dropA L key).length≤L.length:=by
 by_cases hO:isO L=true
 ·obtain ⟨P,hP⟩:=obj_is hO
  have:=drop_len hP key
  omega
 ·unfold dropA
  rw [if_neg hO]
  exact Nat.zero_le _
theorem man_ok {L:List V} {c:Desc} {ls:List Desc} (h1:hasF L=true) (h2:descF (ofKey L configK)=some c) (h3:descsF (ofKey L layersK)=some ls):manF L=if 60 < ls.length then .err 2 else .ok ⟨c,ls,sortA (dropA (dropA L configK) layersK)⟩:=by
 obtain ⟨P,hP⟩:=obj_is (has_isO h1)
 have hr:=(ObjIs.but (ObjIs.but hP configK) layersK).right
 unfold manF sortA
 rw [if_pos h1,h2,h3,if_pos hr]
theorem man_no {L:List V} (h:hasF L=false∨descF (ofKey L configK)=none∨descsF (ofKey L layersK)=none):manF L= .err 3:=by
 unfold manF
 rcases h with h | h | h
 ·rw [h]
  rfl
 ·rw [h]
  cases hasF L <;> rfl
 ·rw [h]
  cases (if hasF L=true then descF (ofKey L configK) else none) <;> rfl
end Jo
set_option maxRecDepth 100000 in
set_option maxHeartbeats 8000000 in
theorem mt_parseS (w:World) (A:Option Addr) (n c:Nat) (bs:List UInt8) (hB:BytesAt w A n c bs) (hn:n≤1000000000) (hSH:∀k l r,parseF bs= .ok k l r→Short 1000000000 l) (hE:MEnv w):
  Calls Tryz.prog 9 #[.slice A n c] w (ManPost w (parseM bs)):=by
 obtain ⟨R,hR⟩:∃R,parseM bs=R:=⟨_,rfl⟩
 rw [hR]
 have HR:=Lib.hid hR
 have HE:=Lib.hid (fun W (q:Below w.heap.size w W)=> hE.below q)
 have HPA:=Lib.hid (fun W (q:Below w.heap.size w W)=> js_parse W A n c bs (hB.below q) (by omega) (hE.below q).js)
 have hbl:=hB.len
 have HSH:=Lib.hid hSH
 clear hR hB hE hSH
 unfold parseM at HR
 generalize hQ:parseF bs=Q at*
 have HQ:=Lib.hid hQ
 clear hQ
 go_enter Tryz.func9,Tryz.ntmps9
 go_upto_region 1 with fail
 have P0:Hid (RmAt w (w.alloc (Obj.cells (mv noD (.slice none 0 0) (.slice none 0 0)).toArray 31))):=Lib.hid (RmAt.new w rfl)
 generalize hW0:w.alloc (Obj.cells (mv noD (.slice none 0 0) (.slice none 0 0)).toArray 31)=w0 at P0
 generalize hW:World.alloc _ _=W'
 obtain rfl:w0=W':=hW0.symm.trans hW
 clear hW hW0
 go_wp2_with fail
 refine (HPA.out w0 P0.out.below).mono ?_
 intro e w1 hp
 cases Q with
 | err k=>
  obtain ⟨rfl,hk,K1⟩:=hp
  have P1:=Lib.hid (P0.out.next K1)
  have HRR:Hid (R= .err k):=Lib.hid HR.out.symm
  have hb:((k:Int) !=0)=true:=by rw [bne_iff_ne];omega
  clear P0 K1 HPA HR
  have HK:=Lib.hid hk
  clear hk
  go_wp2_with (first
   | ((with_reducible refine build_all ?_ 31 #[] ?_ (mv noD (.slice none 0 0) (.slice none 0 0)).toArray ?_ ?_);rfl;rfl;go_must (refine Eq.trans ?_ built_manZ;kernel_rfl))
   | ((with_reducible refine store_all ?_ 31 (.tmp 2) (.tmp 18) ?_ w.heap.size (mv noD (.slice none 0 0) (.slice none 0 0)) ?_ ?_ (mv noD (.slice none 0 0) (.slice none 0 0)) ?_ ?_ ?_ ?_ ?_);rfl;rfl;go_must (rfl;rfl;rfl;exact P1.out.res;exact mv_size noD_len;exact mv_one rfl rfl;intro wz Rz Kz Ez)))
  refine bodyPost_ret (v:= .tuple #[.agg (mv noD (.slice none 0 0) (.slice none 0 0)).toArray, .int .i64 (k:Nat)]) (results_row_tmp (fn:=Tryz.f9) (p:=2) (u:=3) rfl _ _ w.heap.size _ (mv noD (.slice none 0 0) (.slice none 0 0)).toArray _ _ rfl Rz.out Tryz.underlying31 rfl (mv_sizeA noD_len)) rfl ?_
  rw [HRR.out]
  exact ⟨rfl,HK.out,own_row P1.out.below Kz.out⟩
 | ok k L r=>
  obtain ⟨v1,rfl,O1,K1⟩:=hp
  have P1:=Lib.hid (P0.out.next K1)
  obtain ⟨A1,c1,rfl,hv1,_⟩:=O1.vals
  have HV1:=Lib.hid hv1
  have hpar:=parse_right HQ.out
  obtain ⟨t,ht⟩:=hpar.2.2
  have HRT:=Lib.hid ((prog_is L).2 ⟨t,ht⟩)
  have hl5:L.length≤5000:=ht.1
  have HS:=Lib.hid (show Short 1000000000 L from HSH.out k L r rfl)
  have HMN:Hid (R=manF L):=Lib.hid HR.out.symm
  clear P0 K1 HPA HR O1 hv1 hpar ht HQ HSH
  have HGC:=Lib.hid (fun W (q:Below w1.heap.size w1 W) (E:MEnv W)=> jo_get W A1 L.length c1 L (HV1.out.below q) (by omega) HS.out E.j.tab 0 configK)
  have HGL:=Lib.hid (fun W (q:Below w1.heap.size w1 W) (E:MEnv W)=> jo_get W A1 L.length c1 L (HV1.out.below q) (by omega) HS.out E.j.tab 0 layersK)
  have HCC:=Lib.hid (fun W (q:Below w1.heap.size w1 W) (E:MEnv W)=> own_any (L:=ofKey L configK) rfl (jo_cut W A1 L.length c1 L (HV1.out.below q) (by omega) HS.out E.j.tab (plc (getA L 0 configK))))
  have HCL:=Lib.hid (fun W (q:Below w1.heap.size w1 W) (E:MEnv W)=> own_any (L:=ofKey L layersK) rfl (jo_cut W A1 L.length c1 L (HV1.out.below q) (by omega) HS.out E.j.tab (plc (getA L 0 layersK))))
  have HHS:=Lib.hid (fun W (q:Below w1.heap.size w1 W) (E:MEnv W)=> mt_has W A1 L.length c1 L (HV1.out.below q) (by omega) HS.out E.j.tab)
  have HDC:=Lib.hid (fun W (q:Below w1.heap.size w1 W) (E:MEnv W)=> own_any (L:=dropA L configK) rfl (jo_drop W A1 L.length c1 L (HV1.out.below q) (by omega) HS.out E.j.tab configK))
  have HKS:=Lib.hid (And.intro (short_key HS.out configK) (short_key HS.out layersK))
  have hk1:=key_len L configK
  have hk2:=key_len L layersK
  have hd1:=drop_few (L:=L) configK
  have HSD:=Lib.hid (short_dropA HS.out (key:=configK))
  have HOR:=Lib.hid (key_or HRT.out layersK)
  have HNO:=Lib.hid (man_no (L:=L))
  have HOK:=Lib.hid (fun c ls=> man_ok (L:=L) (c:=c) (ls:=ls))
  change Hid (∀W,_→_→Calls _ _ #[_,_, .string ⟨#[99,111,110,102,105,103]⟩] _ _)at HGC
  change Hid (∀W,_→_→Calls _ _ #[_,_, .string ⟨#[108,97,121,101,114,115]⟩] _ _)at HGL
  change Hid (∀W,_→_→Calls _ _ #[_, .string ⟨#[99,111,110,102,105,103]⟩] _ _)at HDC
  clear HS HRT HV1
  have B1:=Lib.hid (Below.refl w1.heap.size w1)
  go_wp2_with fail
  refine (HGC.out w1 B1.out (HE.out _ P1.out.below)).mono ?_
  rintro e w2 ⟨rfl,K2⟩
  have P2:=Lib.hid (P1.out.next K2.out)
  have B2:=Lib.hid (B1.out.trans (K2.out.mono B1.out.size))
  clear P1 K2 HGC B1
  go_wp2_with fail
  refine (HCC.out w2 B2.out (HE.out _ P2.out.below)).mono ?_
  rintro e w3 ⟨A3,c3,rfl,K3⟩
  have P3:=Lib.hid (P2.out.next K3.out.2.2)
  have B3:=Lib.hid (B2.out.trans (K3.out.2.2.mono B2.out.size))
  have HV3:=Lib.hid K3.out.2.1
  clear P2 K3 HCC B2
  generalize plc (getA L 0 configK)=zc at*
  go_wp2_with fail
  refine (mt_readDesc w3 A3 (ofKey L configK).length c3 (ofKey L configK) HV3.out (by omega) HKS.out.1 (HE.out _ P3.out.below)).mono ?_
  rintro e w4 ⟨rfl,K4⟩
  have P4:=Lib.hid (P3.out.next K4.out)
  have B4:=Lib.hid (B3.out.trans (K4.out.mono B3.out.size))
  clear P3 K4 HV3 B3
  have hdi:∀d,descF (ofKey L configK)=some d→d.dig.length=32:=fun d h=> (desc_inv h).2.1
  generalize descF (ofKey L configK)=o1 at*
  have hod:(orD o1).dig.length=32:=by
   cases o1 with
   | none=> rfl
   | some d=> exact hdi d rfl
  obtain ⟨d,hd⟩:∃d,d=orD o1:=⟨_,rfl⟩
  rw [←hd]at hod ⊢
  have HDV:=Lib.hid hod
  have HD:=Lib.hid hd
  clear hod hd hdi
  go_upto_region 5 with ((with_reducible refine store_all ?_ 27 (.tmp 6) (.tmp 26) ?_ w4.heap.size (dv d) ?_ ?_ (dv noD) ?_ ?_ ?_ ?_ ?_);rfl;rfl;go_must (rfl;rfl;(rw [dv_len HDV.out];rfl);exact Row.at_ _ _ _ rfl rfl;exact dv_size HDV.out;exact dv_all _;intro w5 R5 K5 E5))
  have KB5:=Lib.hid (show Below w4.heap.size w4 w5 from (kept_stored K5.out).below (Nat.le_refl _) (fun _ _ h=> h))
  have P5:=Lib.hid (P4.out.next KB5.out)
  have B5:=Lib.hid (B4.out.trans (KB5.out.mono B4.out.size))
  have hq4:w.heap.size < w4.heap.size:=P4.out.res.lt
  clear P4 K5 E5 KB5 B4
  generalize w4.heap.size=q at R5 hq4 ⊢
  go_wp2_with fail
  refine (HGL.out w5 B5.out (HE.out _ P5.out.below)).mono ?_
  rintro e w6 ⟨rfl,K6⟩
  have P6:=Lib.hid (P5.out.next K6.out)
  have B6:=Lib.hid (B5.out.trans (K6.out.mono B5.out.size))
  have R6:=Lib.hid (show Row w6 q 27 (dv d)from R5.out.below K6.out R5.out.lt)
  clear P5 K6 HGL B5 R5
  go_wp2_with fail
  refine (HCL.out w6 B6.out (HE.out _ P6.out.below)).mono ?_
  rintro e w7 ⟨A7,c7,rfl,K7⟩
  have P7:=Lib.hid (P6.out.next K7.out.2.2)
  have B7:=Lib.hid (B6.out.trans (K7.out.2.2.mono B6.out.size))
  have R7:=Lib.hid (show Row w7 q 27 (dv d)from R6.out.below K7.out.2.2 R6.out.lt)
  have HV7:=Lib.hid K7.out.2.1
  clear P6 K7 HCL B6 R6
  generalize plc (getA L 0 layersK)=zl at*
  go_wp2_with fail
  refine (mt_readDescs w7 A7 (ofKey L layersK).length c7 (ofKey L layersK) HV7.out (by omega) HKS.out.2 (HE.out _ P7.out.below) HOR.out).mono ?_
  rintro e w8 ⟨v8,rfl,K8⟩
  have P8:=Lib.hid (P7.out.next K8.out.2)
  have B8:=Lib.hid (B7.out.trans (K8.out.2.mono B7.out.size))
  have R8:=Lib.hid (show Row w8 q 27 (dv d)from R7.out.below K8.out.2 R7.out.lt)
  have HO8:=Lib.hid (K8.out.1.mono (show w.heap.size+1≤_ from P7.out.res.lt))
  clear P7 K8 B7 R7 HV7
  generalize descsF (ofKey L layersK)=o2 at*
  obtain ⟨A8,c8,rfl, -⟩:=HO8.out.descs
  go_wp2_with fail
  refine (HHS.out w8 B8.out (HE.out _ P8.out.below)).mono ?_
  rintro e w9 ⟨rfl,K9⟩
  have P9:=Lib.hid (P8.out.next K9.out)
  have B9:=Lib.hid (B8.out.trans (K9.out.mono B8.out.size))
  have R9:=Lib.hid (show Row w9 q 27 (dv d)from R8.out.below K9.out R8.out.lt)
  have HO9:=Lib.hid (show OwnDescs w9 (w.heap.size+1) (.slice A8 (o2.getD []).length c8) (o2.getD [])from HO8.out.below K9.out)
  clear P8 K9 B8 R8 HO8 HHS
  generalize hasF L=hf at*
  cases hf with
  | false=>
   have HRR:Hid (R= .err 3):=Lib.hid (by rw [HMN.out];exact HNO.out (.inl rfl))
   clear HMN HNO HOK
   generalize o1.isSome=b1
   generalize o2.isSome=b2
   generalize (o2.getD []).length=n8 at*
   go_wp2_with (first
    | ((with_reducible refine build_all ?_ 31 #[] ?_ (mv noD (.slice none 0 0) (.slice none 0 0)).toArray ?_ ?_);rfl;rfl;go_must (refine Eq.trans ?_ built_manZ;kernel_rfl))
    | ((with_reducible refine store_all ?_ 31 (.tmp 2) (.tmp 47) ?_ w.heap.size (mv noD (.slice none 0 0) (.slice none 0 0)) ?_ ?_ (mv noD (.slice none 0 0) (.slice none 0 0)) ?_ ?_ ?_ ?_ ?_);rfl;rfl;go_must (rfl;rfl;rfl;exact P9.out.res;exact mv_size noD_len;exact mv_one rfl rfl;intro wz Rz Kz Ez)))
   refine bodyPost_ret (v:= .tuple #[.agg (mv noD (.slice none 0 0) (.slice none 0 0)).toArray, .int .i64 (3:Int)]) (results_row_tmp (fn:=Tryz.f9) (p:=2) (u:=3) rfl _ _ w.heap.size _ (mv noD (.slice none 0 0) (.slice none 0 0)).toArray _ _ rfl Rz.out Tryz.underlying31 rfl (mv_sizeA noD_len)) rfl ?_
   rw [HRR.out]
   exact ⟨rfl,by decide,own_row P9.out.below Kz.out⟩
  | true=>
   cases o1 with
   | none=>
    have HRR:Hid (R= .err 3):=Lib.hid (by rw [HMN.out];exact HNO.out (.inr (.inl rfl)))
    clear HMN HNO HOK
    simp only [Option.isSome_none]
    generalize o2.isSome=b2
    generalize (o2.getD []).length=n8 at*
    go_wp2_with (first
     | ((with_reducible refine build_all ?_ 31 #[] ?_ (mv noD (.slice none 0 0) (.slice none 0 0)).toArray ?_ ?_);rfl;rfl;go_must (refine Eq.trans ?_ built_manZ;kernel_rfl))
     | ((with_reducible refine store_all ?_ 31 (.tmp 2) (.tmp 47) ?_ w.heap.size (mv noD (.slice none 0 0) (.slice none 0 0)) ?_ ?_ (mv noD (.slice none 0 0) (.slice none 0 0)) ?_ ?_ ?_ ?_ ?_);rfl;rfl;go_must (rfl;rfl;rfl;exact P9.out.res;exact mv_size noD_len;exact mv_one rfl rfl;intro wz Rz Kz Ez)))
    refine bodyPost_ret (v:= .tuple #[.agg (mv noD (.slice none 0 0) (.slice none 0 0)).toArray, .int .i64 (3:Int)]) (results_row_tmp (fn:=Tryz.f9) (p:=2) (u:=3) rfl _ _ w.heap.size _ (mv noD (.slice none 0 0) (.slice none 0 0)).toArray _ _ rfl Rz.out Tryz.underlying31 rfl (mv_sizeA noD_len)) rfl ?_
    rw [HRR.out]
    exact ⟨rfl,by decide,own_row P9.out.below Kz.out⟩
   | some d1=>
    have hdd:d=d1:=HD.out
    subst hdd
    simp only [Option.isSome_some]
    cases o2 with
    | none=>
     have HRR:Hid (R= .err 3):=Lib.hid (by rw [HMN.out];exact HNO.out (.inr (.inr rfl)))
     clear HMN HNO HOK
     simp only [Option.isSome_none]
     generalize (Option.getD none ([]:List Desc)).length=n8 at*
     go_wp2_with (first
      | ((with_reducible refine build_all ?_ 31 #[] ?_ (mv noD (.slice none 0 0) (.slice none 0 0)).toArray ?_ ?_);rfl;rfl;go_must (refine Eq.trans ?_ built_manZ;kernel_rfl))
      | ((with_reducible refine store_all ?_ 31 (.tmp 2) (.tmp 47) ?_ w.heap.size (mv noD (.slice none 0 0) (.slice none 0 0)) ?_ ?_ (mv noD (.slice none 0 0) (.slice none 0 0)) ?_ ?_ ?_ ?_ ?_);rfl;rfl;go_must (rfl;rfl;rfl;exact P9.out.res;exact mv_size noD_len;exact mv_one rfl rfl;intro wz Rz Kz Ez)))
     refine bodyPost_ret (v:= .tuple #[.agg (mv noD (.slice none 0 0) (.slice none 0 0)).toArray, .int .i64 (3:Int)]) (results_row_tmp (fn:=Tryz.f9) (p:=2) (u:=3) rfl _ _ w.heap.size _ (mv noD (.slice none 0 0) (.slice none 0 0)).toArray _ _ rfl Rz.out Tryz.underlying31 rfl (mv_sizeA noD_len)) rfl ?_
     rw [HRR.out]
     exact ⟨rfl,by decide,own_row P9.out.below Kz.out⟩
    | some ls=>
     simp only [Option.isSome_some]
     change Hid (OwnDescs w9 (w.heap.size+1) (.slice A8 ls.length c8) ls)at HO9
     have HM2:=Lib.hid (HMN.out.trans (HOK.out d ls rfl rfl rfl))
     clear HMN HNO HOK HD
     simp only [Option.getD_some]
     by_cases h60:60 < ls.length
     ·have HRR:Hid (R= .err 2):=Lib.hid (by rw [HM2.out,if_pos h60])
      have hg:(60:Int) < (ls.length:Int):=by omega
      clear HM2
      go_wp2_with (first
       | ((with_reducible refine build_all ?_ 31 #[] ?_ (mv noD (.slice none 0 0) (.slice none 0 0)).toArray ?_ ?_);rfl;rfl;go_must (refine Eq.trans ?_ built_manZ;kernel_rfl))
       | ((with_reducible refine store_all ?_ 31 (.tmp 2) (.tmp 51) ?_ w.heap.size (mv noD (.slice none 0 0) (.slice none 0 0)) ?_ ?_ (mv noD (.slice none 0 0) (.slice none 0 0)) ?_ ?_ ?_ ?_ ?_);rfl;rfl;go_must (rfl;rfl;rfl;exact P9.out.res;exact mv_size noD_len;exact mv_one rfl rfl;intro wz Rz Kz Ez)))
      refine bodyPost_ret (v:= .tuple #[.agg (mv noD (.slice none 0 0) (.slice none 0 0)).toArray, .int .i64 (2:Int)]) (results_row_tmp (fn:=Tryz.f9) (p:=2) (u:=3) rfl _ _ w.heap.size _ (mv noD (.slice none 0 0) (.slice none 0 0)).toArray _ _ rfl Rz.out Tryz.underlying31 rfl (mv_sizeA noD_len)) rfl ?_
      rw [HRR.out]
      exact ⟨rfl,by decide,own_row P9.out.below Kz.out⟩
     ·have HRR:Hid (R= .ok ⟨d,ls,sortA (dropA (dropA L configK) layersK)⟩):=Lib.hid (by rw [HM2.out,if_neg h60])
      have hg:¬(60:Int) < (ls.length:Int):=by omega
      clear HM2
      go_wp2_with fail
      refine (HDC.out w9 B9.out (HE.out _ P9.out.below)).mono ?_
      rintro e w10 ⟨A10,c10,rfl,K10⟩
      have P10:=Lib.hid (P9.out.next K10.out.2.2)
      have R10:=Lib.hid (show Row w10 q 27 (dv d)from R9.out.below K10.out.2.2 R9.out.lt)
      have HO10:=Lib.hid (HO9.out.below K10.out.2.2)
      have HV10:=Lib.hid K10.out.2.1
      clear P9 K10 B9 R9 HO9 HDC
      have HSD2:=Lib.hid (short_dropA HSD.out (key:=layersK))
      have hd2:=drop_few (L:=dropA L configK) layersK
      generalize dropA L configK=X1 at*
      go_wp2_with fail
      refine (show Calls _ _ #[_, .string ⟨#[108,97,121,101,114,115]⟩] _ _ from own_any (L:=dropA X1 layersK) rfl (jo_drop w10 A10 X1.length c10 X1 HV10.out (by omega) HSD.out (HE.out _ P10.out.below).j.tab layersK)).mono ?_
      rintro e w11 ⟨A11,c11,rfl,K11⟩
      have P11:=Lib.hid (P10.out.next K11.out.2.2)
      have R11:=Lib.hid (show Row w11 q 27 (dv d)from R10.out.below K11.out.2.2 R10.out.lt)
      have HO11:=Lib.hid (HO10.out.below K11.out.2.2)
      have HV11:=Lib.hid K11.out.2.1
      clear P10 K11 R10 HO10 HV10
      generalize dropA X1 layersK=X2 at*
      go_wp2_with fail
      refine (own_any (L:=sortA X2) rfl (sort_any w11 A11 X2.length c11 X2 HV11.out (by omega) HSD2.out (HE.out _ P11.out.below).j.tab)).mono ?_
      rintro e w12 ⟨A12,c12,rfl,K12⟩
      have P12:=Lib.hid (P11.out.next K12.out.2.2)
      have R12:=Lib.hid (show Row w12 q 27 (dv d)from R11.out.below K12.out.2.2 R11.out.lt)
      have HO12:=Lib.hid (HO11.out.below K12.out.2.2)
      have HR12:=Lib.hid (K12.out.1.mono (show w.heap.size+1≤_ from P11.out.res.lt))
      clear P11 K12 R11 HO11 HV11
      have HBM:=Lib.hid (built_manD HDV.out A8 A12 ls.length c8 (sortA X2).length c12)
      have HDL:=Lib.hid (dv_size HDV.out)
      have HML:=Lib.hid (mv_len HDV.out (.slice A8 ls.length c8) (.slice A12 (sortA X2).length c12))
      have HM1:=Lib.hid (mv_one (c:=d) (a:= .slice A8 ls.length c8) (b:= .slice A12 (sortA X2).length c12) rfl rfl)
      generalize hMV:mv d (.slice A8 ls.length c8) (.slice A12 (sortA X2).length c12)=MV at*
      have HMV:=Lib.hid hMV
      clear hMV
      generalize dv d=DV at*
      generalize hsx:(sortA X2).length=sx at*
      have HSX:=Lib.hid hsx
      clear hsx
      go_wp2_with (first
       | ((with_reducible refine load_all ?_ 27 (.tmp 6) ?_ q 0 DV DV.toArray ?_ _ ?_ Tryz.underlying27 ?_ ?_ ?_ ?_);rfl;rfl;go_must (rfl;exact rangeAt_row R12.out;rfl;exact HDL.out;rfl))
       | ((with_reducible refine build_all ?_ 31 #[(0, .tmp 56),(1, .tmp 57),(2, .tmp 58)] ?_ MV.toArray ?_ ?_);rfl;rfl;go_must (refine Eq.trans ?_ HBM.out;kernel_rfl))
       | ((with_reducible refine store_all ?_ 31 (.tmp 2) (.tmp 59) ?_ w.heap.size MV ?_ ?_ (mv noD (.slice none 0 0) (.slice none 0 0)) ?_ ?_ ?_ ?_ ?_);rfl;rfl;go_must (rfl;rfl;(rw [HML.out];rfl);exact P12.out.res;(rw [HML.out];exact mt_sizeM);exact HM1.out;intro wz Rz Kz Ez)))
      refine bodyPost_ret (v:= .tuple #[.agg MV.toArray, .int .i64 0]) (results_row_tmp (fn:=Tryz.f9) (p:=2) (u:=3) rfl _ _ w.heap.size _ MV.toArray _ _ rfl Rz.out Tryz.underlying31 rfl (by rw [List.size_toArray,HML.out];exact mt_sizeM)) rfl ?_
      rw [HRR.out]
      refine ⟨A8,c8,A12,c12,by rw [←HMV.out,←HSX.out],(HO12.out.kept Kz.out (fun b e eb=> by have:=HO12.out.block e;omega)).mono (Nat.le_succ _), ?_,HDV.out,own_row P12.out.below Kz.out⟩
      have:=(HR12.out.kept Kz.out (fun b e eb=> by have:=(HR12.out.block e).1;omega)).mono (Nat.le_succ _)
      rw [HSX.out]
      exact this
theorem mt_parse (w:World) (A:Option Addr) (n c:Nat) (bs:List UInt8) (hB:BytesAt w A n c bs) (hn:n≤250000000) (hE:MEnv w):
  Calls Tryz.prog 9 #[.slice A n c] w (ManPost w (parseM bs)):=
 mt_parseS w A n c bs hB (by omega) (fun _ _ _ h=> short_more (parse_short h) (by have:=hB.len;omega)) hE
end Go.Proofs.YtmkjcleecjjchaaGreatDoor
namespace Go.Proofs.YtmkjcleecjjchaaGreatDoor
open Go
namespace Jo
open Jt Js
set_option maxRecDepth 100000
theorem quote_plain:∀s:List UInt8,(∀a∈s,40≤a.toNat∧a.toNat < 92∨93≤a.toNat∧a.toNat < 127)→quoteB s=s
 | [],_=> quote_nil
 | a::r,h=> by
  have ha:=h a List.mem_cons_self
  have hs:scalar a.toNat=true:=scalar_is.2 (.inl (by omega))
  have hb:bytesF a.toNat=[a]:=by
   unfold bytesF
   rw [if_pos (by omega),UInt8.ofNat_toNat]
  have ho:Jt.oneF a.toNat=[a]:=by
   unfold Jt.oneF
   rw [if_neg (by omega),if_neg (by omega),if_neg (by omega),if_neg (by omega),if_neg (by omega),if_neg (by omega),if_neg (by omega),if_neg (by omega),hb]
  have:=quote_ch hs r
  rw [hb,if_pos (by omega),ho,quote_plain r fun x hx=> h x (List.mem_cons_of_mem _ hx)]at this
  exact this
theorem quoteF_plain {s:List UInt8} (h:∀a∈s,40≤a.toNat∧a.toNat < 92∨93≤a.toNat∧a.toNat < 127):quoteF s=34::(s++[34]):=by
 unfold quoteF
 rw [quote_plain s h]
def R0:List V:=[⟨6,[],[],2⟩,⟨3,schemaK,[50],0⟩,⟨4,[120],[121],0⟩]
def P2:List (List V):=[[⟨3,schemaK,[50],0⟩],[⟨4,[120],[121],0⟩]]
def cS:Desc:=⟨[99],List.replicate 32 0,5⟩
def lS:Desc:=⟨[108],1::List.replicate 31 0,7⟩
def mS:Man:=⟨cS,[lS],R0⟩
theorem schema_valid:validF schemaK=true:=valid_ascii _ (by decide)
theorem v_x:validF [120]=true:=valid_sign (by decide)
theorem t_two:textF 2=[50]:=by
 unfold textF
 rw [if_neg (by decide),show (2:Int).natAbs=2 from rfl,nat_low (by decide)]
 rfl
theorem parts2:Parts 1 true [schemaK,[120]] P2:=
 .cons (one_num (by decide) (fun h=> by cases h) schema_valid (by decide) (by decide)) (.cons (one_str (by decide) (fun h=> by cases h) v_x (valid_sign (by decide))) .nil)
theorem right2:rightPF R0=true:=whole_right (v:=⟨6,[],[],2⟩) (P:=P2) (own_obj 2) parts2 rfl (fun _=> by decide) (by decide)
theorem is2:ObjIs R0 P2:=ObjIs.of (P:=P2) (n:=2) rfl right2 (parts_ends parts2)
theorem obj2:objA [schemaK,[120]] [[⟨3,[],[50],0⟩],[⟨4,[],[121],0⟩]]=R0:=by
 unfold objA fineF
 rw [if_pos ⟨by rw [List.all_cons,List.all_cons,show rightPF [⟨3,[],[50],0⟩]=true from right_one (one_num (by decide) (fun _=> rfl) valid_nil (by decide) (by decide)) (by decide),show rightPF [⟨4,[],[121],0⟩]=true from r_sy];rfl,rfl⟩]
 exact if_pos right2
theorem rest2:restOk R0=true:=by
 refine is_rest is2 ?_ (by decide) (by decide) rfl
 unfold hasF memF
 rw [ObjIs.key is2]
 rfl
theorem okC:okD cS=true:=by
 unfold okD
 rw [show validF cS.media=true from valid_sign (by decide)]
 rfl
theorem okL:okD lS=true:=by
 unfold okD
 rw [show validF lS.media=true from valid_sign (by decide)]
 rfl
theorem okS:OkM mS:=⟨rest2,by decide,okC,fun d hd=> by rw [List.mem_singleton.1 hd];exact okL,by decide⟩
theorem digS:DigM mS:=⟨rfl,fun d hd=> by rw [List.mem_singleton.1 hd];rfl⟩
theorem man_print {m:Man} (hm:OkM m) (hd:DigM m):∃t,Js.Row (rowM m) t∧parseM t= .ok m:=by
 obtain ⟨P,X,hX⟩:=row_is hm
 obtain ⟨t,ht⟩:=(prog_is _).1 hX.right.1
 refine ⟨t,ht, ?_⟩
 unfold parseM
 rw [parse_back ht]
 exact man_row hX hm hd
theorem head_char {k:List UInt8} (h:∀a∈k,40≤a.toNat∧a.toNat < 92∨93≤a.toNat∧a.toNat < 127) {v:V} (hk:v.key=k) (t:List UInt8):item true v t=(34::(k++[34]))++58::body v t:=by
 unfold item
 rw [if_pos rfl,hk,quoteF_plain h]
def heads:List UInt8:=[123,34,99,111,110,102,105,103,34,58,123,34,100,105,103,101,115,116,34,58,34,115,104,97,50,53,54,58,48]
theorem text_plain (d:List UInt8):∀a∈Dg.text d,40≤a.toNat∧a.toNat < 92∨93≤a.toNat∧a.toNat < 127:=by
 intro a ha
 unfold Dg.text at ha
 rcases List.mem_append.1 ha with ha | ha
 ·exact (show ∀a∈Dg.pre,40≤a.toNat∧a.toNat < 92∨93≤a.toNat∧a.toNat < 127 by decide) a ha
 ·have hx:∀k,40≤(Dg.hx k).toNat∧(Dg.hx k).toNat < 92∨93≤(Dg.hx k).toNat∧(Dg.hx k).toNat < 127∨16≤k:=by
   intro k
   by_cases h:k < 16
   ·revert k
    decide
   ·exact .inr (.inr (by omega))
  have hp:∀d:List UInt8,∀a∈Dg.pairs d,∃k,k < 16∧a=Dg.hx k:=by
   intro d
   induction d with
   | nil=> intro a h;cases h
   | cons b r ih=>
    intro a h
    rw [Dg.pairs]at h
    rcases List.mem_cons.1 h with rfl | h
    ·exact ⟨_,by have:=b.toNat_lt;omega,rfl⟩
    rcases List.mem_cons.1 h with rfl | h
    ·exact ⟨_,by omega,rfl⟩
    ·exact ih a h
  obtain ⟨k,hk,rfl⟩:=hp d a ha
  rcases hx k with h | h | h
  ·exact .inl h
  ·exact .inr h
  ·omega
theorem small_text {t:List UInt8} (h:Js.Row (rowM mS) t):t.take 29=heads∧40≤t.length:=by
 obtain ⟨P,X,hX⟩:=row_is okS
 have hP:P=P2:=ends_unique P P2 hX.rest.ends is2.ends (by
  have h1:=hX.rest.eq
  have h2:=is2.eq
  rw [show mS.rest=R0 from rfl,h2]at h1
  simp only [List.cons.injEq,V.mk.injEq,true_and]at h1
  omega) (by
  have h1:=hX.rest.eq
  have h2:=is2.eq
  rw [show mS.rest=R0 from rfl,h2]at h1
  exact (List.cons.inj h1).2.symm)
 have hS:rowM mS=⟨6,[],[],4⟩::⟨6,configK,[],3⟩::⟨4,digK,Dg.text (List.replicate 32 0),0⟩::⟨4,mediaK,[99],0⟩::⟨3,sizeK,textF 5,0⟩::⟨5,layersK,[],1⟩::⟨6,[],[],3⟩::⟨4,digK,Dg.text (1::List.replicate 31 0),0⟩::⟨4,mediaK,[108],0⟩::⟨3,sizeK,textF 7,0⟩::⟨3,schemaK,[50],0⟩::⟨4,[120],[121],0⟩::[]:=by
  rw [hX.row,hX.obj.eq,hP]
  rfl
 rw [hS]at h
 obtain ⟨v,l1,l2,t1,t2,e,hk,hone,hr,ht⟩:=rows_first h.2
 rw [if_pos rfl,List.append_nil]at ht
 obtain ⟨rfl,e1⟩:=List.cons.inj e
 obtain ⟨rfl,_⟩:=rows_none hr rfl
 rw [List.append_nil]at e1
 subst e1
 obtain ⟨ks,q1,q2,_⟩:=hone.kids
 match ks,q2 with
 | [k1,k2,k3,k4],_=>
  obtain ⟨v,l1,l2,t3,t4,e0,hk,hone2,hr2,ht2⟩:=rows_first q1
  obtain ⟨rfl,e3⟩:=List.cons.inj e0
  obtain ⟨ks2,p1,p2,_⟩:=hone2.kids
  match ks2,p2 with
  | [j1,j2,j3],_=>
   obtain ⟨v,l3,l4,t5,t6,e2,hk2,hone3,hr3,ht3⟩:=rows_first p1
   have ev:v=⟨4,digK,Dg.text (List.replicate 32 0),0⟩:=by
    match l1,e2,e3 with
    | a::l1,e2,e3=>
     have h1:=(List.cons.inj e3).1
     have h2:=(List.cons.inj e2).1
     rw [←h2,←h1]
   subst ev
   have hT:t=123::(((34::(configK++[34]))++58::(123::((((34::(digK++[34]))++58::quoteF (Dg.text (List.replicate 32 0)))++44::t6)++[125])))++44::t4++[125]):=by
    have h3:t3=item true ⟨4,digK,Dg.text (List.replicate 32 0),0⟩ t5++44::t6:=ht3
    have h2:t1=item true ⟨6,configK,[],3⟩ t3++44::t4:=ht2
    have h1:t=body ⟨6,[],[],4⟩ t1:=ht
    rw [head_char (k:=digK) (by decide) rfl]at h3
    rw [head_char (k:=configK) (by decide) rfl,h3]at h2
    rw [h1,h2]
    rfl
   rw [hT,quoteF_plain (text_plain _)]
   refine ⟨rfl, ?_⟩
   have hd:=Dg.text_length (List.replicate 32 0)
   rw [List.length_replicate]at hd
   simp only [List.length_cons,List.length_append]
   omega
theorem empty_parse:parseM [123,125]= .err 3:=by
 have h:parseF [123,125]= .ok 1 [⟨6,[],[],0⟩] []:=rfl
 unfold parseM
 rw [h]
 refine (show manF [⟨6,[],[],0⟩]= .err 3 from ?_)
 have hg:∀key,getA [⟨6,[],[],0⟩] 0 key=none:=fun key=> by
  unfold getA
  split <;> rfl
 unfold manF hasF memF tellF
 rw [key_none (hg schemaK)]
 rfl
end Jo
end Go.Proofs.YtmkjcleecjjchaaGreatDoor
namespace Go.Proofs.YtmkjcleecjjchaaGreatDoor
open Go.RowKit Sh Jt Js Jo
namespace Jo
structure Prints (m:Man) (t:List UInt8):Prop where
 row:Js.Row (rowM m) t
 back:parseM t= .ok m
 len:t.length≤1000000000
 short:∀k l r,parseF t= .ok k l r→Short 1000000000 l
theorem row_short {k:Nat} {m:Man} (hk:100≤k) (hm:OkM m) (hd:DigM m) (h1:m.config.media.length≤k) (h2:∀d∈m.layers,d.media.length≤k) (h3:Short k m.rest):Short k (rowM m):=by
 have each:∀d:Desc,okD d=true→d.dig.length=32→d.media.length≤k→Short k (rowD d):=fun d ho hd hl=> by
  have hz:=of_decide_eq_true (ok_valid ho).2
  have ht:=Dg.text_length d.dig
  have hn:=textF_len (n:=d.size) (by omega) (by omega)
  rw [rowD_is ho]
  intro v hv
  unfold descV kidsD at hv
  simp only [List.mem_cons,List.not_mem_nil,or_false]at hv
  rcases hv with rfl | rfl | rfl | rfl
  ·exact ⟨Nat.zero_le _,Nat.zero_le _⟩
  ·exact ⟨Nat.le_trans (show mediaK.length≤100 by decide) hk,hl⟩
  ·refine ⟨Nat.le_trans (show digK.length≤100 by decide) hk, ?_⟩
   show (Dg.text d.dig).length≤k
   omega
  ·refine ⟨Nat.le_trans (show sizeK.length≤100 by decide) hk, ?_⟩
   show (textF d.size).length≤k
   omega
 unfold rowM
 split
 ·refine short_sortA (short_setA (short_setA h3 (each _ hm.config hd.config h1) (Nat.le_trans (by decide) hk)) (short_list fun p hp=> ?_) (Nat.le_trans (by decide) hk))
  obtain ⟨d,hx,rfl⟩:=List.mem_map.1 hp
  exact each d (hm.layers d hx) (hd.layers d hx) (h2 d hx)
 ·exact fun v hv=> by cases hv
theorem prints {m:Man} (hm:OkM m) (hd:DigM m) (h1:m.config.media.length≤12000) (h2:∀d∈m.layers,d.media.length≤12000) (h3:Short 12000 m.rest):∃t,Prints m t:=by
 obtain ⟨t,ht,hp⟩:=man_print hm hd
 have hs:=row_short (by decide) hm hd h1 h2 h3
 have hl:=rows_len ht.2 hs
 have hf:=rowM_few m
 refine ⟨t,ht,hp, ?_,fun k l r h=> ?_⟩
 ·have h6:(rowM m).length*(12*12000+40)≤5000*(12*12000+40):=Nat.mul_le_mul_right _ hf
  omega
 ·rw [parse_back ht]at h
  obtain ⟨_,rfl,_⟩:=ok_inj h
  exact short_more hs (by decide)
structure Words (m:Man):Prop where
 config: -9223372036854775808≤m.config.size∧m.config.size≤9223372036854775807
 layers:∀d∈m.layers, -9223372036854775808≤d.size∧d.size≤9223372036854775807
theorem few_bounds {m:Man} (h:fewM m=true):m.config.media.length≤2000∧(∀d∈m.layers,d.media.length≤2000)∧m.layers.length≤65∧m.rest.length≤80∧Short 3000 m.rest:=by
 unfold fewM at h
 rw [Bool.and_eq_true,Bool.and_eq_true,decide_eq_true_eq,decide_eq_true_eq]at h
 obtain ⟨⟨h1,h2⟩,h3⟩:=h
 obtain ⟨h4,h5⟩:=few_short h1
 exact ⟨by omega,fun d hd=> by have:=sumD_mem hd;omega,h3,h4,h5⟩
theorem few_fit {m:Man} (h:fewM m=true) (hw:Words m):FitM m:=by
 obtain ⟨h1,h2,_,h4,h5⟩:=few_bounds h
 exact ⟨⟨by omega,hw.config⟩,fun d hd=> ⟨by have:=h2 d hd;omega,hw.layers d hd⟩,short_more h5 (by decide),by omega⟩
theorem few_prints {m:Man} (h:fewM m=true) (hm:OkM m) (hd:DigM m):∃t,Prints m t:=by
 obtain ⟨h1,h2,_,_,h5⟩:=few_bounds h
 exact prints hm hd (by omega) (fun d hx=> by have:=h2 d hx;omega) (short_more h5 (by decide))
theorem desc_media {k:Nat} {L:List V} {d:Desc} (hs:Short k L) (h:descF L=some d):d.media.length≤k:=by
 unfold descF at h
 obtain ⟨m,hm,h⟩:=Option.bind_eq_some_iff.1 h
 obtain ⟨g,hg,h⟩:=Option.bind_eq_some_iff.1 h
 obtain ⟨s,hs2,h⟩:=Option.bind_eq_some_iff.1 h
 split at h
 ·obtain ⟨x,hx,h⟩:=Option.bind_eq_some_iff.1 h
  obtain ⟨n,hn,h⟩:=Option.bind_eq_some_iff.1 h
  split at h
  ·obtain rfl:=Option.some.inj h
   exact mem_short hs (by decide) hm
  ·cases h
 ·cases h
theorem all_media {k:Nat}:∀ {P:List (List V)} {ls:List Desc},(∀p∈P,Short k p)→allD P=some ls→∀d∈ls,d.media.length≤k
 | [],ls,_,h=> by
  obtain rfl:=Option.some.inj h
  exact fun d hd=> by cases hd
 | p::P,ls,hs,h=> by
  rw [allD]at h
  obtain ⟨d,hd,h⟩:=Option.bind_eq_some_iff.1 h
  obtain ⟨r,hr,h⟩:=Option.bind_eq_some_iff.1 h
  obtain rfl:=Option.some.inj h
  intro x hx
  rcases List.mem_cons.1 hx with rfl | hx
  ·exact desc_media (hs p List.mem_cons_self) hd
  ·exact all_media (fun q hq=> hs q (List.mem_cons_of_mem _ hq)) hr x hx
structure Parsed (y:Man):Prop where
 ok:OkM y
 dig:DigM y
 fit:FitM y
 prints:∃t,Prints y t
theorem parsed {bs:List UInt8} {y:Man} (hl:bs.length≤3000) (h:parseM bs= .ok y):Parsed y:=by
 unfold parseM at h
 cases hq:parseF bs with
 | err c=> rw [hq]at h;cases h
 | ok k L r=>
  rw [hq]at h
  have h:manF L= .ok y:=h
  obtain ⟨_,_,t,ht⟩:=parse_right hq
  have hr:=(prog_is L).2 ⟨t,ht⟩
  have hs:Short 12000 L:=short_more (parse_short hq) (by omega)
  obtain ⟨hok,hdg,hlen⟩:=man_inv hr h
  have hL5:=right_short hr
  obtain ⟨P,X,hX⟩:=row_is hok
  have hrl:=hX.right.2
  have key:y.config.media.length≤12000∧(∀d∈y.layers,d.media.length≤12000)∧Short 12000 y.rest:=by
   unfold manF at h
   split at h
   next c ls h1 h2=>
    split at h1
    next hh=>
     split at h
     ·cases h
     ·obtain rfl:=Out.ok.inj h
      refine ⟨desc_media (short_key hs configK) h1, ?_, ?_⟩
      ·have hk:ofKey L layersK≠[]:=fun e=> by rw [e]at h2;cases h2
       obtain ⟨P2,hP2⟩:=obj_is (has_isO hh)
       have hkr:=key_right hP2 hk
       obtain ⟨v,r2,e2⟩:∃v r2,ofKey L layersK=v::r2:=by
        match ofKey L layersK,hk with
        | v::r2,_=> exact ⟨v,r2,rfl⟩
       have hsk:=short_key hs layersK
       rw [e2]at h2 hkr hsk
       have h5:v.kind=5:=by
        unfold descsF at h2
        split at h2
        next h5=> exact h5
        next=> cases h2
       obtain ⟨Q,hQ⟩:=lst_is hkr h5
       rw [hQ.descs]at h2
       refine all_media (fun p hp=> ?_) h2
       obtain ⟨u,_,e⟩:=hQ.eq
       intro x hx
       refine hsk x ?_
       rw [e]
       exact List.mem_cons_of_mem _ (List.mem_flatten.2 ⟨p,hp,hx⟩)
      ·have:=short_sortA (short_dropA (short_dropA hs (key:=configK)) (key:=layersK))
       obtain ⟨P2,hP2⟩:=obj_is (has_isO hh)
       have hr2:=(ObjIs.but (ObjIs.but hP2 configK) layersK).right
       unfold sortA at this
       rw [if_pos hr2]at this
       exact this
    next=> cases h1
   next=> cases h
  obtain ⟨k1,k2,k3⟩:=key
  have hz:∀d:Desc,okD d=true→ -9223372036854775808≤d.size∧d.size≤9223372036854775807:=fun d ho=> by
   have:=of_decide_eq_true (ok_valid ho).2
   omega
  exact ⟨hok,hdg,⟨⟨by omega,hz _ hok.config⟩,fun d hd=> ⟨by have:=k2 d hd;omega,hz d (hok.layers d hd)⟩,short_more k3 (by decide),by omega⟩,Jo.prints hok hdg k1 k2 k3⟩
end Jo
end Go.Proofs.YtmkjcleecjjchaaGreatDoor
