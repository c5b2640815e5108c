import Derived.Test.YtmkjcleecjjchaaGreatDoorP44
import Derived.Test.YtmkjcleecjjchaaGreatDoorP29
import Derived.Test.YtmkjcleecjjchaaGreatDoorP5
import Derived.Test.YtmkjcleecjjchaaGreatDoorP25
import Derived.Test.YtmkjcleecjjchaaGreatDoorP13
import Derived.Laws.AppendOwnNone
namespace Go.Proofs.YtmkjcleecjjchaaGreatDoor
open Go.RowKit Sh Jt Js Jo
set_option maxRecDepth 100000
theorem desc_cells {w:World} {b n c:Nat} {L:List Desc} (h:DescsAt w (some ⟨b,0,none⟩) n c L) {i:Nat} (hi:i < L.length):w.cell? ⟨b,i*34,none⟩=some (.string (sb L[i].media))∧w.cell? ⟨b,i*34+33,none⟩=some (.int .i64 L[i].size):=by
 have hr:=h.one hi
 obtain ⟨h0,h33,_⟩:=dv_cells L[i] (h.dig _ (List.getElem_mem hi))
 rw [Nat.zero_add]at hr
 exact ⟨hr 0 _ h0,hr 33 _ h33⟩
theorem own_desc1 (w:World) {d:Desc} (h:d.dig.length=32):OwnDescs (w.alloc (.cells (dv d).toArray 27)) w.heap.size (.slice (some ⟨w.heap.size,0,none⟩) 1 1) [d]:=by
 have e:cellsD [d]=dv d:=by
  show dv d++[]=dv d
  rw [List.append_nil]
 have hl:=dv_len h
 refine ⟨fun x hx=> by rw [List.mem_singleton.1 hx];exact h,by rw [e,hl];rfl, .inr ⟨w.heap.size,1,_,rfl,Nat.le_refl _,heap_alloc_new w _,Nat.le_refl _,by unfold maxLen;omega, ?_, ?_⟩⟩
 ·rw [List.size_toArray,hl]
 ·rw [e]
  show (dv d).take (1*34)=dv d
  exact List.take_of_length_le (by omega)
theorem run_append_noneM {w:World} (base:Nat) (t ty e:TypeId) (i:TypeInfo) (size:Nat) (ht:Tryz.prog.underlying t=some (.slice e)) (hi:Tryz.prog.info? e=some i)
  (v:Value) (n:Nat) (xs:List Value) (hown:w.ownsRow base e size v n xs) (c:Nat):
  (Builtin.append_ #[t,t] ty #[v, .slice none 0 c]).run Tryz.prog w= .ok v w:=by
 rcases hown.2 with ⟨rfl,rfl⟩ | ⟨g,cap,cur,rfl,_,_,hnc,_⟩
 ·simp [Builtin.append_,run_underlying ht,sizeOf,typeInfo,hi,Builtin.lenOf,Builtin.firstCells]
 ·simp [Builtin.append_,run_underlying ht,sizeOf,typeInfo,hi,Builtin.lenOf,Builtin.firstCells,hnc,storeCells]
theorem append_descs_opt {w:World} {ops:Array Oper} {rest:List Oper} {o:Oper} {a:Act} {Q:Exit→Act→World→Prop} (hg:o.guard=none) (s x:Operand)
  (ho:o.op= .call {callee:= .builtin .append,args:=#[s,x],argTypes:=#[28,28]}) (B:Nat) (v:Value) (L:List Desc) (hs:a.eval s=v) (hown:OwnDescs w B v L)
  (A:Option Addr) (n c:Nat) (M:List Desc) (hx:a.eval x= .slice A n c) (hsrc:DescsAt w A n c M) (hb:L.length+n≤100000000000) (hB:B≤w.heap.size)
  (h:∀v' w',Hid (OwnDescs w' B v' (L++M))→Hid (Kept w w' (fun k=> B≤k∧v.ownBlock=some k))→wpList Tryz.prog ops Q rest (a.put o.dst v') w'):wpList Tryz.prog ops Q (o::rest) a w:=by
 cases A with
 | some ad=> exact append_descs hg s x ho B v L hs hown ad n c M hx hsrc hb hB (fun v' w' h1 h2 _=> h v' w' h1 h2)
 | none=>
  have hn:n=0:=by
   rcases Nat.eq_zero_or_pos n with h0 | h0
   ·exact h0
   ·obtain ⟨b,o,e,_⟩:=hsrc.at_ h0
    cases e
  subst hn
  have hM:M=[]:=List.eq_nil_of_length_eq_zero hsrc.len
  subst hM
  obtain ⟨i,z,hi,hz,hsz,hby,_⟩:=mt_infoZ
  refine wpList_plain hg fun K hK=> ?_
  have hrun:=run_append_noneM (w:=w) B 28 o.type 27 i 34 Tryz.underlying28 hi v L.length (cellsD L) hown.row c
  unfold Oper.wp
  simp [execOp,ho,resolve,invoke,builtin,hs,hx,hrun,Result.andThen]
  exact hK _ _ (h v w (Lib.hid (by rw [List.append_nil];exact hown)) (Lib.hid (Kept.refl _ _)))
namespace Jo
theorem right_bad {m:Man} {d:Desc} (hd:d∈m.config::m.layers) (h:okD d=false):rightM m=false:=by
 by_cases hr:rowM m=[]
 ·exact rightM_no hr
 ·have hm:=ok_of hr
  rcases List.mem_cons.1 hd with rfl | hd
  ·rw [hm.config]at h
   cases h
  ·rw [hm.layers d hd]at h
   cases h
theorem right_all {m:Man} (h:restOk m.rest=true) (h2:m.layers.length≤60):rightM m=decide (0 < (allM m).length):=by
 unfold rightM
 rw [row_yes h h2]
 rfl
end Jo
set_option maxHeartbeats 1600000 in
theorem mt_rright (w:World) (m:Man) (A1:Option Addr) (n1 c1:Nat) (A2:Option Addr) (n2 c2:Nat) (hM:ManIn w m A1 n1 c1 A2 n2 c2) (hn1:n1≤140737488351232) (hn2:n2≤250000) (hF:FitM m) (hme:∀d∈m.config::m.layers,d.media.length≤250000):
  Calls Tryz.prog 16 #[.agg (mv m.config (.slice A1 n1 c1) (.slice A2 n2 c2)).toArray] w fun e w'=> e= .returned (.bool (rightM m))∧Hid (Below w.heap.size w w'):=by
 obtain ⟨RV,hRV⟩:∃RV,RV=rightM m:=⟨_,rfl⟩
 rw [←hRV]
 have hlen:=hM.lay.len
 have HRV:=Lib.hid hRV
 have HNO:=Lib.hid (fun (h:restOk m.rest=false∨60 < m.layers.length)=> show RV=false from hRV.trans (rightM_no (row_not h)))
 have HBAD:=Lib.hid (fun (d:Desc) (hd:d∈m.config::m.layers) (h:okD d=false)=> show RV=false from hRV.trans (right_bad hd h))
 have HYES:=Lib.hid (fun (h:restOk m.rest=true) (h2:m.layers.length≤60)=> show RV=decide (0 < (allM m).length)from hRV.trans (right_all h h2))
 have HM:=Lib.hid (fun W (q:Below w.heap.size w W)=> hM.below q)
 have hdc:=hM.dig
 have HBX:=Lib.hid (show BoxM (w.alloc (.cells (mv m.config (.slice A1 n1 c1) (.slice A2 n2 c2)).toArray 31)) w.heap.size m.config (.slice A1 n1 c1) (.slice A2 n2 c2)from ⟨Row.new _ _ _,hM.dig⟩)
 have HB:=Lib.hid (below_alloc' w (.cells (mv m.config (.slice A1 n1 c1) (.slice A2 n2 c2)).toArray 31))
 have HMQ:=Lib.hid (Row.new w 31 (mv m.config (.slice A1 n1 c1) (.slice A2 n2 c2)))
 have HS:=Lib.hid (short_more hF.rest (show 1048576≤1000000000 by decide))
 have HF:=Lib.hid hF
 have HME:=Lib.hid hme
 have HRS:=Lib.hid (fun W (q:Below w.heap.size w W)=> own_any (L:=sortA m.rest) rfl (js_rsort W A2 n2 c2 m.rest (hM.below q).rest (by omega) HS.out))
 have HTW:=Lib.hid (fun W (q:Below w.heap.size w W)=> mt_rtwo W A2 n2 c2 m.rest (hM.below q).rest (by omega) HS.out)
 have HGC:=Lib.hid (fun W (q:Below w.heap.size w W)=> jo_rget W A2 n2 c2 m.rest (hM.below q).rest (by omega) HS.out 0 configK)
 have HGL:=Lib.hid (fun W (q:Below w.heap.size w W)=> jo_rget W A2 n2 c2 m.rest (hM.below q).rest (by omega) HS.out 0 layersK)
 have HSM:=Lib.hid (fun W (q:Below w.heap.size w W) A k (h:ValsAt W A (sortA m.rest).length k (sortA m.rest)) (hl:(sortA m.rest).length≤140737488351232)=> js_same W A A2 (sortA m.rest).length k n2 c2 (sortA m.rest) m.rest h (hM.below q).rest hl (by omega))
 have hsl:(sortA m.rest).length≤140737488351232:=by
  unfold sortA
  split
  next h=> rw [(srt_srt h).2.2,hM.rest.len];omega
  next=> exact Nat.zero_le _
 have hrk:restOk m.rest=(hasF m.rest && decide (getA m.rest 0 configK=none) && decide (getA m.rest 0 layersK=none) && decide (sortA m.rest=m.rest)):=rfl
 have HRK:=Lib.hid hrk
 change Hid (∀W,_→Calls _ _ #[_,_, .string ⟨#[99,111,110,102,105,103]⟩] _ _)at HGC
 change Hid (∀W,_→Calls _ _ #[_,_, .string ⟨#[108,97,121,101,114,115]⟩] _ _)at HGL
 have HML:=Lib.hid (mv_len hM.dig (.slice A1 n1 c1) (.slice A2 n2 c2))
 have HRL:=Lib.hid hM.rest.len
 have HLEN:=Lib.hid hlen
 clear hM hF hRV hme hrk hlen
 go_enter Tryz.func16,Tryz.ntmps16
 go_upto_region 1 with fail
 obtain ⟨MV,hMV⟩:∃MV,MV=mv m.config (.slice A1 n1 c1) (.slice A2 n2 c2):=⟨_,rfl⟩
 have HMV:=Lib.hid hMV
 rw [←hMV]at HML HBX HB HMQ ⊢
 clear hMV
 generalize w.alloc (.cells MV.toArray 31)=w0 at*
 have c35:=HBX.out.c35
 go_wp2_with fail
 refine (HRS.out w0 HB.out).mono ?_
 rintro e w1 ⟨A3,k3,rfl,K1⟩
 replace HB:=Lib.hid (HB.out.trans (K1.out.2.2.mono HB.out.size))
 replace HBX:=Lib.hid (HBX.out.below K1.out.2.2)
 replace HMQ:=Lib.hid (show Row w1 w.heap.size 31 MV from HMQ.out.below K1.out.2.2 HMQ.out.lt)
 have HV3:=Lib.hid K1.out.2.1
 clear K1 HRS c35
 have c35:=HBX.out.c35
 go_wp2_with fail
 refine (HTW.out w1 HB.out).mono ?_
 rintro e w2 ⟨rfl,K2⟩
 replace HB:=Lib.hid (HB.out.trans (K2.out.mono HB.out.size))
 replace HBX:=Lib.hid (HBX.out.below K2.out)
 replace HMQ:=Lib.hid (show Row w2 w.heap.size 31 MV from HMQ.out.below K2.out HMQ.out.lt)
 replace HV3:=Lib.hid (HV3.out.below K2.out)
 clear K2 HTW c35
 have c35:=HBX.out.c35
 have c34:=HBX.out.c34
 have pl0:=Lib.hid (show plc none= -1 from rfl)
 have pls:=Lib.hid (show ∀q:Nat,plc (some q)=(q:Int)from fun _=> rfl)
 cases hf:hasF m.rest with
 | false=>
  have HRR:Hid (RV=false):=Lib.hid (HNO.out (.inl (by rw [HRK.out,hf];rfl)))
  clear HRK HNO HBAD HYES hf HSM
  generalize (sortA m.rest).length=sl at*
  go_wp2_with fail
  go_ret
  exact ⟨by rw [HRR.out];rfl,HB⟩
 | true=>
  have HFF:=Lib.hid hf
  clear hf
  have HSX:=Lib.hid (HSM.out w2 HB.out A3 k3 HV3.out hsl)
  clear HSM
  go_wp2_with fail
  refine HSX.out.mono ?_
  rintro e w3 ⟨rfl,m3,hd3⟩
  have K3:=Lib.hid (show Below w2.heap.size w2 w3 from by rw [hd3];exact below_drewN (Below.refl _ _) _)
  clear hd3
  replace HB:=Lib.hid (HB.out.trans (K3.out.mono HB.out.size))
  replace HBX:=Lib.hid (HBX.out.below K3.out)
  replace HMQ:=Lib.hid (show Row w3 w.heap.size 31 MV from HMQ.out.below K3.out HMQ.out.lt)
  clear HSX K3 HV3 c35 c34
  have c35:=HBX.out.c35
  have c34:=HBX.out.c34
  generalize hsl2:(sortA m.rest).length=sl at*
  clear hsl2
  by_cases hs:sortA m.rest=m.rest
  case neg=>
   rw [decide_eq_false hs]
   have HRR:Hid (RV=false):=Lib.hid (HNO.out (.inl (by rw [HRK.out,decide_eq_false hs,Bool.and_false])))
   clear HRK HNO HBAD HYES hs
   go_wp2_with fail
   go_ret
   exact ⟨by rw [HRR.out];rfl,HB⟩
  case pos=>
   rw [decide_eq_true hs]
   have HSE:=Lib.hid hs
   clear hs
   go_wp2_with fail
   refine (HGC.out w3 HB.out).mono ?_
   rintro e w4 ⟨rfl,K4⟩
   replace HB:=Lib.hid (HB.out.trans (K4.out.mono HB.out.size))
   replace HBX:=Lib.hid (HBX.out.below K4.out)
   replace HMQ:=Lib.hid (show Row w4 w.heap.size 31 MV from HMQ.out.below K4.out HMQ.out.lt)
   clear HGC K4 c35 c34
   have c35:=HBX.out.c35
   have c34:=HBX.out.c34
   cases hgc:getA m.rest 0 configK with
   | some pc=>
    have hpc:(pc:Int)≥0:=by omega
    have hpd:decide ((0:Int)≤(pc:Int))=true:=decide_eq_true (by omega)
    rw [pls.out]
    have HRR:Hid (RV=false):=Lib.hid (HNO.out (.inl (by rw [HRK.out,decide_eq_false (show ¬getA m.rest 0 configK=none by rw [hgc];exact fun e=> by cases e)];simp)))
    clear HRK HNO HBAD HYES hgc pl0 pls
    go_wp2_with fail
    go_ret
    exact ⟨by rw [HRR.out];rfl,HB⟩
   | none=>
    rw [pl0.out]
    have HG1:=Lib.hid hgc
    clear hgc
    go_wp2_with fail
    refine (HGL.out w4 HB.out).mono ?_
    rintro e w5 ⟨rfl,K5⟩
    replace HB:=Lib.hid (HB.out.trans (K5.out.mono HB.out.size))
    replace HBX:=Lib.hid (HBX.out.below K5.out)
    replace HMQ:=Lib.hid (show Row w5 w.heap.size 31 MV from HMQ.out.below K5.out HMQ.out.lt)
    clear HGL K5 c35 c34
    have c35:=HBX.out.c35
    have c34:=HBX.out.c34
    cases hgl:getA m.rest 0 layersK with
    | some pc=>
     have hpc:(pc:Int)≥0:=by omega
     have hpd:decide ((0:Int)≤(pc:Int))=true:=decide_eq_true (by omega)
     rw [pls.out]
     have HRR:Hid (RV=false):=Lib.hid (HNO.out (.inl (by rw [HRK.out,decide_eq_false (show ¬getA m.rest 0 layersK=none by rw [hgl];exact fun e=> by cases e)];simp)))
     clear HRK HNO HBAD HYES hgl pl0 pls
     go_wp2_with fail
     go_ret
     exact ⟨by rw [HRR.out];rfl,HB⟩
    | none=>
     rw [pl0.out]
     by_cases h60:60 < n1
     case pos=>
      have hg:(60:Int) < (n1:Int):=by omega
      have hgd:decide ((60:Int) < (n1:Int))=true:=decide_eq_true hg
      have HRR:Hid (RV=false):=Lib.hid (HNO.out (.inr (by have:=HLEN.out;omega)))
      clear HRK HNO HBAD HYES hgl pl0 pls
      go_wp2_with fail
      go_ret
      exact ⟨by rw [HRR.out];rfl,HB⟩
     case neg=>
      have hg:¬(60:Int) < (n1:Int):=by omega
      have hgd:decide ((60:Int) < (n1:Int))=false:=decide_eq_false hg
      have HRX:=Lib.hid (HYES.out (by rw [HRK.out,HFF.out,decide_eq_true HSE.out,HG1.out,hgl];rfl) (by have:=HLEN.out;omega))
      have hr5:n2≤5000:=by
       have h1:restOk m.rest=true:=by rw [HRK.out,HFF.out,decide_eq_true HSE.out,HG1.out,hgl];rfl
       have:=HRL.out
       obtain ⟨P,hP,_⟩:=rest_is h1
       have:=right_short hP.right
       omega
      clear HRK HNO HYES hgl pl0 pls
      have HDC:=Lib.hid HBX.out.desc
      have HDZ:=Lib.hid (dv_size hdc)
      have HDL:=Lib.hid hdc
      obtain ⟨DV,hDV⟩:∃DV,DV=dv m.config:=⟨_,rfl⟩
      rw [←hDV]at HDC HDZ
      have HDV:=Lib.hid hDV
      clear hDV
      have HLY:=Lib.hid (HM.out w5 HB.out).lay
      have HO0:=Lib.hid (show OwnDescs (w5.alloc (.cells DV.toArray 27)) w5.heap.size (.slice (some ⟨w5.heap.size,0,none⟩) 1 1) [m.config]from by rw [HDV.out];exact own_desc1 w5 HDL.out)
      have HB6:=Lib.hid (show w5.heap.size≤(w5.alloc (.cells DV.toArray 27)).heap.size from (below_alloc' w5 _).size)
      have HBA:=Lib.hid (below_alloc' w5 (.cells DV.toArray 27))
      have e34:(w5.alloc (.cells DV.toArray 27)).cell? ⟨w.heap.size,34,none⟩=some (.slice A1 n1 c1):=(HBX.out.below HBA.out).c34
      go_upto_region 6 with (first
       | ((with_reducible refine load_all ?_ 27 (.tmp 41) ?_ w.heap.size 0 DV DV.toArray ?_ _ ?_ Tryz.underlying27 ?_ ?_ ?_ ?_);rfl;rfl;go_must (rfl;exact HDC.out;rfl;exact HDZ.out;rfl))
       | (with_reducible refine build_desc1 rfl _ rfl m.config DV.toArray (congrArg List.toArray HDV.out) HDL.out rfl ?_)
       | (at_builtin;go_must ((with_reducible refine append_descs_opt rfl _ _ rfl w5.heap.size (.slice (some ⟨w5.heap.size,0,none⟩) 1 1) [m.config] rfl HO0.out A1 n1 c1 m.layers rfl (HLY.out.below HBA.out) (by rw [List.length_singleton];omega) HB6.out ?_);intro v6 w6 h1 h2)))
      have HK6:=Lib.hid (show Below w5.heap.size w5 w6 from HBA.out.trans (h2.out.below HB6.out (fun i hi e=> by omega)))
      obtain ⟨A6,k6,e6,hd6, -,hg6, -⟩:=h1.out.descs
      have hl6:([m.config]++m.layers).length=n1+1:=by rw [List.length_append,List.length_singleton,HLEN.out];omega
      rw [hl6]at e6 hd6
      subst e6
      have HD6:=Lib.hid hd6
      obtain ⟨b6,o6,rfl, -, -⟩:=hd6.at_ (Nat.succ_pos n1)
      obtain ⟨g6,hg, -, -⟩:=hg6 _ rfl
      simp only [Addr.mk.injEq]at hg
      obtain ⟨rfl,rfl, -⟩:=hg
      replace HB:=Lib.hid (HB.out.trans (HK6.out.mono HB.out.size))
      replace HMQ:=Lib.hid (show Row w6 w.heap.size 31 MV from HMQ.out.below HK6.out HMQ.out.lt)
      clear h1 h2 hd6 hg6 HDC HDZ HO0 HB6 HBA HLY HK6 HBX c34 c35 e34 HDL HDV hgd
      have HOK0:=Lib.hid (show ∀d∈([m.config]++m.layers).take 0,okD d=true from fun d hd=> by cases hd)
      have HFD:=Lib.hid (show ∀d∈m.config::m.layers,FitD d∧d.media.length≤250000 from fun d hd=> ⟨by
       rcases List.mem_cons.1 hd with rfl | hd
       ·exact HF.out.config
       ·exact HF.out.layers d hd,HME.out d hd⟩)
      generalize hDS:[m.config]++m.layers=DS at*
      have HDS:=Lib.hid (show DS=m.config::m.layers from hDS.symm)
      clear hDS
      go_wp2_with fail
      go_loopg [6] (n1+1) (fun g v6 wx=> ∃j:Nat,v6= .int .i64 (j:Int)∧j+g=n1+1∧Hid (∀d∈DS.take j,okD d=true)∧Hid (Below w6.heap.size w6 wx))
      case atStart=> exact ⟨0,rfl,by omega,HOK0,Lib.hid (Below.refl _ _)⟩
      case round=>
       clear HOK0
       obtain ⟨j,rfl,hjg,HOK,HK⟩:=hrel
       have HBR:=Lib.hid (HB.out.trans (HK.out.mono HB.out.size))
       cases gk with
       | zero=>
        obtain rfl:j=n1+1:=by omega
        have hge:¬((n1:Int)+1) < ((n1:Int)+1):=by omega
        rw [List.take_of_length_le (Nat.le_of_eq hl6)]at HOK
        have HAC:=Lib.hid (own_any rfl (mt_rall wr m A1 n1 c1 A2 n2 c2 (HM.out wr HBR.out) HF.out (fun d hd=> ⟨HOK.out d (by rw [HDS.out];exact hd),(HFD.out d hd).2⟩) (by omega) hr5))
        rw [←HMV.out]at HAC
        have HQ2:=Lib.hid (show Row wr w.heap.size 31 MV from HMQ.out.below HK.out HMQ.out.lt)
        clear HOK HMQ HD6 HBAD HM HF HFD
        generalize (allM m).length=al at*
        go_wp2_with ((with_reducible refine load_all ?_ 31 (.tmp 1) ?_ w.heap.size 0 MV MV.toArray ?_ _ ?_ Tryz.underlying31 ?_ ?_ ?_ ?_);rfl;rfl;go_must (rfl;exact rangeAt_row HQ2.out;rfl;(rw [HML.out];exact mt_sizeM);rfl))
        refine HAC.out.mono ?_
        rintro e w9 ⟨A9,k9,rfl,H9⟩
        have HB9:=Lib.hid (HBR.out.trans (H9.out.2.2.mono HBR.out.size))
        clear H9 HAC HQ2
        have hdd:decide ((0:Int) < (al:Int))=decide (0 < al):=decide_eq_decide.2 (by omega)
        by_cases ha:0 < al
        ·have hai:(0:Int) < (al:Int):=by omega
         have HRR:Hid (RV=true):=Lib.hid (by rw [HRX.out];exact decide_eq_true ha)
         go_wp2_with fail
         go_ret
         exact ⟨by rw [HRR.out];rfl,HB9⟩
        ·have hai:¬(0:Int) < (al:Int):=by omega
         have HRR:Hid (RV=false):=Lib.hid (by rw [HRX.out];exact decide_eq_false ha)
         go_wp2_with fail
         go_ret
         exact ⟨by rw [HRR.out];rfl,HB9⟩
       | succ g=>
        have hj:j < DS.length:=by omega
        have hlt:(j:Int) < (n1:Int)+1:=by omega
        have hj0:(0:Int)≤(j:Int):=by omega
        have HCC:=Lib.hid (fun W (q:Below w6.heap.size w6 W)=> desc_cells (HD6.out.below q) hj)
        have HDM:=Lib.hid (show DS[j]∈m.config::m.layers from by rw [←HDS.out];exact List.getElem_mem hj)
        have HVL:=Lib.hid (jt_rvalid wr DS[j].media (Nat.le_trans (HFD.out _ HDM.out).2 (by decide)))
        have HBD:=Lib.hid (fun h=> HBAD.out _ HDM.out h)
        have HNX:=Lib.hid (fun (h:okD DS[j]=true)=> show ∀d∈DS.take (j+1),okD d=true from fun d hd=> by
         rw [List.take_succ_eq_append_getElem hj]at hd
         rcases List.mem_append.1 hd with hd | hd
         ·exact HOK.out d hd
         ·rw [List.mem_singleton.1 hd];exact h)
        have hok:okD DS[j]=(validF DS[j].media && sizeOk DS[j].size):=rfl
        have HOKD:=Lib.hid hok
        clear hok HOK HBAD
        generalize DS[j]=d at*
        obtain ⟨x0,x33⟩:=HCC.out wr HK.out
        generalize hmd:sb d.media=md at*
        clear hmd
        go_wp2_with fail
        refine HVL.out.mono ?_
        rintro e w8 ⟨rfl,K8⟩
        have HK8:=Lib.hid (HK.out.trans (K8.mono HK.out.size))
        have HB8:=Lib.hid (HBR.out.trans (K8.mono HBR.out.size))
        clear x0 x33 HVL K8 HK HBR
        obtain ⟨x0,x33⟩:=HCC.out w8 HK8.out
        generalize d.size=z at*
        cases hv:validF d.media with
        | false=>
         have HRR:Hid (RV=false):=Lib.hid (HBD.out (by rw [HOKD.out,hv];rfl))
         clear HBD HNX HOKD hv
         go_wp2_with fail
         go_ret
         exact ⟨by rw [HRR.out];rfl,HB8⟩
        | true=>
         by_cases g0:z < 0
         ·have HRR:Hid (RV=false):=Lib.hid (HBD.out (by rw [HOKD.out,hv];exact decide_eq_false (fun h=> by omega)))
          have g0b:decide (z < 0)=true:=decide_eq_true g0
          clear HBD HNX HOKD hv
          go_wp2_with fail
          go_ret
          exact ⟨by rw [HRR.out];rfl,HB8⟩
         ·have g0b:decide (z < 0)=false:=decide_eq_false g0
          by_cases g1:4611686018427387904 < z
          ·have HRR:Hid (RV=false):=Lib.hid (HBD.out (by rw [HOKD.out,hv];exact decide_eq_false (fun h=> by omega)))
           have g1b:decide (4611686018427387904 < z)=true:=decide_eq_true g1
           clear HBD HNX HOKD hv
           go_wp2_with fail
           go_ret
           exact ⟨by rw [HRR.out];rfl,HB8⟩
          ·have g1b:decide (4611686018427387904 < z)=false:=decide_eq_false g1
           have HN2:=Lib.hid (HNX.out (by rw [HOKD.out,hv];exact decide_eq_true ⟨by omega,by omega⟩))
           clear HBD HNX HOKD hv
           go_wp2_with fail
           go_roundg g
           case measure=> omega
           case rel=> exact ⟨j+1,by go_num,by omega,HN2,HK8⟩
end Go.Proofs.YtmkjcleecjjchaaGreatDoor
