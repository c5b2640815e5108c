import Derived.Test.YtgmangikcfakgaaGreatDoorPP31
import Derived.Deep.RegionLaw
namespace Go.Proofs.YtgmangikcfakgaaGreatDoor
open Go.RowKit Sh Jt Js Jo
theorem OwnVals.cut {w:World} {B g n c:Nat} {L:List V} (h:OwnVals w B (.slice (some ⟨g,0,none⟩) n c) L) {m:Nat} (hm:m≤n):OwnVals w B (.slice (some ⟨g,0,none⟩) m c) (L.take m):=by
 have hl:=h.at_.2
 obtain ⟨_,⟨e,_⟩ | ⟨g',cap,cur,e,hg,hh,hn,hc,hs,ht⟩⟩:=h
 ·cases e
 ·simp only [Value.slice.injEq,Option.some.injEq,Addr.mk.injEq]at e
  obtain ⟨⟨rfl,_⟩,rfl,rfl⟩:=e
  have hlt:(L.take m).length=m:=by rw [List.length_take];omega
  refine ⟨by rw [cellsV_len], .inr ⟨g,c,cur,by rw [hlt],hg,hh,by omega,hc,hs, ?_⟩⟩
  rw [hlt]
  have e2:cellsV (L.take m)=(cellsV L).take (m*4):=by
   have:=cellsV_app (L.take m) (L.drop m)
   rw [List.take_append_drop]at this
   rw [this,List.take_left' (by rw [cellsV_len,hlt])]
  rw [e2,←ht,List.take_take,Nat.min_eq_left (by omega)]
namespace Jo
theorem setA_valid {L M:List V} {key:List UInt8} (hO:isO L=true) (hM:rightPF M=true) (hv:validF key=false):setA L key M=[]:=by
 unfold setA fineF
 rw [if_pos ⟨hO,hM⟩]
 split
 next h=>
  rw [set_valid hO hM h]at hv
  cases hv
 next h=> rfl
theorem isO_kind {L:List V} (hr:rightPF L=true) (h0:0 < L.length):isO L=(L[0].kind==6):=by
 unfold isO
 rw [hr,Bool.true_and,kind_head h0]
 by_cases h:L[0].kind=6
 ·rw [h];rfl
 ·rw [decide_eq_false h,beq_eq_false_iff_ne.2 h]
end Jo
set_option maxRecDepth 100000 in
set_option maxHeartbeats 8000000 in
theorem jo_rset (w:World) (A:Option Addr) (n c:Nat) (L:List V) (hL:ValsAt w A n c L) (hn:n≤40000) (hs:Short 1000000000 L) (A2:Option Addr) (n2 c2:Nat) (M:List V) (hM:ValsAt w A2 n2 c2 M) (hn2:n2≤40000) (hs2:Short 1000000000 M) (key:List UInt8) (hk:key.length≤1000000000):
  Calls Tryz.prog 79 #[.slice A n c, .string (sb key), .slice A2 n2 c2] w fun e w'=> ∃v',e= .returned v'∧Hid (OwnVals w' w.heap.size v' (setA L key M)∧Below w.heap.size w w'):=by
 have HRM:=Lib.hid (js_rRight w A2 n2 c2 M hM (by omega) hs2)
 have HRL:=Lib.hid (fun W (k:Below w.heap.size w W)=> js_rRight W A n c L (hL.below k) (by omega) hs)
 have HVK:=Lib.hid (fun W=> jt_rvalid W key hk)
 obtain ⟨RV,hRV⟩:∃RV,RV=setA L key M:=⟨_,rfl⟩
 rw [←hRV]
 have HRV:=Lib.hid hRV
 clear hRV
 cases hrm:rightPF M with
 | false=>
  have HX:Hid (RV=[]):=Lib.hid (by rw [HRV.out];unfold setA;rw [if_neg (fun h=> by rw [hrm]at h;cases h.2)])
  rw [hrm]at HRM
  clear hrm HRV hL hM hs hs2
  generalize rightPF L=bl at*
  generalize validF key=bv at*
  generalize sb key=K at*
  go_enter Tryz.func79,Tryz.ntmps79
  go_wp2_with fail
  refine HRM.out.mono ?_
  rintro e w2 ⟨rfl,HB2⟩
  clear HRM
  go_wp2_with fail
  refine (HRL.out w2 HB2.out).mono ?_
  rintro e w3 ⟨rfl,HB3⟩
  have HB4:=Lib.hid (HB2.out.trans (HB3.out.mono HB2.out.size))
  clear HRL HB2 HB3
  go_wp2_with fail
  refine (HVK.out w3).mono ?_
  rintro e w4 ⟨rfl,K4⟩
  have HB5:=Lib.hid (HB4.out.trans (K4.mono HB4.out.size))
  clear HVK K4 HB4
  go_wp2_with fail
  go_ret
  exact ⟨_,rfl,Lib.hid ⟨by rw [HX.out];exact OwnVals.nil _ _,HB5.out⟩⟩
 | true=>
  rw [hrm]at HRM
  cases hrl:rightPF L with
  | false=>
   have HX:Hid (RV=[]):=Lib.hid (by rw [HRV.out];unfold setA isO;rw [if_neg (fun h=> by rw [hrl]at h;cases h.1)])
   rw [hrl]at HRL
   clear hrm hrl HRV hL hM hs hs2
   generalize validF key=bv at*
   generalize sb key=K at*
   go_enter Tryz.func79,Tryz.ntmps79
   go_wp2_with fail
   refine HRM.out.mono ?_
   rintro e w2 ⟨rfl,HB2⟩
   clear HRM
   go_wp2_with fail
   refine (HRL.out w2 HB2.out).mono ?_
   rintro e w3 ⟨rfl,HB3⟩
   have HB4:=Lib.hid (HB2.out.trans (HB3.out.mono HB2.out.size))
   clear HRL HB2 HB3
   go_wp2_with fail
   refine (HVK.out w3).mono ?_
   rintro e w4 ⟨rfl,K4⟩
   have HB5:=Lib.hid (HB4.out.trans (K4.mono HB4.out.size))
   clear HVK K4 HB4
   go_wp2_with fail
   go_ret
   exact ⟨_,rfl,Lib.hid ⟨by rw [HX.out];exact OwnVals.nil _ _,HB5.out⟩⟩
  | true=>
   rw [hrl]at HRL
   have h0:=(right_end hrl).2.1
   have hM0:=(right_end hrm).2.1
   have hlen:=hL.len
   have hlen2:=hM.len
   have hcap:=hL.cap
   have hio:=isO_kind hrl h0
   obtain ⟨b,o,rfl,_,_⟩:=hL.at_ (by omega)
   obtain ⟨b2,o2,rfl,_,_⟩:=hM.at_ (by omega)
   have HC0:=Lib.hid (show w.cell? ⟨b,o,none⟩=some (.int .i64 L[0].kind)from by have x0:=(hL.cells h0).1;rw [Nat.zero_mul,Nat.add_zero]at x0;exact x0)
   have hn0:(0:Int) < (n:Int):=by omega
   have hn00:0 < n:=by omega
   have hn20:0 < n2:=by omega
   cases hvk:validF key with
   | false=>
    have HX:Hid (RV=[]):=Lib.hid (by
     rw [HRV.out]
     cases hO:isO L with
     | true=> exact setA_valid hO hrm hvk
     | false=> unfold setA;rw [if_neg (fun h=> by rw [hO]at h;cases h.1)])
    rw [hvk]at HVK
    clear hrm hrl HRV hL hM hs hs2 hvk hio hM0
    generalize L[0].kind=kd at*
    generalize sb key=K at*
    go_enter Tryz.func79,Tryz.ntmps79
    go_wp2_with fail
    refine HRM.out.mono ?_
    rintro e w2 ⟨rfl,HB2⟩
    clear HRM
    go_wp2_with fail
    refine (HRL.out w2 HB2.out).mono ?_
    rintro e w3 ⟨rfl,HB3⟩
    have HB4:=Lib.hid (HB2.out.trans (HB3.out.mono HB2.out.size))
    clear HRL HB2 HB3
    go_wp2_with fail
    refine (HVK.out w3).mono ?_
    rintro e w4 ⟨rfl,K4⟩
    have HB5:=Lib.hid (HB4.out.trans (K4.mono HB4.out.size))
    clear HVK K4 HB4
    go_wp2_with fail
    go_ret
    exact ⟨_,rfl,Lib.hid ⟨by rw [HX.out];exact OwnVals.nil _ _,HB5.out⟩⟩
   | true=>
    rw [hvk]at HVK
    by_cases hkd:L[0].kind=6
    ·have hO:isO L=true:=by rw [hio,hkd];rfl
     rw [hkd]at HC0
     have HG:=Lib.hid (fun W (k:Below w.heap.size w W)=> jo_rget W (some ⟨b,o,none⟩) n c L (hL.below k) (by omega) hs 0 key)
     have HNA:=Lib.hid (fun W (k:Below w.heap.size w W)=> jo_rnamed W ⟨b2,o2,none⟩ n2 c2 M (hM.below k) (by omega) (by omega) key)
     have HLW:=Lib.hid (fun W (k:Below w.heap.size w W)=> hL.below k)
     have hcb:0≤countOf L∧countOf L≤40000:=by
      have h1:=right_rest hrl h0
      have h2:=(head_drop h0).2.1
      rw [List.drop_zero]at h2
      rw [h2]
      omega
     have HSY:=Lib.hid (show Short 1000000000 (setF L key M)from by
      unfold setF
      cases getA L 0 key with
      | none=> exact short_app (fun v hv=> by
        match L,hs,hv with
        | a::r,hs,hv=>
         rcases List.mem_cons.1 hv with rfl | hv
         ·exact hs a List.mem_cons_self
         ·exact hs v (List.mem_cons_of_mem _ hv)) (short_named hs2 hk)
      | some p=> exact short_app (short_take hs p) (short_app (short_named hs2 hk) (short_drop hs _)))
     have hnl:(named key M).length=n2:=by rw [named_len,hlen2]
     have HNL:=Lib.hid hnl
     cases hg:getA L 0 key with
     | none=>
      rw [hg]at HG
      change Hid (∀W,_→Calls _ _ _ _ fun e w'=> e= .returned (.int .i64 (-1))∧_)at HG
      obtain ⟨Y,hY⟩:∃Y,Y=setF L key M:=⟨_,rfl⟩
      have HY:Hid (Y=cntF (countOf L+1) (L++named key M)):=Lib.hid (by rw [hY];unfold setF;rw [hg,cnt_app _ h0,cnt_bump])
      have HRY:Hid (RV=if rightPF Y=true then Y else []):=Lib.hid (by rw [HRV.out,hY];unfold setA fineF;rw [if_pos ⟨hO,hrm⟩])
      rw [←hY]at HSY
      have HLL:=Lib.hid hlen
      have HXL:Hid ((L++named key M).length=n+n2):=Lib.hid (by rw [List.length_append,hlen,hnl])
      have HCN:=Lib.hid (show countOf (L++named key M)=countOf L from by
       match L,h0 with
       | v::r,_=> rfl)
      clear hY hrm hrl HRV hL hM hs hs2 hvk hio h0 hM0 hkd hO hg hnl hlen
      generalize countOf L=CN at*
      generalize sb key=K at*
      go_enter Tryz.func79,Tryz.ntmps79
      go_wp2_with fail
      refine HRM.out.mono ?_
      rintro e w2 ⟨rfl,HB2⟩
      clear HRM
      go_wp2_with fail
      refine (HRL.out w2 HB2.out).mono ?_
      rintro e w3 ⟨rfl,HB3⟩
      have HB4:=Lib.hid (HB2.out.trans (HB3.out.mono HB2.out.size))
      clear HRL HB2 HB3
      go_wp2_with fail
      refine (HVK.out w3).mono ?_
      rintro e w4 ⟨rfl,K4⟩
      have HB5:=Lib.hid (HB4.out.trans (K4.mono HB4.out.size))
      clear HVK K4 HB4
      have d0:w4.cell? ⟨b,o,none⟩=some (.int .i64 6):=(kept_below HB5.out).cell HC0.out (fun h=> h)
      clear HC0
      go_wp2_with fail
      refine (HG.out w4 HB5.out).mono ?_
      rintro e w6 ⟨rfl,HB6⟩
      have HB7:=Lib.hid (HB5.out.trans (HB6.out.mono HB5.out.size))
      clear HG HB5 HB6 d0
      have HOM:=Lib.hid (own_made w6)
      have HB8:=Lib.hid (HB7.out.trans ((below_alloc' w6 (.cells #[] 72)).mono HB7.out.size))
      have HLV:=Lib.hid (HLW.out _ HB8.out)
      have HSZ8:=Lib.hid (show w6.heap.size≤(w6.alloc (.cells #[] 72)).heap.size from (below_alloc' w6 _).size)
      go_wp2_with (at_builtin;go_must (with_reducible refine append_vals rfl _ _ rfl w6.heap.size (.slice (some ⟨w6.heap.size,0,none⟩) 0 0) [] rfl HOM.out ⟨b,o,none⟩ n c L rfl HLV.out (by simp;omega) HSZ8.out ?_;intro v9 w9 h1 h2 h3;have hg9:=h1.out.got (by rw [List.nil_append,HLL.out];exact hn00);rw [List.nil_append,HLL.out]at hg9;obtain ⟨g9,k9,rfl, -⟩:=hg9;have HO9:=Lib.hid (show OwnVals w9 w6.heap.size (.slice (some ⟨g9,0,none⟩) n k9) L from by have h:=h1.out;rw [List.nil_append]at h;exact h);have HB9:=Lib.hid (HB8.out.trans (below_of_kept h2.out HB8.out.size (fun i hi e=> by have:=HB7.out.size;omega)));have HS9:=Lib.hid (show w6.heap.size≤w9.heap.size from Nat.le_trans HSZ8.out h2.out.size);clear h1 h2 h3))
      clear HOM HLV HSZ8 HB8
      refine (HNA.out w9 HB9.out).mono ?_
      rintro e w10 ⟨v10,rfl,H10⟩
      have hg10:=H10.out.1.got (by rw [HNL.out];omega)
      rw [HNL.out]at hg10
      obtain ⟨g10,k10,rfl, -⟩:=hg10
      have HV10:=Lib.hid (show ValsAt w10 (some ⟨g10,0,none⟩) n2 k10 (named key M)from by have h:=H10.out.1.at_.1;exact h)
      have HO10:=Lib.hid (HO9.out.below H10.out.2)
      have HB10:=Lib.hid (HB9.out.trans (H10.out.2.mono HB9.out.size))
      have HS10:=Lib.hid (show w6.heap.size≤w10.heap.size from Nat.le_trans HS9.out H10.out.2.size)
      clear H10 HNA HB9 HO9 HS9
      go_upto_region 12 with (at_builtin;go_must (with_reducible refine append_vals rfl _ _ rfl w6.heap.size (.slice (some ⟨g9,0,none⟩) n k9) L rfl HO10.out ⟨g10,0,none⟩ n2 k10 (named key M) rfl HV10.out (by rw [HLL.out];omega) HS10.out ?_;intro v11 w11 h1 h2 h3;have hg11:=h1.out.got (by rw [HXL.out];omega);rw [HXL.out]at hg11;obtain ⟨g11,k11,rfl, -⟩:=hg11;have HO11:=Lib.hid h1.out;have HB11:=Lib.hid (HB10.out.trans (below_of_kept h2.out HB10.out.size (fun i hi e=> by have:=HB7.out.size;omega)));clear h1 h2 h3))
      clear HO10 HV10 HB10 HS10
      have hXp:0 < (L++named key M).length:=by rw [HXL.out];omega
      have f1:=HO11.out.unfrozen 3
      have y3:w11.cell? ⟨g11,3,none⟩=some (.int .i64 CN):=by
       obtain ⟨_,_,_,y3⟩:=HO11.out.at_.1.cells hXp
       have h2:=(head_drop hXp).2.1
       rw [List.drop_zero]at h2
       rw [←h2,HCN.out,Nat.zero_mul,Nat.zero_add]at y3
       exact y3
      have hl1:(0:Int) < (n:Int)+(n2:Int):=by omega
      have hl2:0 < n+n2:=by omega
      have hset:=HO11.out.set (i:=0) (j:=3) hXp (by decide) (x:= .int .i64 (CN+1)) (v:=⟨(L++named key M)[0].kind,(L++named key M)[0].key,(L++named key M)[0].text,CN+1⟩) rfl
      rw [cnt_set _ hXp,←HY.out,Nat.zero_mul,Nat.zero_add]at hset
      have HZ:=Lib.hid (hset.mono HB7.out.size)
      have HZB:=Lib.hid (HB11.out.trans ((HO11.out.setBelow 3 (.int .i64 (CN+1))).mono HB7.out.size))
      have HYN:=Lib.hid (show Y.length≤250000 from by rw [HY.out,cnt_len,HXL.out];omega)
      have HI:=Lib.hid (jo_rfine _ _ _ _ _ HZ.out.at_.1 (by omega) HSY.out)
      clear hset hXp HO11 HB11 HY HXL HYN HSY
      have HLE:=Lib.hid HZB.out.size
      generalize rightPF Y=RY at*
      cases RY with
      | true=>
       go_wp2_with fail
       refine HI.out.mono ?_
       rintro e w20 ⟨rfl,HB20⟩
       clear HI
       go_wp2_with fail
       go_ret
       exact ⟨_,rfl,Lib.hid ⟨by rw [HRY.out];exact HZ.out.below HB20.out,HZB.out.trans (HB20.out.mono HLE.out)⟩⟩
      | false=>
       go_wp2_with fail
       refine HI.out.mono ?_
       rintro e w20 ⟨rfl,HB20⟩
       clear HI
       go_wp2_with fail
       go_ret
       exact ⟨_,rfl,Lib.hid ⟨by rw [HRY.out];exact OwnVals.nil _ _,HZB.out.trans (HB20.out.mono HLE.out)⟩⟩
     | some p=>
      rw [hg]at HG
      change Hid (∀W,_→Calls _ _ _ _ fun e w'=> e= .returned (.int .i64 (p:Int))∧_)at HG
      obtain ⟨hp0,hpl⟩:=get_pos hg
      have hzl:0 < rowE L p∧p+rowE L p≤L.length:=(right_endN hrl hpl).2
      have HE:=Lib.hid (fun W (k:Below w.heap.size w W)=> js_rend' W (some ⟨b,o,none⟩) n c L (hL.below k) (by omega) hrl p (by omega))
      obtain ⟨Y,hY⟩:∃Y,Y=setF L key M:=⟨_,rfl⟩
      have hYe:Y=(L.take p++named key M)++L.drop (p+rowE L p):=by rw [hY];unfold setF;rw [hg,List.append_assoc]
      have HRY:Hid (RV=if rightPF Y=true then Y else []):=Lib.hid (by rw [HRV.out,hY];unfold setA fineF;rw [if_pos ⟨hO,hrm⟩])
      rw [←hY]at HSY
      rw [hlen]at hpl hzl
      obtain ⟨e1,he1⟩:∃e1,e1=p+rowE L p:=⟨_,rfl⟩
      rw [←he1]at HE hzl hYe
      have hpe:p < e1:=by omega
      have hen:e1≤n:=hzl.2
      obtain ⟨AD,hAD⟩:∃AD:Addr,(if c=e1 then some (⟨b,o,none⟩:Addr) else some ⟨b,o+e1*4,none⟩)=some AD:=by split <;> exact ⟨_,rfl⟩
      have HBH:=Lib.hid (fun W (k:Below w.heap.size w W)=> show ValsAt W (some AD) (n - e1) (c - e1) (L.drop e1)from by have h:=(hL.below k).behind hen hAD;rw [List.length_drop,hlen]at h;exact h)
      have HPR:=Lib.hid (fun W (k:Below w.heap.size w W)=> show ValsAt W (some ⟨b,o,none⟩) p c (L.take p)from by have h:=(hL.below k).pre (p:=p) (by omega);rw [List.length_take,hlen,Nat.min_eq_left (by omega)]at h;exact h)
      have HTL:Hid ((L.take p).length=p):=Lib.hid (by rw [List.length_take,hlen];omega)
      have HXL:Hid ((L.take p++named key M).length=p+n2):=Lib.hid (by rw [List.length_append,hnl,List.length_take,hlen];omega)
      have HYL:Hid (Y.length=p+n2+(n - e1)):=Lib.hid (by rw [hYe,List.length_append,HXL.out,List.length_drop,hlen])
      have HY:=Lib.hid hYe
      have hpi:(0:Int)≤(p:Int):=by omega
      have hpc:(p:Int)≤(c:Int):=by omega
      have hpc2:p≤c:=by omega
      have hei:(0:Int)≤(e1:Int):=by omega
      have hen2:(e1:Int)≤(n:Int):=by omega
      have hdg:decide ((p:Int) < 0)=false:=decide_eq_false (by omega)
      clear hY hYe he1 hzl hrm hrl HRV hL hM hs hs2 hvk hio h0 hM0 hkd hO hg hnl hlen HLW hcb
      generalize sb key=K at*
      go_enter Tryz.func79,Tryz.ntmps79
      go_wp2_with fail
      refine HRM.out.mono ?_
      rintro e w2 ⟨rfl,HB2⟩
      clear HRM
      go_wp2_with fail
      refine (HRL.out w2 HB2.out).mono ?_
      rintro e w3 ⟨rfl,HB3⟩
      have HB4:=Lib.hid (HB2.out.trans (HB3.out.mono HB2.out.size))
      clear HRL HB2 HB3
      go_wp2_with fail
      refine (HVK.out w3).mono ?_
      rintro e w4 ⟨rfl,K4⟩
      have HB5:=Lib.hid (HB4.out.trans (K4.mono HB4.out.size))
      clear HVK K4 HB4
      have d0:w4.cell? ⟨b,o,none⟩=some (.int .i64 6):=(kept_below HB5.out).cell HC0.out (fun h=> h)
      clear HC0
      go_wp2_with fail
      refine (HG.out w4 HB5.out).mono ?_
      rintro e w6 ⟨rfl,HB6⟩
      have HB7:=Lib.hid (HB5.out.trans (HB6.out.mono HB5.out.size))
      clear HG HB5 HB6 d0
      have HOM:=Lib.hid (own_made w6)
      have HB8:=Lib.hid (HB7.out.trans ((below_alloc' w6 (.cells #[] 72)).mono HB7.out.size))
      have HLV:=Lib.hid (HPR.out _ HB8.out)
      have HSZ8:=Lib.hid (show w6.heap.size≤(w6.alloc (.cells #[] 72)).heap.size from (below_alloc' w6 _).size)
      go_upto_region 9 with (at_builtin;go_must (with_reducible refine append_vals rfl _ _ rfl w6.heap.size (.slice (some ⟨w6.heap.size,0,none⟩) 0 0) [] rfl HOM.out ⟨b,o,none⟩ p c (L.take p) rfl HLV.out (by simp;omega) HSZ8.out ?_;intro v9 w9 h1 h2 h3;have hg9:=h1.out.got (by rw [List.nil_append,HTL.out];exact hp0);rw [List.nil_append,HTL.out]at hg9;obtain ⟨g9,k9,rfl, -⟩:=hg9;have HO9:=Lib.hid (show OwnVals w9 w6.heap.size (.slice (some ⟨g9,0,none⟩) p k9) (L.take p)from by have h:=h1.out;rw [List.nil_append]at h;exact h);have HB9:=Lib.hid (HB8.out.trans (below_of_kept h2.out HB8.out.size (fun i hi e=> by have:=HB7.out.size;omega)));have HS9:=Lib.hid (show w6.heap.size≤w9.heap.size from Nat.le_trans HSZ8.out h2.out.size);clear h1 h2 h3))
      clear HOM HLV HSZ8 HB8 HPR
      go_wp2_with fail
      refine (HNA.out w9 HB9.out).mono ?_
      rintro e w10 ⟨v10,rfl,H10⟩
      have hg10:=H10.out.1.got (by rw [HNL.out];omega)
      rw [HNL.out]at hg10
      obtain ⟨g10,k10,rfl, -⟩:=hg10
      have HV10:=Lib.hid (show ValsAt w10 (some ⟨g10,0,none⟩) n2 k10 (named key M)from by have h:=H10.out.1.at_.1;exact h)
      have HO10:=Lib.hid (HO9.out.below H10.out.2)
      have HB10:=Lib.hid (HB9.out.trans (H10.out.2.mono HB9.out.size))
      have HS10:=Lib.hid (show w6.heap.size≤w10.heap.size from Nat.le_trans HS9.out H10.out.2.size)
      clear H10 HNA HB9 HO9 HS9
      go_upto_region 10 with (at_builtin;go_must (with_reducible refine append_vals rfl _ _ rfl w6.heap.size (.slice (some ⟨g9,0,none⟩) p k9) (L.take p) rfl HO10.out ⟨g10,0,none⟩ n2 k10 (named key M) rfl HV10.out (by rw [HTL.out];omega) HS10.out ?_;intro v11 w11 h1 h2 h3;have hg11:=h1.out.got (by rw [HXL.out];omega);rw [HXL.out]at hg11;obtain ⟨g11,k11,rfl, -⟩:=hg11;have HO11:=Lib.hid (show OwnVals w11 w6.heap.size (.slice (some ⟨g11,0,none⟩) (p+n2) k11) (L.take p++named key M)from h1.out);have HB11:=Lib.hid (HB10.out.trans (below_of_kept h2.out HB10.out.size (fun i hi e=> by have:=HB7.out.size;omega)));have HS11:=Lib.hid (show w6.heap.size≤w11.heap.size from Nat.le_trans HS10.out h2.out.size);clear h1 h2 h3))
      clear HO10 HV10 HB10 HS10
      go_wp2_with fail
      refine (HE.out w11 HB11.out).mono ?_
      rintro e w12 ⟨rfl,HB12⟩
      have HB13:=Lib.hid (HB11.out.trans (HB12.out.mono HB11.out.size))
      have HO12:=Lib.hid (HO11.out.below HB12.out)
      have HV12:=Lib.hid (HBH.out w12 HB13.out)
      have HS12:=Lib.hid (show w6.heap.size≤w12.heap.size from Nat.le_trans HS11.out HB12.out.size)
      clear HE HB11 HB12 HO11 HBH HS11
      go_wp2_with (at_builtin;go_must (with_reducible refine append_vals rfl _ _ rfl w6.heap.size (.slice (some ⟨g11,0,none⟩) (p+n2) k11) (L.take p++named key M) rfl HO12.out AD (n - e1) (c - e1) (L.drop e1) rfl HV12.out (by rw [HXL.out];omega) HS12.out ?_;intro v13 w13 h1 h2 h3;rw [←HY.out]at h1;have hg13:=h1.out.got (by rw [HYL.out];omega);rw [HYL.out]at hg13;obtain ⟨g13,k13,rfl, -⟩:=hg13;have HZ:=Lib.hid (show OwnVals w13 w.heap.size (.slice (some ⟨g13,0,none⟩) (p+n2+(n - e1)) k13) Y from h1.out.mono HB7.out.size);have HZB:=Lib.hid (HB13.out.trans (below_of_kept h2.out HB13.out.size (fun i hi e=> by have:=HB7.out.size;omega)));clear h1 h2 h3))
      clear HO12 HV12 HB13 HS12
      have HI:=Lib.hid (jo_rfine _ _ _ _ _ HZ.out.at_.1 (by omega) HSY.out)
      clear HY HXL HYL HSY
      have HLE:=Lib.hid HZB.out.size
      generalize rightPF Y=RY at*
      cases RY with
      | true=>
       refine HI.out.mono ?_
       rintro e w20 ⟨rfl,HB20⟩
       clear HI
       go_wp2_with fail
       go_ret
       exact ⟨_,rfl,Lib.hid ⟨by rw [HRY.out];exact HZ.out.below HB20.out,HZB.out.trans (HB20.out.mono HLE.out)⟩⟩
      | false=>
       refine HI.out.mono ?_
       rintro e w20 ⟨rfl,HB20⟩
       clear HI
       go_wp2_with fail
       go_ret
       exact ⟨_,rfl,Lib.hid ⟨by rw [HRY.out];exact OwnVals.nil _ _,HZB.out.trans (HB20.out.mono HLE.out)⟩⟩
    ·have hO:isO L=false:=by rw [hio];exact beq_eq_false_iff_ne.2 hkd
     have hb6:(L[0].kind !=6)=true:=bne_iff_ne.2 hkd
     have HX:Hid (RV=[]):=Lib.hid (by rw [HRV.out];unfold setA;rw [if_neg (fun h=> by rw [hO]at h;cases h.1)])
     clear hrm hrl HRV hL hM hs hs2 hvk hio hM0 hkd hO
     generalize L[0].kind=kd at*
     generalize sb key=K at*
     go_enter Tryz.func79,Tryz.ntmps79
     go_wp2_with fail
     refine HRM.out.mono ?_
     rintro e w2 ⟨rfl,HB2⟩
     clear HRM
     go_wp2_with fail
     refine (HRL.out w2 HB2.out).mono ?_
     rintro e w3 ⟨rfl,HB3⟩
     have HB4:=Lib.hid (HB2.out.trans (HB3.out.mono HB2.out.size))
     clear HRL HB2 HB3
     go_wp2_with fail
     refine (HVK.out w3).mono ?_
     rintro e w4 ⟨rfl,K4⟩
     have HB5:=Lib.hid (HB4.out.trans (K4.mono HB4.out.size))
     clear HVK K4 HB4
     have d0:w4.cell? ⟨b,o,none⟩=some (.int .i64 kd):=(kept_below HB5.out).cell HC0.out (fun h=> h)
     clear HC0
     go_wp2_with fail
     go_ret
     exact ⟨_,rfl,Lib.hid ⟨by rw [HX.out];exact OwnVals.nil _ _,HB5.out⟩⟩
end Go.Proofs.YtgmangikcfakgaaGreatDoor
