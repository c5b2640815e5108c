import Derived.Test.YtmkjcleecjjchaaGreatDoorQ31
import Derived.Test.YtmkjcleecjjchaaGreatDoorQ39
import Derived.Deep.RegionLaw
namespace Go.Proofs.YtmkjcleecjjchaaGreatDoor
open Go.RowKit Sh Jt Js Jo
set_option maxRecDepth 100000
set_option maxHeartbeats 4000000 in
theorem mt_rtwo (w:World) (A:Option Addr) (n c:Nat) (L:List V) (hL:ValsAt w A n c L) (hn:n≤250000) (hs:Short 1000000000 L):
  Calls Tryz.prog 31 #[.slice A n c] w fun e w'=> e= .returned (.bool (hasF L))∧Hid (Below w.heap.size w w'):=by
 have HG:=Lib.hid (jo_rget w A n c L hL hn hs 0 schemaK)
 change Hid (Calls _ _ #[.slice A n c, .int .i64 0, .string ⟨#[115,99,104,101,109,97,86,101,114,115,105,111,110]⟩] _ _)at HG
 have hlen:=hL.len
 cases hg:getA L 0 schemaK with
 | none=>
  rw [hg]at HG
  have HF:=Lib.hid (has_none hg)
  change Hid (Calls _ _ _ _ fun e w'=> e= .returned (.int .i64 (-1))∧_)at HG
  clear hL hs hg
  generalize hasF L=R at*
  go_enter Tryz.func31,Tryz.ntmps31
  go_wp2_with fail
  refine HG.out.mono ?_
  rintro e w2 ⟨rfl,HB⟩
  clear HG
  go_wp2_with fail
  go_ret
  refine ⟨?_,HB⟩
  rw [HF.out]
  rfl
 | some p=>
  rw [hg]at HG
  obtain ⟨hp,_,_⟩:=get_head hg
  have hf:=has_at hg
  rw [List.drop_eq_getElem_cons hp]at hf
  change hasF L=decide (L[p].kind=3∧L[p].text=[50])at hf
  obtain ⟨b,o,rfl,hbl,_⟩:=hL.at_ (by omega)
  have HC:=Lib.hid (fun W (q:Below w.heap.size w W)=> (hL.below q).cells hp)
  change Hid (Calls _ _ _ _ fun e w'=> e= .returned (.int .i64 (p:Int))∧_)at HG
  have hp9:(p:Int) < (n:Int):=by omega
  have hp0:(0:Int)≤(p:Int):=by omega
  have HF:=Lib.hid hf
  clear hL hs hg hf
  generalize hasF L=R at*
  generalize L[p]=v at*
  go_enter Tryz.func31,Tryz.ntmps31
  go_wp2_with fail
  refine HG.out.mono ?_
  rintro e w2 ⟨rfl,HB⟩
  obtain ⟨x0,_,x2,_⟩:=HC.out w2 HB.out
  clear HG HC
  by_cases he:v.kind=3
  ·have hR:R=((sb v.text).toList==[50]):=by
    rw [HF.out,sb_list,he]
    cases hz:(v.text==[50])with
    | true=> rw [beq_iff_eq]at hz;rw [hz];rfl
    | false=> rw [beq_eq_false_iff_ne]at hz;exact decide_eq_false (fun h=> hz h.2)
   rw [he]at x0
   have HR:=Lib.hid hR
   clear hR HF
   generalize sb v.text=vt at*
   go_wp2_with fail
   go_ret
   refine ⟨?_,HB⟩
   rw [HR.out]
   rfl
  ·have hne:(v.kind==3)=false:=beq_eq_false_iff_ne.2 he
   have hR:R=false:=by rw [HF.out];exact decide_eq_false (fun h=> he h.1)
   have HR:=Lib.hid hR
   clear hR HF he
   generalize v.kind=vk at*
   generalize sb v.text=vt at*
   go_wp2_with fail
   go_ret
   refine ⟨?_,HB⟩
   rw [HR.out]
   rfl
end Go.Proofs.YtmkjcleecjjchaaGreatDoor
namespace Go.Proofs.YtmkjcleecjjchaaGreatDoor
open Go.RowKit Sh Jt Js Jo
theorem step_append_valsS {w:World} {ops:Array Oper} {o:Oper} {a:Act} {K:Act→World→Prop} {Q:Exit→Act→World→Prop} {E:Prop} (hg:o.guard=none) (s x:Operand)
  (ho:o.op= .call {callee:= .builtin .append,args:=#[s,x],argTypes:=#[29,29]}) (B:Nat) (v:Value) (L:List V) (hs:a.eval s=v) (hown:OwnVals w B v L)
  (ad:Addr) (n c:Nat) (M:List V) (hx:a.eval x= .slice (some ad) n c) (hsrc:ValsAt w (some ad) n c M) (hb:L.length+n≤1000000000000) (hB:B≤w.heap.size)
  (h:∀v' w',Hid (OwnVals w' B v' (L++M))→Hid (Kept w w' (fun k=> B≤k∧v.ownBlock=some k))→Hid (∀k,v'.ownBlock=some k→v.ownBlock=some k∨w.heap.size≤k)→K (a.put o.dst v') w'):
  if Region.wanted o (yielded ops a.tmps)=true then Oper.wp Tryz.prog o a w K Q else E:=by
 rw [if_pos (by simp [Region.wanted,hg])]
 obtain ⟨i,hi,hz,hsz,hby⟩:=js_infoZ
 have hlen:=hsrc.len
 have hnews:∀j u,(cellsV M)[j]? =some u→w.cell? (ad.add j)=some u:=by
  intro j u hj
  have hjl:=(List.getElem?_eq_some_iff.1 hj).1
  rw [cellsV_len]at hjl
  obtain ⟨b,off,e,_,hr⟩:=hsrc.at_ (by omega)
  simp only [Option.some.injEq]at e
  subst e
  rw [Addr.add_mid]
  exact hr j u hj
 obtain ⟨v',w',hr,h2,h3,h4,h5⟩:=run_append_own_at (P:=Tryz.prog) w B 29 o.type 61 i (.agg #[.int .i64 0, .string ⟨#[]⟩, .string ⟨#[]⟩, .int .i64 0]) 4 48 Tryz.underlying29 hi hz hsz hby rfl (by decide) v L.length (cellsV L) hown ad n c (cellsV M)
  (by rw [cellsV_len,hlen]) hnews (cellsV_one M) (by unfold maxLen;omega) (by omega) hB
 unfold Oper.wp execOp
 simp only [ho,resolve,invoke,builtin,Sem.run_bind,Sem.run_pure,Result.andThen_ok,List.map_toArray,List.map_cons,List.map_nil,hs,hx,hr]
 refine h v' w' ?_ ?_ ?_
 ·show w'.ownsRow B _ 4 v' (L++M).length (cellsV (L++M))
  rw [List.length_append,hlen,cellsV_app]
  exact h2
 ·refine ⟨h3.os,h3.tape,h3.output,h3.size,fun k hk hn=> h3.block k hk (fun e=> hn ?_)⟩
  obtain ⟨_,⟨rfl,_⟩ | ⟨g,cap,cur,rfl,hg,_⟩⟩:=hown
  ·cases e
  ·have e':g=k:=by simpa [Value.ownBlock] using e.symm
   subst e'
   exact ⟨hg,rfl⟩
 ·intro k hk
  rcases h5 with h5 | h5
  ·exact .inl (h5▸hk)
  ·rw [h5]at hk
   exact .inr (Nat.le_of_eq (Option.some.inj hk))
theorem step_call {w:World} {ops:Array Oper} {o:Oper} {a:Act} {K:Act→World→Prop} {Q:Exit→Act→World→Prop} {E:Prop} (hg:o.guard=none) (f:FuncId) (args:Array Value) (hrun:(execOp a.eval o).run Tryz.prog w= .ok (.enter f args) w) {R:Ending→World→Prop}
  (hc:Calls Tryz.prog f args w R) (h:∀e w',R e w'→∃v,e= .returned v∧K (a.put o.dst v) w'):if Region.wanted o (yielded ops a.tmps)=true then Oper.wp Tryz.prog o a w K Q else E:=by
 rw [if_pos (by simp [Region.wanted,hg])]
 exact js_enterP f args hrun hc h
theorem OwnVals.cut {w:World} {B g n c:Nat} {L:List V} (h:OwnVals w B (.slice (some ⟨g,0,none⟩) n c) L) {m:Nat} (hm:m≤n):OwnVals w B (.slice (some ⟨g,0,none⟩) m c) (L.take m):=by
 have hl:=h.at_.2
 obtain ⟨_,⟨e,_⟩ | ⟨g',cap,cur,e,hg,hh,hn,hc,hs,ht⟩⟩:=h
 ·cases e
 ·simp only [Value.slice.injEq,Option.some.injEq,Addr.mk.injEq]at e
  obtain ⟨⟨rfl,_⟩,rfl,rfl⟩:=e
  have hlt:(L.take m).length=m:=by rw [List.length_take];omega
  refine ⟨by rw [cellsV_len], .inr ⟨g,c,cur,by rw [hlt],hg,hh,by omega,hc,hs, ?_⟩⟩
  rw [hlt]
  have e2:cellsV (L.take m)=(cellsV L).take (m*4):=by
   have:=cellsV_app (L.take m) (L.drop m)
   rw [List.take_append_drop]at this
   rw [this,List.take_left' (by rw [cellsV_len,hlt])]
  rw [e2,←ht,List.take_take,Nat.min_eq_left (by omega)]
namespace Jo
theorem isO_kind {L:List V} (hr:rightPF L=true) (h0:0 < L.length):isO L=(L[0].kind==6):=by
 unfold isO
 rw [hr,Bool.true_and,kind_head h0]
 by_cases h:L[0].kind=6
 ·rw [h];rfl
 ·rw [decide_eq_false h,beq_eq_false_iff_ne.2 h]
end Jo
set_option maxRecDepth 100000 in
set_option maxHeartbeats 8000000 in
theorem jo_rdrop (w:World) (A:Option Addr) (n c:Nat) (L:List V) (hL:ValsAt w A n c L) (hn:n≤40000) (hs:Short 1000000000 L) (key:List UInt8):
  Calls Tryz.prog 37 #[.slice A n c, .string (sb key)] w fun e w'=> ∃v',e= .returned v'∧Hid (OwnVals w' w.heap.size v' (dropA L key)∧Below w.heap.size w w'):=by
 have HRL:=Lib.hid (js_rRight w A n c L hL (by omega) hs)
 obtain ⟨RV,hRV⟩:∃RV,RV=dropA L key:=⟨_,rfl⟩
 rw [←hRV]
 have HRV:=Lib.hid hRV
 clear hRV
 cases hrl:rightPF L with
 | false=>
  have HX:Hid (RV=[]):=Lib.hid (by rw [HRV.out];unfold dropA isO;rw [if_neg (fun h=> by rw [hrl]at h;cases h)])
  rw [hrl]at HRL
  clear hrl HRV hL hs
  generalize sb key=K at*
  go_enter Tryz.func37,Tryz.ntmps37
  go_wp2_with fail
  refine HRL.out.mono ?_
  rintro e w2 ⟨rfl,HB2⟩
  clear HRL
  go_wp2_with fail
  go_ret
  exact ⟨_,rfl,Lib.hid ⟨by rw [HX.out];exact OwnVals.nil _ _,HB2.out⟩⟩
 | true=>
  rw [hrl]at HRL
  have h0:=(right_end hrl).2.1
  have hlen:=hL.len
  have hcap:=hL.cap
  have hio:=isO_kind hrl h0
  obtain ⟨b,o,rfl,_,_⟩:=hL.at_ (by omega)
  have HC0:=Lib.hid (show w.cell? ⟨b,o,none⟩=some (.int .i64 L[0].kind)from by have x0:=(hL.cells h0).1;rw [Nat.zero_mul,Nat.add_zero]at x0;exact x0)
  have hn0:(0:Int) < (n:Int):=by omega
  have hn00:0 < n:=by omega
  by_cases hkd:L[0].kind=6
  ·have hO:isO L=true:=by rw [hio,hkd];rfl
   rw [hkd]at HC0
   have HG:=Lib.hid (fun W (k:Below w.heap.size w W)=> jo_rget W (some ⟨b,o,none⟩) n c L (hL.below k) (by omega) hs 0 key)
   have HLW:=Lib.hid (fun W (k:Below w.heap.size w W)=> hL.below k)
   have HLL:=Lib.hid hlen
   have hcb:0≤countOf L∧countOf L≤40000:=by
    have h1:=right_rest hrl h0
    have h2:=(head_drop h0).2.1
    rw [List.drop_zero]at h2
    rw [h2]
    omega
   cases hg:getA L 0 key with
   | none=>
    rw [hg]at HG
    change Hid (∀W,_→Calls _ _ _ _ fun e w'=> e= .returned (.int .i64 (-1))∧_)at HG
    have HX:Hid (RV=L):=Lib.hid (by rw [HRV.out];unfold dropA;rw [if_pos hO,hg])
    clear HRV hL hs hrl h0 hlen hio hkd hO hg
    generalize sb key=K at*
    go_enter Tryz.func37,Tryz.ntmps37
    go_wp2_with fail
    refine HRL.out.mono ?_
    rintro e w2 ⟨rfl,HB2⟩
    have d0:w2.cell? ⟨b,o,none⟩=some (.int .i64 6):=(kept_below HB2.out).cell HC0.out (fun h=> h)
    have HOM:=Lib.hid (own_made w2)
    have HB8:=Lib.hid (HB2.out.trans ((below_alloc' w2 (.cells #[] 61)).mono HB2.out.size))
    have HLV:=Lib.hid (HLW.out _ HB8.out)
    have HSZ8:=Lib.hid (show w2.heap.size≤(w2.alloc (.cells #[] 61)).heap.size from (below_alloc' w2 _).size)
    clear HRL HC0 HLW
    go_wp2_with (at_builtin;go_must (with_reducible refine append_vals rfl _ _ rfl w2.heap.size (.slice (some ⟨w2.heap.size,0,none⟩) 0 0) [] rfl HOM.out ⟨b,o,none⟩ n c L rfl HLV.out (by simp;omega) HSZ8.out ?_;intro v9 w9 h1 h2 h3;have HO9:=Lib.hid (show OwnVals w9 w2.heap.size v9 L from by have h:=h1.out;rw [List.nil_append]at h;exact h);have HB9:=Lib.hid (HB8.out.trans (below_of_kept h2.out HB8.out.size (fun i hi e=> by have:=HB2.out.size;omega)));clear h1 h2 h3))
    clear d0 HOM HLV HSZ8 HB8
    refine (HG.out w9 HB9.out).mono ?_
    rintro e w10 ⟨rfl,HB10⟩
    have HO10:=Lib.hid ((HO9.out.below HB10.out).mono HB2.out.size)
    have HB11:=Lib.hid (HB9.out.trans (HB10.out.mono HB9.out.size))
    clear HG HO9 HB9 HB10
    go_wp2_with fail
    go_ret
    exact ⟨_,rfl,Lib.hid ⟨by rw [HX.out];exact HO10.out,HB11.out⟩⟩
   | some p=>
    rw [hg]at HG
    change Hid (∀W,_→Calls _ _ _ _ fun e w'=> e= .returned (.int .i64 (p:Int))∧_)at HG
    obtain ⟨hp0,hpl⟩:=get_pos hg
    have hzl:0 < rowE L p∧p+rowE L p≤L.length:=(right_endN hrl hpl).2
    have HE:=Lib.hid (fun W (k:Below w.heap.size w W)=> js_rend' W (some ⟨b,o,none⟩) n c L (hL.below k) (by omega) hrl p (by omega))
    have HX0:=Lib.hid (HRV.out.trans (drop_some hO hg hp0 (Nat.le_of_lt hpl)))
    rw [hlen]at hpl hzl
    obtain ⟨e1,he1⟩:∃e1,e1=p+rowE L p:=⟨_,rfl⟩
    rw [←he1]at HE hzl HX0
    have hpe:p < e1:=by omega
    have hen:e1≤n:=hzl.2
    obtain ⟨AD,hAD⟩:∃AD:Addr,(if c=e1 then some (⟨b,o,none⟩:Addr) else some ⟨b,o+e1*4,none⟩)=some AD:=by split <;> exact ⟨_,rfl⟩
    have HBH:=Lib.hid (fun W (k:Below w.heap.size w W)=> show ValsAt W (some AD) (n - e1) (c - e1) (L.drop e1)from by have h:=(hL.below k).behind hen hAD;rw [List.length_drop,hlen]at h;exact h)
    have HTL:Hid ((L.take p).length=p):=Lib.hid (by rw [List.length_take,hlen];omega)
    have HXL:Hid ((L.take p++L.drop e1).length=p+(n - e1)):=Lib.hid (by rw [List.length_append,List.length_take,List.length_drop,hlen];omega)
    have HCN:=Lib.hid (show countOf (L.take p++L.drop e1)=countOf L from by
     have h2:=count_take (l:=L) hp0
     match hq:L.take p,HTL.out with
     | v::r,_=>
      rw [hq]at h2
      exact h2
     | [],h=> exact absurd h.symm (by show ¬p=0;omega))
    have hpi:(0:Int)≤(p:Int):=by omega
    have hpc:(p:Int)≤(c:Int):=by omega
    have hpc2:p≤c:=by omega
    have hei:(0:Int)≤(e1:Int):=by omega
    have hen2:(e1:Int)≤(n:Int):=by omega
    have hdg:decide ((p:Int) < 0)=false:=decide_eq_false (by omega)
    have hng:¬(p:Int) < 0:=by omega
    clear HRV hL hs hrl h0 hlen hio hkd hO hg he1 hzl
    generalize countOf L=CN at*
    generalize sb key=K at*
    go_enter Tryz.func37,Tryz.ntmps37
    go_wp2_with fail
    refine HRL.out.mono ?_
    rintro e w2 ⟨rfl,HB2⟩
    have d0:w2.cell? ⟨b,o,none⟩=some (.int .i64 6):=(kept_below HB2.out).cell HC0.out (fun h=> h)
    have HOM:=Lib.hid (own_made w2)
    have HB8:=Lib.hid (HB2.out.trans ((below_alloc' w2 (.cells #[] 61)).mono HB2.out.size))
    have HLV:=Lib.hid (HLW.out _ HB8.out)
    have HSZ8:=Lib.hid (show w2.heap.size≤(w2.alloc (.cells #[] 61)).heap.size from (below_alloc' w2 _).size)
    clear HRL HC0 HLW
    go_wp2_with (at_builtin;go_must (with_reducible refine append_vals rfl _ _ rfl w2.heap.size (.slice (some ⟨w2.heap.size,0,none⟩) 0 0) [] rfl HOM.out ⟨b,o,none⟩ n c L rfl HLV.out (by simp;omega) HSZ8.out ?_;intro v9 w9 h1 h2 h3;have hg9:=h1.out.got (by rw [List.nil_append,HLL.out];exact hn00);rw [List.nil_append,HLL.out]at hg9;obtain ⟨g9,k9,rfl,hq1,hq2,hq3⟩:=hg9;have HO9:=Lib.hid (show OwnVals w9 w2.heap.size (.slice (some ⟨g9,0,none⟩) n k9) L from by have h:=h1.out;rw [List.nil_append]at h;exact h);have HB9:=Lib.hid (HB8.out.trans (below_of_kept h2.out HB8.out.size (fun i hi e=> by have:=HB2.out.size;omega)));have HS9:=Lib.hid (show w2.heap.size≤w9.heap.size from Nat.le_trans HSZ8.out h2.out.size);clear h1 h2 h3))
    clear d0 HOM HLV HSZ8 HB8
    refine (HG.out w9 HB9.out).mono ?_
    rintro e w10 ⟨rfl,HB10⟩
    have HO10:=Lib.hid ((HO9.out.below HB10.out).cut (m:=p) (by omega))
    have HB11:=Lib.hid (HB9.out.trans (HB10.out.mono HB9.out.size))
    have HS10:=Lib.hid (show w2.heap.size≤w10.heap.size from Nat.le_trans HS9.out HB10.out.size)
    have hpk:(p:Int)≤(k9:Int):=by omega
    have hpk2:p≤k9:=by omega
    clear HG HO9 HB9 HB10 HS9
    go_upto_region 8 with fail
    have HBD:=Lib.hid (show Below w.heap.size w w10.drew from below_drewN HB11.out 1)
    have HOD:=Lib.hid (show OwnVals w10.drew w2.heap.size (.slice (some ⟨g9,0,none⟩) p k9) (L.take p)from HO10.out.below (below_drewN (Below.refl _ _) 1))
    have HSD:=Lib.hid (show w2.heap.size≤w10.drew.heap.size from HS10.out)
    clear HB11 HO10 HS10
    go_region_law (first
     | (with_reducible refine step_append_valsS rfl _ _ rfl w2.heap.size (.slice (some ⟨g9,0,none⟩) p k9) (L.take p) rfl HO12.out AD (n - e1) (c - e1) (L.drop e1) rfl HV12.out (by rw [HTL.out];omega) HS12.out ?_;intro v13 w13 h1 h2 h3;have hg13:=h1.out.got (by rw [HXL.out];omega);rw [HXL.out]at hg13;obtain ⟨g13,k13,rfl, -⟩:=hg13;have HO13:=Lib.hid (show OwnVals w13 w2.heap.size (.slice (some ⟨g13,0,none⟩) (p+(n - e1)) k13) (L.take p++L.drop e1)from h1.out);have HB14:=Lib.hid (HB13.out.trans (below_of_kept h2.out HB13.out.size (fun i hi e=> by have:=HB2.out.size;omega)));clear h1 h2 h3)
     | (refine step_call rfl 69 #[.slice (some ⟨b,o,none⟩) n c, .int .i64 (p:Int)] (by first | rfl | kernel_rfl) (HE.out w10.drew HBD.out) ?_;rintro e w12 ⟨rfl,HB12⟩;have HB13:=Lib.hid (HBD.out.trans (HB12.out.mono HBD.out.size));have HO12:=Lib.hid (HOD.out.below HB12.out);have HV12:=Lib.hid (HBH.out w12 HB13.out);have HS12:=Lib.hid (show w2.heap.size≤w12.heap.size from Nat.le_trans HSD.out HB12.out.size);refine ⟨_,rfl, ?_⟩))
    all_goals
     have hXp:0 < (L.take p++L.drop e1).length:=by rw [HXL.out];omega
     have f1:=HO13.out.unfrozen 3
     have y3:w13.cell? ⟨g13,3,none⟩=some (.int .i64 CN):=by
      obtain ⟨_,_,_,y3⟩:=HO13.out.at_.1.cells hXp
      have h2:=(head_drop hXp).2.1
      rw [List.drop_zero]at h2
      rw [←h2,HCN.out,Nat.zero_mul,Nat.zero_add]at y3
      exact y3
     have hl1:(0:Int) < ((p+(n - e1):Nat):Int):=by omega
     have hl2:0 < p+(n - e1):=by omega
     have hset:=HO13.out.set (i:=0) (j:=3) hXp (by decide) (x:= .int .i64 (CN - 1)) (v:=⟨(L.take p++L.drop e1)[0].kind,(L.take p++L.drop e1)[0].key,(L.take p++L.drop e1)[0].text,CN - 1⟩) rfl
     rw [cnt_set _ hXp,←HX0.out,Nat.zero_mul,Nat.zero_add]at hset
     have HZ:=Lib.hid (hset.mono HB2.out.size)
     have HZB:=Lib.hid (HB14.out.trans ((HO13.out.setBelow 3 (.int .i64 (CN - 1))).mono HB2.out.size))
     clear hset hXp
     obtain ⟨ln,hln⟩:∃ln:Nat,ln=p+(n - e1):=⟨_,rfl⟩
     rw [←hln]at HZ hl1 hl2 ⊢
     clear hln
     go_wp2_with fail
     go_ret
     exact ⟨_,rfl,Lib.hid ⟨HZ.out,HZB.out⟩⟩
  ·have hO:isO L=false:=by rw [hio];exact beq_eq_false_iff_ne.2 hkd
   have hb6:(L[0].kind !=6)=true:=bne_iff_ne.2 hkd
   have HX:Hid (RV=[]):=Lib.hid (by rw [HRV.out];unfold dropA;rw [if_neg (fun h=> by rw [hO]at h;cases h)])
   clear hrl HRV hL hs hio hkd hO
   generalize L[0].kind=kd at*
   generalize sb key=K at*
   go_enter Tryz.func37,Tryz.ntmps37
   go_wp2_with fail
   refine HRL.out.mono ?_
   rintro e w2 ⟨rfl,HB2⟩
   have d0:w2.cell? ⟨b,o,none⟩=some (.int .i64 kd):=(kept_below HB2.out).cell HC0.out (fun h=> h)
   clear HRL HC0
   go_wp2_with fail
   go_ret
   exact ⟨_,rfl,Lib.hid ⟨by rw [HX.out];exact OwnVals.nil _ _,HB2.out⟩⟩
end Go.Proofs.YtmkjcleecjjchaaGreatDoor
