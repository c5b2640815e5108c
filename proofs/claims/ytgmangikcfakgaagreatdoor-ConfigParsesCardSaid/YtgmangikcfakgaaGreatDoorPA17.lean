import Derived.Test.YtgmangikcfakgaaGreatDoorPA16
import Derived.Test.YtgmangikcfakgaaGreatDoorPA15
set_option maxRecDepth 100000
set_option maxHeartbeats 40000000
namespace Go.Proofs.YtgmangikcfakgaaGreatDoor
open Go.RowKit Go.Maps Go.WideMaps Sh Jt Js
namespace Js
theorem qh2 {a:UInt8} {r:List UInt8} (h:(charF (a::r)).2=1):(charF (a::r)).1≠65533:=by
 have ha:a.toNat < 256:=a.toBitVec.isLt
 have e:charF (a::r)=if a.toNat < 128 then (a.toNat,1) else if 192≤a.toNat∧a.toNat < 224 then char2 a r else if 224≤a.toNat∧a.toNat < 240 then char3 a r else if 240≤a.toNat∧a.toNat < 248 then char4 a r else (0,0):=rfl
 rw [e]at h ⊢
 clear e
 split
 ·show a.toNat≠65533
  omega
 next h1=>
  rw [if_neg h1]at h
  split
  next h2=>
   rw [if_pos h2]at h
   revert h
   unfold char2;repeat' split
   all_goals (intro h;first | (cases h;done) | (exact absurd h (by decide)))
  next h2=>
   rw [if_neg h2]at h
   split
   next h3=>
    rw [if_pos h3]at h
    revert h
    unfold char3;repeat' split
    all_goals (intro h;first | (cases h;done) | (exact absurd h (by decide)))
   next h3=>
    rw [if_neg h3]at h
    split
    next h4=>
     rw [if_pos h4]at h
     revert h
     unfold char4;repeat' split
     all_goals (intro h;first | (cases h;done) | (exact absurd h (by decide)))
    next h4=>
     rw [if_neg h4]at h
     cases h
theorem qv6:∀(m:Nat) (l:List UInt8),l.length≤m→Lib.validD l=validF l:=by
 intro m
 induction m with
 | zero=>
  intro l h;obtain rfl:l=[]:=List.eq_nil_of_length_eq_zero (by omega)
  rw [qa8];rfl
 | succ m ih=>
  intro l h;match l with
  | []=> rw [qa8];rfl
  | a::r=>
   have hd:Lib.decodeL (a::r)=orBad (charF (a::r)):=qnp (l:=a::r) (i:=0) rfl
   rw [List.length_cons]at h
   rw [Lib.validD_step _ (List.cons_ne_nil _ _),hd,validF];by_cases h0:(charF (a::r)).2=0
   ·rw [if_pos h0,orBad,if_pos h0,if_pos ⟨rfl,rfl⟩]
   ·rw [if_neg h0,qeq h0,if_neg (fun hh=> qh2 hh.2 hh.1)]
    have e:(a::r).drop (charF (a::r)).2=r.drop ((charF (a::r)).2 - 1):=by
     obtain ⟨k,hk⟩:∃k,(charF (a::r)).2=k+1:=⟨(charF (a::r)).2 - 1,by omega⟩
     rw [hk,List.drop_succ_cons,Nat.add_sub_cancel]
    rw [e];exact ih _ (by rw [List.length_drop];omega)
end Js
theorem below_undrew' {B n:Nat} {w w':World} (h:Below B (w.drewN n) w'):Below B w w':=⟨h.os,h.tape,h.output,h.size,h.block⟩
def TabOk (w:World):Prop:=Lib.Utf8Tabs 2 3 w
theorem TabOk.below {w w':World} (h:TabOk w) (k:Below w.heap.size w w'):TabOk w':=by
 have kk:=qad k
 exact ⟨fun c hc=> kk.cell (h.1 c hc) (fun h=> h),fun i hi=> ⟨kk.cell (h.2 i hi).1 (fun h=> h),kk.cell (h.2 i hi).2 (fun h=> h)⟩⟩
theorem qj7 (s:List UInt8) (hs:s.length≤9223372036854775807) (w:World) (hT:TabOk w):Calls Tryz.prog 146 #[.string (sb s)] w fun e w'=> e= .returned (.bool (validF s))∧Below w.heap.size w w':=by
 have h:=Any.utf8_ValidString Tryz.laysV (sb s) w hs hT
 rw [qiy,qv6 _ _ (Nat.le_refl _)]at h
 exact h
theorem qd9 {o:Oper} {a:Act} {w:World} {K:Act→World→Prop} {Q:Exit→Act→World→Prop} (f:FuncId) (args:Array Value) (hrun:(execOp a.eval o).run Tryz.prog w= .ok (.enter f args) w) {R:Ending→World→Prop}
  (hc:Calls Tryz.prog f args w R) (h:∀e w',R e w'→∃v,e= .returned v∧K (a.put o.dst v) w'):o.wp Tryz.prog a w K Q:=by
 unfold Oper.wp
 rw [hrun,Oper.upon_enter]
 refine hc.mono fun e w'' hh=> ?_
 obtain ⟨v,rfl,hk⟩:=h e w'' hh
 exact hk
theorem qu1 (w:World) (v:V) (ht:v.text.length≤1000000000) (hT:TabOk w):Calls Tryz.prog 120 #[.agg (vv v).toArray] w fun e w'=> e= .returned (.bool (valB v))∧Hid (Below w.heap.size w w'):=by
 obtain ⟨k,key,t,n⟩:=v
 dsimp only at ht
 have hB:=below_alloc' w (.cells (vv ⟨k,key,t,n⟩).toArray 72)
 have HB:=Qh hB
 have HN:=Qh (fun W=> qm7 W t ht)
 have HV:=Qh (fun W (k:Below w.heap.size w W)=> qj7 t (by omega) W (hT.below k))
 have hval:valB ⟨k,key,t,n⟩=(if k=0∨k=1∨k=2 then t.isEmpty && decide (n=0) else if k=3 then !t.isEmpty && decide (numF t=t.length) && decide (n=0) else if k=4 then validF t && decide (n=0) else if k=5∨k=6 then t.isEmpty else false):=rfl
 rw [hval]
 unfold vv at*
 dsimp only at*
 clear hval hB hT
 have hsz:=qag t
 by_cases k0:k=0
 ·subst k0
  rw [if_pos (by decide)];clear HN HV ht;match t with
  | []=>
   have h1:(sb []).toList=[]:=qab _
   have h2:(sb []).toList.isEmpty=true:=by rw [h1];rfl
   by_cases hn:n=0
   ·subst hn
    go_enter Tryz.func120,Tryz.ntmps120
    go_wp2_with fail;go_ret;exact ⟨rfl,HB⟩
   ·have hnb:(n==0)=false:=beq_eq_false_iff_ne.2 hn
    rw [decide_eq_false hn];go_enter Tryz.func120,Tryz.ntmps120
    go_wp2_with fail;go_ret;exact ⟨rfl,HB⟩
  | a::r=>
   have h1:¬(sb (a::r)).toList=[]:=by rw [qab];exact List.cons_ne_nil _ _
   have h2:(sb (a::r)).toList.isEmpty=false:=by rw [qab];rfl
   go_enter Tryz.func120,Tryz.ntmps120
   go_wp2_with fail;go_ret;exact ⟨rfl,HB⟩
 by_cases k1:k=1
 ·subst k1
  rw [if_pos (by decide)];clear HN HV ht;match t with
  | []=>
   have h1:(sb []).toList=[]:=qab _
   have h2:(sb []).toList.isEmpty=true:=by rw [h1];rfl
   by_cases hn:n=0
   ·subst hn
    go_enter Tryz.func120,Tryz.ntmps120
    go_wp2_with fail;go_ret;exact ⟨rfl,HB⟩
   ·have hnb:(n==0)=false:=beq_eq_false_iff_ne.2 hn
    rw [decide_eq_false hn];go_enter Tryz.func120,Tryz.ntmps120
    go_wp2_with fail;go_ret;exact ⟨rfl,HB⟩
  | a::r=>
   have h1:¬(sb (a::r)).toList=[]:=by rw [qab];exact List.cons_ne_nil _ _
   have h2:(sb (a::r)).toList.isEmpty=false:=by rw [qab];rfl
   go_enter Tryz.func120,Tryz.ntmps120
   go_wp2_with fail;go_ret;exact ⟨rfl,HB⟩
 by_cases k2:k=2
 ·subst k2
  rw [if_pos (by decide)];clear HN HV ht;match t with
  | []=>
   have h1:(sb []).toList=[]:=qab _
   have h2:(sb []).toList.isEmpty=true:=by rw [h1];rfl
   by_cases hn:n=0
   ·subst hn
    go_enter Tryz.func120,Tryz.ntmps120
    go_wp2_with fail;go_ret;exact ⟨rfl,HB⟩
   ·have hnb:(n==0)=false:=beq_eq_false_iff_ne.2 hn
    rw [decide_eq_false hn];go_enter Tryz.func120,Tryz.ntmps120
    go_wp2_with fail;go_ret;exact ⟨rfl,HB⟩
  | a::r=>
   have h1:¬(sb (a::r)).toList=[]:=by rw [qab];exact List.cons_ne_nil _ _
   have h2:(sb (a::r)).toList.isEmpty=false:=by rw [qab];rfl
   go_enter Tryz.func120,Tryz.ntmps120
   go_wp2_with fail;go_ret;exact ⟨rfl,HB⟩
 rw [if_neg (by omega)]
 by_cases k3:k=3
 ·subst k3
  rw [if_pos rfl];clear HV;match t with
  | []=>
   have h1:(sb []).toList=[]:=qab _
   have h2:(sb []).toList.isEmpty=true:=by rw [h1];rfl
   clear HN;go_enter Tryz.func120,Tryz.ntmps120
   go_upto_region 7 with fail;go_region
   go_wp2_with fail;go_ret;exact ⟨rfl,Qh (qaa HB.out 1)⟩
  | a::r=>
   have h1:¬(sb (a::r)).toList=[]:=by rw [qab];exact List.cons_ne_nil _ _
   have h2:(sb (a::r)).toList.isEmpty=false:=by rw [qab];rfl
   obtain ⟨wb,hwb⟩:∃wb,wb=w.alloc (.cells #[.int .i64 3, .string (sb key), .string (sb (a::r)), .int .i64 n] 72):=⟨_,rfl⟩
   have RB:Row wb w.heap.size 72 [.int .i64 3, .string (sb key), .string (sb (a::r)), .int .i64 n]:=by rw [hwb];exact Row.new _ _ _
   have HBW:=Qh (show Below w.heap.size w wb from by rw [hwb];exact HB.out)
   have HRB:=Qh RB
   have HWB:=Qh hwb
   clear hwb RB;have e1:(!(a::r).isEmpty)=true:=rfl
   rw [e1,Bool.true_and];clear e1;have HSZ:=Qh (show wb.heap.size=w.heap.size+1 from by rw [HWB.out];simp)
   have HNB:=Qh (HN.out (wb.drewN 1))
   clear HN;by_cases hq:numF (a::r)=(a::r).length
   ·have hqb:((numF (a::r):Int)==((a::r).length:Int))=true:=by rw [hq];exact beq_self_eq_true _
    rw [decide_eq_true hq,Bool.true_and];by_cases hn:n=0
    ·subst hn
     have c2:wb.cell? ⟨w.heap.size,2,none⟩=some (.string (sb (a::r))):=HRB.out.cell rfl
     have c3:wb.cell? ⟨w.heap.size,3,none⟩=some (.int .i64 0):=HRB.out.cell rfl
     have HCC:=Qh (fun W (k:Below (wb.drewN 1).heap.size (wb.drewN 1) W)=> show W.cell? ⟨w.heap.size,2,none⟩=some (.string (sb (a::r)))∧W.cell? ⟨w.heap.size,3,none⟩=some (.int .i64 0)∧Below w.heap.size w W from
      have k2:Below wb.heap.size wb W:=below_undrew' k
      ⟨(HRB.out.below k2 HRB.out.lt).cell rfl,(HRB.out.below k2 HRB.out.lt).cell rfl,HBW.out.trans (k2.mono HBW.out.size)⟩)
     have hsz2:(sb (a::r)).size=(a::r).length:=rfl
     obtain ⟨q,hq0⟩:∃q:Nat,q=numF (a::r):=⟨_,rfl⟩
     obtain ⟨q2,hq2⟩:∃q2:Nat,q2=(a::r).length:=⟨_,rfl⟩
     rw [←hq0]at HNB hqb
     rw [←hq2]at hqb hsz2
     clear hq hq0 hq2 hsz ht;generalize sb (a::r)=S at*;go_enter Tryz.func120,Tryz.ntmps120
     go_upto_region 7 with fail;rw [←HWB.out];generalize hBB:w.heap.size=B at*;go_region_held3 (fun x=> x.cell? ⟨B,2,none⟩=some (.string S)∧x.cell? ⟨B,3,none⟩=some (.int .i64 0)∧Below B w x) (first | exact ⟨c2,c3,qaa HBW.out 1⟩ | exact HY.out) (first | (go_at_call 151;refine HNB.out.mono ?_;rintro e w6 ⟨rfl,BB⟩;have HY:=Qh (HCC.out w6 BB)))
     go_wp2_with fail;go_ret;exact ⟨rfl,Qh (hBB▸HY.out.2.2)⟩
    ·have hnb:(n==0)=false:=beq_eq_false_iff_ne.2 hn
     rw [decide_eq_false hn];have c2:wb.cell? ⟨w.heap.size,2,none⟩=some (.string (sb (a::r))):=HRB.out.cell rfl
     have c3:wb.cell? ⟨w.heap.size,3,none⟩=some (.int .i64 n):=HRB.out.cell rfl
     have HCC:=Qh (fun W (k:Below (wb.drewN 1).heap.size (wb.drewN 1) W)=> show W.cell? ⟨w.heap.size,2,none⟩=some (.string (sb (a::r)))∧W.cell? ⟨w.heap.size,3,none⟩=some (.int .i64 n)∧Below w.heap.size w W from
      have k2:Below wb.heap.size wb W:=below_undrew' k
      ⟨(HRB.out.below k2 HRB.out.lt).cell rfl,(HRB.out.below k2 HRB.out.lt).cell rfl,HBW.out.trans (k2.mono HBW.out.size)⟩)
     have hsz2:(sb (a::r)).size=(a::r).length:=rfl
     obtain ⟨q,hq0⟩:∃q:Nat,q=numF (a::r):=⟨_,rfl⟩
     obtain ⟨q2,hq2⟩:∃q2:Nat,q2=(a::r).length:=⟨_,rfl⟩
     rw [←hq0]at HNB hqb
     rw [←hq2]at hqb hsz2
     clear hq hq0 hq2 hsz ht;generalize sb (a::r)=S at*;go_enter Tryz.func120,Tryz.ntmps120
     go_upto_region 7 with fail;rw [←HWB.out];generalize hBB:w.heap.size=B at*;go_region_held3 (fun x=> x.cell? ⟨B,2,none⟩=some (.string S)∧x.cell? ⟨B,3,none⟩=some (.int .i64 n)∧Below B w x) (first | exact ⟨c2,c3,qaa HBW.out 1⟩ | exact HY.out) (first | (go_at_call 151;refine HNB.out.mono ?_;rintro e w6 ⟨rfl,BB⟩;have HY:=Qh (HCC.out w6 BB)))
     go_wp2_with fail;go_ret;exact ⟨rfl,Qh (hBB▸HY.out.2.2)⟩
   ·have hqb:((numF (a::r):Int)==((a::r).length:Int))=false:=beq_eq_false_iff_ne.2 (by omega)
    rw [decide_eq_false hq,Bool.false_and];have c2:wb.cell? ⟨w.heap.size,2,none⟩=some (.string (sb (a::r))):=HRB.out.cell rfl
    have c3:wb.cell? ⟨w.heap.size,3,none⟩=some (.int .i64 n):=HRB.out.cell rfl
    have HCC:=Qh (fun W (k:Below (wb.drewN 1).heap.size (wb.drewN 1) W)=> show W.cell? ⟨w.heap.size,2,none⟩=some (.string (sb (a::r)))∧W.cell? ⟨w.heap.size,3,none⟩=some (.int .i64 n)∧Below w.heap.size w W from
     have k2:Below wb.heap.size wb W:=below_undrew' k
     ⟨(HRB.out.below k2 HRB.out.lt).cell rfl,(HRB.out.below k2 HRB.out.lt).cell rfl,HBW.out.trans (k2.mono HBW.out.size)⟩)
    have hsz2:(sb (a::r)).size=(a::r).length:=rfl
    obtain ⟨q,hq0⟩:∃q:Nat,q=numF (a::r):=⟨_,rfl⟩
    obtain ⟨q2,hq2⟩:∃q2:Nat,q2=(a::r).length:=⟨_,rfl⟩
    rw [←hq0]at HNB hqb
    rw [←hq2]at hqb hsz2
    clear hq hq0 hq2 hsz ht;generalize sb (a::r)=S at*;go_enter Tryz.func120,Tryz.ntmps120
    go_upto_region 7 with fail;rw [←HWB.out];generalize hBB:w.heap.size=B at*;refine wp_region_held (S:=fun x=> x.cell? ⟨B,2,none⟩=some (.string S)∧x.cell? ⟨B,3,none⟩=some (.int .i64 n)∧Below B w x) (by kernel_rfl) ?_
    change wpAnyH _ _ _ _ _ _ _ _ (wb.drewN 1)
    have H0:Hid ((wb.drewN 1).cell? ⟨B,2,none⟩=some (.string S)∧(wb.drewN 1).cell? ⟨B,3,none⟩=some (.int .i64 n)∧Below B w (wb.drewN 1)):=Qh ⟨c2,c3,qaa HBW.out 1⟩
    generalize wb.drewN 1=w4 at*;refine wpAnyH_take (i:=0) (v:= ?_) rfl (by kernel_rfl) (by kernel_rfl) (by kernel_rfl) (fun _ _ _ h=> h) (Or.inl ⟨by rfl, ?_⟩) H0.out ?_
    rotate_left
    ·(intro v hv;obtain ⟨q4,q5,q6⟩:=hv;go_simp <;> with_reducible rfl)
    simp only [List.getElem_toArray,List.getElem_cons_zero,Act.put,List.setIfInBounds_toArray,List.set_cons_zero,List.set_cons_succ]
    refine wpAnyH_take (i:=1) (v:= ?_) rfl (by kernel_rfl) (by kernel_rfl) (by kernel_rfl) (fun _ _ _ h=> h) (Or.inl ⟨by rfl, ?_⟩) H0.out ?_
    rotate_left
    ·(intro v hv;obtain ⟨q4,q5,q6⟩:=hv;go_simp <;> with_reducible rfl)
    simp only [List.getElem_toArray,List.getElem_cons_succ,List.getElem_cons_zero,Act.put,List.setIfInBounds_toArray,List.set_cons_zero,List.set_cons_succ]
    refine wpAnyH_take (i:=2) (v:= ?_) rfl (by kernel_rfl) (by kernel_rfl) (by kernel_rfl) (fun _ _ _ h=> h) (Or.inl ⟨by rfl, ?_⟩) H0.out ?_
    rotate_left
    ·(intro v hv;obtain ⟨q4,q5,q6⟩:=hv;go_simp <;> with_reducible rfl)
    simp only [List.getElem_toArray,List.getElem_cons_succ,List.getElem_cons_zero,Act.put,List.setIfInBounds_toArray,List.set_cons_zero,List.set_cons_succ]
    refine wpAnyH_take (i:=3) (v:= ?_) rfl (by kernel_rfl) (by kernel_rfl) (by kernel_rfl) (fun _ _ _ h=> h) (Or.inl ⟨by rfl, ?_⟩) H0.out ?_
    rotate_left
    ·(intro v hv;obtain ⟨q4,q5,q6⟩:=hv;go_simp <;> with_reducible rfl)
    simp only [List.getElem_toArray,List.getElem_cons_succ,List.getElem_cons_zero,Act.put,List.setIfInBounds_toArray,List.set_cons_zero,List.set_cons_succ]
    refine wpAnyH_take (i:=4) (v:= ?_) rfl (by kernel_rfl) (by kernel_rfl) (by kernel_rfl) (fun _ _ _ h=> h) (Or.inl ⟨by rfl, ?_⟩) H0.out ?_
    rotate_left
    ·(intro v hv;obtain ⟨q4,q5,q6⟩:=hv;go_simp <;> with_reducible rfl)
    simp only [List.getElem_toArray,List.getElem_cons_succ,List.getElem_cons_zero,Act.put,List.setIfInBounds_toArray,List.set_cons_zero,List.set_cons_succ]
    refine wpAnyH_take (i:=5) (v:= ?_) rfl (by kernel_rfl) (by kernel_rfl) (by kernel_rfl) (fun _ _ _ h=> h) (Or.inl ⟨by rfl, ?_⟩) H0.out ?_
    rotate_left
    ·(intro v hv;obtain ⟨q4,q5,q6⟩:=hv;go_simp <;> with_reducible rfl)
    simp only [List.getElem_toArray,List.getElem_cons_succ,List.getElem_cons_zero,Act.put,List.setIfInBounds_toArray,List.set_cons_zero,List.set_cons_succ]
    refine wpAnyH_take (i:=7) (v:= ?_) rfl (by kernel_rfl) (by kernel_rfl) (by kernel_rfl) (fun _ _ _ h=> h) (Or.inl ⟨by rfl, ?_⟩) H0.out ?_
    rotate_left
    ·(intro v hv;obtain ⟨q4,q5,q6⟩:=hv;go_simp <;> with_reducible rfl)
    simp only [List.getElem_toArray,List.getElem_cons_succ,List.getElem_cons_zero,Act.put,List.setIfInBounds_toArray,List.set_cons_zero,List.set_cons_succ]
    refine wpAnyH_take (i:=8) (v:= ?_) rfl (by kernel_rfl) (by kernel_rfl) (by kernel_rfl) (fun _ _ _ h=> h) (Or.inl ⟨by rfl, ?_⟩) H0.out ?_
    rotate_left
    ·(intro v hv;obtain ⟨q4,q5,q6⟩:=hv;go_simp <;> with_reducible rfl)
    simp only [List.getElem_toArray,List.getElem_cons_succ,List.getElem_cons_zero,Act.put,List.setIfInBounds_toArray,List.set_cons_zero,List.set_cons_succ]
    refine wpAnyH_take (i:=9) (v:= ?_) rfl (by kernel_rfl) (by kernel_rfl) (by kernel_rfl) (fun _ _ _ h=> h) (Or.inl ⟨by rfl, ?_⟩) H0.out ?_
    rotate_left
    ·(intro v hv;obtain ⟨q4,q5,q6⟩:=hv;go_simp <;> with_reducible rfl)
    simp only [List.getElem_toArray,List.getElem_cons_succ,List.getElem_cons_zero,Act.put,List.setIfInBounds_toArray,List.set_cons_zero,List.set_cons_succ]
    refine wpAnyH_ready (rs:=[6]) (by kernel_rfl) (by simp) ?_
    refine AllReadyH.cons rfl (fun K hK=> ?_) AllReadyH.nil
    rw [if_pos (by rfl)];refine qd9 151 #[.string S] (by first | rfl | kernel_rfl) HNB.out ?_
    rintro x w6 ⟨rfl,BB⟩;have HY:=Qh (HCC.out w6 BB)
    refine ⟨_,rfl, ?_⟩
    refine hK _ _ HY.out (fun _=> ?_)
    clear hK K;simp only [List.getElem_toArray,List.getElem_cons_succ,List.getElem_cons_zero,Act.put,List.setIfInBounds_toArray,List.set_cons_zero,List.set_cons_succ]
    refine wpAnyH_take (i:=10) (v:= .bool false) rfl (by kernel_rfl) (by kernel_rfl) (by kernel_rfl) (fun _ _ _ h=> h) (Or.inl ⟨by rfl, ?_⟩) HY.out ?_
    ·(intro v hv;obtain ⟨q4,q5,q6⟩:=hv;go_simp <;> with_reducible rfl)
    simp only [List.getElem_toArray,List.getElem_cons_succ,List.getElem_cons_zero,Act.put,List.setIfInBounds_toArray,List.set_cons_zero,List.set_cons_succ]
    refine wpAnyH_take (i:=11) (v:= ?_) rfl (by kernel_rfl) (by kernel_rfl) (by kernel_rfl) (fun _ _ _ h=> h) (Or.inl ⟨by rfl, ?_⟩) HY.out ?_
    rotate_left
    ·(intro v hv;obtain ⟨q4,q5,q6⟩:=hv;go_simp <;> with_reducible rfl)
    simp only [List.getElem_toArray,List.getElem_cons_succ,List.getElem_cons_zero,Act.put,List.setIfInBounds_toArray,List.set_cons_zero,List.set_cons_succ]
    refine wpAnyH_take (i:=12) (v:= ?_) rfl (by kernel_rfl) (by kernel_rfl) (by kernel_rfl) (fun _ _ _ h=> h) (Or.inl ⟨by rfl, ?_⟩) HY.out ?_
    rotate_left
    ·(intro v hv;obtain ⟨q4,q5,q6⟩:=hv;go_simp <;> with_reducible rfl)
    simp only [List.getElem_toArray,List.getElem_cons_succ,List.getElem_cons_zero,Act.put,List.setIfInBounds_toArray,List.set_cons_zero,List.set_cons_succ]
    refine wpAnyH_take (i:=13) (v:=undef) rfl (by kernel_rfl) (by kernel_rfl) (by kernel_rfl) (fun _ _ _ h=> h) (Or.inr ⟨by rfl,by rfl⟩) HY.out ?_
    simp only [List.getElem_toArray,List.getElem_cons_succ,List.getElem_cons_zero,Act.put,List.setIfInBounds_toArray,List.set_cons_zero,List.set_cons_succ]
    refine wpAnyH_take (i:=14) (v:=undef) rfl (by kernel_rfl) (by kernel_rfl) (by kernel_rfl) (fun _ _ _ h=> h) (Or.inr ⟨by rfl,by rfl⟩) HY.out ?_
    simp only [List.getElem_toArray,List.getElem_cons_succ,List.getElem_cons_zero,Act.put,List.setIfInBounds_toArray,List.set_cons_zero,List.set_cons_succ]
    refine wpAnyH_take (i:=15) (v:=undef) rfl (by kernel_rfl) (by kernel_rfl) (by kernel_rfl) (fun _ _ _ h=> h) (Or.inr ⟨by rfl,by rfl⟩) HY.out ?_
    simp only [List.getElem_toArray,List.getElem_cons_succ,List.getElem_cons_zero,Act.put,List.setIfInBounds_toArray,List.set_cons_zero,List.set_cons_succ]
    refine wpAnyH_take (i:=16) (v:= ?_) rfl (by kernel_rfl) (by kernel_rfl) (by kernel_rfl) (fun _ _ _ h=> h) (Or.inl ⟨by rfl, ?_⟩) HY.out ?_
    rotate_left
    ·(intro v hv;obtain ⟨q4,q5,q6⟩:=hv;go_simp <;> with_reducible rfl)
    simp only [List.getElem_toArray,List.getElem_cons_succ,List.getElem_cons_zero,Act.put,List.setIfInBounds_toArray,List.set_cons_zero,List.set_cons_succ]
    refine wpAnyH_take (i:=17) (v:= ?_) rfl (by kernel_rfl) (by kernel_rfl) (by kernel_rfl) (fun _ _ _ h=> h) (Or.inl ⟨by rfl, ?_⟩) HY.out ?_
    rotate_left
    ·(intro v hv;obtain ⟨q4,q5,q6⟩:=hv;go_simp <;> with_reducible rfl)
    simp only [List.getElem_toArray,List.getElem_cons_succ,List.getElem_cons_zero,Act.put,List.setIfInBounds_toArray,List.set_cons_zero,List.set_cons_succ]
    refine wpAnyH_done (by kernel_rfl) ?_ _
    go_wp2_with fail;go_ret;exact ⟨rfl,Qh (hBB▸HY.out.2.2)⟩
 rw [if_neg k3]
 by_cases k4:k=4
 ·subst k4
  rw [if_pos rfl];clear HN;have HVC:=Qh (HV.out _ HB.out)
  have HC3:=Qh (show (w.alloc (.cells #[.int .i64 4, .string (sb key), .string (sb t), .int .i64 n] 72)).cell? ⟨w.heap.size,3,none⟩=some (.int .i64 n)from (Row.new w 72 [.int .i64 4, .string (sb key), .string (sb t), .int .i64 n]).cell rfl)
  clear HV ht hsz;generalize sb t=S at*;cases hv:validF t with
  | false=>
   rw [hv]at HVC
   rw [Bool.false_and];go_enter Tryz.func120,Tryz.ntmps120
   go_wp2_with fail;refine HVC.out.mono ?_
   rintro e w2 ⟨rfl,B2⟩;have HB3:=Qh (HB.out.trans (B2.mono HB.out.size))
   have c3:w2.cell? ⟨w.heap.size,3,none⟩=some (.int .i64 n):=(qad B2).cell HC3.out (fun h=> h)
   clear B2 HVC HC3;go_wp2_with fail;go_ret;exact ⟨rfl,HB3⟩
  | true=>
   rw [hv]at HVC
   rw [Bool.true_and];by_cases hn:n=0
   ·subst hn
    go_enter Tryz.func120,Tryz.ntmps120
    go_wp2_with fail;refine HVC.out.mono ?_
    rintro e w2 ⟨rfl,B2⟩;have HB3:=Qh (HB.out.trans (B2.mono HB.out.size))
    have c3:w2.cell? ⟨w.heap.size,3,none⟩=some (.int .i64 0):=(qad B2).cell HC3.out (fun h=> h)
    clear B2 HVC HC3;go_wp2_with fail;go_ret;exact ⟨rfl,HB3⟩
   ·have hnb:(n==0)=false:=beq_eq_false_iff_ne.2 hn
    rw [decide_eq_false hn];go_enter Tryz.func120,Tryz.ntmps120
    go_wp2_with fail;refine HVC.out.mono ?_
    rintro e w2 ⟨rfl,B2⟩;have HB3:=Qh (HB.out.trans (B2.mono HB.out.size))
    have c3:w2.cell? ⟨w.heap.size,3,none⟩=some (.int .i64 n):=(qad B2).cell HC3.out (fun h=> h)
    clear B2 HVC HC3;go_wp2_with fail;go_ret;exact ⟨rfl,HB3⟩
 rw [if_neg k4]
 clear HN HV ht
 by_cases k5:k=5
 ·subst k5
  rw [if_pos (by decide)];match t with
  | []=>
   have h1:(sb []).toList=[]:=qab _
   have h2:(sb []).toList.isEmpty=true:=by rw [h1];rfl
   go_enter Tryz.func120,Tryz.ntmps120
   go_wp2_with fail;go_ret;exact ⟨rfl,HB⟩
  | a::r=>
   have h1:¬(sb (a::r)).toList=[]:=by rw [qab];exact List.cons_ne_nil _ _
   have h2:(sb (a::r)).toList.isEmpty=false:=by rw [qab];rfl
   go_enter Tryz.func120,Tryz.ntmps120
   go_wp2_with fail;go_ret;exact ⟨rfl,HB⟩
 by_cases k6:k=6
 ·subst k6
  rw [if_pos (by decide)];match t with
  | []=>
   have h1:(sb []).toList=[]:=qab _
   have h2:(sb []).toList.isEmpty=true:=by rw [h1];rfl
   go_enter Tryz.func120,Tryz.ntmps120
   go_wp2_with fail;go_ret;exact ⟨rfl,HB⟩
  | a::r=>
   have h1:¬(sb (a::r)).toList=[]:=by rw [qab];exact List.cons_ne_nil _ _
   have h2:(sb (a::r)).toList.isEmpty=false:=by rw [qab];rfl
   go_enter Tryz.func120,Tryz.ntmps120
   go_wp2_with fail;go_ret;exact ⟨rfl,HB⟩
 rw [if_neg (by omega)]
 have b0:(k==0)=false:=beq_eq_false_iff_ne.2 k0
 have b1:(k==1)=false:=beq_eq_false_iff_ne.2 k1
 have b2:(k==2)=false:=beq_eq_false_iff_ne.2 k2
 have b3:(k==3)=false:=beq_eq_false_iff_ne.2 k3
 have b4:(k==4)=false:=beq_eq_false_iff_ne.2 k4
 have b5:(k==5)=false:=beq_eq_false_iff_ne.2 k5
 have b6:(k==6)=false:=beq_eq_false_iff_ne.2 k6
 generalize sb t=S at*
 go_enter Tryz.func120,Tryz.ntmps120
 go_wp2_with fail
 go_ret
 exact ⟨rfl,HB⟩
end Go.Proofs.YtgmangikcfakgaaGreatDoor
